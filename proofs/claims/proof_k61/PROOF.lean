import PyProof.Rows.All
import Wide.All
import OpenK.AllK
import Wide.FinOn
import PyProof.EqAt
import PyProof.EqKinds
import PyProof.TupleCall
import PyProof.MinMaxWalk
import PyProof.WalkInts
import PyProof.NeKinds
import PyProof.SliceStr2
import PyProof.StrBlockI
import PyProof.MaxThree
import PyProof.ZipIter
import PyProof.Draws
import PyProof.EnumMake
import PyProof.ListMulRoad
import PyProof.Rows.StrRev
import PyProof.DictItems
import PyProof.ListRange
import PyProof.AutoIntG2
import PyProof.FactsAll.int_6
import KE.KMinKey
import KE.IntBitsLaws
import PySem.Challenge.RW_leasttolls_k61_sets_written
set_option Elab.async false
set_option linter.all false
set_option maxRecDepth 100000
set_option maxHeartbeats 4000000
open PySem.W renaming Frag->ac,tabIn->a9,kia_one->bz,kitOne->bQ,mg_of->bT,keepIn->bV,CodeHd->bW,fnOf->cj,envX->cq,nsIn->cr,findIn->cF,kla_fn->cH,codeIn->dR,methodObj->d0,fnX->d6,cellsFrom_some->eT,instObj->fo,lookIn->fD,tabObj->fM,kitx_tuple->gj,specialIn->gA,kitx_list->gB,kitx_dict->gC,plainGet->gL,codeHdIn->gQ,takesIn->gZ,OpenLaw->hC,TabsAt->ir,noTabs->iu,mroIn->iA
open PySem renaming Shared->ae,wpAny_bind->ak,mem_of_lookup->aB,sizeLine->aD,wpAny_pure->aF,Program->aG,cellsFrom->aI,Around->aR,bootBuiltins->a7,mainGlobals->bo,starEach->bu,wpAny_mono->bw,wpAny_newObj_type->bC,FuncData->bJ,binaryOp->bM,Arguments->bP,NameKind->bR,assignEach->bU,wpAny_passesOwn->b7,wpAny_truthy_bool->b8,wpAny_callSpecial?_slot->cf,pushCells_keeps->cu,compareOp->cz,wpAny_pyIter_list->cC,foldedSetIterable->cD,sysModules->cE,wpAny_call_entry->cK,isTrue->cT,wpAny_Call_Name_kw->cU,tupleKind_room_in1->cW,wpAny_field->cY,sliceBounds->cZ,bindArgs->c6,pushCells->di,wpAny_holding->dj,relabel->dm,backTo->dz,letOwnedTupleGo->dA,swapsWith->dL,newFunctionEnv->dU,wpAny_binaryOp_repeat_ref->dX,sizeLine_eq->d3,InCallC->d4,Paired->ed,IsPart->et,attributeBase->eC,wpAny_comprehension_free->eD,noFill_tuple_add->eJ,builtinsNs->eQ,assign->eS,name_of_addr->eU,getItem->eV,wpAny_typeOf->eW,typeIs_int->e6,call_meets->e8,codeAny_compStart_list->fc,wpAny_execs_nil->fq,wpAny_storeName_local->fv,codeAny_call_function->fw,wpAny_storeName_cell->fC,strIterType->fJ,tupleKind->fN,storeName->fO,codeAny->fP,callerA->fQ,valueAt->fR,wpAny_standAt->fZ,swappedStores->f6,behindInMarks->f7,seq_tuple_add->f8,wpAny_pyIter_tuple->gi,wpAny_assign_Name->gy,codeAny_mono->gD,concat_meets->gE,wpAny_sequenceKey->gF,seqIndex_neg->gG,slot_list_getitem->gH,notedBy->gI,seqSlot_of->gR,seqIndex_of->gS,holding->hG,BindsTo->hJ,Keyword->hU,argBest->hW,wpAny_Name->hX,Result->hZ,typeIs_str->ie,PlainAttrs->ig,wpAny_rule->ik,SumFits->iC,Within->iI,pyIter->iJ,typeOf->iK,call->iZ
open List renaming getElem?_eq_some_iff->af,getElem?_eq_getElem->am,size_toArray->ao,replicate->aq,mem_cons_of_mem->aw,mem_cons_self->az,length_append->aA,getElem?_append_left->aJ,length_map->aK,getElem?_set_ne->aL,mem_cons->aN,lookup_cons->aP,all_eq_true->aQ,getElem?_map->aU,length_cons->aV,mem_append_right->aW,length_singleton->aX,map_cons->aY,getElem?_set_self->a8,getD_eq_getElem?_getD->be,append_nil->bf,append_assoc->bj,mem_map->bq,getElem?_append_right->br,mem_of_getElem?->bv,replicate_succ->bA,range->bB,mem_singleton->bD,mem_append->bE,length_set->bF,mem_map_of_mem->bI,length_take->bK,not_mem_nil->bL,map->bO,filterMap_cons->bS,flatten_cons->b9,mem_range->cc,length_eq_zero_iff->ci,find?_cons->cw,length_nil->cx,map_append->cy,getElem?_toArray->cA,getElem?_eq_none->cB,mem_iff_getElem->cI,length_drop->cJ,map_nil->cL,of_mem_zip->cQ,foldl_cons->cR,nil_append->cS,reverse_cons->c8,take_of_length_le->db,set_set->de,set_getElem_self->dg,all_cons->dq,mem_of_mem_take->dv,take_append_of_le_length->dw,nodup_cons->dB,mem_filterMap->dN,drop_eq_getElem_cons->dZ,any_cons->eG,getElem?_replicate->eI,cons_append->eK,getElem_mem->eO,drop_eq_nil_of_le->fj,map_map->fm,dropLast_eq_take->fA,mem_append_left->fB,forIn_nil->fH,filterMap->fI,drop_zero->fK,mem_of_mem_drop->fL,length_pos_iff->fV,getElem?_range->fX,sum_cons->ga,getElem?_take->gv,any_eq_true->gP,lookup->gT,mem_filter->gY,forIn_cons->g7,foldl->ii,take->iH,length->iV
open Bool renaming and_eq_true->ag,false_eq_true->au,not_false->aM,not_true->aO,false_ne_true->aS,or_eq_true->bh,or_false->dk,or_eq_false_iff->dr,not_eq_true'->d9,eq_iff_iff->fu,true_and->gd,false_or->iB,and_true->iD
open Nat renaming le_refl->ai,le_trans->aj,lt_of_lt_of_le->ax,ne_of_lt->ay,lt_irrefl->bt,lt_succ_self->cg,zero_le->c0,lt_succ_of_lt->c9,le_succ->dt,le_of_lt->dH,le_of_succ_le->d5,lt_trichotomy->d8,add_comm->e9,lt_trans->fe,zero_add->fh,ne_of_gt->gz,le_of_not_lt->gO,mul_add->gX,mul_comm->iL,lt_or_ge->iO,add_zero->iQ,pow_succ->iR
open PySem.Heap renaming get?_push_of_some->ar,lt_size->aC,get?_push_size->aZ,size_push->bN,SameBut->c5,get?_update_other->eZ,get?_update_self->fx,ExtBut->gW
open Option.some renaming inj->av
open Option renaming bind_some->aE,map_some->aH,isSome_map->d7,isSome_iff_exists->ef,map_eq_some_iff->fg,isSome_some->gr,getD_none->gN
open PyProof.Rows renaming slot_tuple_getitem->bn,kindOf->dh,AllBare->dG,callWith_type1->dI,envOfC->dQ,preSum_getD->eF,subscriptTail_builtinR->eX,entry_tuple_getitem->fS,tupleItemsOf_->f9,args_tuple_getitem->gk,IntsAre->hV,Subscript_->ib,tail_any->ic,StrTab->iP
open PySem.Builtin.Str renaming strSliceIndices->bp,tooLong->iy
open PySem.Builtin.SmallTypes renaming nextOf->bG
open False renaming elim->bH
open PySem.F renaming slot_tuple_iterator_next->bX,args_tuple_add_2->cN,slot_int_rmul->cV,entry_tuple_add->cX,slot_tuple_add->c7,slot_tuple_mul->da,args_tuple_iterator_next_1->dD,entry_tuple_iterator_next->dJ,slot_dict_getitem->dY,slot_tuple_rmul->eM,plainAttrs_list->eP,slot_list_append->fy,args_int_rmul_2->fG,slot_int_index->fT,entry_int_rmul->fU,slot_list_pop->gm,fills_int_mul->gq
open PySem.Builtin.Slice renaming slicePlaces->bZ,sliceAdjust->cM,sliceApplied->dS,slicePartIndex->g6,sliceFields->iw
open PySem.Builtin.Tuple renaming tupleExact->cb,tupleItemsOf->cG,tupleTooMany->dW,tupleIsExact->ip
open PySem.Str renaming ofString->cn
open PySem.Builtin.List renaming listTooLong->cO
open Ne renaming symm->cP
open Int renaming mul_le_mul_of_nonneg_left->du,toNat_of_nonneg->dF,fdiv_eq_ediv_of_nonneg->dP,ofNat_lt->gJ,toNat_natCast->gK,le_refl->gU,natCast_mul->g8
open PySem.Txt renaming slice->dC
open Array renaming length_toList->dE,toList->eR,getElem?_toList->fz,append_assoc->gh
open PySem.Calls renaming Name_function_global->dM,callWith_builtin->e7
open Classical renaming propDecidable->eN
open PySem.Obj renaming mapSeq->eY,data_mapFields->gu
open PySem.SeqAt renaming EqAt->fi,RcNeAt->iM,RcAt->i5
open PySem.SeqAt.EqAt renaming same->ft,int_str->gf,str_int->gg,of_refs->gx
open PySem.Around renaming frames_deeper->fF
open PySem.Heap.SameBut renaming update->fW
open PySem.Paired renaming length->fY,snoc->iX
open PyProof.Rows.IsTup renaming new->gM
open PySem.PassesOwn renaming never->g9
open PySem.Walks renaming list->io
open PySem.Builtin renaming bitAnd->iq
open PySem.Value renaming isStrOf->iz,isInt->iU
open PySem.Builtin.Range renaming rangeSize->iE
open PySem.StrLaws renaming found_one->iG
open PySem.W.Looks renaming andThen->iT,now->i6,ld->i7
open PySem.Heap.Ns renaming new->iW
open PySem.Heap.IsSliceOf renaming new->iY
open PySem.Str.mk renaming inj->i4
noncomputable section
namespace L2
open PySem PySem.Spec PyProof.Rows
noncomputable abbrev Key:=Sum Int Str
noncomputable def aM5:Key->Value->Bool
 | .inl k,v=>iU k v
 | .inr x,v=>iz x v
noncomputable def bW7 (w:World):Key->Int
 | .inl k=>hashInt k
 | .inr x=>hashStr w x
theorem zp:∀ {k:Key} {v:Value},aM5 k v=true->(∃ i t,k=Sum.inl i/\v=Value.int i t)\/(∃ x t,k=Sum.inr x/\v=Value.str x t)
 | .inl i,v,h=>by
  obtain⟨t,e⟩:=Value.isInt_shape (k:=i) (v:=v) h
  exact .inl ⟨i,t,rfl,e⟩
 | .inr x,v,h=>by
  obtain⟨t,e⟩:=Value.isStrOf_shape (x:=x) (v:=v) h
  exact .inr ⟨x,t,rfl,e⟩
theorem aS7 (i:Int)(t:Tok):aM5 (.inl i) (.int i t)=true:=by simp[aM5,iU]
theorem aW4 (x:Str)(t:Tok):aM5 (.inr x) (.str x t)=true:=by simp[aM5,iz]
theorem bI3 (a b:Int):decide ((Sum.inl a:Key)=Sum.inl b)=(a==b):=by
 by_cases e:a=b
 ·subst e;simp
 ·have h:¬(Sum.inl a:Key)=Sum.inl b:=fun q=>e (Sum.inl.inj q)
  rw[decide_eq_false h]
  exact(beq_eq_false_iff_ne.mpr e).symm
theorem bz9 (a b:Str):decide ((Sum.inr a:Key)=Sum.inr b)=decide (a=b):=by
 by_cases e:a=b
 ·subst e;simp
 ·have h:¬(Sum.inr a:Key)=Sum.inr b:=fun q=>e (Sum.inr.inj q)
  rw[decide_eq_false h,decide_eq_false e]
theorem bF8 (a:Int)(b:Str):decide ((Sum.inl a:Key)=Sum.inr b)=false:=decide_eq_false (fun q=>nomatch q)
theorem bG8 (a:Str)(b:Int):decide ((Sum.inr a:Key)=Sum.inl b)=false:=decide_eq_false (fun q=>nomatch q)
noncomputable def zx (prog:aG)(w:World):PySem.KeyKind prog w Key where
 is:=aM5
 hash:=bW7 w
 inj:=fun v a b ha hb=>by
  rcases zp ha with⟨i,t,rfl,rfl⟩|⟨x,t,rfl,rfl⟩
  ·rcases zp hb with⟨j,u,rfl,e⟩|⟨y,u,rfl,e⟩
   ·injection e with e1 _;rw[e1]
   ·exact nomatch e
  ·rcases zp hb with⟨j,u,rfl,e⟩|⟨y,u,rfl,e⟩
   ·exact nomatch e
   ·injection e with e1 _;rw[e1]
 byValue:=fun k v h=>by
  rcases zp h with⟨i,t,rfl,rfl⟩|⟨x,t,rfl,rfl⟩<;>rfl
 pyHash:=fun hv h=>by
  rcases zp hv with⟨i,t,rfl,rfl⟩|⟨x,t,rfl,rfl⟩
  ·exact wpAny_pyHash_int h
  ·exact wpAny_pyHash_str h
 eqBool:=fun hu hv h=>by
  rcases zp hu with⟨i,t,rfl,rfl⟩|⟨x,t,rfl,rfl⟩
  ·rcases zp hv with⟨j,u,rfl,rfl⟩|⟨y,u,rfl,rfl⟩
   ·rw[bI3]at h;exact wpAny_eqBool_int h
   ·rw[bF8]at h;exact gf i t y u _ _ _ _ h
  ·rcases zp hv with⟨j,u,rfl,rfl⟩|⟨y,u,rfl,rfl⟩
   ·rw[bG8]at h;exact gg x t j u _ _ _ _ h
   ·rw[bz9]at h;exact wpAny_eqBool_str h
 «strs»:=fun k x t v h=>by
  rcases zp h with⟨i,u,rfl,e⟩|⟨y,u,rfl,e⟩
  ·exact nomatch e
  ·injection e with e1 _
   subst e1
   cases v<;>rfl
theorem aD8 (prog:aG)(w:World)(i:Int)(t:Tok):(zx prog w).is (.inl i) (.int i t)=true:=aS7 i t
theorem aC0 (prog:aG)(w:World)(x:Str)(t:Tok):(zx prog w).is (.inr x) (.str x t)=true:=aW4 x t
inductive V where
 | non|bl (b:Bool)|int (i:Int)|str (x:Str)|byt (b:Array UInt8)|flt (b:UInt64)|ref (a:Addr)|ty (n:String)
 deriving DecidableEq
noncomputable def RelV:V->Value->Prop
 | .non,u=>u=Value.none
 | .bl b,u=>u=Value.bool b
 | .int i,u=>∃ t,u=Value.int i t
 | .str x,u=>∃ t,u=Value.str x t
 | .byt b,u=>∃ t,u=Value.bytes b t
 | .flt b,u=>∃ t,u=Value.float b t
 | .ref a,u=>u=Value.ref a
 | .ty n,u=>u=Value.type n
abbrev Vals:List V->List Value->Prop:=ed RelV
theorem Vals.length {h:List V}{us:List Value}(r:Vals h us):h.length=us.length:=fY r
theorem Vals.get:∀ {h:List V} {us:List Value} {i:Nat} {x:V},Vals h us->h[i]?=some x->∃ u,us[i]?=some u/\RelV x u
 | _,_,_,_,.nil,e=>by simp at e
 | _,_,0,_,.cons r _,e=>by simp at e;subst e;exact⟨_,rfl,r⟩
 | _,_,i+1,x,.cons _ t,e=>by
  obtain⟨u,z,F⟩:=Vals.get (i:=i) (x:=x) t (by simpa using e)
  exact⟨u,by simpa using z,F⟩
theorem Vals.set {x:V}{u:Value}(r:RelV x u):∀ {h:List V} {us:List Value} (i:Nat),Vals h us->Vals (h.set i x) (us.set i u)
 | _,_,_,.nil=>.nil
 | _,_,0,.cons _ t=>.cons r t
 | _,_,i+1,.cons q t=>.cons q (Vals.set r i t)
theorem Vals.append:∀ {h ys:List V} {us ws:List Value},Vals h us->Vals ys ws->Vals (h++ys) (us++ws)
 | _,_,_,_,.nil,s=>s
 | _,_,_,_,.cons r t,s=>.cons r (Vals.append t s)
theorem Vals.take:∀ {h:List V} {us:List Value} (n:Nat),Vals h us->Vals (h.take n) (us.take n)
 | _,_,0,_=>.nil
 | _,_,_+1,.nil=>.nil
 | _,_,n+1,.cons r t=>.cons r (Vals.take n t)
theorem Vals.drop:∀ {h:List V} {us:List Value} (n:Nat),Vals h us->Vals (h.drop n) (us.drop n)
 | _,_,0,r=>r
 | _,_,_+1,.nil=>.nil
 | _,_,n+1,.cons _ t=>Vals.drop n t
noncomputable def aJ3:Option V->Option Value->Prop
 | some v,some u=>RelV v u
 | none,none=>True
 | _,_=>False
def KV {κ:Type}:List (κ×V)->List (κ×Value)->Prop:=ed fun(p:κ×V) (q:κ×Value)=>p.1=q.1/\RelV p.2 q.2
noncomputable def kV:Key->V
 | .inl i=>.int i
 | .inr x=>.str x
inductive HO where
 | lst (xs:List V)
 | tup (xs:List V)
 | dK (kvs:List (Key×V))|dT (kvs:List (List Key×V))
 | set (S:Int->Bool) (n:Nat)
 | ins (C dx:Addr) (fs:List (Str×V))
 | own (x:Addr)
 | xd (fs:List (Str×V))
 | met (f x:Addr)
 | rng (lo hi:Int)
 | frz (o:Obj) (u:HO)
 | tbl (ps:Array Value)
 | ext (φ:Heap->Prop)
noncomputable abbrev Hp:=Addr->Option HO
noncomputable def upd (H:Hp)(a:Addr)(o:HO):Hp:=fun b=>if b=a then some o else H b
theorem zt {H:Hp}{a:Addr}{o:HO}:upd H a o a=some o:=by unfold upd;rw[if_pos rfl]
theorem zl {H:Hp}{a b:Addr}{o:HO}(h:b≠a):upd H a o b=H b:=by unfold upd;rw[if_neg h]
theorem bS6 {H:Hp}{a b:Addr}{o u:HO}(h:H a=some o)(h':H b=some u)(d:o≠u):a≠b:=by
 intro e;subst e;rw[h]at h';exact d (av h')
theorem zr {H:Hp}{a b:Addr}{o:HO}(h:H a=some o)(h':H b=none):a≠b:=by
 intro e;subst e;rw[h]at h';cases h'
section
variable (P:aG) (w:World)
noncomputable def ah8 (H:Hp)(h:Heap)(a:Addr):HO->Prop
 | .lst xs=>xs.length<=aD/\∃(its:List Value) (n:Nat),Vals xs its/\h.get? a=some { cls:=.type "list",data:=.seq its.toArray n }
 | .tup xs=>xs.length<=aD/\∃ its:List Value,Vals xs its/\IsTup h a its.toArray
 | .dK kvs=>kvs.length<=aD/\(a==cE)=false/\∃ vs,KV kvs vs/\h.DictOf (zx P w) a vs
 | .dT kvs=>kvs.length<=aD/\(a==cE)=false/\∃ xs:List (List Key×Addr×Value),
   ed (fun(p:List Key×V) (q:List Key×Addr×Value)=>p.1=q.1/\H q.2.1=some (.tup (p.1.map kV))/\RelV p.2 q.2.2) kvs xs /\
   ∃ o es ep,h.get? a=some o/\o.ExactDict/\o.data=.dict es ep/\es.toList=xs.map (entryOfKey (fN (zx P w)))/\(xs.map (·.1)).Nodup
 | .set S n=>h.SetOf (intKind P w) a S n
 | .ins C dx fs=>H dx=some (.own a)/\fs.length<=1000/\dx≠a/\h.get? a=some (fo C dx) /\
   ∃ mA,h.Ns1 dx mA/\(∀ f,aJ3 (fs.lookup f) (mA f))/\iI mA (fs.map (·.1))
 | .own _=>∃ o,h.get? a=some o
 | .xd fs=>∃ mA,h.Ns1 a mA/\∀ f,aJ3 (fs.lookup f) (mA f)
 | .rng lo hi=>∃ t u v,h.get? a=some { cls:=.type "range",data:=.fields #[.int lo t,.int hi u,.int 1 v] }
 | .frz o u=>h.get? a=some o/\ah8 H h a u
 | .tbl ps=>h.get? a=some { cls:=.none,data:=.fields ps }
 | .met f x=>h.get? a=some (d0 (.ref f) (.ref x))
 | .ext φ=>φ h/\(∃ o,h.get? a=some o)/\∀ h1 h2:Heap,φ h1->(∀ o,h1.get? a=some o->h2.get? a=some o)->φ h2
def HOk (H:Hp)(h:Heap):Prop:=∀ a o,H a=some o->ah8 P w H h a o
end
section
variable {P:aG} {w:World} {H H':Hp} {h h':Heap} {a:Addr} {o:HO}
theorem ah8.lt (x:ah8 P w H h a o):a<h.objs.size:=by
 cases o with
 | lst xs=>obtain⟨_,_,_,_,e⟩:=x;exact aC e
 | tup xs=>obtain⟨_,_,_,p⟩:=x;exact p.lt
 | dK kvs=>obtain⟨_,_,_,_,o,_,_,e,_⟩:=x;exact aC e
 | dT kvs=>obtain⟨_,_,_,_,o,_,_,e,_⟩:=x;exact aC e
 | set S n=>obtain⟨o,_,_,_,e,_⟩:=x;exact aC e
 | ins C dx fs=>obtain⟨_,_,_,e,_⟩:=x;exact aC e
 | own y=>obtain⟨_,e⟩:=x;exact aC e
 | xd fs=>obtain⟨_,⟨_,_,_,e,_⟩,_⟩:=x;exact aC e
 | rng lo hi=>obtain⟨_,_,_,e⟩:=x;exact aC e
 | frz ob u=>obtain⟨e,_⟩:=x;exact aC e
 | tbl ps=>exact aC (show h.get? a=some _ from x)
 | met f y=>exact aC (show h.get? a=some _ from x)
 | ext φ=>obtain⟨_,⟨_,e⟩,_⟩:=x;exact aC e
theorem ed.mapP {α β:Type}{F G:α->β->Prop}:∀ {h:List α} {z:List β},ed F h z->(∀ a b,F a b->G a b)->ed G h z
 | _,_,.nil,_=>.nil
 | _,_,.cons r t,f=>.cons (f _ _ r) (ed.mapP t f)
theorem ah8.stay (x:ah8 P w H h a o)(k:∀ b u,(b=a\/H b=some (.own a))->h.get? b=some u->h'.get? b=some u)
  (ho:∀ b,H b=some (.own a)->H' b=some (.own a)) (N:∀ b G,H b=some (.tup G)->H' b=some (.tup G)):ah8 P w H' h' a o:=by
 induction o with
 | lst G=>obtain⟨z,its,n,r,e⟩:=x;exact⟨z,its,n,r,k _ _ (.inl rfl) e⟩
 | tup G=>obtain⟨z,its,r,ob,e,c⟩:=x;exact⟨z,its,r,ob,k _ _ (.inl rfl) e,c⟩
 | dK kvs=>obtain⟨z,y,vs,r,ob,es,F,e,c⟩:=x;exact⟨z,y,vs,r,ob,es,F,k _ _ (.inl rfl) e,c⟩
 | dT kvs =>
  obtain⟨z,y,G,r,ob,es,F,e,c⟩:=x
  exact⟨z,y,G,ed.mapP r fun p q z=>⟨z.1,N _ _ z.2.1,z.2.2⟩,ob,es,F,k _ _ (.inl rfl) e,c⟩
 | set S n=>obtain⟨ob,es,F,t,e,c⟩:=x;exact⟨ob,es,F,t,k _ _ (.inl rfl) e,c⟩
 | ins C dx fs =>
  obtain⟨d,z,ne,e,J,⟨od,es,F,e2,c⟩,r⟩:=x
  exact⟨ho _ d,z,ne,k _ _ (.inl rfl) e,J,⟨od,es,F,k _ _ (.inr d) e2,c⟩,r⟩
 | own y=>obtain⟨ob,e⟩:=x;exact⟨ob,k _ _ (.inl rfl) e⟩
 | xd fs=>obtain⟨J,⟨od,es,F,e,c⟩,r⟩:=x;exact⟨J,⟨od,es,F,k _ _ (.inl rfl) e,c⟩,r⟩
 | rng lo hi=>obtain⟨t,u,v,e⟩:=x;exact⟨t,u,v,k _ _ (.inl rfl) e⟩
 | frz ob u ih=>obtain⟨e,q⟩:=x;exact⟨k _ _ (.inl rfl) e,ih q⟩
 | tbl ps =>
  have e:h.get? a=some { cls:=.none,data:=.fields ps }:=x
  show h'.get? a=some { cls:=.none,data:=.fields ps }
  exact k a _ (.inl rfl) e
 | met f y =>
  have e:h.get? a=some (d0 (.ref f) (.ref y)):=x
  show h'.get? a=some (d0 (.ref f) (.ref y))
  exact k a _ (.inl rfl) e
 | ext φ=>obtain⟨p,⟨o,e⟩,st⟩:=x;exact⟨st _ _ p fun o q=>k _ _ (.inl rfl) q,⟨o,k _ _ (.inl rfl) e⟩,st⟩
theorem HOk.lt (x:HOk P w H h)(e:H a=some o):a<h.objs.size:=(x a o e).lt
theorem HOk.fresh (x:HOk P w H h)(e:h.objs.size<=a):H a=none:=by
 cases q:H a with
 | none=>rfl
 | some u=>exact absurd (ax (x.lt q) e) (bt _)
theorem HOk.kept (x:HOk P w H h)(k:∀ b u,h.get? b=some u->h'.get? b=some u):HOk P w H h':=fun a o e =>
 (x a o e).stay (fun b u _ q=>k b u q) (fun _ q=>q) fun _ _ q=>q
theorem HOk.laid (x:HOk P w H h)(k:∀ b u,h.get? b=some u->h'.get? b=some u)(z:h.objs.size<=a)(new:ah8 P w (upd H a o) h' a o):HOk P w (upd H a o) h':=fun b u e=>by
 have hn:=x.fresh z
 by_cases hb:b=a
 ·subst hb;rw[zt]at e;cases e;exact new
 ·rw[zl hb]at e
  exact(x b u e).stay (fun c v _ q=>k c v q) (fun c q=>by rw[zl (zr q hn)];exact q) fun c F q=>by rw[zl (zr q hn)];exact q
end
def Rd (H:Hp)(a:Addr)(u:HO):Prop:=H a=some u\/∃ o,H a=some (.frz o u)
theorem Rd.ok {P:aG}{w:World}{H:Hp}{h:Heap}{a:Addr}{u:HO}(r:Rd H a u)(x:HOk P w H h):ah8 P w H h a u:=by
 rcases r with r|⟨o,r⟩
 ·exact x a u r
 ·obtain⟨_,q⟩:=x a _ r
  exact q
noncomputable def Mut:Option HO->Prop
 | some (.lst _)=>True
 | some (.dK _)=>True
 | some (.dT _)=>True
 | some (.set _ _)=>True
 | some (.ins _ _ _)=>True
 | some (.ext _)=>True
 | _=>False
section
variable {P:aG} {w:World} {H:Hp} {h h':Heap} {x e:Addr} {o':HO}
theorem HOk.write (ok:HOk P w H h)(mu:Mut (H x))(he:e=x\/H e=some (.own x))(k:∀ b u,b≠e->h.get? b=some u->h'.get? b=some u)(heo:∃ u,h'.get? e=some u)
  (new:ah8 P w (upd H x o') h' x o'):HOk P w (upd H x o') h':=fun b u q=>by
 have F:∀ c y,H c=some (.own y)->c≠x:=fun c y r z=>by subst z;rw[r]at mu;exact mu
 have G:∀ c J,H c=some (.tup J)->c≠x:=fun c J r z=>by subst z;rw[r]at mu;exact mu
 by_cases hb:b=x
 ·subst hb;rw[zt]at q;cases q;exact new
 ·rw[zl hb]at q
  by_cases hbe:b=e
  ·have N:H b=some (.own x):=by
    rcases he with z|z
    ·exact absurd (hbe.trans z) hb
    ·rw[hbe];exact z
   rw[q]at N;cases N
   obtain⟨v,hv⟩:=heo
   exact⟨v,by rw[hbe];exact hv⟩
  ·refine(ok b u q).stay (fun c v hc r=>k c v ?_ r) (fun c r=>by rw[zl (F c b r)];exact r) fun c J r=>by rw[zl (G c J r)];exact r
   rcases hc with rfl|hc
   ·exact hbe
   ·rintro rfl
    rcases he with z|z
    ·exact F c b hc z
    ·rw[hc]at z;cases z;exact hb rfl
end
structure Un (fs ex:List Addr)(H H':Hp)(h h':Heap):Prop where
 keep:∀ b o,h.get? b=some o->H b=none->b ∉ fs->b ∉ ex->h'.get? b=some o
 slot:∀ b o,h.get? b=some o->H b=none->b∈fs->b ∉ ex->∃ sl,h'.get? b=some { o with slots:=sl }
 free:∀ b o,h.get? b=some o->H b=none->b ∉ ex->H' b=none
 there:∀ b o,h.get? b=some o->b ∉ ex->∃ o',h'.get? b=some o'
 tups:∀ b xs,H b=some (.tup xs)->H' b=some (.tup xs)
 frzs:∀ b o u,H b=some (.frz o u)->H' b=some (.frz o u)
 tbls:∀ b ps,H b=some (.tbl ps)->∃ more,H' b=some (.tbl (ps++more))
section
variable {fs fs' ex ex':List Addr} {H H1 H2:Hp} {h h1 h2 h':Heap} {a x e:Addr} {o:HO}
theorem Un.any (u:Un fs ex H H1 h h1){b:Addr}{ob:Obj}(q:h.get? b=some ob)(n:H b=none)(hx:b ∉ ex):∃ sl,h1.get? b=some { ob with slots:=sl }:=by
 by_cases hb:b∈fs
 ·exact u.slot b ob q n hb hx
 ·exact⟨ob.slots,u.keep b ob q n hb hx⟩
theorem Un.kept (k:∀ b u,h.get? b=some u->h'.get? b=some u):Un fs ex H H h h' :=
 ⟨fun b ob q _ _ _=>k b ob q,fun b ob q _ _ _=>⟨ob.slots,k b ob q⟩,fun _ _ _ n _=>n,fun b ob q _=>⟨ob,k b ob q⟩,fun _ _ q=>q,fun _ _ _ q=>q,fun _ ps q=>⟨#[],by rw[q];simp⟩⟩
theorem Un.refl:Un fs ex H H h h:=Un.kept fun _ _ q=>q
theorem Un.laid (k:∀ b u,h.get? b=some u->h'.get? b=some u)(z:h.objs.size<=a)(hn:H a=none):Un fs ex H (upd H a o) h h' where
 keep:=fun b u q _ _ _=>k b u q
 slot:=fun b u q _ _ _=>⟨u.slots,k b u q⟩
 free:=fun b u q n _=>by rw[zl (ay (ax (aC q) z))];exact n
 there:=fun b u q _=>⟨u,k b u q⟩
 tups:=fun b F q=>by rw[zl (zr q hn)];exact q
 frzs:=fun b u F q=>by rw[zl (zr q hn)];exact q
 tbls:=fun b ps q=>⟨#[],by rw[zl (zr q hn),q];simp⟩
theorem Un.write (mu:Mut (H x))(he:e=x\/H e=some (.own x))(k:∀ b u,b≠e->h.get? b=some u->h'.get? b=some u)(heo:∃ u,h'.get? e=some u):Un fs ex H (upd H x o) h h':=by
 have hx:∀ b,H b=none->b≠x:=fun b n z=>by subst z;rw[n]at mu;exact mu
 have hb:∀ b,H b=none->b≠e:=fun b n z=>by
  subst z
  rcases he with r|r
  ·exact hx b n r
  ·rw[n]at r;cases r
 have F:∀ b u,H b=some u->¬ Mut (some u)->b≠x:=fun b u q G z=>by subst z;rw[q]at mu;exact G mu
 refine⟨fun b u q n _ _=>k b u (hb b n) q,fun b u q n _ _=>⟨u.slots,k b u (hb b n) q⟩,fun b u q n _=>by rw[zl (hx b n)];exact n,fun b u q _=>?_,
  fun b J q=>by rw[zl (F b _ q fun z=>z)];exact q,fun b u J q=>by rw[zl (F b _ q fun z=>z)];exact q,fun b ps q=>⟨#[],by rw[zl (F b _ q fun z=>z),q];simp⟩⟩
 by_cases hbe:b=e
 ·subst hbe;exact heo
 ·exact⟨u,k b u hbe q⟩
end
noncomputable def trk (h:Heap)(H:Hp):List Addr:=(bB h.objs.size).filter fun a=>(H a).isSome
noncomputable def aW8 (h:Heap)(H:Hp):Heap:=PySem.W.hideAll h (trk h H)
theorem aS5 (h:Heap)(H:Hp):(aW8 h H).objs.size=h.objs.size:=PySem.W.hideAll_size _ _
theorem an4 {h:Heap}{H:Hp}{b:Addr}{o:Obj}(e:h.get? b=some o)(n:H b=none):(aW8 h H).get? b=some o :=
 PySem.W.hideAll_get _ e fun z=>by
  have q:(H b).isSome=true:=(gY.mp z).2
  rw[n]at q;simp at q
theorem bs3 {h:Heap}{H:Hp}{b:Addr}{o:Obj}(e:(aW8 h H).get? b=some o):h.get? b=some o/\H b=none:=by
 have e':h.get? b=some o:=PySem.W.of_hideAll (trk h H) e
 refine⟨e',?_⟩
 cases q:H b with
 | none=>rfl
 | some x =>
  have F:b∈trk h H:=gY.mpr ⟨cc.mpr (aC e'),by simp[q]⟩
  have z:(aW8 h H).get? b=none:=PySem.W.hideAll_none (trk h H) F
  rw[z]at e;cases e
noncomputable def bk7 (g h:Heap)(L:Addr):List (Addr×Obj):=(bB h.objs.size).filterMap fun a=>if a=L\/(g.get? a).isSome=true then none else(h.get? a).map fun o=>(a,o)
noncomputable def rest (g h:Heap)(L d:Addr):List (Addr×Obj):=(bk7 g h L).filter fun p=>decide (p.1≠d)
structure Mod (K:ac)(mg:Str->Option Value)(base:Heap):Prop where
 kin:K.In base
 glob:base.Ns bo mg
 blt:∃ mb,base.Ns eQ mb/\∀ x:Str,x ≠ "__name__"->mb x=a7 x
 nolimit:base.NoLimit
structure Cx where
 prog:aG
 w:World
 K:ac
 mg:Str->Option Value
 base:Heap
 A:aR
 N:List Str
 s₀:ae
 H₀:Hp
 env:Env
 outer:List Env
 stack:List Env
 ex:List Addr
 fn:Str->Bool
 calm:Bool
 pn:List (Addr×Obj)
 xe:Value->ae->Prop
noncomputable def frs (l:List Env):List Addr:=l.filterMap (·.frame)
noncomputable abbrev Cx.fs (X:Cx):List Addr:=frs X.outer
def Vis (sc:Scope)(x:Str):Prop:=sc.names.lookup x=some .local\/sc.names.lookup x=some .cell\/sc.names.lookup x=some .free
def Loc (sc:Scope)(x:Str):Prop:=sc.names.lookup x=some .local\/sc.names.lookup x=some .cell
def Look (env:Env)(h:Heap)(m:Str->Option Value)(x:Str)(u:Value):Prop :=
 (env.kindOf x=some .local/\m x=some u)\/((env.kindOf x=some .cell\/env.kindOf x=some .free)/\∃ c,env.cells.lookup x=some c/\h.IsCell c (some u))
structure Cx.Ok (X:Cx):Prop where
 mod:Mod X.K X.mg X.base
 kind:X.env.scope.kind=.function
 glob:X.env.globals=bo
 blt:X.env.builtins=eQ
 above:X.s₀.heap.objs.size<=X.env.locals
 inj:∀ x y c,X.env.cells.lookup x=some c->X.env.cells.lookup y=some c->x=y
 has:∀ x,(X.env.kindOf x=some .cell\/X.env.kindOf x=some .free)->∃ c,X.env.cells.lookup x=some c
 cab:∀ x c,X.fn x=true->X.env.cells.lookup x=some c->X.s₀.heap.objs.size<=c
 hd:X.calm=true->X.A.handled=none
 frames:X.A.frames=some X.stack
 stk:X.stack=X.outer\/(X.stack=X.env::X.outer/\X.env.frame=some X.env.locals)
 exf:∀ b∈X.ex,b≠X.env.locals/\∀ x c,X.env.cells.lookup x=some c->c≠b
 bs:∀ b o,X.base.get? b=some o->X.s₀.heap.get? b=some o/\X.H₀ b=none
 bsz:X.base.objs.size<=X.s₀.heap.objs.size
 noex:∀ b o,X.base.get? b=some o->b ∉ X.ex
 exfs:∀ b∈X.ex,b ∉ X.fs
 funs:X.s₀.heap.FunFrames X.base X.outer
 frf:∀ b∈X.fs,X.H₀ b=none
structure Inv (X:Cx)(pins:List (Addr×Obj))(σ:List (Option V))(H:Hp)(s:ae):Prop where
 ok:X.Ok
 os:s.os=X.s₀.os
 bare:dG s.gens
 base:Un X.fs X.ex X.H₀ H X.s₀.heap s.heap
 loc:∃ m,s.heap.Ns X.env.locals m/\∀(i:Nat) (x:Str) (v:V),X.N[i]?=some x->σ[i]?=some (some v)->Vis X.env.scope x->∃ u,RelV v u/\Look X.env s.heap m x u
 cell:∀ x c,X.env.cells.lookup x=some c->∃ v,s.heap.IsCell c v
 free:H X.env.locals=none
 freeC:∀ x c,X.env.cells.lookup x=some c->H c=none
 pin:∀ p∈X.pn++pins,s.heap.get? p.1=some p.2/\H p.1=none/\p.1≠X.env.locals/\p.1 ∉ X.fs/\∀ v,p.2.data≠.cell v
 hok:HOk X.prog X.w H s.heap
 len:σ.length=X.N.length
section
variable {X:Cx} {pins:List (Addr×Obj)} {σ:List (Option V)} {H H':Hp} {s:ae} {h':Heap}
theorem Cx.Ok.nofr (ok:X.Ok){b:Addr}{o:Obj}(e:X.base.get? b=some o):b ∉ X.fs:=fun hb=>by
 have:=(ok.funs.mem hb).1
 rw[e]at this;cases this
theorem Inv.bs (I:Inv X pins σ H s):∀ b o,X.base.get? b=some o->s.heap.get? b=some o/\H b=none:=fun b o e =>
 ⟨I.base.keep b o (I.ok.bs b o e).1 (I.ok.bs b o e).2 (I.ok.nofr e) (I.ok.noex b o e),I.base.free b o (I.ok.bs b o e).1 (I.ok.bs b o e).2 (I.ok.noex b o e)⟩
theorem Inv.bk (I:Inv X pins σ H s):∀ b o,X.base.get? b=some o->s.heap.get? b=some o:=fun b o e=>(I.bs b o e).1
theorem Inv.mod (I:Inv X pins σ H s):Mod X.K X.mg X.base:=I.ok.mod
theorem Inv.kIn (I:Inv X pins σ H s):X.K.In s.heap:=I.ok.mod.kin.keeps I.bk
theorem Inv.nolimit (I:Inv X pins σ H s):s.heap.NoLimit:=I.ok.mod.nolimit.keeps I.bk
theorem Inv.lt (I:Inv X pins σ H s):X.env.locals<s.heap.objs.size:=let⟨_,hn,_⟩:=I.loc;hn.lt
theorem Inv.sz (I:Inv X pins σ H s):X.s₀.heap.objs.size<=s.heap.objs.size:=aj I.ok.above (dH I.lt)
theorem Inv.nofs (I:Inv X pins σ H s){a:Addr}(h:s.heap.objs.size<=a):a ∉ X.fs:=fun hb=>by
 obtain⟨_,o,ho,_⟩:=I.ok.funs.mem hb
 exact absurd (ax (aC ho) (aj I.sz h)) (bt _)
theorem Inv.cne (I:Inv X pins σ H s):∀ x c,X.env.cells.lookup x=some c->c≠X.env.locals:=fun x c e z=>by
 obtain⟨v,o,ho,hd⟩:=I.cell x c e
 obtain⟨m,⟨G,es,J,h,F,_⟩,_⟩:=I.loc
 rw[z,h]at ho;cases ho;rw[F]at hd;cases hd
theorem Inv.funs (I:Inv X pins σ H s):s.heap.FunFrames X.base X.outer:=by
 have all:∀(l:List Env),(∀ b∈frs l,b∈X.fs)->X.s₀.heap.FunFrames X.base l->s.heap.FunFrames X.base l:=by
  intro l
  induction l with
  | nil=>intro _ _;trivial
  | cons env r ih =>
   intro hs hl
   obtain⟨hk,⟨L,o,h,hn,ho,hd⟩,G⟩:=hl
   have F:L∈X.fs:=hs L (by unfold frs;rw[bS,h];exact az)
   obtain⟨sl,e⟩:=I.base.slot L o ho (I.ok.frf L F) F fun z=>I.ok.exfs L z F
   exact⟨hk,⟨L,_,h,hn,e,hd⟩,ih (fun b hb=>hs b (by unfold frs;rw[bS,h];exact aw _ hb)) G⟩
 exact all X.outer (fun _ hb=>hb) I.ok.funs
theorem Inv.stack (I:Inv X pins σ H s):s.heap.FunFrames X.base X.stack:=by
 rcases I.ok.stk with e|⟨e,h⟩
 ·rw[e];exact I.funs
 ·rw[e]
  obtain⟨m,hn,_⟩:=I.loc
  refine .cons (by rw[I.ok.kind];decide) h hn ?_ I.funs
  exact Heap.get?_none_of_le (aj I.ok.bsz I.ok.above)
theorem Inv.stkSub (I:Inv X pins σ H s):∀ b∈frs X.stack,b∈X.env.locals::X.fs:=fun b hb=>by
 rcases I.ok.stk with e|⟨e,h⟩
 ·rw[e]at hb;exact aw _ hb
 ·rw[e]at hb
  unfold frs at hb
  rw[bS,h]at hb
  exact hb
theorem Inv.stkFree (I:Inv X pins σ H s):∀ b∈frs X.stack,H b=none:=fun b hb=>by
 rcases aN.mp (I.stkSub b hb)with e|hb
 ·rw[e];exact I.free
 ·obtain⟨_,o,ho,_⟩:=I.ok.funs.mem hb
  exact I.base.free b o ho (I.ok.frf b hb) fun z=>I.ok.exfs b z hb
theorem Inv.step {g':Array GenState}{t':Nat}{d':Drawn}{ch:List Addr}(I:Inv X pins σ H s)
  (F:∀ b∈ch,(b∈X.ex\/X.s₀.heap.objs.size<=b)/\b≠X.env.locals/\(∀ x c,X.env.cells.lookup x=some c->c≠b)/\∀ p∈X.pn++pins,p.1≠b)
  (keep:∀ b o,b≠X.env.locals->b ∉ X.fs->b ∉ ch->s.heap.get? b=some o->H b=none->h'.get? b=some o)
  (slot:∀ b o,b≠X.env.locals->b∈X.fs->b ∉ ch->s.heap.get? b=some o->H b=none->∃ sl,h'.get? b=some { o with slots:=sl }) (free:∀ b o,b ∉ ch->s.heap.get? b=some o->H b=none->H' b=none)
  (there:∀ b o,b ∉ ch->s.heap.get? b=some o->∃ o',h'.get? b=some o')
  (tups:∀ b N,H b=some (.tup N)->H' b=some (.tup N)) (frzs:∀ b o u,H b=some (.frz o u)->H' b=some (.frz o u)) (tbls:∀ b ps,H b=some (.tbl ps)->∃ Y,H' b=some (.tbl (ps++Y)))
  (ns:∀ m,s.heap.Ns X.env.locals m->h'.Ns X.env.locals m) (hok:HOk X.prog X.w H' h') (hg:dG g') :
  Inv X pins σ H' { s with heap:=h',gens:=g',drawn:=d',toks:=t' }:=by
 have Z:∀ b o,X.s₀.heap.get? b=some o->b≠X.env.locals:=fun b o e=>ay (ax (aC e) I.ok.above)
 have J:∀ b o,X.s₀.heap.get? b=some o->b ∉ X.ex->b ∉ ch:=fun b o e hx hb=>by
  rcases(F b hb).1 with z|z
  ·exact hx z
  ·exact absurd (ax (aC e) z) (bt _)
 have G:∀ x c,X.env.cells.lookup x=some c->∀ v,s.heap.IsCell c v->h'.IsCell c v:=fun x c e v ⟨o,ho,hd⟩=>by
  have h:c ∉ ch:=fun z=>(F c z).2.2.1 x c e rfl
  by_cases hc:c∈X.fs
  ·obtain⟨sl,q⟩:=slot c o (I.cne x c e) hc h ho (I.freeC x c e)
   exact⟨_,q,hd⟩
  ·exact⟨o,keep c o (I.cne x c e) hc h ho (I.freeC x c e),hd⟩
 refine⟨I.ok,I.os,hg,⟨fun b o e n hb hx=>?_,fun b o e n hb hx=>?_,fun b o e n hx=>?_,fun b o e hx=>?_,fun b N e=>tups b N (I.base.tups b N e),fun b o N e=>frzs b o N (I.base.frzs b o N e),fun b ps e=>?_⟩,?_,fun x c e=>?_,?_,fun x c e=>?_,fun p hp=>?_,hok,I.len⟩
 ·exact keep b o (Z b o e) hb (J b o e hx) (I.base.keep b o e n hb hx) (I.base.free b o e n hx)
 ·obtain⟨sl,e1⟩:=I.base.slot b o e n hb hx
  obtain⟨a0,e2⟩:=slot b _ (Z b o e) hb (J b o e hx) e1 (I.base.free b o e n hx)
  exact⟨a0,e2⟩
 ·obtain⟨o',e1⟩:=I.base.there b o e hx
  exact free b o' (J b o e hx) e1 (I.base.free b o e n hx)
 ·obtain⟨o',e1⟩:=I.base.there b o e hx
  exact there b o' (J b o e hx) e1
 ·obtain⟨m1,e1⟩:=I.base.tbls b ps e
  obtain⟨m2,e2⟩:=tbls b _ e1
  exact⟨m1++m2,by rw[e2,gh]⟩
 ·obtain⟨m,hn,hl⟩:=I.loc
  refine⟨m,ns m hn,fun i x v e1 e2 e3=>?_⟩
  obtain⟨u,r,l⟩:=hl i x v e1 e2 e3
  refine⟨u,r,?_⟩
  rcases l with l|⟨k,c,e,z⟩
  ·exact .inl l
  ·exact .inr ⟨k,c,e,G x c e _ z⟩
 ·obtain⟨v,z⟩:=I.cell x c e
  exact⟨v,G x c e v z⟩
 ·obtain⟨m,⟨o,_,_,ho,_⟩,_⟩:=I.loc
  exact free _ o (fun z=>(F _ z).2.1 rfl) ho I.free
 ·obtain⟨v,o,ho,hd⟩:=I.cell x c e
  exact free c o (fun z=>(F c z).2.2.1 x c e rfl) ho (I.freeC x c e)
 ·obtain⟨e,n,ne,nf,d⟩:=I.pin p hp
  have h:p.1 ∉ ch:=fun z=>(F p.1 z).2.2.2 p hp rfl
  exact⟨keep p.1 p.2 ne nf h e n,free p.1 p.2 h e n,ne,nf,d⟩
theorem Inv.un {t':Nat}(I:Inv X pins σ H s)(u:Un X.fs [] H H' s.heap h')(hok:HOk X.prog X.w H' h'):Inv X pins σ H' { s with heap:=h',toks:=t' }:=by
 obtain⟨m,⟨o,es,ep,ho,r⟩,_⟩:=id I.loc
 obtain⟨sl,N⟩:=u.any ho I.free (by simp)
 exact I.step (g':=s.gens) (d':=s.drawn) (ch:=[]) (fun _ z=>nomatch z) (fun b o _ hb _ e n=>u.keep b o e n hb (by simp)) (fun b o _ hb _ e n=>u.slot b o e n hb (by simp)) (fun b o _ e n=>u.free b o e n (by simp)) (fun b o _ e=>u.there b o e (by simp)) u.tups u.frzs u.tbls (fun m' Y=>by
  obtain⟨Z,G,F,h,J⟩:=Y
  rw[ho]at h;cases h
  exact⟨_,G,F,N,J⟩) hok I.bare
theorem Inv.call {g':Array GenState}{t':Nat}{d':Drawn}{ch:List Addr}(I:Inv X pins σ H s)(u:Un (frs X.stack) ch H H' s.heap h')(hok:HOk X.prog X.w H' h')(hg:dG g')
  (F:∀ b∈ch,(b∈X.ex\/X.s₀.heap.objs.size<=b)/\b≠X.env.locals/\(∀ x c,X.env.cells.lookup x=some c->c≠b)/\∀ p∈X.pn++pins,p.1≠b) :
  Inv X pins σ H' { s with heap:=h',gens:=g',drawn:=d',toks:=t' }:=by
 obtain⟨m,⟨o,es,ep,ho,r⟩,_⟩:=id I.loc
 obtain⟨sl,N⟩:=u.any ho I.free fun z=>(F _ z).2.1 rfl
 exact I.step (ch:=ch) F (fun b o N hb hc e n=>u.keep b o e n (fun z=>(aN.mp (I.stkSub b z)).elim N hb) hc) (fun b o _ _ hc e n=>u.any e n hc) (fun b o hc e n=>u.free b o e n hc) (fun b o hc e=>u.there b o e hc) u.tups u.frzs u.tbls (fun m' Y=>by
  obtain⟨o',G,J,h,Z⟩:=Y
  rw[ho]at h;cases h
  exact⟨_,G,J,N,Z⟩) hok hg
theorem Inv.turned {t':Nat}{it:Addr}(I:Inv X pins σ H s)(k:∀ b o,b≠it->s.heap.get? b=some o->h'.get? b=some o)(hn:H it=none)(F:it≠X.env.locals)
  (N:it∈X.ex\/X.s₀.heap.objs.size<=it) (Z:∀ x c,X.env.cells.lookup x=some c->c≠it) (J:∀ p∈X.pn++pins,p.1≠it):Inv X pins σ H { s with heap:=h',toks:=t' }:=by
 have h:∀ b u,H b=some u->b≠it:=fun b u e z=>by rw[z,hn]at e;cases e
 refine I.step (g':=s.gens) (d':=s.drawn) (ch:=[it]) (fun b hb=>?_) (fun b o _ _ hc e _=>k b o (fun z=>hc (by simp[z])) e) (fun b o _ _ hc e _=>⟨o.slots,k b o (fun z=>hc (by simp[z])) e⟩) (fun _ _ _ _ n=>n)
  (fun b o hc e=>⟨o,k b o (fun z=>hc (by simp[z])) e⟩) (fun _ _ e=>e) (fun _ _ _ e=>e) (fun b ps e=>⟨#[],by rw[e];simp⟩) (fun m G=>?_) (fun b u e=>?_) I.bare
 ·have e:b=it:=by simpa using hb
  subst e
  exact⟨N,F,Z,J⟩
 ·obtain⟨o,es,Y,ho,r⟩:=G
  exact⟨o,es,Y,k _ o (cP F) ho,r⟩
 ·refine(I.hok b u e).stay (fun c v hc q=>k c v ?_ q) (fun _ q=>q) fun _ _ q=>q
  rcases hc with z|z
  ·rw[z];exact h b u e
  ·exact h c _ z
theorem Inv.tok (I:Inv X pins σ H s)(t:Nat):Inv X pins σ H { s with toks:=t }:=I.un (h':=s.heap) (t':=t) Un.refl I.hok
theorem Inv.kept {t':Nat}(I:Inv X pins σ H s)(k:∀ b u,s.heap.get? b=some u->h'.get? b=some u):Inv X pins σ H { s with heap:=h',toks:=t' }:=I.un (Un.kept k) (I.hok.kept k)
theorem Inv.laid {a:Addr}{o:HO}{t':Nat}(I:Inv X pins σ H s)(k:∀ b u,s.heap.get? b=some u->h'.get? b=some u)(h:s.heap.objs.size<=a)(new:ah8 X.prog X.w (upd H a o) h' a o) :
  Inv X pins σ (upd H a o) { s with heap:=h',toks:=t' }:=I.un (Un.laid k h (I.hok.fresh h)) (I.hok.laid k h new)
theorem Inv.write {x e:Addr}{o:HO}{t':Nat}(I:Inv X pins σ H s)(mu:Mut (H x))(he:e=x\/H e=some (.own x))(k:∀ b u,b≠e->s.heap.get? b=some u->h'.get? b=some u)(heo:∃ u,h'.get? e=some u)
  (new:ah8 X.prog X.w (upd H x o) h' x o):Inv X pins σ (upd H x o) { s with heap:=h',toks:=t' }:=I.un (Un.write mu he k heo) (I.hok.write mu he k heo new)
theorem Inv.pins_of {F:List (Addr×Obj)}(I:Inv X pins σ H s)(h:∀ p∈F,s.heap.get? p.1=some p.2/\H p.1=none/\p.1≠X.env.locals/\p.1 ∉ X.fs/\∀ v,p.2.data≠.cell v):Inv X F σ H s :=
 ⟨I.ok,I.os,I.bare,I.base,I.loc,I.cell,I.free,I.freeC,fun p G=>(bE.mp G).elim (fun z=>I.pin p (fB _ z)) (h p),I.hok,I.len⟩
theorem aH6 {N:List Str}(hN:N.Nodup){i j:Nat}{x:Str}(a:N[i]?=some x)(b:N[j]?=some x):i=j:=by
 obtain⟨h,e1⟩:=af.mp a
 obtain⟨z,e2⟩:=af.mp b
 exact(List.getElem_inj hN).mp (e1.trans e2.symm)
theorem az9 {M:Model}{A:aR}{E:Value->ae->Prop}{i:Nat}{x:Str}{v:V}{u:Value}{Q:Unit->ae->Prop}(I:Inv X pins σ H s)(hN:X.N.Nodup)(Z:X.N[i]?=some x)(hx:Loc X.env.scope x)(r:RelV v u)
  (h:∀ s',Inv X pins (σ.set i (some v)) H s'->(∃ a,c5 a s.heap s'.heap/\(a=X.env.locals\/X.env.cells.lookup x=some a))->Q () s') (hf:X.fn x=true\/X.env.scope.names.lookup x=some .local:=by first|exact .inl rfl|exact .inr rfl|assumption):wpAny M A (fO X.env x u) Q E s:=by
 obtain⟨m,hn,hl⟩:=id I.loc
 have a3:(X.env.scope.kind==.class||(X.env.scope.kind==.module&&X.env.locals != X.env.globals))=false:=by rw[I.ok.kind];rfl
 have Y:i < σ.length:=by rw[I.len];exact(af.mp Z).1
 have cne:=I.cne
 have F:∀ {a:Addr} {h':Heap},(∃ o,s.heap.get? a=some o/\H a=none)->c5 a s.heap h'->HOk X.prog X.w H h':=fun {a h'} ha hs b ob e=>by
  obtain⟨_,_,G⟩:=ha
  refine(I.hok b ob e).stay (fun c w' hc q=>(hs.2 c ?_).trans q) (fun _ q=>q) fun _ _ q=>q
  rintro rfl
  rcases hc with rfl|hc
  ·rw[G]at e;cases e
  ·rw[G]at hc;cases hc
 rcases hx with hk|hk
 ·refine fv hk hn (fun h' a5 hs=>?_) a3
  obtain⟨oL,_,_,a4,_⟩:=id hn
  refine h _ ⟨I.ok,I.os,I.bare,⟨fun b o e n hb hx=>?_,fun b o e n hb hx=>?_,I.base.free,fun b o e hx=>?_,I.base.tups,I.base.frzs,I.base.tbls⟩,⟨_,a5,fun j y v' e1 e2 e3=>?_⟩,fun y c e=>?_,I.free,I.freeC,fun p hp=>?_,F ⟨oL,a4,I.free⟩ hs,by simpa using I.len⟩ ⟨_,hs,.inl rfl⟩
  ·exact(hs.2 b (ay (ax (aC e) I.ok.above))).trans (I.base.keep b o e n hb hx)
  ·obtain⟨sl,e1⟩:=I.base.slot b o e n hb hx
   exact⟨sl,(hs.2 b (ay (ax (aC e) I.ok.above))).trans e1⟩
  ·obtain⟨o',e1⟩:=I.base.there b o e hx
   exact⟨o',(hs.2 b (ay (ax (aC e) I.ok.above))).trans e1⟩
  ·by_cases hj:j=i
   ·subst hj
    rw[Z]at e1;cases e1
    rw[a8 Y]at e2
    cases e2
    exact⟨u,r,.inl ⟨hk,by simp⟩⟩
   ·rw[aL (cP hj)]at e2
    obtain⟨u',r',q⟩:=hl j y v' e1 e2 e3
    refine⟨u',r',?_⟩
    rcases q with⟨k,e⟩|⟨k,c,e,z⟩
    ·refine .inl ⟨k,?_⟩
     have:y≠x:=fun e=>hj (aH6 hN e1 (e▸Z))
     simp[this,e]
    ·exact .inr ⟨k,c,e,z.sameBut hs (cne y c e)⟩
  ·obtain⟨w',z⟩:=I.cell y c e
   exact⟨w',z.sameBut hs (cne y c e)⟩
  ·obtain⟨e,n,ne,nf,d⟩:=I.pin p hp
   exact⟨(hs.2 p.1 ne).trans e,n,ne,nf,d⟩
 ·have J:X.fn x=true:=by
   rcases hf with z|z
   ·exact z
   ·rw[z]at hk;cases hk
  obtain⟨c,hc⟩:=I.ok.has x (.inl hk)
  obtain⟨w',z⟩:=I.cell x c hc
  refine fC I.ok.kind hk hc z (fun h' a1 hs=>?_)
  obtain⟨oc,a0,a2⟩:=id z
  refine h { s with heap:=h' } ⟨I.ok,I.os,I.bare,⟨fun b o e n hb hx=>?_,fun b o e n hb hx=>?_,I.base.free,fun b o e hx=>?_,I.base.tups,I.base.frzs,I.base.tbls⟩,⟨m,hn.sameBut hs (cP (cne x c hc)),fun j y v' e1 e2 e3=>?_⟩,fun y c' e=>?_,I.free,I.freeC,fun p hp=>?_,F ⟨oc,a0,I.freeC x c hc⟩ hs,by simpa using I.len⟩ ⟨c,hs,.inr hc⟩
  ·exact(hs.2 b (ay (ax (aC e) (I.ok.cab x c J hc)))).trans (I.base.keep b o e n hb hx)
  ·obtain⟨sl,e1⟩:=I.base.slot b o e n hb hx
   exact⟨sl,(hs.2 b (ay (ax (aC e) (I.ok.cab x c J hc)))).trans e1⟩
  ·obtain⟨o',e1⟩:=I.base.there b o e hx
   exact⟨o',(hs.2 b (ay (ax (aC e) (I.ok.cab x c J hc)))).trans e1⟩
  ·by_cases hj:j=i
   ·subst hj
    rw[Z]at e1;cases e1
    rw[a8 Y]at e2
    cases e2
    exact⟨u,r,.inr ⟨.inl hk,c,hc,a1⟩⟩
   ·rw[aL (cP hj)]at e2
    obtain⟨u',r',q⟩:=hl j y v' e1 e2 e3
    refine⟨u',r',?_⟩
    rcases q with q|⟨k,c',e,z'⟩
    ·exact .inl q
    ·refine .inr ⟨k,c',e,z'.sameBut hs ?_⟩
     rintro rfl
     exact hj (aH6 hN e1 (I.ok.inj _ _ _ e hc▸Z))
  ·by_cases hcc:c'=c
   ·subst hcc;exact⟨_,a1⟩
   ·obtain⟨w2,z2⟩:=I.cell y c' e
    exact⟨w2,z2.sameBut hs hcc⟩
  ·obtain⟨e,n,ne,nf,d⟩:=I.pin p hp
   refine⟨(hs.2 p.1 ?_).trans e,n,ne,nf,d⟩
   intro q
   rw[q,a0]at e
   have q':oc=p.2:=av e
   exact d w' (by rw[<-q'];exact a2)
theorem aF9 {M:Model}{A:aR}{E:Value->ae->Prop}{i:Nat}{x:Str}{v:V}{u:Value}{Q:Unit->ae->Prop}(I:Inv X pins σ H s)(hN:X.N.Nodup)(z:X.N[i]?=some x)(hx:Loc X.env.scope x)(r:RelV v u)
  (h:∀ s',Inv X pins (σ.set i (some v)) H s'->Q () s') (F:X.fn x=true\/X.env.scope.names.lookup x=some .local:=by first|exact .inl rfl|exact .inr rfl|assumption):wpAny M A (fO X.env x u) Q E s :=
 az9 I hN z hx r (fun s' G _=>h s' G) F
theorem Inv.call' {s':ae}{ch:List Addr}(I:Inv X pins σ H s)(ho:s'.os=s.os)(u:Un (frs X.stack) ch H H' s.heap s'.heap)(hok:HOk X.prog X.w H' s'.heap)(hg:dG s'.gens)
  (h:∀ b∈ch,(b∈X.ex\/X.s₀.heap.objs.size<=b)/\b≠X.env.locals/\(∀ x c,X.env.cells.lookup x=some c->c≠b)/\∀ p∈X.pn++pins,p.1≠b):Inv X pins σ H' s':=by
 obtain⟨h',g',d',t',z⟩:=s'
 have e:z=s.os:=ho
 subst e
 exact I.call (g':=g') (t':=t') (d':=d') u hok hg h
end
abbrev XK:=Value->Option Addr->Hp->Prop
noncomputable abbrev St:=List (Option V)
abbrev VK:=V->Hp->Prop
abbrev TE:=St->Hp->VK->Prop
abbrev TT:=St->Hp->(Bool->Hp->Prop)->Prop
abbrev TA:=St->Hp->(List V->Hp->Prop)->Prop
structure Ends where
 nx:St->Hp->Prop
 rt:VK
 bk:St->Hp->Prop:=fun _ _=>False
 ct:St->Hp->Prop:=fun _ _=>False
abbrev TS:=Ends->St->Hp->Prop
def EP (X:Cx)(pins:List (Addr×Obj))(σ:St)(Q:VK)(u:Value)(s':ae):Prop:=∃ v H',Inv X pins σ H' s'/\RelV v u/\Q v H'
def TP (X:Cx)(pins:List (Addr×Obj))(σ:St)(Q:Bool->Hp->Prop)(b:Bool)(s':ae):Prop:=∃ H',Inv X pins σ H' s'/\Q b H'
def AP (X:Cx)(pins:List (Addr×Obj))(σ:St)(Q:List V->Hp->Prop)(us:List Value)(s':ae):Prop:=∃ vs H',Inv X pins σ H' s'/\Vals vs us/\Q vs H'
def SP (X:Cx)(pins:List (Addr×Obj))(D:Ends)(f:Flow)(s':ae):Prop :=
 match f with
 | .next=>∃ σ' H',Inv X pins σ' H' s'/\D.nx σ' H'
 | .brk=>∃ σ' H',Inv X pins σ' H' s'/\D.bk σ' H'
 | .cont=>∃ σ' H',Inv X pins σ' H' s'/\D.ct σ' H'
 | .ret u=>∃ v σ' H',Inv X pins σ' H' s'/\RelV v u/\D.rt v H'
def PE (X:Cx)(e:Expr)(t:TE):Prop :=
 ∀(pins:List (Addr×Obj)) (s:ae) (σ:St) (H:Hp) (Q:VK),Inv X pins σ H s->t σ H Q->wpAny (model X.prog X.w) X.A (eval e X.env) (EP X pins σ Q) X.xe s
def PT (X:Cx)(e:Expr)(t:TT):Prop :=
 ∀(pins:List (Addr×Obj)) (s:ae) (σ:St) (H:Hp) (Q:Bool->Hp->Prop),Inv X pins σ H s->t σ H Q->wpAny (model X.prog X.w) X.A (cT e X.env (eval e X.env)) (TP X pins σ Q) X.xe s
def PW (X:Cx)(e:Expr)(t:TT):Prop :=
 ∀(whole:Sem Value) (pins:List (Addr×Obj)) (s:ae) (σ:St) (H:Hp) (Q:Bool->Hp->Prop),Inv X pins σ H s->t σ H Q->wpAny (model X.prog X.w) X.A (cT e X.env whole) (TP X pins σ Q) X.xe s
theorem PW.pt {X:Cx}{e:Expr}{t:TT}(h:PW X e t):PT X e t:=h _
def PA (X:Cx)(es:List Expr)(t:TA):Prop :=
 ∀(pos:Pos) (pins:List (Addr×Obj)) (s:ae) (σ:St) (H:Hp) (Q:List V->Hp->Prop),Inv X pins σ H s->t σ H Q->wpAny (model X.prog X.w) X.A (spliced (dz pos (bu es X.env))) (AP X pins σ Q) X.xe s
def PS (X:Cx)(st:Stmt)(t:TS):Prop :=
 ∀(pins:List (Addr×Obj)) (s:ae) (σ:St) (H:Hp) (D:Ends),Inv X pins σ H s->t D σ H->wpAny (model X.prog X.w) X.A (exec st X.env) (SP X pins D) X.xe s
def PSs (X:Cx)(st:List Stmt)(t:TS):Prop :=
 ∀(pins:List (Addr×Obj)) (s:ae) (σ:St) (H:Hp) (D:Ends),Inv X pins σ H s->t D σ H->wpAny (model X.prog X.w) X.A (execs st X.env) (SP X pins D) X.xe s
theorem thn {α:Type}{t:Sem α}{Q z:α->ae->Prop}{M:Model}{A:aR}{E:Value->ae->Prop}{s:ae}(h:wpAny M A t Q E s)(F:∀ a s,Q a s->z a s):wpAny M A t z E s:=bw h F fun _ _ x=>x
section
variable {X:Cx}
theorem bin {a b:Expr}{J tb:TE}(ha:PE X a J)(hb:PE X b tb){z:List (Addr×Obj)}{s:ae}{σ:St}{H:Hp}{R:V->V->Hp->Prop}(I:Inv X z σ H s)(h:J σ H fun x G=>tb σ G fun y F=>R x y F)
  {α:Type} {Q:α->ae->Prop} {f:Value->Value->Sem α}
  (hf:∀ v u s2 x y F,Inv X z σ F s2->RelV x v->RelV y u->R x y F->wpAny (model X.prog X.w) X.A (f v u) Q X.xe s2) :
  wpAny (model X.prog X.w) X.A (eval a X.env) (fun v Y=>wpAny (model X.prog X.w) X.A (eval b X.env) (fun u Z=>wpAny (model X.prog X.w) X.A (f v u) Q X.xe Z) X.xe Y) X.xe s:=by
 refine thn (ha z s σ H _ I h) fun v s1 ⟨x,G,N,r1,q1⟩=>?_
 refine thn (hb z s1 σ G _ N q1) fun u s2 ⟨y,F,I2,r2,q2⟩=>?_
 exact hf v u s2 x y F I2 r1 r2 q2
def bV0 (i:Nat):TE:=fun σ H Q=>∃ v,σ[i]?=some (some v)/\Q v H
def tC (v:V):TE:=fun _ H Q=>Q v H
theorem bE8 {i:Nat}{x:Str}{pos:Pos}(hN:X.N[i]?=some x)(hv:Vis X.env.scope x)(hd:(x==("__debug__":Str))=false:=by decide)(hcd:(x==("__classdict__":Str))=false:=by decide):PE X (.Name x pos) (bV0 i):=by
 intro z s σ H Q I h
 obtain⟨v,e,h⟩:=h
 obtain⟨m,hn,hl⟩:=I.loc
 obtain⟨u,r,l⟩:=hl i x v hN e hv
 have fin:EP X z σ Q u s:=⟨v,H,I,r,h⟩
 rcases l with⟨hk,F⟩|⟨hk,c,hc,hcell⟩
 ·exact hX (wpAny_loadName_local I.ok.kind hk hn F fin) hd
 ·rcases hk with hk|hk
  ·exact hX (wpAny_loadName_cell I.ok.kind hk hc hcell fin) hd
  ·exact hX (wpAny_loadName_free I.ok.kind hk hc hcell fin hcd) hd
theorem bG2 {i j pos}:PE X (.Constant (.int i) j pos) (tC (.int i)):=fun _ _ _ H _ I h=>wpAny_Constant_int ⟨.int i,H,I.tok _,⟨_,rfl⟩,h⟩
theorem bM1 {b j pos}:PE X (.Constant (.bool b) j pos) (tC (.bl b)):=fun _ _ _ H _ I h=>Constant_bool ⟨.bl b,H,I,rfl,h⟩
theorem bH2 {j pos}:PE X (.Constant .none j pos) (tC .non):=fun _ _ _ H _ I h=>Constant_none ⟨.non,H,I,rfl,h⟩
theorem by7 {x j pos}:PE X (.Constant (.str x) j pos) (tC (.str x)):=fun _ _ _ H _ I h=>Calls.Constant_str ⟨.str x,H,I.tok _,⟨_,rfl⟩,h⟩
def Gl (X:Cx)(x:Str):Prop:=X.env.kindOf x=some .globalImplicit
theorem aD4 {E:Value->ae->Prop}{z:List (Addr×Obj)}{s:ae}{σ:St}{H:Hp}{x:Str}{u:Value}{pos:Pos}{Q:Value->ae->Prop}(I:Inv X z σ H s)(hg:Gl X x)(F:X.mg x=some u)(h:Q u s)
  (hd:(x==("__debug__":Str))=false:=by decide):wpAny (model X.prog X.w) X.A (eval (.Name x pos) X.env) Q E s :=
 dM I.ok.kind hg (Calls.loadGlobal_global (by rw[I.ok.glob];exact I.mod.glob.keeps I.bk) F h) hd
theorem aI1 {E:Value->ae->Prop}{z:List (Addr×Obj)}{s:ae}{σ:St}{H:Hp}{x:Str}{u:Value}{pos:Pos}{Q:Value->ae->Prop}(I:Inv X z σ H s)(hg:Gl X x)(J:X.mg x=none)(hv:a7 x=some u)(h:Q u s)
  (hn:x ≠ "__name__":=by decide) (hd:(x==("__debug__":Str))=false:=by decide):wpAny (model X.prog X.w) X.A (eval (.Name x pos) X.env) Q E s:=by
 obtain⟨N,F,G⟩:=I.mod.blt
 exact dM I.ok.kind hg (Calls.loadGlobal_builtin (by rw[I.ok.glob];exact I.mod.glob.keeps I.bk) J (by rw[I.ok.blt];exact F.keeps I.bk) ((G x hn).trans hv) h) hd
theorem aB7 {x:Str}{v:V}{u:Value}{pos:Pos}(hg:Gl X x)(z:X.mg x=some u)(r:RelV v u)(hd:(x==("__debug__":Str))=false:=by decide):PE X (.Name x pos) (tC v) :=
 fun _ _ _ H _ I h=>aD4 I hg z ⟨v,H,I,r,h⟩ hd
theorem bs9 {x:Str}{v:V}{u:Value}{pos:Pos}(hg:Gl X x)(z:X.mg x=none)(hv:a7 x=some u)(r:RelV v u)(hn:x ≠ "__name__":=by decide)(hd:(x==("__debug__":Str))=false:=by decide):PE X (.Name x pos) (tC v) :=
 fun _ _ _ H _ I h=>aI1 I hg z hv ⟨v,H,I,r,h⟩ hn hd
variable {a b:Expr} {ta tb:TE} {pos:Pos}
def tB (t:TE):TT:=fun σ H Q=>t σ H fun x H1=>∃ c,x=.bl c/\Q c H1
theorem bw6 {e:Expr}{t:TE}(h:PE X e t)(he:∀ z,cT e X.env z=(do let v <- z;standAt e.pos;hG [v] (truthy v)):=by intro _;rfl):PT X e (tB t):=by
 intro F s σ H Q I hw
 refine isTrue_plain (thn (h F s σ H _ I hw) fun v s1 ⟨x,N,J,r1,G⟩=>?_) (he _)
 obtain⟨d,rfl,q⟩:=G
 cases r1
 exact b8 ⟨N,J,q⟩
variable {tA tB':TT} {rest:List Expr}
def bV5 (t u:TT):TT:=fun σ H Q=>t σ H fun c H1=>if c=true then u σ H1 Q else Q false H1
def tOr (t u:TT):TT:=fun σ H Q=>t σ H fun c H1=>if c=true then Q true H1 else u σ H1 Q
def bT9 (t:TT):TT:=fun σ H Q=>t σ H fun c H1=>Q (!c) H1
theorem bm3 (ha:PT X a tA):PW X (.BoolOp .And [a] pos) tA:=by
 intro F z s σ H Q I h
 refine isTrue_and (thn (ha z s σ H Q I h) fun c s1 e=>?_)
 cases c with
 | true=>exact isTrue_and_nil e
 | false=>exact e
theorem bz2 (ha:PT X a tA):PW X (.BoolOp .Or [a] pos) tA:=by
 intro F z s σ H Q I h
 refine isTrue_or (thn (ha z s σ H Q I h) fun c s1 e=>?_)
 cases c with
 | false=>exact isTrue_or_nil e
 | true=>exact e
theorem bi2 (ha:PT X a tA)(hb:PW X (.BoolOp .And (b::rest) pos) tB'):PW X (.BoolOp .And (a::b::rest) pos) (bV5 tA tB'):=by
 intro N z s σ H Q I h
 refine isTrue_and (thn (ha z s σ H _ I h) fun c s1 ⟨J,G,F⟩=>?_)
 cases c with
 | true=>exact hb N z s1 σ J Q G F
 | false=>exact⟨J,G,F⟩
theorem bA2 (ha:PT X a tA)(hb:PW X (.BoolOp .Or (b::rest) pos) tB'):PW X (.BoolOp .Or (a::b::rest) pos) (tOr tA tB'):=by
 intro N z s σ H Q I h
 refine isTrue_or (thn (ha z s σ H _ I h) fun c s1 ⟨J,G,F⟩=>?_)
 cases c with
 | true=>exact⟨J,G,F⟩
 | false=>exact hb N z s1 σ J Q G F
theorem bC0 (ha:PT X a tA):PT X (.UnaryOp .Not a pos) (bT9 tA):=by
 intro z s σ H Q I h
 exact isTrue_not (ha z s σ H (fun c F=>Q (!c) F) I h)
def bv6 (ta tb:TE):TE:=fun σ H Q=>ta σ H fun x H1=>∃ c,x=.bl c/\if c=true then tb σ H1 Q else Q (.bl false) H1
def bT3 (ta tb:TE):TE:=fun σ H Q=>ta σ H fun x H1=>∃ c,x=.bl c/\if c=true then Q (.bl true) H1 else tb σ H1 Q
def by6 (ta:TE):TE:=fun σ H Q=>ta σ H fun x H1=>∃ c,x=.bl c/\Q (.bl (!c)) H1
theorem bh3 {op}{t:TE}(h:PE X a t):PE X (.BoolOp op [a] pos) t:=fun z s σ H Q I hw=>BoolOp_one (h z s σ H Q I hw)
theorem bf3 (ha:PE X a ta)(hb:PE X (.BoolOp .And (b::rest) pos) tb):PE X (.BoolOp .And (a::b::rest) pos) (bv6 ta tb):=by
 intro z s σ H Q I h
 refine BoolOp_and (thn (ha z s σ H _ I h) fun v s1 ⟨x,J,G,r1,F⟩=>?_)
 obtain⟨c,rfl,F⟩:=F
 cases r1
 refine b8 ?_
 cases c with
 | true=>exact hb z s1 σ J Q G F
 | false=>exact⟨.bl false,J,G,rfl,F⟩
theorem bF7 (ha:PE X a ta)(hb:PE X (.BoolOp .Or (b::rest) pos) tb):PE X (.BoolOp .Or (a::b::rest) pos) (bT3 ta tb):=by
 intro z s σ H Q I h
 refine BoolOp_or (thn (ha z s σ H _ I h) fun v s1 ⟨x,J,G,r1,F⟩=>?_)
 obtain⟨c,rfl,F⟩:=F
 cases r1
 refine b8 ?_
 cases c with
 | false=>exact hb z s1 σ J Q G F
 | true=>exact⟨.bl true,J,G,rfl,F⟩
theorem bw5 (ha:PE X a ta):PE X (.UnaryOp .Not a pos) (by6 ta):=by
 intro z s σ H Q I h
 refine UnaryOp_ (thn (ha z s σ H _ I h) fun v s1 ⟨x,J,G,r1,F⟩=>?_)
 obtain⟨c,rfl,F⟩:=F
 cases r1
 exact not_of (b8 ⟨.bl (!c),J,G,rfl,F⟩)
def tIf (t:TT)(ta tb:TE):TE:=fun σ H Q=>t σ H fun c H1=>if c=true then ta σ H1 Q else tb σ H1 Q
theorem aY5 {c:Expr}(hc:PT X c tA)(ha:PE X a ta)(hb:PE X b tb):PE X (.IfExp c a b pos) (tIf tA ta tb):=by
 intro z s σ H Q I h
 refine wpAny_IfExp (thn (hc z s σ H _ I h) fun d s1 ⟨J,G,F⟩=>?_)
 cases d with
 | true=>exact ha z s1 σ J Q G F
 | false=>exact hb z s1 σ J Q G F
end
def SqL (K:ac)(H:Hp)(a:Addr)(xs:List V):Prop :=
 Rd H a (.lst xs) \/
  ∃(o:Obj) (its:Array Value) (n:Nat),K.lookup a=some o/\o.cls=.type "list"/\o.dict=none/\o.data=.seq its n/\its.size<=aD/\Vals xs its.toList
def SqT (K:ac)(H:Hp)(a:Addr)(xs:List V):Prop :=
 Rd H a (.tup xs) \/
  ∃(o:Obj) (its:Array Value) (n:Nat),K.lookup a=some o/\o.cls=.type "tuple"/\o.data=.seq its n/\its.size<=aD/\Vals xs its.toList
noncomputable def bX9:Value->Option V
 | .none=>some .non
 | .bool b=>some (.bl b)
 | .int i _=>some (.int i)
 | .str x _=>some (.str x)
 | .bytes b _=>some (.byt b)
 | .float b _=>some (.flt b)
 | .ref a=>some (.ref a)
 | .type n=>some (.ty n)
 | _=>none
theorem RelV.abs {x:V}{u:Value}(r:RelV x u):bX9 u=some x:=by
 cases x with
 | non=>cases r;rfl
 | bl _=>cases r;rfl
 | int _=>obtain⟨t,rfl⟩:=r;rfl
 | str _=>obtain⟨t,rfl⟩:=r;rfl
 | byt _=>obtain⟨t,rfl⟩:=r;rfl
 | flt _=>obtain⟨t,rfl⟩:=r;rfl
 | ref _=>cases r;rfl
 | ty _=>cases r;rfl
theorem RelV.inj {x y:V}{u:Value}(r:RelV x u)(q:RelV y u):x=y:=av (r.abs.symm.trans q.abs)
theorem Vals.inj:∀ {h ys:List V} {us:List Value},Vals h us->Vals ys us->h=ys
 | _,_,_,.nil,.nil=>rfl
 | _,_,_,.cons r t,.cons r' t'=>by rw[r.inj r',Vals.inj t t']
section
variable {X:Cx} {pins:List (Addr×Obj)} {σ:St} {H:Hp} {s:ae} {a:Addr} {xs ys:List V}
theorem SqL.of {K:ac}(h:H a=some (.lst xs)):SqL K H a xs:=.inl (.inl h)
theorem SqT.of {K:ac}(h:H a=some (.tup xs)):SqT K H a xs:=.inl (.inl h)
theorem Inv.list (I:Inv X pins σ H s)(h:SqL X.K H a xs):∃ its:List Value,Vals xs its/\PlainL s.heap a its.toArray/\xs.length<=aD:=by
 rcases h with h|⟨o,its,n,hk,hc,hd,hs,hz,r⟩
 ·obtain⟨z,its,n,r,e⟩:=h.ok I.hok
  exact⟨its,r,⟨_,n,e,rfl,rfl,rfl⟩,z⟩
 ·refine⟨its.toList,r,⟨o,n,I.kIn a o hk,hc,hd,by simpa using hs⟩,?_⟩
  have e:=r.length
  simp only[dE]at e
  omega
theorem Inv.tuple (I:Inv X pins σ H s)(h:SqT X.K H a xs):∃ its:List Value,Vals xs its/\IsTup s.heap a its.toArray/\xs.length<=aD:=by
 rcases h with h|⟨o,its,n,hk,hc,hs,hz,r⟩
 ·obtain⟨z,its,r,p⟩:=h.ok I.hok
  exact⟨its,r,p,z⟩
 ·refine⟨its.toList,r,⟨o,I.kIn a o hk,hc,n,by simpa using hs⟩,?_⟩
  have e:=r.length
  simp only[dE]at e
  omega
theorem Inv.list_inj (I:Inv X pins σ H s)(h:SqL X.K H a xs)(h':SqL X.K H a ys):xs=ys:=by
 obtain⟨its,r,⟨o,n,e,_,_,d⟩,_⟩:=I.list h
 obtain⟨its',z,⟨F,G,e',_,_,d'⟩,_⟩:=I.list h'
 rw[e]at e';cases e'
 rw[d]at d'
 injection d' with d1 _
 have:its=its':=by simpa using congrArg eR d1
 subst this
 exact r.inj z
theorem Inv.tuple_inj (I:Inv X pins σ H s)(h:SqT X.K H a xs)(h':SqT X.K H a ys):xs=ys:=by
 obtain⟨its,r,⟨o,e,_,n,d⟩,_⟩:=I.tuple h
 obtain⟨its',z,⟨F,e',_,G,d'⟩,_⟩:=I.tuple h'
 rw[e]at e';cases e'
 rw[d]at d'
 injection d' with d1 _
 have:its=its':=by simpa using congrArg eR d1
 subst this
 exact r.inj z
end
noncomputable abbrev Cx.wish (X:Cx)(E:Value->ae->Prop):Cx:={ X with xe:=E }
noncomputable abbrev Cx.nox (X:Cx):Cx:=X.wish fun _ _=>False
theorem Cx.Ok.wish {X:Cx}(ok:X.Ok)(E:Value->ae->Prop):(X.wish E).Ok :=
 ⟨ok.mod,ok.kind,ok.glob,ok.blt,ok.above,ok.inj,ok.has,ok.cab,ok.hd,ok.frames,ok.stk,ok.exf,ok.bs,ok.bsz,ok.noex,ok.exfs,ok.funs,ok.frf⟩
theorem Cx.Ok.unwish {X:Cx}{E:Value->ae->Prop}(ok:(X.wish E).Ok):X.Ok :=
 ⟨ok.mod,ok.kind,ok.glob,ok.blt,ok.above,ok.inj,ok.has,ok.cab,ok.hd,ok.frames,ok.stk,ok.exf,ok.bs,ok.bsz,ok.noex,ok.exfs,ok.funs,ok.frf⟩
section
variable {X:Cx} {pins:List (Addr×Obj)} {σ:St} {H:Hp} {s:ae} {E:Value->ae->Prop}
theorem Inv.wish (I:Inv X pins σ H s)(E:Value->ae->Prop):Inv (X.wish E) pins σ H s:=⟨I.ok.wish E,I.os,I.bare,I.base,I.loc,I.cell,I.free,I.freeC,I.pin,I.hok,I.len⟩
theorem Inv.unwish (I:Inv (X.wish E) pins σ H s):Inv X pins σ H s:=⟨I.ok.unwish,I.os,I.bare,I.base,I.loc,I.cell,I.free,I.freeC,I.pin,I.hok,I.len⟩
theorem SP.unwish {D:Ends}{f:Flow}{s':ae}(h:SP (X.wish E) pins D f s'):SP X pins D f s':=by
 cases f with
 | next=>obtain⟨σ',H',I,q⟩:=h;exact⟨σ',H',I.unwish,q⟩
 | brk=>obtain⟨σ',H',I,q⟩:=h;exact⟨σ',H',I.unwish,q⟩
 | cont=>obtain⟨σ',H',I,q⟩:=h;exact⟨σ',H',I.unwish,q⟩
 | ret u=>obtain⟨v,σ',H',I,r,q⟩:=h;exact⟨v,σ',H',I.unwish,r,q⟩
theorem PT.nox {e:Expr}{t:TT}(h:PT X.nox e t):PT X e t:=fun F s σ H Q I hw =>
 bw (h F s σ H Q (I.wish _) hw) (fun _ _ ⟨H',G,q⟩=>⟨H',G.unwish,q⟩) fun _ _ z=>bH z
theorem PSs.nox {st:List Stmt}{t:TS}(h:PSs X.nox st t):PSs X st t:=fun F s σ H D I hw =>
 bw (h F s σ H D (I.wish _) hw) (fun _ _ q=>q.unwish) fun _ _ z=>bH z
end
section
variable {X:Cx} {st:Stmt} {rest:List Stmt} {t u:TS} {e:Expr} {te:TE} {pos:Pos}
def by5:TS:=fun D σ H=>D.nx σ H
noncomputable def bV4 (t u:TS):TS:=fun D σ H=>t { D with nx:=u D } σ H
theorem aS2:PSs X [] by5:=fun _ _ σ H _ I h=>fq ⟨σ,H,I,h⟩
theorem aH9 (F:PS X st t)(G:PSs X rest u):PSs X (st::rest) (bV4 t u):=by
 intro z s σ H D I h
 refine wpAny_execs_cons (thn (F z s σ H { D with nx:=u D } I h) fun f s1 q=>?_)
 cases f with
 | next =>
  obtain⟨σ',H',J,q⟩:=q
  exact G z s1 σ' H' D J q
 | ret v=>exact q
 | brk=>exact q
 | cont=>exact q
theorem Inv.quiet {h:List (Addr×Obj)}{σ:St}{H:Hp}{s:ae}(I:Inv X h σ H s):interactive X.env=false:=by simp[interactive,I.ok.kind]
def bI6 (te:TE):TS:=fun D σ H=>te σ H fun _ H1=>D.nx σ H1
theorem bn8 (he:PE X e te)(hs:dL e none pos.line X.env=pure false:=by rfl):PS X (.Expr e pos) (bI6 te):=by
 intro z s σ H D I h
 exact wpAny_Expr_any (thn (he z s σ H _ I h) fun v s1 ⟨x,J,G,r1,F⟩=>⟨σ,J,G,F⟩) I.quiet hs
def bW6 (te:TE):TS:=fun D σ H=>te σ H D.rt
theorem bh4 (he:PE X e te):PS X (.Return (some e) pos) (bW6 te):=by
 intro z s σ H D I h
 exact wpAny_Return_some (thn (he z s σ H _ I h) fun v s1 ⟨x,J,G,r1,F⟩=>⟨x,σ,J,G,r1,F⟩)
def bT4 (c:TT)(t u:TS):TS:=fun D σ H=>c σ H fun b H1=>if b=true then t D σ H1 else u D σ H1
theorem bQ6 {c:Expr}{a b:List Stmt}{J:TT}(hc:PT X c J)(ha:PSs X a t)(hb:PSs X b u):PS X (.If c a b pos) (bT4 J t u):=by
 intro z s σ H D I h
 refine wpAny_If (thn (hc z s σ H _ I h) fun d s1 ⟨N,G,F⟩=>?_)
 cases d with
 | true=>exact ha z s1 σ N D G F
 | false=>exact hb z s1 σ N D G F
def by1:TS:=fun _ _ _=>False
theorem aX7:PS X st by1:=fun _ _ _ _ _ _ h=>h.elim
end
abbrev TG:=V->St->Hp->(St->Hp->Prop)->Prop
abbrev TGs:=List V->St->Hp->(St->Hp->Prop)->Prop
def PG (X:Cx)(target:Expr)(t:TG):Prop :=
 ∀(pins:List (Addr×Obj)) (s:ae) (σ:St) (H:Hp) (v:V) (u:Value) (Q:St->Hp->Prop),Inv X pins σ H s->RelV v u->t v σ H Q ->
  wpAny (model X.prog X.w) X.A (eS target X.env u) (fun _ s'=>∃ σ' H',Inv X pins σ' H' s'/\Q σ' H') X.xe s
def PGs (X:Cx)(ts:List Expr)(t:TGs):Prop :=
 ∀(pins:List (Addr×Obj)) (s:ae) (σ:St) (H:Hp) (vs:List V) (us:List Value) (Q:St->Hp->Prop),Inv X pins σ H s->Vals vs us->t vs σ H Q ->
  wpAny (model X.prog X.w) X.A (assignInOrder ((bU ts X.env).map (·.2)) us) (fun _ s'=>∃ σ' H',Inv X pins σ' H' s'/\Q σ' H') X.xe s
abbrev bK0:=V->V->V->Hp->(Hp->Prop)->Prop
def bS4 (X:Cx)(t:bK0):Prop :=
 ∀(pins:List (Addr×Obj)) (s:ae) (σ:St) (H:Hp) (o i v:V) (ov iv u:Value) (Q:Hp->Prop),Inv X pins σ H s->RelV o ov->RelV i iv->RelV v u->t o i v H Q ->
  wpAny (model X.prog X.w) X.A (setItem ov iv u) (fun _ s'=>∃ H',Inv X pins σ H' s'/\Q H') X.xe s
section
variable {X:Cx} {pos:Pos}
def az0 (i:Nat):TG:=fun v σ H Q=>Q (σ.set i (some v)) H
theorem aT7 {i:Nat}{x:Str}(hN:X.N.Nodup)(F:X.N[i]?=some x)(hx:Loc X.env.scope x)(G:X.fn x=true\/X.env.scope.names.lookup x=some .local:=by first|exact .inl rfl|exact .inr rfl|assumption):PG X (.Name x pos) (az0 i):=by
 intro z s σ H v u Q I r h
 exact gy (aF9 I hN F hx r (fun s' J=>⟨_,H,J,h⟩) G)
def bU9:TGs:=fun vs σ H Q=>vs=[]/\Q σ H
def bx0 (t:TG)(u:TGs):TGs:=fun vs σ H Q=>∃ v r,vs=v::r/\t v σ H fun σ' H'=>u r σ' H' Q
theorem bj8:PGs X [] bU9:=by
 intro z s σ H vs us Q I r h
 obtain⟨e,h⟩:=h
 subst e
 cases r
 exact assignInOrder_nil ⟨σ,H,I,h⟩
theorem bb1 {e:Expr}{es:List Expr}{t:TG}{u:TGs}(J:PG X e t)(N:PGs X es u)
  (hs:(bU (e::es) X.env).map (·.2)=eS e X.env::(bU es X.env).map (·.2):=by rfl):PGs X (e::es) (bx0 t u):=by
 intro z s σ H vs us Q I r h
 obtain⟨v,Z,e1,h⟩:=h
 subst e1
 cases r with
 | cons r rr =>
  rw[hs]
  refine assignInOrder_cons (thn (J z s σ H _ _ _ I r h) fun _ s1 ⟨σ1,G,F,Y⟩=>?_)
  exact N z s1 σ1 G _ _ Q F rr Y
def bM4 (K:ac)(n:Nat)(t:TGs):TG:=fun v σ H Q=>∃ a xs,v=.ref a/\SqT K H a xs/\xs.length=n/\t xs σ H Q
theorem bC7 {es:List Expr}{k:Nat}{t:TGs}{n:Nat}(hc:X.calm=true)(h:PGs X es t)
  (hn:(bU es X.env).length=n:=by rfl) (F:(bU es X.env).findIdx? (·.1)=none:=by rfl):PG X (.Tuple es k pos) (bM4 X.K n t):=by
 intro z s σ H v u Q I r hw
 obtain⟨a,N,e1,hq,hl,hw⟩:=hw
 subst e1
 cases r
 obtain⟨its,G,Y,hz⟩:=I.tuple hq
 refine assign_Tuple_tuple (I.ok.hd hc) Y (by simp[hn,<-hl,G.length]) F fun h' hx=>?_
 have J:Inv X z σ H { s with heap:=h' }:=I.kept (t':=s.toks) fun b o e=>hx b o (ay (aC e)) e
 exact h z _ σ H N _ Q J (by simpa using G) hw
def bV1 (to ti:TE)(t:bK0):TG:=fun v σ H Q=>to σ H fun o H1=>ti σ H1 fun i H2=>t o i v H2 fun H3=>Q σ H3
theorem bI9 {o i:Expr}{J N:TE}{t:bK0}(ho:PE X o J)(hi:PE X i N)(hs:bS4 X t)
  (ha:∀ v,eS (.Subscript o i pos) X.env v=(do
   let F <- hG [v] (eval o X.env)
   let G <- hG [v,F] (eval i X.env)
   standAt pos
   hG [v,F,G] (setItem F G v)
   release [v,F,G] []):=by intro _;rfl):PG X (.Subscript o i pos) (bV1 J N t):=by
 intro z s σ H v u Q I r h
 rw[ha]
 refine ak (dj (thn (ho z s σ H _ I h) fun F s1 ⟨x,H1,Y,r1,q1⟩=>?_))
 refine ak (dj (thn (hi z s1 σ H1 _ Y q1) fun G s2 ⟨y,H2,I2,r2,q2⟩=>?_))
 refine ak (fZ (ak (dj (thn (hs z s2 σ H2 x y v F G u _ I2 r1 r2 r q2) fun _ s3 ⟨Z,I3,q3⟩=>?_))))
 exact wpAny_release ⟨σ,Z,I3,q3⟩
def bc4 (te:TE)(g:TG):TS:=fun D σ H=>te σ H fun x H1=>g x σ H1 D.nx
theorem bh6 {tg e:Expr}{F:TE}{g:TG}(he:PE X e F)(hg:PG X tg g)(hs:swapsWithSole [tg] e pos.line X.env=pure false:=by rfl)(hw:f6 [tg] e X.env=pure none:=by rfl)
  (J:(bU [tg] X.env).map (·.2)=[eS tg X.env]:=by rfl):PS X (.Assign [tg] e pos) (bc4 F g):=by
 intro z s σ H D I h
 refine wpAny_Assign_stores (thn (he z s σ H _ I h) fun v s1 ⟨x,Y,N,r1,G⟩=>?_) hs hw
 rw[J]
 exact thn (hg z s1 σ Y x v _ N r1 G) fun _ s2 q=>q
theorem bh8 {i:Nat}{x:Str}{e:Expr}{G:TE}{z:Pos}(hN:X.N.Nodup)(Y:X.N[i]?=some x)(hx:Loc X.env.scope x)(he:PE X e G)(hs:dL e (some (.Name x z)) pos.line X.env=pure false:=by rfl)(hf:X.fn x=true\/X.env.scope.names.lookup x=some .local:=by first|exact .inl rfl|exact .inr rfl|assumption) :
  PS X (.Assign [.Name x z] e pos) (bc4 G (az0 i)):=by
 intro F s σ H D I h
 refine wpAny_Assign_Name (thn (he F s σ H _ I h) fun v s1 ⟨y,Z,J,r1,q1⟩=>?_) hs
 exact aF9 J hN Y hx r1 (fun s2 I2=>⟨_,Z,I2,q1⟩) hf
end
section
variable {X:Cx} {pos:Pos}
def bi6 (c:TT)(tb:TS):TS:=fun D σ H=>∃ W:Nat->St->Hp->Prop,(∃ m,W m σ H)/\∀ m σ H,W m σ H ->
 c σ H fun b H1=>if b=true then ∃ N:St->Hp->Prop,(∀ σ' H',N σ' H'->∃ m',m'<m/\W m' σ' H')/\tb { D with nx:=N,ct:=N,bk:=D.nx } σ H1 else D.nx σ H1
theorem aZ0 {c:Expr}{body:List Stmt}{tc:TT}{tb:TS}(hp:PassesOwn (model X.prog X.w) X.A X.env X.xe)(hc:PT X c tc)(hb:PSs X body tb):PS X (.While c body [] pos) (bi6 tc tb):=by
 intro z s σ H D I h
 obtain⟨W,⟨m0,w0⟩,turn⟩:=h
 refine wpAny_While (codeAny_whileLoop (fun n s'=>∃ σ' H',Inv X z σ' H' s'/\W n σ' H') ?_ m0 ⟨σ,H,I,w0⟩)
 rintro n s1 ⟨σ1,H1,I1,w1⟩
 refine b7 hp (thn (hc z s1 σ1 H1 _ I1 (turn n σ1 H1 w1)) fun b s2 ⟨H2,I2,q2⟩=>?_)
 cases b with
 | true =>
  obtain⟨N,hN,q2⟩:=q2
  rw[if_pos rfl]
  refine b7 hp (thn (hb z s2 σ1 H2 _ I2 q2) fun f s3 q3=>?_)
  cases f with
  | next =>
   obtain⟨σ3,F,Y,Z⟩:=q3
   obtain⟨m',G,J⟩:=hN σ3 F Z
   exact⟨m',G,σ3,F,Y,J⟩
  | cont =>
   obtain⟨σ3,F,Y,Z⟩:=q3
   obtain⟨m',G,J⟩:=hN σ3 F Z
   exact⟨m',G,σ3,F,Y,J⟩
  | brk=>exact q3
  | ret v=>exact q3
 | false =>
  rw[if_neg aS]
  exact fq ⟨σ1,H2,I2,q2⟩
end
structure It where
 go:Nat->Hp->Prop
 yld:Nat->Hp->V->Hp->Prop
 stop:Nat->Hp->Prop
def FpOk (X:Cx)(pins:List (Addr×Obj))(H:Hp)(b:Addr):Prop :=
 H b=none/\b≠X.env.locals/\b ∉ X.fs/\(b∈X.ex\/X.s₀.heap.objs.size<=b)/\(∀ x c,X.env.cells.lookup x=some c->c≠b)/\∀ p∈X.pn++pins,p.1≠b
theorem Inv.fpOk {X:Cx}{h:List (Addr×Obj)}{σ:St}{H H':Hp}{s:ae}{b:Addr}(I:Inv X h σ H s)(hb:s.heap.objs.size<=b)(hn:H' b=none):FpOk X h H' b:=by
 refine⟨hn,gz (ax I.lt hb),I.nofs hb,.inr (aj I.sz hb),fun x c e z=>?_,fun p F z=>?_⟩
 ·obtain⟨v,q⟩:=I.cell x c e
  exact absurd (ax q.lt (by rw[z];exact hb)) (bt _)
 ·exact absurd (ax (aC (I.pin p F).1) (by rw[z];exact hb)) (bt _)
structure Turn (P:aG)(w:World)(K:ac)(tg:Expr)(J:It)(fp:List Addr)(it:Addr)(tn:Nat->Heap->Prop):Prop where
 mem:it∈fp
 obj:∀ i h,tn i h->∀ b∈fp,∃ o,h.get? b=some o/\∀ v,o.data≠.cell v
 keep:∀ i h h',tn i h->(∀ b∈fp,∀ o,h.get? b=some o->h'.get? b=some o)->tn i h'
 item:∀(X:Cx),X.prog=P->X.w=w->X.K=K->X.calm=true->∀(i:Nat) (pins:List (Addr×Obj)) (s:ae) (σ:St) (H:Hp) (E:Value->ae->Prop),Inv X pins σ H s->(∀ b∈fp,FpOk X pins H b)->tn i s.heap->J.go i H ->
  wpAny (model P w) X.A (pyNext (.ref it)) (fun r s1=>∃ u,r=some u /\
   wpAny (model P w) X.A (dA tg (.ref it) u) (fun _ s2=>∃ x H',Inv X pins σ H' s2/\RelV x u/\J.yld i H x H'/\tn (i+1) s2.heap/\∀ b∈fp,H' b=none) E s1) E s
 done:∀(X:Cx),X.prog=P->X.w=w->X.K=K->X.calm=true->∀(i:Nat) (pins:List (Addr×Obj)) (s:ae) (σ:St) (H:Hp) (E:Value->ae->Prop),Inv X pins σ H s->(∀ b∈fp,FpOk X pins H b)->tn i s.heap->J.stop i H ->
  wpAny (model P w) X.A (pyNext (.ref it)) (fun r s1=>r=none/\Inv X pins σ H s1) E s
 self:∀(A:aR) (i:Nat) (s:ae) (Q:Value->ae->Prop) (E:Value->ae->Prop),tn i s.heap->Q (.ref it) s->wpAny (model P w) A (iJ (.ref it)) Q E s
abbrev TI:=St->Hp->(It->Hp->Prop)->Prop
def PIE (X:Cx)(pins:List (Addr×Obj))(σ:St)(tg:Expr)(R:It->Hp->Prop)(itv:Value)(s2:ae):Prop :=
 ∃(it:Addr) (fp:List Addr) (tn:Nat->Heap->Prop) (J:It) (H':Hp),itv=.ref it/\Inv X pins σ H' s2/\Turn X.prog X.w X.K tg J fp it tn/\tn 0 s2.heap/\(∀ b∈fp,FpOk X pins H' b)/\R J H'
def PI (X:Cx)(tg iter:Expr)(wi:TI):Prop :=
 ∀(pins:List (Addr×Obj)) (s:ae) (σ:St) (H:Hp) (R:It->Hp->Prop),Inv X pins σ H s->wi σ H R ->
  wpAny (model X.prog X.w) X.A (eval iter X.env) (fun v s1=>wpAny (model X.prog X.w) X.A (iJ v) (PIE X pins σ tg R) X.xe s1) X.xe s
theorem bc8 {M : Model} {A : Around} {E : Value -> Shared -> Prop} {s : Shared} {tg : Expr} {it : Addr} {u : Value} {o : Obj} {n : String} {vs : Array Value} {Q : Unit -> Shared -> Prop} (ho : s.heap.get? it = some o) (hc : o.cls = .type n) (hd : o.data = .fields vs)
    (hn : ["enumerate", "zip", "dict_itemiterator", "dict_reverseitemiterator", "odict_iterator", "itertools.zip_longest", "itertools.pairwise"].contains n = false) (hQ : Q () s) : wpAny M A (dA tg (.ref it) u) Q E s := by
  unfold dA
  cases tg <;> first
    | exact aF hQ
    | (cases u <;> first
        | exact aF hQ
        | (refine ak (wpAny_load ho ?_)
           rw[hc, hd]
           show wpAny M A (if(["enumerate", "zip", "dict_itemiterator", "dict_reverseitemiterator", "odict_iterator", "itertools.zip_longest", "itertools.pairwise"].contains n && vs[0]? == some (rawInt _)) = true then _ else _) Q E s
           rw[if_neg (by intro h; rw[hn, Bool.false_and]at h; cases h)]
           exact aF hQ))
noncomputable def Itl (K:ac)(a:Addr):It :=
 ⟨fun i H=>∃ xs x,SqL K H a xs/\xs[i]?=some x,fun i H x H'=>H'=H/\∀ xs,SqL K H a xs->xs[i]?=some x,fun i H=>∃ xs,SqL K H a xs/\xs.length<=i⟩
noncomputable def Itt (K:ac)(a:Addr):It :=
 ⟨fun i H=>∃ xs x,SqT K H a xs/\xs[i]?=some x,fun i H x H'=>H'=H/\∀ xs,SqT K H a xs->xs[i]?=some x,fun i H=>∃ xs,SqT K H a xs/\xs.length<=i⟩
noncomputable def Itr (lo:Int)(n:Nat):It:=⟨fun i _=>i<n,fun i H x H'=>H'=H/\x=.int (lo+i),fun i _=>n<=i⟩
theorem aQ7 {P:aG}{w:World}{K:ac}{tg:Expr}(a it:Addr):Turn P w K tg (Itl K a) [it] it (fun i h=>h.IsListIter it a i) where
 mem:=by simp
 obj:=fun i h st b hb=>by
  have e:b=it:=by simpa using hb
  subst e
  obtain⟨o,e,c,d⟩:=st
  exact⟨o,e,fun v z=>by rw[d]at z;cases z⟩
 keep:=fun i h h' st k=>st.at fun o e=>k it (by simp) o e
 item:=by
  intro X Y hw N hc i F s σ H E I J st hg
  subst Y hw N
  obtain⟨xs,x,hq,hx⟩:=hg
  obtain⟨its,rv,p,hz⟩:=I.list hq
  obtain⟨u,hu,ru⟩:=rv.get hx
  obtain⟨f0,f1,f2,f3,Z,f5⟩:=J it (by simp)
  refine wpAny_pyNext_list_item st p.isList (x:=u) (by simpa using hu) fun h' G sb=>?_
  have I1:Inv X F σ H { s with heap:=h' }:=I.turned (t':=s.toks) (fun b o hb e=>(sb.2 b hb).trans e) f0 f1 f3 Z f5
  obtain⟨o,e,c,d⟩:=id G
  exact⟨u,rfl,bc8 (s:={ s with heap:=h' }) e c d (by decide) ⟨x,H,I1,ru,⟨rfl,fun ys hy=>by rw[I.list_inj hy hq];exact hx⟩,G,fun b hb=>(J b hb).1⟩⟩
 done:=by
  intro X Y hw N hc i F s σ H E I J st hg
  subst Y hw N
  obtain⟨xs,hq,hx⟩:=hg
  obtain⟨its,rv,p,hz⟩:=I.list hq
  obtain⟨f0,f1,f2,f3,Z,f5⟩:=J it (by simp)
  have hl:=rv.length
  exact wpAny_pyNext_list_end (I.ok.hd hc) st p.isList (by simp;omega) fun h' eb=>⟨rfl,I.turned (t':=s.toks) (fun b o hb e=>eb b o hb e) f0 f1 f3 Z f5⟩
 self:=fun _ _ _ _ _ st h=>wpAny_pyIter_listiter st h
theorem aL6 {P:aG}{w:World}{K:ac}{tg:Expr}(a it:Addr):Turn P w K tg (Itt K a) [it] it (fun i h=>h.IsTupleIter it a i) where
 mem:=by simp
 obj:=fun i h st b hb=>by
  have e:b=it:=by simpa using hb
  subst e
  obtain⟨o,e,c,d⟩:=st
  exact⟨o,e,fun v z=>by rw[d]at z;cases z⟩
 keep:=fun i h h' st k=>st.at fun o e=>k it (by simp) o e
 item:=by
  intro X Y hw N hc i F s σ H E I J st hg
  subst Y hw N
  obtain⟨xs,x,hq,hx⟩:=hg
  obtain⟨its,rv,p,hz⟩:=I.tuple hq
  obtain⟨u,hu,ru⟩:=rv.get hx
  obtain⟨f0,f1,f2,f3,Z,f5⟩:=J it (by simp)
  refine wpAny_pyNext_tuple_item st (show s.heap.IsTuple a its.toArray from p) (x:=u) (by simpa using hu) fun h' G sb=>?_
  have I1:Inv X F σ H { s with heap:=h' }:=I.turned (t':=s.toks) (fun b o hb e=>(sb.2 b hb).trans e) f0 f1 f3 Z f5
  obtain⟨o,e,c,d⟩:=id G
  exact⟨u,rfl,bc8 (s:={ s with heap:=h' }) e c d (by decide) ⟨x,H,I1,ru,⟨rfl,fun ys hy=>by rw[I.tuple_inj hy hq];exact hx⟩,G,fun b hb=>(J b hb).1⟩⟩
 done:=by
  intro X Y hw N hc i F s σ H E I J st hg
  subst Y hw N
  obtain⟨xs,hq,hx⟩:=hg
  obtain⟨its,rv,p,hz⟩:=I.tuple hq
  obtain⟨f0,f1,f2,f3,Z,f5⟩:=J it (by simp)
  have hl:=rv.length
  exact wpAny_pyNext_tuple_end (I.ok.hd hc) st (show s.heap.IsTuple a its.toArray from p) (by simp;omega) fun h' eb=>⟨rfl,I.turned (t':=s.toks) (fun b o hb e=>eb b o hb e) f0 f1 f3 Z f5⟩
 self:=fun _ _ _ _ _ st h=>wpAny_pyIter_tupleiter st h
theorem aM1 {P:aG}{w:World}{K:ac}{tg:Expr}(it:Addr)(J:Int)(n:Nat):Turn P w K tg (Itr J n) [it] it (fun i h=>IsRangeIter h it (J+(i:Nat)*1) ((n:Int) - (i:Nat)) 1) where
 mem:=by simp
 obj:=fun i h st b hb=>by
  have e:b=it:=by simpa using hb
  subst e
  exact⟨_,st,fun v z=>by
   have z':Data.fields _=Data.cell v:=z
   cases z'⟩
 keep:=fun i h h' st k=>k it (by simp) _ st
 item:=by
  intro X Z hw Y hc i F s σ H E I N st hg
  subst Z hw Y
  obtain⟨f0,f1,f2,f3,f4,f5⟩:=N it (by simp)
  have W:=Walks.range (prog:=X.prog) (w:=X.w) (I.ok.hd hc) it J 1 n
  refine W.item i s _ _ hg st fun v h' tk hv G kk=>?_
  obtain⟨t,rfl⟩:=hv
  have I1:Inv X F σ H { s with heap:=h',toks:=tk }:=I.turned (fun b o hb e=>kk b o (by simpa using hb) e) f0 f1 f3 f4 f5
  refine⟨_,rfl,bc8 (s:={ s with heap:=h',toks:=tk }) (n := "range_iterator") G rfl rfl (by decide) ⟨.int (J+i),H,I1,⟨t,?_⟩,⟨rfl,rfl⟩,G,fun b hb=>(N b hb).1⟩⟩
  rw[Int.mul_one]
 done:=by
  intro X Z hw Y hc i F s σ H E I N st hg
  subst Z hw Y
  obtain⟨f0,f1,f2,f3,f4,f5⟩:=N it (by simp)
  exact wpAny_pyNext_range_end (I.ok.hd hc) st (by have:n<=i:=hg;omega) fun h' eb=>⟨rfl,I.turned (t':=s.toks) (fun b o hb e=>eb b o hb e) f0 f1 f3 f4 f5⟩
 self:=fun _ _ _ _ _ st h=>wpAny_pyIter_rangeiter st h
section
variable {X:Cx} {tg:Expr}
def bl5 (K:ac)(tl:TE):TI:=fun σ H R=>tl σ H fun x H1=>∃ a,x=.ref a/\(∃ xs,SqL K H1 a xs)/\R (Itl K a) H1
def bS1 (K:ac)(tl:TE):TI:=fun σ H R=>tl σ H fun x H1=>∃ a,x=.ref a/\(∃ xs,SqT K H1 a xs)/\R (Itt K a) H1
theorem bo3 {l:Expr}{G:TE}(hl:PE X l G):PI X tg l (bl5 X.K G):=by
 intro z s σ H R I h
 refine thn (hl z s σ H _ I h) fun v s1 ⟨x,J,F,r1,N⟩=>?_
 obtain⟨a,e,⟨Z,hq⟩,q⟩:=N
 subst e
 cases r1
 obtain⟨its,Y,p,hz⟩:=F.list hq
 refine cC p.isList ?_
 refine⟨s1.heap.objs.size,[s1.heap.objs.size],_,_,J,rfl,F.kept (t':=s1.toks) fun b o e=>ar _ e,aQ7 a _,⟨_,aZ _ rfl,rfl,rfl⟩,fun b hb=>?_,q⟩
 have e:b=s1.heap.objs.size:=by simpa using hb
 subst e
 exact F.fpOk (ai _) (F.hok.fresh (ai _))
theorem bF2 {l:Expr}{G:TE}(hl:PE X l G):PI X tg l (bS1 X.K G):=by
 intro z s σ H R I h
 refine thn (hl z s σ H _ I h) fun v s1 ⟨x,J,F,r1,N⟩=>?_
 obtain⟨a,e,⟨Z,hq⟩,q⟩:=N
 subst e
 cases r1
 obtain⟨its,Y,p,hz⟩:=F.tuple hq
 refine gi (show s1.heap.IsTuple a its.toArray from p) ?_
 refine⟨s1.heap.objs.size,[s1.heap.objs.size],_,_,J,rfl,F.kept (t':=s1.toks) fun b o e=>ar _ e,aL6 a _,⟨_,aZ _ rfl,rfl,rfl⟩,fun b hb=>?_,q⟩
 have e:b=s1.heap.objs.size:=by simpa using hb
 subst e
 exact F.fpOk (ai _) (F.hok.fresh (ai _))
theorem aY3 {F:List (Addr×Obj)}{σ:St}{H:Hp}{s:ae}{R:It->Hp->Prop}{E:Value->ae->Prop}{h z:Int}{t u v:Tok}{tk:Nat}(I:Inv X F σ H s)(Y:-(2^62)<=h)(Z:h<2^62)(N:-(2^62)<=z)(J:z<2^62)
  (q:R (Itr h (z - h).toNat) H):wpAny (model X.prog X.w) X.A (iJ (.ref s.heap.objs.size)) (PIE X F σ tg R) E { s with heap:=s.heap.push { cls:=.type "range",data:=.fields #[.int h t,.int z u,.int 1 v] },toks:=tk }:=by
 refine wpAny_pyIter_range (IsRange.new ..) (small_one Y Z N J) ?_
 have G:Inv X F σ H { s with heap:=s.heap.push { cls:=.type "range",data:=.fields #[.int h t,.int z u,.int 1 v] },toks:=tk }:=I.kept fun b o e=>ar _ e
 refine⟨(s.heap.push { cls:=.type "range",data:=.fields #[.int h t,.int z u,.int 1 v] }).objs.size,[(s.heap.push { cls:=.type "range",data:=.fields #[.int h t,.int z u,.int 1 v] }).objs.size],_,_,H,rfl,
  G.kept (t':=tk) fun b o e=>ar _ e,aM1 _ h (z - h).toNat,?_,fun b hb=>?_,q⟩
 ·have e1:h+((0:Nat):Int)*1=h:=by simp
  have e2:(((z - h).toNat:Nat):Int) - ((0:Nat):Int)=iE h z 1:=by rw[rangeSize_one];split<;>omega
  show IsRangeIter _ _ (h+((0:Nat):Int)*1) ((((z - h).toNat:Nat):Int) - ((0:Nat):Int)) 1
  rw[e1,e2]
  exact aZ _ rfl
 ·have e:b=(s.heap.push { cls:=.type "range",data:=.fields #[.int h t,.int z u,.int 1 v] }).objs.size:=by simpa using hb
  subst e
  exact G.fpOk (ai _) (G.hok.fresh (ai _))
def bH1 (ta:TA):TI:=fun σ H R=>ta σ H fun vs H1=>∃ j:Int,vs=[.int j]/\-(2^62)<=j/\j<2^62/\R (Itr 0 j.toNat) H1
theorem aQ3 {a:Expr}{G:TA}{p pos:Pos}(hg:Gl X "range")(N:X.mg "range"=none)(ha:PA X [a] G)(hs:bu [a] X.env=[(false,eval a X.env)]:=by rfl):PI X tg (.Call (.Name "range" p) [a] [] pos) (bH1 G):=by
 intro z s σ H R I h
 refine Call_ (aI1 I hg N boot_range (dI (thn (ha pos z s σ H _ I h) fun us s1 ⟨vs,Y,J,r1,F⟩=>?_) hs rfl))
 obtain⟨j,e,F,q2,q⟩:=F
 subst e
 cases r1 with
 | cons r rr =>
  cases rr
  obtain⟨t,rfl⟩:=r
  exact call_range_1 (aY3 J (by omega) (by omega) F q2 (by simpa using q))
def bU7 (wi:TI)(g:TG)(tb:TS):TS:=fun D σ H=>wi σ H fun J H1=>∃ W:Nat->Nat->St->Hp->Prop,(∃ m,W 0 m σ H1)/\∀ i m σ H,W i m σ H ->
 (J.stop i H/\D.nx σ H)\/(J.go i H/\∃ N:St->Hp->Prop,(∀ σ' H',N σ' H'->∃ m',m'<m/\W (i+1) m' σ' H')/\∀ x H',J.yld i H x H'->g x σ H' fun σ2 H2=>tb { D with nx:=N,ct:=N,bk:=D.nx } σ2 H2)
noncomputable def aw9 (fp:List Addr)(h:Heap):List (Addr×Obj):=fp.filterMap fun b=>(h.get? b).map fun o=>(b,o)
theorem qg {z:List Addr}{h:Heap}{b:Addr}{o:Obj}(hb:b∈z)(e:h.get? b=some o):(b,o)∈aw9 z h:=dN.mpr ⟨b,hb,by rw[e];rfl⟩
theorem aN4 {z:List Addr}{h:Heap}{p:Addr×Obj}(F:p∈aw9 z h):p.1∈z/\h.get? p.1=some p.2:=by
 obtain⟨b,hb,e⟩:=dN.mp F
 cases q:h.get? b with
 | none=>rw[q]at e;cases e
 | some o =>
  rw[q]at e
  have e':(b,o)=p:=av e
  subst e'
  exact⟨hb,q⟩
theorem Inv.pinned {h:List (Addr×Obj)}{σ:St}{H:Hp}{s:ae}{F:List Addr}(I:Inv X h σ H s)(N:∀ b∈F,FpOk X h H b)(ho:∀ b∈F,∃ o,s.heap.get? b=some o/\∀ v,o.data≠.cell v):Inv X (h++aw9 F s.heap) σ H s :=
 I.pins_of fun p Z=>(bE.mp Z).elim (fun z=>I.pin p (aW _ z)) fun z=>by
  obtain⟨hb,e⟩:=aN4 z
  obtain⟨Y,G,J,_⟩:=N p.1 hb
  obtain⟨o,e',d⟩:=ho p.1 hb
  rw[e]at e';cases e'
  exact⟨e,Y,G,J,d⟩
theorem Inv.unpinned {h F:List (Addr×Obj)}{σ:St}{H:Hp}{s:ae}(I:Inv X (h++F) σ H s):Inv X h σ H s:=I.pins_of fun p z=>I.pin p (aW _ (fB _ z))
theorem bJ5 {iter:Expr}{body:List Stmt}{wi:TI}{g:TG}{tb:TS}{pos:Pos}(hp:PassesOwn (model X.prog X.w) X.A X.env X.xe)(hc:X.calm=true)(hi:PI X tg iter wi)(hg:PG X tg g)(hb:PSs X body tb)
  (hs:∀ x,cD iter X.env x=pure x:=by intro _;rfl):PS X (.For tg iter body [] pos) (bU7 wi g tb):=by
 intro z s σ H D I h
 refine wpAny_For (thn (hi z s σ H _ I h) fun v s1 h1=>thn h1 fun a6 s2 h2=>?_) hs
 obtain⟨it,fp,tn,J,H2,e,I2,T,a3,f2,W,⟨m0,w0⟩,turn⟩:=h2
 subst e
 have G:∀ {H':Hp},(∀ b∈fp,H' b=none)->∀ b∈fp,FpOk X z H' b:=fun hn b hb=>⟨hn b hb,(f2 b hb).2⟩
 refine codeAny_forLoop_any (fun n s'=>∃ i σ' H',Inv X z σ' H' s'/\tn i s'.heap/\(∀ b∈fp,H' b=none)/\W i n σ' H') ?_ m0 ⟨0,σ,H2,I2,a3,fun b hb=>(f2 b hb).1,w0⟩
 rintro n s3 ⟨i,σ3,H3,I3,a1,a2,w3⟩
 rcases turn i n σ3 H3 w3 with⟨stop,qn⟩|⟨go,N,hN,step⟩
 ·refine b7 hp (thn (T.done X rfl rfl rfl hc i z s3 σ3 H3 X.xe I3 (G a2) a1 stop) fun r s4 ⟨hr,I4⟩=>?_)
  subst hr
  exact fq ⟨σ3,H3,I4,qn⟩
 ·refine b7 hp (thn (T.item X rfl rfl rfl hc i z s3 σ3 H3 X.xe I3 (G a2) a1 go) fun r s4 ⟨u,hr,h4⟩=>?_)
  subst hr
  refine b7 hp (thn h4 fun _ s5 ⟨x,H5,I5,r5,y5,a0,a5⟩=>?_)
  have a4:=I5.pinned (G a5) (T.obj _ _ a0)
  refine b7 hp (thn (hg _ s5 σ3 H5 x u _ a4 r5 (step x H5 y5)) fun _ s6 ⟨σ6,H6,I6,q6⟩=>?_)
  refine b7 hp (thn (hb _ s6 σ6 H6 _ I6 q6) fun f s7 Z=>?_)
  have again:∀ {σ7:St} {F:Hp},Inv X (z++aw9 fp s5.heap) σ7 F s7->N σ7 F->∃ m,m<n/\∃ i σ' H',Inv X z σ' H' s7/\tn i s7.heap/\(∀ b∈fp,H' b=none)/\W i m σ' H':=fun {σ7 F} Y n7=>by
   obtain⟨m',hm,w7⟩:=hN σ7 F n7
   refine⟨m',hm,i+1,σ7,F,Y.unpinned,T.keep _ _ _ a0 fun b hb o e=>(Y.pin (b,o) (aW _ (aW _ (qg hb e)))).1,fun b hb=>?_,w7⟩
   obtain⟨o,e,d⟩:=T.obj _ _ a0 b hb
   exact(Y.pin (b,o) (aW _ (aW _ (qg hb e)))).2.1
  cases f with
  | next=>obtain⟨σ7,F,Y,n7⟩:=Z;exact again Y n7
  | cont=>obtain⟨σ7,F,Y,n7⟩:=Z;exact again Y n7
  | brk=>obtain⟨σ7,F,Y,Z⟩:=Z;exact⟨σ7,F,Y.unpinned,Z⟩
  | ret v=>obtain⟨x7,σ7,F,Y,r7,Z⟩:=Z;exact⟨x7,σ7,F,Y.unpinned,r7,Z⟩
end
abbrev R2:=V->V->Hp->VK->Prop
def OpR (X:Cx)(f:Value->Value->Sem Value)(r:R2):Prop :=
 ∀(pins:List (Addr×Obj)) (s:ae) (σ:St) (H:Hp) (x y:V) (v u:Value) (Q:VK),Inv X pins σ H s->RelV x v->RelV y u->r x y H Q ->
  wpAny (model X.prog X.w) X.A (f v u) (EP X pins σ Q) X.xe s
def UnR (X:Cx)(f:Value->Sem Value)(r:V->Hp->VK->Prop):Prop :=
 ∀(pins:List (Addr×Obj)) (s:ae) (σ:St) (H:Hp) (x:V) (v:Value) (Q:VK),Inv X pins σ H s->RelV x v->r x H Q ->
  wpAny (model X.prog X.w) X.A (f v) (EP X pins σ Q) X.xe s
def ai1 (X:Cx)(f:Value)(r:List V->Hp->VK->Prop):Prop :=
 ∀(pins:List (Addr×Obj)) (s:ae) (σ:St) (H:Hp) (xs:List V) (us:List Value) (Q:VK),Inv X pins σ H s->Vals xs us->r xs H Q ->
  wpAny (model X.prog X.w) X.A (call f us) (EP X pins σ Q) X.xe s
def tOp (r:R2)(ta tb:TE):TE:=fun σ H Q=>ta σ H fun x H1=>tb σ H1 fun y H2=>r x y H2 Q
def tUn (r:V->Hp->VK->Prop)(ta:TE):TE:=fun σ H Q=>ta σ H fun x H1=>r x H1 Q
def rI (C:Int->Int->Prop)(g:Int->Int->V):R2:=fun x y H Q=>∃ i j,x=.int i/\y=.int j/\C i j/\Q (g i j) H
def rI0 (g:Int->Int->V):R2:=fun x y H Q=>∃ i j,x=.int i/\y=.int j/\Q (g i j) H
def rU (g:Int->V):V->Hp->VK->Prop:=fun x H Q=>∃ i,x=.int i/\Q (g i) H
section
variable {X:Cx} {a b c:Expr} {ta tb tc:TE} {pos:Pos}
theorem bK4 (ha:PE X a ta)(hb:PE X b tb){z:List (Addr×Obj)}{s:ae}{σ:St}{H:Hp}{R:V->V->Hp->Prop}(I:Inv X z σ H s)
  (h:ta σ H fun x G=>tb σ G fun y F=>R x y F) {Q:Value->ae->Prop} {f:Value->Value->Sem Value}
  (hf:∀ v u s2 x y F,Inv X z σ F s2->RelV x v->RelV y u->R x y F->wpAny (model X.prog X.w) X.A (f v u) Q X.xe s2) :
  wpAny (model X.prog X.w) X.A (eval a X.env) (fun v N=>wpAny (model X.prog X.w) X.A (eval b X.env) (fun u Y=>wpAny (model X.prog X.w) X.A (f v u) Q X.xe Y) X.xe N) X.xe s:=by
 refine thn (ha z s σ H _ I h) fun v s1 ⟨x,G,J,r1,q1⟩=>?_
 refine thn (hb z s1 σ G _ J q1) fun u s2 ⟨y,F,Z,r2,q2⟩=>?_
 exact hf v u s2 x y F Z r1 r2 q2
theorem bO2 {op:Operator}{r:R2}(ho:OpR X (bM op) r)(ha:PE X a ta)(hb:PE X b tb):PE X (.BinOp a op b pos) (tOp r ta tb):=by
 intro z s σ H Q I h
 exact wpAny_BinOp (bK4 ha hb I h fun v u s2 x y F J G N q=>ho z s2 σ F x y v u Q J G N q)
theorem bR2 {op:UnaryOp}{r:V->Hp->VK->Prop}(ho:UnR X (unaryOp op) r)(ha:PE X a ta):PE X (.UnaryOp op a pos) (tUn r ta):=by
 intro z s σ H Q I h
 exact UnaryOp_ (thn (ha z s σ H _ I h) fun v s1 ⟨x,J,G,r1,F⟩=>ho z s1 σ J x v Q G r1 F)
theorem opI {f:Value->Value->Sem Value}{C:Int->Int->Prop}{g:Int->Int->Int}
  (z:∀(i j:Int) (t u:Tok) (s:ae) (Q:Value->ae->Prop) (E:Value->ae->Prop),C i j->Q (.int (g i j) s.toks) { s with toks:=s.toks+1 }->wpAny (model X.prog X.w) X.A (f (.int i t) (.int j u)) Q E s) :
  OpR X f (rI C fun i j=>.int (g i j)):=by
 intro F s σ H x y v u Q I G J h
 obtain⟨i,j,rfl,rfl,hc,q⟩:=h
 obtain⟨t,rfl⟩:=G
 obtain⟨t',rfl⟩:=J
 exact z i j t t' s _ _ hc ⟨.int (g i j),H,I.tok _,⟨_,rfl⟩,q⟩
theorem bU4 {f:Value->Value->Sem Value}{g:Int->Int->Int}
  (z:∀(i j:Int) (t u:Tok) (s:ae) (Q:Value->ae->Prop) (E:Value->ae->Prop),Q (.int (g i j) s.toks) { s with toks:=s.toks+1 }->wpAny (model X.prog X.w) X.A (f (.int i t) (.int j u)) Q E s) :
  OpR X f (rI0 fun i j=>.int (g i j)):=by
 intro F s σ H x y v u Q I G J h
 obtain⟨i,j,rfl,rfl,q⟩:=h
 obtain⟨t,rfl⟩:=G
 obtain⟨t',rfl⟩:=J
 exact z i j t t' s _ _ ⟨.int (g i j),H,I.tok _,⟨_,rfl⟩,q⟩
theorem bK9 {f:Value->Value->Sem Value}{g:Int->Int->Bool}
  (z:∀(i j:Int) (t u:Tok) (s:ae) (Q:Value->ae->Prop) (E:Value->ae->Prop),Q (.bool (g i j)) s->wpAny (model X.prog X.w) X.A (f (.int i t) (.int j u)) Q E s) :
  OpR X f (rI0 fun i j=>.bl (g i j)):=by
 intro F s σ H x y v u Q I G J h
 obtain⟨i,j,rfl,rfl,q⟩:=h
 obtain⟨t,rfl⟩:=G
 obtain⟨t',rfl⟩:=J
 exact z i j t t' s _ _ ⟨.bl (g i j),H,I,rfl,q⟩
def bU2 (i j:Int):Prop:=0<=j/\j<=1000000/\i.natAbs<2^64
def bL3 (i j:Int):Prop:=(-(2^64)<i/\i<2^64)\/(-(2^64)<j/\j<2^64)
theorem bL3.ok {i j:Int}(h:bL3 i j):IntMulOk i j:=by
 rcases h with⟨F,z⟩|⟨F,z⟩
 ·exact .of_left (intBits_le_64 F z)
 ·exact .of_right (intBits_le_64 F z)
theorem aK4 (k:Nat):(0:Int)<=2^k:=by
 rw[two_pow_cast]
 exact Int.natCast_nonneg _
theorem bz6:OpR X (bM .Add) (rI0 fun i j=>.int (i+j)):=bU4 fun _ _ _ _ _ _ _ q=>add_int q
theorem bz1:OpR X (bM .Sub) (rI0 fun i j=>.int (i - j)):=bU4 fun _ _ _ _ _ _ _ q=>sub_int q
theorem bD0:OpR X (bM .Mod) (rI (fun _ j=>0<j) fun i j=>.int (i % j)):=opI fun i j _ _ _ _ _ hc q=>by
 have h:(0:Int)<j:=hc
 exact mod_int' (by omega) (by rw[Int.fmod_eq_emod_of_nonneg i (by omega)];exact q)
theorem bG6:OpR X (bM .Pow) (rI bU2 fun i j=>.int (i^j.toNat)):=opI fun _ _ _ _ _ _ _ hc q=>pow_int_small hc.1 hc.2.1 hc.2.2 q
theorem bC5:OpR X (bM .LShift) (rI bU2 fun i j=>.int (i*2^j.toNat)):=opI fun _ _ _ _ _ _ _ hc q=>lshift_int_small hc.1 hc.2.1 hc.2.2 q
theorem bz8:OpR X (bM .RShift) (rI (fun _ j=>0<=j) fun i j=>.int (i / 2^j.toNat)):=opI fun i j _ _ _ _ _ hc q =>
 rshift_int hc (by rw[dP i (aK4 _)];exact q)
theorem unI {f:Value->Sem Value}{g:Int->Int}
  (z:∀(i:Int) (t:Tok) (s:ae) (Q:Value->ae->Prop) (E:Value->ae->Prop),Q (.int (g i) s.toks) { s with toks:=s.toks+1 }->wpAny (model X.prog X.w) X.A (f (.int i t)) Q E s) :
  UnR X f (rU fun i=>.int (g i)):=by
 intro F s σ H x v Q I G h
 obtain⟨i,rfl,q⟩:=h
 obtain⟨t,rfl⟩:=G
 exact z i t s _ _ ⟨.int (g i),H,I.tok _,⟨_,rfl⟩,q⟩
theorem bv1:UnR X (unaryOp .USub) (rU fun i=>.int (-i)):=unI fun _ _ _ _ _ q=>neg_int q
end
section
variable {X:Cx} {a b c:Expr} {ta tb tc:TE} {pos:Pos}
theorem bQ5:OpR X (cz .Lt) (rI0 fun i j=>.bl (decide (i<j))):=bK9 fun _ _ _ _ _ _ _ q=>lt_int q
theorem bS8:OpR X (cz .LtE) (rI0 fun i j=>.bl (decide (i<=j))):=bK9 fun _ _ _ _ _ _ _ q=>le_int q
theorem bQ2:OpR X (cz .Gt) (rI0 fun i j=>.bl (decide (j<i))):=bK9 fun _ _ _ _ _ _ _ q=>gt_int q
theorem bN6:OpR X (cz .GtE) (rI0 fun i j=>.bl (decide (j<=i))):=bK9 fun _ _ _ _ _ _ _ q=>ge_int q
theorem aP9 {op:CmpOp}{r:R2}(ho:OpR X (cz op) r)(ha:PE X a ta)(hb:PE X b tb)(N:f7 op b=false):PE X (.Compare a [op] [b] pos) (tOp r ta tb):=by
 intro z s σ H Q I h
 exact wpAny_Compare1 (bK4 ha hb I h fun v u s2 x y F J G Y q=>ho z s2 σ F x y v u Q J G Y q) N
def bB4 (t:TE):TT:=fun σ H Q=>t σ H fun x H'=>∃ k,x=.bl k/\Q k H'
theorem aU1 {op:CmpOp}{r:R2}(ho:OpR X (cz op) r)(ha:PE X a ta)(hb:PE X b tb)(N:f7 op b=false):PT X (.Compare a [op] [b] pos) (bB4 (tOp r ta tb)):=by
 intro F s σ H Q I h
 refine wpAny_isTrue_Compare1 (thn (ha F s σ H _ I h) fun v s1 ⟨x,Y,G,r1,q1⟩=>thn (hb F s1 σ Y _ G q1) fun u s2 ⟨y,H2,I2,r2,q2⟩ =>
  thn (ho F s2 σ H2 x y v u _ I2 r1 r2 q2) fun c s3 ⟨z,J,I3,Z,k,e,q3⟩=>?_) N
 subst e
 cases Z
 exact b8 ⟨J,I3,q3⟩
theorem aq0:(aD:Nat)<2^63:=by rw[d3];decide
theorem aJ9:OpR X (bM .Add) (fun x y H Q=>∃ i j,x=.str i/\y=.str j/\i.length+j.length<=aD/\Q (.str (i++j)) H):=by
 intro z s σ H x y v u Q I F G h
 obtain⟨i,j,rfl,rfl,hz,q⟩:=h
 obtain⟨t,rfl⟩:=F
 obtain⟨t',rfl⟩:=G
 exact add_str (fun t' tk=>⟨.str (i++j),H,I.tok _,⟨_,rfl⟩,q⟩) hz
theorem am7 {x:V}{us:List Value}(r:Vals [x] us):∃ u,us=[u]/\RelV x u:=by
 cases r with
 | cons r1 r2=>cases r2;exact⟨_,rfl,r1⟩
theorem bj5 {x y:V}{us:List Value}(r:Vals [x,y] us):∃ u h,us=[u,h]/\RelV x u/\RelV y h:=by
 cases r with
 | cons r1 r2 =>
  cases r2 with
  | cons r3 r4=>cases r4;exact⟨_,_,rfl,r1,r3⟩
theorem ba2:ai1 X (.builtin "abs") (fun z H Q=>∃ i,z=[.int i]/\Q (.int (if i<0 then -i else i)) H):=by
 intro F s σ H z us Q I r h
 obtain⟨i,rfl,q⟩:=h
 obtain⟨u,rfl,t,rfl⟩:=am7 r
 exact call_abs_int fun u tk=>⟨.int (if i<0 then -i else i),H,I.tok _,⟨_,rfl⟩,q⟩
theorem aS3 (hc:X.calm=true):ai1 X (.builtin "max") (fun F H Q=>∃ i j,F=[.int i,.int j]/\Q (.int (if j > i then j else i)) H):=by
 intro z s σ H F us Q I r h
 obtain⟨i,j,rfl,q⟩:=h
 obtain⟨u,G,rfl,⟨t,rfl⟩,⟨t',rfl⟩⟩:=bj5 r
 refine max_two_ints (I.ok.hd hc) fun h' tk k=>⟨_,H,I.kept k,?_,q⟩
 by_cases hj:j > i
 ·rw[if_pos hj,if_pos hj];exact⟨_,rfl⟩
 ·rw[if_neg hj,if_neg hj];exact⟨_,rfl⟩
theorem aT4 (hc:X.calm=true):ai1 X (.builtin "min") (fun F H Q=>∃ i j,F=[.int i,.int j]/\Q (.int (if j<i then j else i)) H):=by
 intro z s σ H F us Q I r h
 obtain⟨i,j,rfl,q⟩:=h
 obtain⟨u,G,rfl,⟨t,rfl⟩,⟨t',rfl⟩⟩:=bj5 r
 refine min_two_ints (I.ok.hd hc) fun h' tk k=>⟨_,H,I.kept k,?_,q⟩
 by_cases hj:j<i
 ·rw[if_pos hj,if_pos hj];exact⟨_,rfl⟩
 ·rw[if_neg hj,if_neg hj];exact⟨_,rfl⟩
theorem aV7:ai1 X (.type "int") (fun z H Q=>(∃ i,z=[.int i]/\Q (.int i) H)\/∃ k,z=[.bl k]/\Q (.int (if k then 1 else 0)) H):=by
 intro F s σ H z us Q I r h
 rcases h with⟨i,rfl,q⟩|⟨k,rfl,q⟩
 ·obtain⟨u,rfl,t,rfl⟩:=am7 r
  exact call_int_int ⟨.int i,H,I,⟨_,rfl⟩,q⟩
 ·obtain⟨u,rfl,r1⟩:=am7 r
  cases r1
  exact call_int_bool ⟨.int (if k then 1 else 0),H,I.tok _,⟨_,rfl⟩,q⟩
end
structure ObjM (h:Heap)(x dx C:Addr)(mA:Str->Option Value):Prop where
 obj:h.get? x=some (fo C dx)
 ns:h.Ns1 dx mA
 ne:dx≠x
theorem aU9 {h:Heap}{J:Addr}{G:Str->Option Value}(n:h.Ns1 J G):∃ od,h.get? J=some od/\∀ name,fD name od=some (G name):=by
 obtain⟨o,es,Z,ho,hd,hk,_,Y⟩:=n
 refine⟨o,ho,fun name=>?_⟩
 have e:=Y name
 unfold nsFind findBy at e
 rw[<-Array.find?_toList]at e
 unfold fD
 rw[hd]
 dsimp only
 split
 ·rename_i y q
  rw[q]at e
  exact congrArg some e
 ·rename_i q
  rw[q]at e
  have a:es.toList.any (·.refKey)=false:=by
   rw[List.any_eq_false]
   intro y hy
   obtain⟨z,t,F⟩:=hk y (Array.mem_toList_iff.mp hy)
   simp[DictEntry.refKey,F]
  have N:¬ es.toList.any (·.refKey)=true:=by rw[a];exact aS
  rw[if_neg N]
  exact congrArg some e
theorem ObjM.look {h:Heap}{x F C:Addr}{z:Str->Option Value}(I:ObjM h x F C z):∃ od,PySem.W.InstAt h x (fo C F) C (some od)/\∀ name,fD name od=some (z name) :=
 let⟨od,ho,hl⟩:=aU9 I.ns
 ⟨od,⟨I.obj,rfl,rfl,ho⟩,hl⟩
section
variable {prog:aG} {w:World} {A:aR} {E:Value->ae->Prop} {s:ae} {K:ac} {x dx C f:Addr} {mA:Str->Option Value} {name:Str} {v:Value}
end
theorem aJ3.some_of {v:V}{o:Option Value}(r:aJ3 (some v) o):∃ u,o=some u/\RelV v u:=by
 cases o with
 | none=>exact(show False from r).elim
 | some u=>exact⟨u,rfl,r⟩
section
variable {P:aG} {w:World} {H H':Hp} {h h':Heap} {a C dx:Addr} {fs fs':List (Str×V)}
theorem bm7 (hok:HOk P w H h)(e:H a=some (.ins C dx fs)):∃ F,ObjM h a dx C F/\(∀ f,aJ3 (fs.lookup f) (F f))/\iI F (fs.map (·.1))/\fs.length<=1000/\H dx=some (.own a):=by
 obtain⟨d,z,ne,ob,F,n,r,q⟩:=(show ah8 P w H h a (.ins C dx fs)from hok a _ e)
 exact⟨F,⟨ob,n,ne⟩,r,q,z,d⟩
end
structure Cls (K:ac)(C:Addr):Prop where
 pg:gL K C Str.empty=true
 hd:PySem.W.hasDictIn K C=true
 po:PySem.W.plainOver K C=true
 sa:cF K (.ref C) "__setattr__"=some (some (.builtin "object.__setattr__"))
theorem Cls.get {K:ac}{C:Addr}(c:Cls K C)(f:Str):gL K C f=true:=c.pg
section
variable {X:Cx} {pins:List (Addr×Obj)} {σ:St} {H:Hp} {s:ae} {a C dx:Addr} {fs:List (Str×V)} {f:Str} {v:V} {A:aR} {E:Value->ae->Prop}
end
section
variable {X:Cx} {o e value:Expr} {f:Str} {pos pos' tpos:Pos} {ta tv:TE}
end
section
variable {X:Cx} {pins:List (Addr×Obj)} {σ:St} {H:Hp} {s:ae} {A:aR} {E:Value->ae->Prop} {Q:Value->ae->Prop} {c:Value} {b:Bool}
inductive TyOf (K:ac)(H:Hp):V->Value->Prop where
 | non:TyOf K H .non (.type "NoneType")
 | bl (x:Bool):TyOf K H (.bl x) (.type "bool")
 | int (i:Int):TyOf K H (.int i) (.type "int")
 | str (x:Str):TyOf K H (.str x) (.type "str")
 | flt (x:UInt64):TyOf K H (.flt x) (.type "float")
 | lst {a:Addr} {xs:List V} (e:H a=some (.lst xs)):TyOf K H (.ref a) (.type "list")
 | frz {a:Addr} {o:Obj} {xs:List V} (e:H a=some (.frz o (.lst xs))):TyOf K H (.ref a) (.type "list")
 | tup {a:Addr} {xs:List V} (e:H a=some (.tup xs)):TyOf K H (.ref a) (.type "tuple")
 | dK {a:Addr} {kvs:List (Key×V)} (e:H a=some (.dK kvs)):TyOf K H (.ref a) (.type "dict")
 | dT {a:Addr} {kvs:List (List Key×V)} (e:H a=some (.dT kvs)):TyOf K H (.ref a) (.type "dict")
 | ins {a C dx:Addr} {fs:List (Str×V)} (e:H a=some (.ins C dx fs)) (cl:Cls K C) (ha:cF K (.ref C) "__class__"=some (some (.builtin "object.__class__")))
   (hn:gA K (.builtin "object.__class__") "__get__"=some (some (.builtin "getset_descriptor.__get__"))) (htk:gZ K (.builtin "object.__class__")=some true)
   (hm:iA K C (.type "object")=some true):TyOf K H (.ref a) (.ref C)
theorem qd {x:V}{u t:Value}(I:Inv X pins σ H s)(F:RelV x u)(Z:TyOf X.K H x t)(e:bQ X.K t c=some b)(h:∀ tk,Q (.bool b) { s with toks:=tk }) :
  wpAny (model X.prog X.w) A (call (.builtin "isinstance") [u,c]) Q E s:=by
 cases Z with
 | non=>cases(show u=Value.none from F);exact bz PySem.W.kitx_none I.kIn True.intro e (fun z=>nomatch z) h
 | bl y=>cases(show u=Value.bool y from F);exact bz PySem.W.kitx_bool I.kIn True.intro e (fun z=>nomatch z) h
 | int i=>obtain⟨t,q⟩:=(show ∃ t,u=Value.int i t from F);cases q;exact bz PySem.W.kitx_int I.kIn True.intro e (fun z=>nomatch z) h
 | str y=>obtain⟨t,q⟩:=(show ∃ t,u=Value.str y t from F);cases q;exact bz PySem.W.kitx_str I.kIn True.intro e (fun z=>nomatch z) h
 | flt y=>obtain⟨t,q⟩:=(show ∃ t,u=Value.float y t from F);cases q;exact bz PySem.W.kitx_float I.kIn True.intro e (fun z=>nomatch z) h
 | @lst a N ea =>
  cases(show u=Value.ref a from F)
  obtain⟨_,_,n,_,G⟩:=(show ah8 X.prog X.w H s.heap a (.lst N)from I.hok a _ ea)
  exact bz gB I.kIn ⟨_,G,rfl⟩ e (fun z=>nomatch z) h
 | @frz a ob N ea =>
  cases(show u=Value.ref a from F)
  obtain⟨_,_,_,n,_,G⟩:=(show ah8 X.prog X.w H s.heap a (.frz ob (.lst N))from I.hok a _ ea)
  exact bz gB I.kIn ⟨_,G,rfl⟩ e (fun z=>nomatch z) h
 | @tup a N ea =>
  cases(show u=Value.ref a from F)
  obtain⟨_,_,_,p⟩:=(show ah8 X.prog X.w H s.heap a (.tup N)from I.hok a _ ea)
  obtain⟨o,G,Y,_⟩:=p
  exact bz gj I.kIn ⟨o,G,Y⟩ e (fun z=>nomatch z) h
 | @dK a kvs ea =>
  cases(show u=Value.ref a from F)
  obtain⟨_,_,vs,_,p⟩:=(show ah8 X.prog X.w H s.heap a (.dK kvs)from I.hok a _ ea)
  obtain⟨o,es,ep,G,Y,_⟩:=p
  exact bz gC I.kIn ⟨o,G,Y.1⟩ e (fun z=>nomatch z) h
 | @dT a kvs ea =>
  cases(show u=Value.ref a from F)
  obtain⟨_,_,N,_,o,es,ep,G,Y,_⟩:=(show ah8 X.prog X.w H s.heap a (.dT kvs)from I.hok a _ ea)
  exact bz gC I.kIn ⟨o,G,Y.1⟩ e (fun z=>nomatch z) h
 | @ins a C dx fs ea cl ha hn htk hm =>
  cases(show u=Value.ref a from F)
  obtain⟨mA,O,_⟩:=bm7 I.hok ea
  obtain⟨od,J,_⟩:=O.look
  exact bz (PySem.W.kitx_own (cl.get _) cl.hd ha hn htk hm) I.kIn J e (fun z=>nomatch z) h
end
structure Room (k:Nat)(A:aR):Prop where
 hd:A.handled=none
 dp:A.depth+3*k+5<recursionLimit
 un:A.units+16*k+200<cLine
theorem Room.mono {j k:Nat}{A:aR}(r:Room k A)(h:j<=k):Room j A:=⟨r.hd,by have:=r.dp;omega,by have:=r.un;omega⟩
theorem Room.deeper {k:Nat}{A:aR}(r:Room (k+1) A)(env:Env):Room k (A.deeper env) :=
 ⟨r.hd,by have:=r.dp;show A.depth+1+3*k+5<_;omega,by have:=r.un;show A.units+3+16*k+200<_;omega⟩
theorem Room.in1 {k:Nat}{A:aR}(r:Room (k+1) A):Room k A.in1 :=
 ⟨r.hd,by have:=r.dp;show A.depth+3*k+5<_;omega,by have:=r.un;show A.units+1+16*k+200<_;omega⟩
theorem Room.depth {k:Nat}{A:aR}(r:Room k A):A.depth<recursionLimit:=by have:=r.dp;omega
theorem Room.units {k:Nat}{A:aR}(r:Room k A):A.units+64<cLine:=by have:=r.un;omega
theorem Room.units0 {k:Nat}{A:aR}(r:Room k A):A.units<cLine:=by have:=r.un;omega
def bq3:TA:=fun _ H Q=>Q [] H
def aK3 (ta:TE)(tr:TA):TA:=fun σ H Q=>ta σ H fun x H1=>tr σ H1 fun xs H2=>Q (x::xs) H2
section
variable {X:Cx} {e:Expr} {es:List Expr} {te:TE} {t:TA} {pos:Pos}
theorem am4:PA X [] bq3:=fun _ _ _ _ H Q I h=>Calls.spliced_nil ⟨[],H,I,.nil,h⟩
theorem qa (ha:PE X e te)(hr:PA X es t)(hs:bu (e::es) X.env=(false,eval e X.env)::bu es X.env:=by rfl):PA X (e::es) (aK3 te t):=by
 intro pos z s σ H Q I h
 rw[hs]
 show wpAny _ _ (spliced ((false,eval e X.env)::dz pos (bu es X.env))) _ _ s
 refine Calls.spliced_cons (thn (ha z s σ H _ I h) fun u s1 ⟨x,H1,J,r1,F⟩=>?_)
 exact thn (hr pos z s1 σ H1 _ J F) fun us s2 ⟨G,Y,Z,N,q2⟩=>⟨x::G,Y,Z,.cons r1 N,q2⟩
def bV8 (t:TA):TE:=fun σ H Q=>t σ H fun xs H1=>xs.length<=aD/\∀ p,H1 p=none->Q (.ref p) (upd H1 p (.tup xs))
def bY4 (t:TA):TE:=fun σ H Q=>t σ H fun xs H1=>xs.length<=aD/\∀ p,H1 p=none->Q (.ref p) (upd H1 p (.lst xs))
theorem bC3 {x1}(h:PA X es t):PE X (.Tuple es x1 pos) (bV8 t):=by
 intro F s σ H Q I hq
 refine wpAny_Tuple_spliced (thn (h pos F s σ H _ I hq) fun us s1 ⟨Y,J,G,r,z,q⟩=>⟨by rw[<-r.length];exact z,?_⟩)
 have N:J s1.heap.objs.size=none:=G.hok.fresh (ai _)
 refine⟨.ref s1.heap.objs.size,upd J s1.heap.objs.size (.tup Y),G.laid (t':=s1.toks) (fun b u e=>ar _ e) (ai _) ?_,rfl,q _ N⟩
 exact⟨z,us,r,⟨_,aZ _ rfl,rfl,_,rfl⟩⟩
theorem bg5 (h:PA X es t):PE X (.List es pos) (bY4 t):=by
 intro F s σ H Q I hq
 refine wpAny_List_spliced (thn (h pos F s σ H _ I hq) fun us s1 ⟨Y,J,G,r,z,q⟩=>⟨by rw[<-r.length];exact z,?_⟩)
 have N:J s1.heap.objs.size=none:=G.hok.fresh (ai _)
 refine⟨.ref s1.heap.objs.size,upd J s1.heap.objs.size (.lst Y),G.laid (t':=s1.toks) (fun b u e=>ar _ e) (ai _) ?_,rfl,q _ N⟩
 exact⟨z,us,0,r,aZ _ rfl⟩
end
abbrev Sp:=List V->Hp->VK->XK->Prop
abbrev CXT:=List Env->Hp->ae->XK->Value->ae->Prop
structure Env0 (P:aG)(w:World)(K:ac)(mg:Str->Option Value)(base:Heap)(A:aR)(outer:List Env)(s:ae)(H:Hp):Prop where
 frames:A.frames=some outer
 mod:Mod K mg base
 bs:∀ b o,base.get? b=some o->s.heap.get? b=some o/\H b=none
 bsz:base.objs.size<=s.heap.objs.size
 funs:s.heap.FunFrames base outer
 frf:∀ b∈frs outer,H b=none
 hok:HOk P w H s.heap
 bare:dG s.gens
def CE (outer:List Env)(P:aG)(w:World)(H:Hp)(s:ae)(Q:VK)(u:Value)(s':ae):Prop :=
 ∃ v H',s'.os=s.os/\dG s'.gens/\Un (frs outer) [] H H' s.heap s'.heap/\HOk P w H' s'.heap/\RelV v u/\Q v H'
def CR (CX:CXT)(outer:List Env)(P:aG)(w:World)(H:Hp)(s:ae)(Q:VK)(E:XK)(r:hZ)(s':ae):Prop :=
 match r with
 | .ok (.ret u)=>CE outer P w H s Q u s'
 | .ok _=>False
 | .error e=>CX outer H s E e s'
structure FnOk (P:aG)(w:World)(K:ac)(mg:Str->Option Value)(base:Heap)(CX:CXT)(k:Nat)(f:Addr)(fd:bJ)(ps:List Str)(sp:Sp):Prop where
 len:∀ vs H Q E,sp vs H Q E->vs.length=ps.length
 run:∀(A:aR) (outer:List Env) (s:ae) (H:Hp) (args:Args) (us:List Value) (vs:List V) (Q:VK) (E:XK),Room k A->Env0 P w K mg base A outer s H->hJ s fd args (ps.zip us)->Vals vs us->sp vs H Q E ->
  fP (model P w) A (.call (.ref f) args) (CR CX outer P w H s Q E) s
theorem FnOk.imp {P:aG}{w:World}{K:ac}{Y:Str->Option Value}{base:Heap}{N:CXT}{k:Nat}{f:Addr}{J:bJ}{ps:List Str}{sp G:Sp}(F:FnOk P w K Y base N k f J ps sp)
  (h:∀ vs H Q E,G vs H Q E->sp vs H Q E):FnOk P w K Y base N k f J ps G :=
 ⟨fun vs H Q E q=>F.len vs H Q E (h _ _ _ _ q),fun A z s H args us vs Q E Z he hb hv hs=>F.run A z s H args us vs Q E Z he hb hv (h _ _ _ _ hs)⟩
section
variable {X:Cx} {pins:List (Addr×Obj)} {σ:St} {H:Hp} {s s':ae}
theorem Inv.env0 (I:Inv X pins σ H s):Env0 X.prog X.w X.K X.mg X.base X.A X.stack s H :=
 ⟨I.ok.frames,I.ok.mod,I.bs,aj I.ok.bsz I.sz,I.stack,I.stkFree,I.hok,I.bare⟩
theorem Inv.after {Q:VK}{u:Value}(I:Inv X pins σ H s)(h:CE X.stack X.prog X.w H s Q u s'):EP X pins σ Q u s':=by
 obtain⟨v,H',os,bare,un,hok,r,q⟩:=h
 obtain⟨G,g,d,t,F⟩:=s'
 obtain rfl:F=s.os:=os
 exact⟨v,H',I.call (h':=G) (g':=g) (d':=d) (t':=t) (ch:=[]) un hok bare (fun b z=>absurd z (by simp)),r,q⟩
end
def aM2 (sp:Sp)(dvs:List V)(E:XK)(t:TA):TE:=fun σ H Q=>t σ H fun vs H1=>sp (vs++dvs) H1 Q E
def Binds (K:ac)(fd:bJ)(ps:List Str)(ds:List Value):Prop :=
 ∀(s:ae) (us:List Value),K.In s.heap->(us++ds).length=ps.length->hJ s fd ⟨us,[]⟩ (ps.zip (us++ds))
theorem Binds.all {K:ac}{z:bJ}{ps:List Str}(h:∀ us:List Value,us.length=ps.length->c6 z ⟨us,[]⟩=pure (ps.zip us)):Binds K z ps []:=fun s us _ hl=>by
 rw[bf]at hl ⊢
 exact .of_eq (h us hl)
def aH0 (CX:CXT)(X:Cx)(E:XK):Prop:=∀(pins:List (Addr×Obj)) (σ:St) (H:Hp) (s:ae) (e:Value) (s':ae),Inv X pins σ H s->CX X.stack H s E e s'->X.xe e s'
section
variable {X:Cx} {CX:CXT} {k:Nat} {f C:Addr} {fd:bJ} {ps:List Str} {sp:Sp} {dvs:List V} {ds:List Value} {E:XK} {x m:Str} {p pos apos:Pos} {e o:Expr} {es:List Expr} {ta:TE} {t:TA}
theorem bj3 {z:List (Addr×Obj)}{σ:St}{H:Hp}{s:ae}{Q:VK}{us:List Value}{vs:List V}(F:FnOk X.prog X.w X.K X.mg X.base CX k f fd ps sp)(J:Room k X.A)(hb:Binds X.K fd ps ds)(hd:Vals dvs ds)(hx:aH0 CX X E)
  (I:Inv X z σ H s) (r:Vals vs us) (h:sp (vs++dvs) H Q E):wpAny (model X.prog X.w) X.A (call (.ref f) us) (EP X z σ Q) X.xe s:=by
 have G:Vals (vs++dvs) (us++ds):=r.append hd
 have hl:(us++ds).length=ps.length:=by rw[<-G.length];exact F.len _ _ _ _ h
 refine wpAny_call (gD (F.run X.A X.stack s H ⟨us,[]⟩ (us++ds) (vs++dvs) Q E J I.env0 (hb s us I.kIn hl) G h) fun r s' hq=>?_)
 cases r with
 | error e=>exact hx z σ H s e s' I hq
 | ok fl =>
  cases fl with
  | ret u=>exact I.after hq
  | next=>exact bH hq
  | brk=>exact bH hq
  | cont=>exact bH hq
theorem bo2 (F:FnOk X.prog X.w X.K X.mg X.base CX k f fd ps sp)(Y:Room k X.A)(hg:Gl X x)(Z:X.mg x=some (.ref f))(hk:bV X.K (.ref f)=true)(hb:Binds X.K fd ps ds)(hd:Vals dvs ds)(hx:aH0 CX X E)
  (ha:PA X (e::es) t) (G:(x==("__debug__":Str))=false:=by decide) (he:bu (e::es) X.env=(false,eval e X.env)::bu es X.env:=by rfl) (J:(dz pos (bu es X.env)).any (·.1)=false:=by rfl) :
  PE X (.Call (.Name x p) (e::es) [] pos) (aM2 sp dvs E t):=by
 intro z s σ H Q I h
 refine cU (aD4 I hg Z ?_ G)
 refine PySem.W.callWith_K (h₀:=X.base) I.ok.mod.kin hk (thn (ha pos z s σ H _ I h) fun us s1 ⟨vs,H1,N,r,q⟩=>⟨N.kIn,?_⟩) he J
 exact bj3 F Y hb hd hx N r q
theorem bb8 (F:FnOk X.prog X.w X.K X.mg X.base CX k f fd ps sp)(J:Room k X.A)(hg:Gl X x)(N:X.mg x=some (.ref f))(hk:bV X.K (.ref f)=true)(hb:Binds X.K fd ps ds)(hd:Vals dvs ds)(hx:aH0 CX X E)
  (z:(x==("__debug__":Str))=false:=by decide):PE X (.Call (.Name x p) [] [] pos) (aM2 sp dvs E bq3):=by
 intro G s σ H Q I h
 refine cU (aD4 I hg N ?_ z)
 exact PySem.W.callWith_K0 I.kIn hk (bj3 (us:=[]) F J hb hd hx I .nil h)
structure Mk (K:ac)(C f:Addr):Prop where
 makes:PySem.W.makesIn K C=true
 init:cF K (.ref C) "__init__"=some (some (.ref f))
 fn:PySem.W.isFn K (.ref f)=true
 kp:bV K (.ref C)=true
end
section
variable {X:Cx} {CX:CXT} {k:Nat} {f C:Addr} {fd:bJ} {ps ks:List Str} {sp:Sp} {E:XK} {x m:Str} {p pos apos kpos:Pos} {e o:Expr} {es:List Expr} {kws:List hU} {te ta:TE} {t tk:TA} {nm:Option Str}
variable {g:List Value->List Value->List Value} {gV:List V->List V->List V}
end
structure FnScope (N P:List Str)(sc:Scope):Prop where
 kind:sc.kind=.function
 co:sc.isCoroutine=false
 gen:sc.isGenerator=false
 nd:N.Nodup
 pre:N.take P.length=P
 par:∀ x∈P,sc.names.lookup x=some .local\/sc.names.lookup x=some .cell
 nofree:∀ y∈sc.names,y.2≠.free
theorem az1 {dh:Str->Option bR}{x:Str}:∀ {binds:List (Str×Value)} {m:Str->Option Value},(∀ v,(x,v) ∉ binds)->bindL dh binds m x=m x
 | [],_,_=>rfl
 | (n,v)::r,m,h=>by
  unfold bindL
  rw[az1 fun w hw=>h w (aw _ hw)]
  split
  ·have:x≠n:=by rintro rfl;exact h v az
   simp[this]
  ·rfl
theorem aA2 {dh:Str->Option bR}{x:Str}:∀ {binds:List (Str×Value)} {m:Str->Option Value},(∀ v,(x,v) ∉ binds)->bindC dh binds m x=m x
 | [],_,_=>rfl
 | (n,v)::r,m,h=>by
  unfold bindC
  rw[aA2 fun w hw=>h w (aw _ hw)]
  split
  ·rfl
  ·have:x≠n:=by rintro rfl;exact h v az
   simp[this]
theorem ao4 {dh:Str->Option bR}{x:Str}{v:Value}:∀ {P:List Str} {vs:List Value} {i:Nat} {m:Str->Option Value},P.Nodup->P[i]?=some x->vs[i]?=some v->dh x=some .local ->
  bindL dh (P.zip vs) m x=some v
 | [],_,_,_,_,h,_,_=>by simp at h
 | _::_,[],_,_,_,_,h,_=>by simp at h
 | p::P,w::vs,0,m,nd,h1,h2,hk=>by
  simp at h1 h2;subst h1;subst h2
  show bindL dh ((p,w)::P.zip vs) m p=_
  unfold bindL
  rw[az1 fun v hv=>(dB.mp nd).1 (cQ hv).1,if_pos hk]
  simp
 | p::P,w::vs,i+1,m,nd,h1,h2,hk=>by
  show bindL dh ((p,w)::P.zip vs) m x=_
  unfold bindL
  exact ao4 (i:=i) (dB.mp nd).2 (by simpa using h1) (by simpa using h2) hk
theorem ap6 {dh:Str->Option bR}{x:Str}{v:Value}:∀ {P:List Str} {vs:List Value} {i:Nat} {m:Str->Option Value},P.Nodup->P[i]?=some x->vs[i]?=some v->dh x≠some .local ->
  bindC dh (P.zip vs) m x=some v
 | [],_,_,_,_,h,_,_=>by simp at h
 | _::_,[],_,_,_,_,h,_=>by simp at h
 | p::P,w::vs,0,m,nd,h1,h2,hk=>by
  simp at h1 h2;subst h1;subst h2
  show bindC dh ((p,w)::P.zip vs) m p=_
  unfold bindC
  rw[aA2 fun v hv=>(dB.mp nd).1 (cQ hv).1,if_neg hk]
  simp
 | p::P,w::vs,i+1,m,nd,h1,h2,hk=>by
  show bindC dh ((p,w)::P.zip vs) m x=_
  unfold bindC
  exact ap6 (i:=i) (dB.mp nd).2 (by simpa using h1) (by simpa using h2) hk
noncomputable def al9 (N:List Str)(vs:List V):St:=vs.map some++aq (N.length - vs.length) none
noncomputable def ba7 (CX:CXT)(P:aG)(w:World)(K:ac)(mg:Str->Option Value)(base:Heap)(N:List Str)(qual:Str)(scope:Scope)(f:Addr)(cd:Value)(A:aR)(outer:List Env)(s:ae)(H:Hp)(E:XK):Cx where
 prog:=P
 w:=w
 K:=K
 mg:=mg
 base:=base
 A:=A.deeper (dQ qual scope s.heap.objs.size f cd)
 N:=N
 s₀:=s
 H₀:=H
 env:=dQ qual scope s.heap.objs.size f cd
 outer:=outer
 stack:=dQ qual scope s.heap.objs.size f cd::outer
 ex:=[]
 calm:=true
 fn:=fun _=>true
 pn:=[]
 xe:=fun e s'=>wpAny (model P w) (A.deeper (dQ qual scope s.heap.objs.size f cd)) (leaving (dQ qual scope s.heap.objs.size f cd) e) (fun _ s''=>CX outer H s E e s'') (fun e' s''=>CX outer H s E e' s'') s'
theorem zG {sc:Scope}{n:Nat}{x:Str}(h:sc.names.lookup x=some .cell):∃ c,(aI n sc.names []).lookup x=some c:=by
 have q:=eT sc.names n [] (.inl h)
 exact ef.mp q
theorem aU8 {CX:CXT}{P:aG}{w:World}{K:ac}{mg:Str->Option Value}{base:Heap}{N ps:List Str}{qual:Str}{scope:Scope}{f:Addr}{cd:Value}{A:aR}{F:List Env}{s s1:ae}{H:Hp}{E:XK}{us:List Value}{vs:List V}
  (S:FnScope N ps scope) (hd:A.handled=none) (J:Env0 P w K mg base A F s H) (hl:vs.length=ps.length) (r:Vals vs us)
  (x:d4 s s.heap.objs.size (bindL (dQ qual scope s.heap.objs.size f cd).kindOf (ps.zip us) fun _=>none) (aI (s.heap.objs.size+1) scope.names []) (bindC (dQ qual scope s.heap.objs.size f cd).kindOf (ps.zip us) fun _=>none) s1) :
  Inv (ba7 CX P w K mg base N qual scope f cd A F s H E) [] (al9 N vs) H s1:=by
 have a1:ps.length<=N.length:=by have:=congrArg iV S.pre;rw[bK]at this;omega
 obtain⟨h1,tk,rfl,hk⟩:=x.done
 have Y:∀ b:Addr,b ∉ (ba7 CX P w K mg base N qual scope f cd A F s H E).ex:=fun b z=>absurd (show b∈([]:List Addr)from z) (by simp)
 refine⟨⟨J.mod,S.kind,rfl,rfl,ai _,fun y z c h1 G=>?_,fun y hy=>?_,fun y c _ h=>?_,fun _=>hd,fF J.frames,.inr ⟨rfl,rfl⟩,fun b z=>absurd z (Y b),J.bs,J.bsz,fun b _ _=>Y b,fun b z=>absurd z (Y b),J.funs,J.frf⟩,
  rfl,J.bare,Un.kept hk,⟨_,x.toInCall.ns,fun i y v h1 G h3=>?_⟩,fun y c h=>⟨_,x.cell y c h⟩,J.hok.fresh (ai _),fun y c h=>?_,fun p Z=>absurd (show p∈([]:List (Addr×Obj))from Z) (by simp),J.hok.kept hk,?_⟩
 ·exact eU x.apart (aB h1) (aB G)
 ·have hy:scope.names.lookup y=some .cell\/scope.names.lookup y=some .free:=hy
  rcases hy with hy|hy
  ·exact zG hy
  ·exact absurd rfl (S.nofree _ (aB hy))
 ·exact dH (x.above y c (aB h))
 ·have hi:i<vs.length:=by
   unfold al9 at G
   by_cases hi:i<vs.length
   ·exact hi
   ·rw[br (by simpa using hi)]at G
    rw[eI]at G
    split at G<;>cases G
  have ha:vs[i]?=some v:=by
   unfold al9 at G
   rw[aJ (by simpa using hi),aU]at G
   cases e:vs[i]? with
   | none=>rw[e]at G;cases G
   | some a=>rw[e]at G;cases G;rfl
  obtain⟨u,hu,rv⟩:=r.get ha
  have Z:ps[i]?=some y:=by
   rw[<-S.pre,List.getElem?_take_of_lt (by omega)];exact h1
  have a0:ps.Nodup:=by rw[<-S.pre];exact S.nd.sublist (List.take_sublist _ _)
  refine⟨u,rv,?_⟩
  rcases S.par y (bv Z)with k|k
  ·exact .inl ⟨k,ao4 a0 Z hu k⟩
  ·obtain⟨c,e⟩:=zG (n:=s.heap.objs.size+1) k
   refine .inr ⟨.inl k,c,e,?_⟩
   have q:=x.cell y c e
   rw[ap6 a0 Z hu (by show scope.names.lookup y≠_;rw[k];decide)]at q
   exact q
 ·exact J.hok.fresh (dH (x.above y c (aB h)))
 ·unfold al9
  show _=N.length
  rw[aA,aK,List.length_replicate]
  omega
theorem bI4 {CX:CXT}{P:aG}{w:World}{K:ac}{mg:Str->Option Value}{base:Heap}{k:Nat}{f:Addr}{name qual:Str}{params:bP}{body:List Stmt}{scope:Scope}{dV kV a0 pm z ct oc:Value}{an od:Option Addr}
  {a2:Array (Option Value)} {N ps:List Str} {sp:Sp} (lk:K.lookup f=some ⟨oc,od,.func (cj name qual params body scope dV kV a0 pm an z ct),a2⟩) (hcd:dR K z qual=true) (S:FnScope N ps scope)
  (len:∀ vs H Q E,sp vs H Q E->vs.length=ps.length)
  (G:∀(A:aR) (h:List Env) (s:ae) (H:Hp) (vs:List V) (Q:VK) (E:XK),Room k (A.deeper (dQ qual scope s.heap.objs.size f z))->sp vs H Q E ->
   ∃ t,PSs (ba7 CX P w K mg base N qual scope f z A h s H E) body t/\t { nx:=fun _ H'=>Q .non H',rt:=Q } (al9 N vs) H) :
  FnOk P w K mg base CX (k+1) f (cj name qual params body scope dV kV a0 pm an z ct) ps sp:=by
 refine⟨len,fun A h s H args us vs Q E hr Y hb r Z=>?_⟩
 have hl:=len _ _ _ _ Z
 have KX:K.In s.heap:=Y.mod.kin.keeps fun b o e=>(Y.bs b o e).1
 have a1:s.heap.NoLimit:=Y.mod.nolimit.keeps fun b o e=>(Y.bs b o e).1
 have F:∀ y∈ps.zip us,scope.names.lookup y.1=some .local\/(scope.names.lookup y.1=some .cell/\((aI (s.heap.objs.size+1) scope.names []).lookup y.1).isSome=true):=fun⟨n,v⟩ hy=>by
  rcases S.par n (cQ hy).1 with q|q
  ·exact .inl q
  ·exact .inr ⟨q,eT _ _ _ (.inl q)⟩
 refine fw hr.depth (KX _ _ lk) rfl S.co S.gen rfl (PySem.W.codeRec_of KX hcd) (hb _ _ _ _ ?_)
 refine wpAny_newFunctionEnv_cells S.kind F fun env he s1 x=>?_
 subst he
 refine⟨a1.keeps x.toInCall.keep,codeAny_func ?_⟩
 obtain⟨t,ht,hq⟩:=G A h s H vs Q E (hr.deeper _) Z
 have I:Inv (ba7 CX P w K mg base N qual scope f z A h s H E) [] (al9 N vs) H s1:=aU8 S hr.hd Y hl r x
 refine bw (ht [] s1 (al9 N vs) H _ I hq) (fun fl s' hs=>?_) fun e s' hs=>hs
 have fin:∀ {σ':St} {H':Hp} {v:V} {u:Value},Inv (ba7 CX P w K mg base N qual scope f z A h s H E) [] σ' H' s'->RelV v u->Q v H'->CE h P w H s Q u s' :=
  fun {σ' H' v u} J rv q=>⟨v,H',J.os,J.bare,J.base,J.hok,rv,q⟩
 cases fl with
 | ret u =>
  obtain⟨v,σ',H',J,rv,q⟩:=hs
  exact fin J rv q
 | next =>
  obtain⟨σ',H',J,q⟩:=hs
  exact fin (v:=V.non) (u:=Value.none) J rfl q
 | brk =>
  obtain⟨_,_,_,q⟩:=hs
  exact bH q
 | cont =>
  obtain⟨_,_,_,q⟩:=hs
  exact bH q
section
variable {X:Cx} {x:Str} {p pos:Pos} {e:Expr} {es:List Expr} {t:TA} {id T:String} {r:List V->Hp->VK->Prop}
def tCB (r:List V->Hp->VK->Prop)(t:TA):TE:=fun σ H Q=>t σ H fun vs H1=>r vs H1 Q
theorem av1 (hc:ai1 X (.builtin id) r)(hg:Gl X x)(Y:X.mg x=none)(hv:a7 x=some (.builtin id))(ha:PA X (e::es) t)(hn:x ≠ "__name__":=by decide)(F:(x==("__debug__":Str))=false:=by decide)
  (he:bu (e::es) X.env=(false,eval e X.env)::bu es X.env:=by rfl) (G:(dz pos (bu es X.env)).any (·.1)=false:=by rfl):PE X (.Call (.Name x p) (e::es) [] pos) (tCB r t):=by
 intro z s σ H Q I h
 refine cU (aI1 I hg Y hv ?_ hn F)
 exact PyProof.Rows.callWith_builtin1 (thn (ha pos z s σ H _ I h) fun us s1 ⟨vs,Z,N,r1,J⟩=>hc z s1 σ Z vs us Q N r1 J) he G
theorem ap7 (hc:ai1 X (.type T) r)(hg:Gl X x)(Y:X.mg x=none)(hv:a7 x=some (.type T))(ha:PA X (e::es) t)(hn:x ≠ "__name__":=by decide)(F:(x==("__debug__":Str))=false:=by decide)
  (he:bu (e::es) X.env=(false,eval e X.env)::bu es X.env:=by rfl) (G:(dz pos (bu es X.env)).any (·.1)=false:=by rfl):PE X (.Call (.Name x p) (e::es) [] pos) (tCB r t):=by
 intro z s σ H Q I h
 refine cU (aI1 I hg Y hv ?_ hn F)
 exact dI (thn (ha pos z s σ H _ I h) fun us s1 ⟨vs,Z,N,r1,J⟩=>hc z s1 σ Z vs us Q N r1 J) he G
end
end L2
end
noncomputable section
namespace HT
open PySem PyProof.Rows
section
open PySem.SeqAt
open PySem.AutoSeq1 (wpAny_loadPart')
open PySem.MeetsSeq PySem.MeetsSeq2 PySem.MeetsSeq3
end
section
variable {prog:aG} {w:World} {A:aR} {E:Value->ae->Prop} {s:ae}
theorem cat_tup {t b:Addr}{vs ws:List Value}{Q:Value->ae->Prop}(ht:IsTup s.heap t vs.toArray)(hb:IsTup s.heap b ws.toArray)(hv:vs≠[])
  (h1:ws=[]->Q (.ref t) s) (h2:ws≠[]->Q (.ref s.heap.objs.size) { s with heap:=s.heap.push { cls:=.type "tuple",data:=.seq (vs++ws).toArray } })
  (hsz:vs.length+ws.length<=aD):wpAny (model prog w) A (bM .Add (.ref t) (.ref b)) Q E s:=by
 obtain⟨⟨cls,Y,data,sl⟩,ho,hc,n,hd⟩:=id ht
 obtain⟨⟨a0,z,N,G⟩,h,J,Z,F⟩:=id hb
 simp only at hc hd J F
 subst hc hd J F
 have e:vs.toArray++ws.toArray=(vs++ws).toArray:=by simp
 by_cases hw:ws=[]
 ·exact gE ⟨_,ho,rfl⟩ ⟨_,h,rfl⟩ eJ f8 c7 cX (cN _ _)
   (tuple_addW1 t b vs.toArray ws.toArray n Z Y z sl G (by simpa using hv) (by simp[hw])) ⟨ho,h,h1 hw⟩
 ·refine gE ⟨_,ho,rfl⟩ ⟨_,h,rfl⟩ eJ f8 c7 cX (cN _ _)
   (tuple_addW2 t b vs.toArray ws.toArray n Z Y z sl G (by simpa using hv) (by simpa using hw) (by rw[ao,ao];exact hsz)) ⟨ho,h,?_⟩
  rw[e]
  exact h2 hw
noncomputable def sIx (n d:Nat):Option Int->Nat
 | none=>d
 | some v=>if v<0 then(v+(n:Int)).toNat else min v.toNat n
theorem sIx_le (n d:Nat)(hd:d<=n)(o:Option Int):sIx n d o<=n:=by
 cases o with
 | none=>exact hd
 | some v =>
  show(if v<0 then(v+(n:Int)).toNat else min v.toNat n)<=n
  by_cases hv:v<0
  ·rw[if_pos hv];omega
  ·rw[if_neg hv];exact Nat.min_le_right _ _
theorem clip_eq (v:Int)(n d:Nat):(if v<0 then max (v+(n:Int)) 0 else min v (n:Int))=((sIx n d (some v):Nat):Int):=by
 show(if v<0 then max (v+(n:Int)) 0 else min v (n:Int))=(((if v<0 then(v+(n:Int)).toNat else min v.toNat n):Nat):Int)
 by_cases hv:v<0
 ·simp only[if_pos hv];omega
 ·simp only[if_neg hv];omega
theorem adjust_gen (z h:Option Int)(n:Nat):cM z h 1 (n:Int)=(((sIx n 0 z:Nat):Int),((sIx n n h:Nat):Int)):=by
 have F:¬((1:Int)<0):=by omega
 unfold cM
 simp only[F,if_false]
 refine Prod.ext ?_ ?_
 ·cases z with
  | none=>rfl
  | some v=>exact clip_eq v n 0
 ·cases h with
  | none=>rfl
  | some v=>exact clip_eq v n n
theorem places_gen (i j:Nat):bZ (i:Int) (j:Int) 1=j - i:=by
 unfold bZ
 have h:(1:Int) > 0:=by omega
 simp only[h,if_true,Int.ediv_one]
 split<;>omega
theorem slicePart_ {v:Value}{o:Option Int}{Q:Option Int->ae->Prop}(p:et v o)(h:Q o s):wpAny (model prog w) A (g6 v) Q E s:=by
 cases p with
 | none=>exact slicePart_none h
 | int i t=>exact slicePart_int h
theorem sliceApplied_gen {sl:Addr}{vl vu:Value}{z F:Option Int}{n:Nat}{Q:Int×Int×Nat->ae->Prop}(hs:s.heap.IsSliceOf sl vl vu .none)(N:et vl z)(pu:et vu F)
  (h:Q (((sIx n 0 z:Nat):Int),1,sIx n n F - sIx n 0 z) s):wpAny (model prog w) A (dS (.ref sl) (pure (n:Int))) Q E s:=by
 obtain⟨os,J,Y,G⟩:=id hs
 unfold dS iw
 refine ak (ak (cY J G (x:=vl) rfl (ak (cY J G (x:=vu) rfl (ak (cY J G (x:=.none) rfl (aF ?_)))))))
 refine ak (slicePart_none ?_)
 show wpAny _ _ (if((1:Int)==0)=true then _ else _) _ _ s
 rw[if_neg (by decide)]
 refine ak (slicePart_ N (ak (slicePart_ pu (ak (aF ?_)))))
 show wpAny _ _ (match cM z F 1 (n:Int)with|(z,F)=>pure (z,(1:Int),bZ z F 1)) _ _ s
 rw[adjust_gen z F n]
 show wpAny _ _ (pure (((sIx n 0 z:Nat):Int),(1:Int),bZ ((sIx n 0 z:Nat):Int) ((sIx n n F:Nat):Int) 1)) _ _ s
 rw[places_gen]
 exact aF h
theorem pick_gen (h:Array Value)(i k:Nat):((bB k).filterMap fun(m:Nat)=>h[((i:Int)+(m:Int)*1).toNat]?).toArray=((h.toList.drop i).take k).toArray:=by
 have e:(fun(m:Nat)=>h[((i:Int)+(m:Int)*1).toNat]?)=fun m=>h[i+m]?:=by
  funext m
  have:((i:Int)+(m:Int)*1).toNat=i+m:=by omega
  rw[this]
 rw[e]
 have:=pick_run h i k
 rw[List.filterMap_map]at this
 have e2:((fun x=>h[x]?) ∘ fun x=>i+x)=fun m=>h[i+m]?:=rfl
 rw[e2]at this
 rw[this]
theorem getItem_tuple_cut {t sl:Addr}{z:Array Value}{vl vu:Value}{G J:Option Int}{Q:Value->ae->Prop}(N:IsTup s.heap t z)(hs:s.heap.IsSliceOf sl vl vu .none)(pl:et vl G)(pu:et vu J)
  (hw:¬(sIx z.size 0 G=0/\sIx z.size z.size J=z.size))
  (h:Q (.ref s.heap.objs.size) { s with heap:=s.heap.push { cls:=.type "tuple",data:=.seq ((z.toList.drop (sIx z.size 0 G)).take (sIx z.size z.size J - sIx z.size 0 G)).toArray } })
  (hsz:z.size<=aD):wpAny (model prog w) A (eV (.ref t) (.ref sl)) Q E s:=by
 have F:sizeOk (.seq ((z.toList.drop (sIx z.size 0 G)).take (sIx z.size z.size J - sIx z.size 0 G)).toArray):=by
  show((z.toList.drop (sIx z.size 0 G)).take (sIx z.size z.size J - sIx z.size 0 G)).toArray.size<=aD
  rw[ao,bK,cJ,dE]
  omega
 have hj:sIx z.size z.size J<=z.size:=sIx_le _ _ (ai _) J
 obtain⟨os,a1,Z,a2⟩:=id hs
 have Y:s.TypeIs (.ref sl) "slice":=⟨os,a1,Z⟩
 unfold eV
 try with_reducible refine dj ?_
 first|refine ak (aF ?_)|skip
 refine ak (gF N.typeIs (by decide) ?_)
 refine ak (cf (name:=cn "__getitem__") N.typeIs bn
  (cK bn N.typeIs fS ?_ (gk _ _)))
 show wpAny _ _ (cG (.ref t) >>= _) _ _ s
 refine ak (f9 N ?_)
 refine ak (eW Y ?_)
 rw[if_pos (by decide)]
 refine ak (sliceApplied_gen hs pl pu ?_)
 have a0:¬((((sIx z.size 0 G:Nat):Int)==0&&(1:Int)==1&&(sIx z.size z.size J - sIx z.size 0 G)==z.size)=true):=by
  intro q
  rw[ag,ag]at q
  have q1:((sIx z.size 0 G:Nat):Int)=0:=eq_of_beq q.1.1
  have q2:sIx z.size z.size J - sIx z.size 0 G=z.size:=eq_of_beq q.2
  exact hw ⟨by omega,by omega⟩
 show wpAny _ _ (if(((sIx z.size 0 G:Nat):Int)==0&&(1:Int)==1&&(sIx z.size z.size J - sIx z.size 0 G)==z.size)=true then _ else _) _ _ s
 rw[if_neg a0,pick_gen]
 first
  | exact ak (m:=cb _) (bC (aF ⟨_,rfl,aF h⟩) F)
  | exact ak (m:=cb _) (bC (ak (aF (aF ⟨_,rfl,aF h⟩))) F)
  | exact ak (ak (m:=cb _) (bC (aF (aF ⟨_,rfl,aF h⟩)) F))
  | exact ak (ak (m:=cb _) (bC (aF ⟨_,rfl,aF h⟩) F))
end
end HT
noncomputable section
namespace L2
open PySem PySem.Spec PyProof.Rows
abbrev TO:=St->Hp->(Option Int->Hp->Prop)->Prop
def PO (X:Cx)(e:Option Expr)(t:TO):Prop :=
 ∀(pins:List (Addr×Obj)) (s:ae) (σ:St) (H:Hp) (Q:Option Int->Hp->Prop),Inv X pins σ H s->t σ H Q ->
  wpAny (model X.prog X.w) X.A (evalPart e X.env) (fun u s'=>∃ o H',Inv X pins σ H' s'/\et u o/\Q o H') X.xe s
noncomputable def aB2:TO:=fun _ H Q=>Q none H
noncomputable def aT1 (t:TE):TO:=fun σ H Q=>t σ H fun x H1=>∃ i,x=.int i/\Q (some i) H1
section
variable {X:Cx} {e:Expr} {te:TE} {lo hi:Option Expr} {tl th:TO} {pos p2:Pos}
theorem aQ9:PO X none aB2:=by
 intro z s σ H Q I h
 rw[evalPart_none]
 exact aF ⟨none,H,I,.none,h⟩
theorem aN1 (h:PE X e te):PO X (some e) (aT1 te):=by
 intro z s σ H Q I hw
 rw[evalPart_some]
 refine thn (h z s σ H _ I hw) fun u s1 ⟨x,J,G,r1,F⟩=>?_
 obtain⟨i,rfl,q⟩:=F
 obtain⟨t,rfl⟩:=r1
 exact⟨some i,J,G,.int i t,q⟩
def SlR (X:Cx)(r:V->Option Int->Option Int->Hp->VK->Prop):Prop :=
 ∀(pins:List (Addr×Obj)) (s:ae) (σ:St) (H:Hp) (x:V) (v vl vu:Value) (lo hi:Option Int) (sl:Addr) (Q:VK),Inv X pins σ H s->RelV x v->s.heap.IsSliceOf sl vl vu .none->et vl lo->et vu hi->r x lo hi H Q ->
  ∃ T id,typeLookup (.type T) "__getitem__"=pure (some (.builtin id))/\s.TypeIs v T/\wpAny (model X.prog X.w) X.A (eV v (.ref sl)) (EP X pins σ Q) X.xe s
def tSl (r:V->Option Int->Option Int->Hp->VK->Prop)(te:TE)(tl th:TO):TE:=fun σ H Q=>te σ H fun x H1=>tl σ H1 fun l H2=>th σ H2 fun u H3=>r x l u H3 Q
theorem aJ0 {r:V->Option Int->Option Int->Hp->VK->Prop}(hr:SlR X r)(he:PE X e te)(hl:PO X lo tl)(J:PO X hi th):PE X (.Subscript e (.Slice lo hi none p2) pos) (tSl r te tl th):=by
 intro z s σ H Q I h
 refine ib (thn (he z s σ H _ I h) fun v s1 ⟨x,Y,G,r1,q1⟩=>?_)
 refine wpAny_Slice (thn (hl z s1 σ Y _ G q1) fun vl s2 ⟨l,H2,I2,N,q2⟩=>thn (J z s2 σ H2 _ I2 q2) fun vu s3 ⟨u,F,Z,pu,q3⟩=>?_)
 rw[evalPart_none]
 refine aF ?_
 have I4:Inv X z σ F { s3 with heap:=s3.heap.push { cls:=.type "slice",data:=.fields #[vl,vu,.none] } }:=Z.kept (t':=s3.toks) fun b ob q=>ar _ q
 obtain⟨T,id,hT,ht,hg⟩:=hr z { s3 with heap:=s3.heap.push { cls:=.type "slice",data:=.fields #[vl,vu,.none] } } σ F x v vl vu l u s3.heap.objs.size Q I4 r1 (iY ..) N pu q3
 show wpAny (model X.prog X.w) X.A (subscriptTail e (.Slice lo hi none p2) v (.ref s3.heap.objs.size)) (EP X z σ Q) X.xe { s3 with heap:=s3.heap.push { cls:=.type "slice",data:=.fields #[vl,vu,.none] } }
 exact ic (ops:=[.ref s3.heap.objs.size,v]) ht hT hg (by with_unfolding_all rfl)
noncomputable def aJ5 (xs:List V)(lo hi:Option Int):List V:=(xs.drop (HT.sIx xs.length 0 lo)).take (HT.sIx xs.length xs.length hi - HT.sIx xs.length 0 lo)
theorem ap5 (h:List V)(z F:Option Int):(aJ5 h z F).length<=h.length:=by
 unfold aJ5
 rw[bK,cJ]
 omega
def bW9 (K:ac):V->Option Int->Option Int->Hp->VK->Prop:=fun x lo hi H Q=>∃ a xs,x=.ref a/\SqT K H a xs /\
 ¬(HT.sIx xs.length 0 lo=0/\HT.sIx xs.length xs.length hi=xs.length)/\∀ p,H p=none->Q (.ref p) (upd H p (.tup (aJ5 xs lo hi)))
theorem bB8:SlR X (bW9 X.K):=by
 intro N s σ H x v vl vu G J sl Q I rx hs Z pu h
 obtain⟨a,F,rfl,hx,hw,q⟩:=h
 cases rx
 obtain⟨its,r,Y,hz⟩:=I.tuple hx
 have z:its.toArray.size=F.length:=by rw[ao];exact r.length.symm
 refine⟨"tuple",_,bn.lookup,Y.typeIs,?_⟩
 refine HT.getItem_tuple_cut Y hs Z pu (by rw[z];exact hw) ?_ (by rw[z];exact hz)
 rw[z]
 refine⟨.ref s.heap.objs.size,_,I.laid (t':=s.toks) (o:=.tup (aJ5 F G J)) (fun b ob q=>ar _ q) (ai _) ?_,rfl,q _ (I.hok.fresh (ai _))⟩
 exact⟨aj (ap5 F G J) hz,_,(r.drop (HT.sIx F.length 0 G)).take (HT.sIx F.length F.length J - HT.sIx F.length 0 G),gM _ _⟩
def bR8 (K:ac):R2:=fun x y H Q=>∃ a b xs ys,x=.ref a/\y=.ref b/\SqT K H a xs/\SqT K H b ys/\xs≠[]/\xs.length+ys.length<=aD /\
 (ys=[]->Q (.ref a) H)/\(ys≠[]->∀ p,H p=none->Q (.ref p) (upd H p (.tup (xs++ys))))
theorem Vals.nil_iff {h:List V}{us:List Value}(r:Vals h us):us=[]↔h=[]:=by
 cases r with
 | nil=>simp
 | cons _ _=>simp
theorem bs7:OpR X (bM .Add) (bR8 X.K):=by
 intro G s σ H x y v u Q I rx ry h
 obtain⟨a,b,Y,ys,rfl,rfl,ha,hb,hx,hz,Z,q2⟩:=h
 cases rx
 cases ry
 obtain⟨its,r1,p1,_⟩:=I.tuple ha
 obtain⟨J,F,N,_⟩:=I.tuple hb
 refine HT.cat_tup p1 N (fun z=>hx (r1.nil_iff.mp z)) (fun z=>⟨.ref a,H,I,rfl,Z (F.nil_iff.mp z)⟩) (fun z=>?_) (by rw[<-r1.length,<-F.length];exact hz)
 refine⟨.ref s.heap.objs.size,_,I.laid (t':=s.toks) (o:=.tup (Y++ys)) (fun b ob q=>ar _ q) (ai _) ?_,rfl,q2 (fun w=>z (F.nil_iff.mpr w)) _ (I.hok.fresh (ai _))⟩
 exact⟨by rw[aA];exact hz,_,r1.append F,gM _ _⟩
end
noncomputable def ixN (n:Nat)(i:Int):Option Nat:=if 0<=i then(if i<n then some i.toNat else none)else if -(n:Int)<=i then some (i+n).toNat else none
noncomputable def atI {α:Type}(xs:List α)(i:Int):Option α:=(ixN xs.length i).bind fun j=>xs[j]?
theorem aO4 {n:Nat}{i:Int}{j:Nat}(h:ixN n i=some j):seqIndex? i n=some j/\j<n/\-(n:Int)<=i/\i<n:=by
 unfold ixN at h
 by_cases h0:0<=i
 ·rw[if_pos h0]at h
  by_cases h1:i<n
  ·rw[if_pos h1]at h
   have e:i.toNat=j:=av h
   exact⟨by rw[gS h0 h1,e],by omega,by omega,h1⟩
  ·rw[if_neg h1]at h;cases h
 ·rw[if_neg h0]at h
  by_cases h1:-(n:Int)<=i
  ·rw[if_pos h1]at h
   have e:(i+n).toNat=j:=av h
   exact⟨by rw[gG (by omega) h1,e],by omega,h1,by omega⟩
  ·rw[if_neg h1]at h;cases h
theorem aB4 {α:Type}{z:List α}{i:Int}{v:α}(h:atI z i=some v):∃ j,seqIndex? i z.length=some j/\z[j]?=some v/\j<z.length/\-(z.length:Int)<=i/\i<z.length:=by
 unfold atI at h
 cases e:ixN z.length i with
 | none=>rw[e]at h;cases h
 | some j =>
  rw[e]at h
  obtain⟨F,N,J,G⟩:=aO4 e
  exact⟨j,F,h,N,J,G⟩
def aQ1 (b:Expr):Prop:=∀ o i,subscripted b false o i=operate [o,i] (eV o i)
def IxR (X:Cx)(r:R2):Prop :=
 ∀(value slice:Expr) (pins:List (Addr×Obj)) (s:ae) (σ:St) (H:Hp) (x y:V) (v u:Value) (Q:VK),Inv X pins σ H s->RelV x v->RelV y u->r x y H Q ->
  subscripted slice false v u=operate [v,u] (eV v u)->wpAny (model X.prog X.w) X.A (subscriptTail value slice v u) (EP X pins σ Q) X.xe s
def MtR (X:Cx)(id:String)(r:V->List V->Hp->VK->Prop):Prop :=
 ∀(pins:List (Addr×Obj)) (s:ae) (σ:St) (H:Hp) (x:V) (xs:List V) (v:Value) (us:List Value) (Q:VK),Inv X pins σ H s->RelV x v->Vals xs us->r x xs H Q ->
  wpAny (model X.prog X.w) X.A (call (.builtin id) (v::us)) (EP X pins σ Q) X.xe s
section
variable {X:Cx} {a b:Expr} {ta tb:TE} {pos:Pos}
theorem bL8 {r:R2}(N:IxR X r)(ha:PE X a ta)(hb:PE X b tb)(hs:aQ1 b):PE X (.Subscript a b pos) (tOp r ta tb):=by
 intro z s σ H Q I h
 exact ib (bK4 ha hb I h fun v u s2 x y F J G Y q=>N a b z s2 σ F x y v u Q J G Y q (hs _ _))
def bU0 (K:ac):R2:=fun x y H Q=>∃ p xs i v,x=.ref p/\y=.int i/\SqL K H p xs/\atI xs i=some v/\Q v H
def bV7 (K:ac):R2:=fun x y H Q=>∃ p xs i v,x=.ref p/\y=.int i/\SqT K H p xs/\atI xs i=some v/\Q v H
def bY6:R2:=fun x y H Q=>∃ z i c,x=.str z/\y=.int i/\z.length<=aD/\atI z.cps.toList i=some c/\Q (.str ⟨#[c]⟩) H
theorem bo5:IxR X (bU0 X.K):=by
 intro Z Y F s σ H x y v u Q I rx ry h hs
 obtain⟨p,xs,i,z,rfl,rfl,hq,he,q⟩:=h
 cases rx
 obtain⟨t,rfl⟩:=ry
 obtain⟨its,r,N,hz⟩:=I.list hq
 obtain⟨j,G,h2,h3,h4,h5⟩:=aB4 he
 obtain⟨w,ew,J⟩:=r.get h2
 have hl:=r.length
 have hn:=aq0
 have fin:EP X F σ Q w s:=⟨z,H,I,J,q⟩
 by_cases h0:0<=i
 ·have hj:i.toNat=j:=by
   rw[gS h0 h5]at G
   exact av G
  exact item_listR N.isList h0 (by omega) (by rw[hj];simpa using ew) fin hs
 ·have hj:(i+(its.toArray.size:Int)).toNat=j:=by
   rw[gG (by omega) h4]at G
   rw[ao,<-hl]
   exact av G
  exact eX (x:=w) N.isList.typeIs gH.lookup
   (wpAny_getItem_list_neg (Q:=fun r s'=>r=w/\EP X F σ Q r s') N.isList (by omega) (by rw[ao]<;>omega) (by omega) (by rw[hj];simpa using ew) ⟨rfl,fin⟩) hs
theorem ix_tup:IxR X (bV7 X.K):=by
 intro N J F s σ H x y v u Q I rx ry h hs
 obtain⟨p,xs,i,z,rfl,rfl,hq,he,q⟩:=h
 cases rx
 obtain⟨t,rfl⟩:=ry
 obtain⟨its,r,Y,hz⟩:=I.tuple hq
 obtain⟨j,Z,h2,h3,h4,h5⟩:=aB4 he
 obtain⟨w,ew,G⟩:=r.get h2
 have hl:=r.length
 have hn:=aq0
 have fin:EP X F σ Q w s:=⟨z,H,I,G,q⟩
 exact eX (x:=w) Y.typeIs bn.lookup
  (getItem_tuple (j:=j) (Q:=fun r s'=>r=w/\EP X F σ Q r s') Y (by omega) (by omega) (by rw[ao,<-hl];exact Z) (by simpa using ew) ⟨rfl,fin⟩) hs
theorem ix_str:IxR X bY6:=by
 intro G F J s σ H x y v u Q I rx ry h hs
 obtain⟨z,i,c,rfl,rfl,hz,he,q⟩:=h
 obtain⟨t,rfl⟩:=rx
 obtain⟨t',rfl⟩:=ry
 obtain⟨j,N,h2,h3,Y,Z⟩:=aB4 he
 have hl:z.cps.toList.length=z.length:=by simp[Str.length]
 rw[hl]at N Y Z
 have hn:=aq0
 exact ic (ie s z t) slot_str_getitem.lookup (getItem_str (c:=c) (by
  have e1:decide (i < -(2^63:Int))=false:=decide_eq_false (by omega)
  have e2:decide (i ≥ 2^63)=false:=decide_eq_false (by omega)
  rw[e1,e2,dk]) (by rw[N];simpa using h2) ⟨.str ⟨#[c]⟩,H,I.tok _,⟨_,rfl⟩,q⟩) hs
theorem aJ6 (its:List Value)(n j:Nat)(u:Value):eY (·.setIfInBounds j u) { cls:=.type "list",data:=.seq its.toArray n }={ cls:=.type "list",data:=.seq (its.set j u).toArray n }:=by
 simp[eY]
theorem Inv.lst {F:List (Addr×Obj)}{σ:St}{H:Hp}{s:ae}{p:Addr}{G:List V}(I:Inv X F σ H s)(h:H p=some (.lst G)) :
  ∃(its:List Value) (n:Nat),Vals G its/\s.heap.get? p=some { cls:=.type "list",data:=.seq its.toArray n }/\G.length<=aD:=by
 obtain⟨z,its,n,r,e⟩:=I.hok p _ h
 exact⟨its,n,r,e,z⟩
theorem Inv.lstUpd {z:List (Addr×Obj)}{σ:St}{H:Hp}{s:ae}{p:Addr}{J ys:List V}{its its':List Value}{n F:Nat}{f:Obj->Obj}(I:Inv X z σ H s)(h:H p=some (.lst J))
  (ho:s.heap.get? p=some { cls:=.type "list",data:=.seq its.toArray n }) (G:f { cls:=.type "list",data:=.seq its.toArray n }={ cls:=.type "list",data:=.seq its'.toArray F }) (r:Vals ys its') (hz:ys.length<=aD) (t:Nat) :
  Inv X z σ (upd H p (.lst ys)) { s with heap:=s.heap.update p f,toks:=t }:=by
 have e:(s.heap.update p f).get? p=some { cls:=.type "list",data:=.seq its'.toArray F }:=by
  rw[fx f ho (by rw[G]<;>rfl),G]
 refine I.write (x:=p) (e:=p) (by rw[h];trivial) (.inl rfl) (fun b u hb q=>(eZ _ _ (cP hb)).trans q) ⟨_,e⟩ ?_
 exact⟨hz,its',F,r,e⟩
def bO8:V->V->V->Hp->(Hp->Prop)->Prop:=fun o i v H Q=>∃ p xs k j,o=.ref p/\i=.int k/\H p=some (.lst xs)/\ixN xs.length k=some j/\Q (upd H p (.lst (xs.set j v)))
theorem bb2:bS4 X bO8:=by
 intro z s σ H o i v ov iv u Q I ro Z rv h
 obtain⟨p,xs,k,j,rfl,rfl,Y,hj,q⟩:=h
 cases ro
 obtain⟨t,rfl⟩:=Z
 obtain⟨its,n,r,ho,hz⟩:=I.lst Y
 obtain⟨F,h2,N,G⟩:=aO4 hj
 have hl:=r.length
 have hn:=aq0
 have J:Inv X z σ (upd H p (.lst (xs.set j v))) { s with heap:=s.heap.update p (eY (·.setIfInBounds j u)) } :=
  I.lstUpd Y ho (aJ6 its n j u) (r.set rv j) (by rw[bF];exact hz) s.toks
 by_cases h0:0<=k
 ·have hk:k.toNat=j:=by
   rw[gS h0 G]at F
   exact av F
  exact PySem.W.ki_setAt ho h0 (by omega) (by rw[ao,<-hl];exact G) (by rw[hk];exact⟨_,J,q⟩)
 ·have hk:(k+(its.toArray.size:Int)).toNat=j:=by
   rw[gG (by omega) N]at F
   rw[ao,<-hl]
   exact av F
  exact PySem.W.ki_setBack ho (by omega) (by rw[ao,<-hl];exact N) (by omega) (by rw[hk];exact⟨_,J,q⟩)
theorem av6 (F z:Option Int)(n:Nat):(cZ F z none n).1=((HT.sIx n 0 F:Nat):Int)/\(cZ F z none n).2.1=((HT.sIx n n z:Nat):Int)/\(cZ F z none n).2.2=1:=by
 refine⟨?_,?_,rfl⟩
 ·cases F with
  | none=>simp[cZ,HT.sIx]
  | some i =>
   simp only[cZ,HT.sIx,gN,show(1:Int) > 0 by decide,if_true]
   by_cases h:i<0
   ·simp only[h,if_true]<;>omega
   ·simp only[h,if_false]<;>omega
 ·cases z with
  | none=>simp[cZ,HT.sIx]
  | some i =>
   simp only[cZ,HT.sIx,gN,show(1:Int) > 0 by decide,if_true]
   by_cases h:i<0
   ·simp only[h,if_true]<;>omega
   ·simp only[h,if_false]<;>omega
theorem au1 (its:List Value)(h z:Option Int):slicePick its.toArray h z none=((its.drop (HT.sIx its.length 0 h)).take (HT.sIx its.length its.length z - HT.sIx its.length 0 h)).toArray:=by
 obtain⟨F,J,G⟩:=av6 h z its.toArray.size
 unfold slicePick
 rw[F,J,G]
 simp only[sliceRange_one,pick_run,ao]<;>rfl
def bW3 (K:ac):V->Option Int->Option Int->Hp->VK->Prop:=fun x lo hi H Q=>∃ a xs,x=.ref a/\SqL K H a xs/\∀ p,H p=none->Q (.ref p) (upd H p (.lst (aJ5 xs lo hi)))
theorem bl0:SlR X (bW3 X.K):=by
 intro N s σ H x v vl vu G J sl Q I rx hs Z pu h
 obtain⟨a,z,rfl,hx,q⟩:=h
 cases rx
 obtain⟨its,r,Y,hz⟩:=I.list hx
 have F:=r.length
 refine⟨"list",_,gH.lookup,Y.isList.typeIs,?_⟩
 refine wpAny_getItem_list_slice Y.isList hs Z pu .none (by simp) ?_ (by rw[ao]<;>omega)
 rw[au1,<-F]
 refine⟨.ref s.heap.objs.size,_,I.laid (t':=s.toks) (o:=.lst (aJ5 z G J)) (fun b ob q=>ar _ q) (ai _) ?_,rfl,q _ (I.hok.fresh (ai _))⟩
 exact⟨aj (ap5 z G J) hz,_,0,(r.drop (HT.sIx z.length 0 G)).take (HT.sIx z.length z.length J - HT.sIx z.length 0 G),aZ _ rfl⟩
theorem ax1:ai1 X (.builtin "len") (fun J H Q=>∃ p ys,J=[.ref p]/\(SqL X.K H p ys\/SqT X.K H p ys)/\Q (.int ys.length) H):=by
 intro N s σ H J us Q I r h
 obtain⟨p,ys,rfl,hq,q⟩:=h
 obtain⟨u,rfl,Y⟩:=am7 r
 cases Y
 have hn:=aq0
 rcases hq with hq|hq
 ·obtain⟨its,G,F,hz⟩:=I.list hq
  have z:=G.length
  exact Calls.call_len_list F.isList (by simp only[ao]<;>omega) ⟨.int ys.length,H,I.tok _,⟨s.toks+1,by rw[ao,z]⟩,q⟩
 ·obtain⟨its,G,F,hz⟩:=I.tuple hq
  have z:=G.length
  exact len_tuple F (by simp only[ao]<;>omega) ⟨.int ys.length,H,I.tok _,⟨s.toks+1,by rw[ao,z]⟩,q⟩
theorem ay6:ai1 X (.builtin "len") (fun F H Q=>∃ z,F=[.str z]/\z.length<=aD/\Q (.int z.length) H):=by
 intro G s σ H F us Q I r h
 obtain⟨z,rfl,hz,q⟩:=h
 obtain⟨u,rfl,t,rfl⟩:=am7 r
 have hn:=aq0
 exact len_str (by omega) ⟨.int z.length,H,I.tok _,⟨_,rfl⟩,q⟩
theorem ai1.or {f:Value}{r G:List V->Hp->VK->Prop}(h:ai1 X f r)(h':ai1 X f G):ai1 X f (fun F H Q=>r F H Q\/G F H Q):=by
 intro z s σ H F us Q I J q
 rcases q with q|q
 ·exact h z s σ H F us Q I J q
 ·exact h' z s σ H F us Q I J q
theorem av9:ai1 X (.type "list") (fun Y H Q=>∃ p ys,Y=[.ref p]/\(SqL X.K H p ys\/SqT X.K H p ys)/\∀ l,H l=none->Q (.ref l) (upd H l (.lst ys))):=by
 intro G s σ H Y us Q I r h
 obtain⟨p,ys,rfl,hq,q⟩:=h
 obtain⟨u,rfl,rx⟩:=am7 r
 cases rx
 have fin:∀(its:List Value),Vals ys its->ys.length<=aD->∀(h':Heap) (z:Nat),(∀ b Z,s.heap.get? b=some Z->h'.get? b=some Z) ->
   h'.get? s.heap.objs.size=some { cls:=.type "list",dict:=none,data:=.seq its.toArray z,slots:=#[] }->EP X G σ Q (.ref s.heap.objs.size) { s with heap:=h' }:=fun its F hz h' z kp e =>
  ⟨.ref s.heap.objs.size,_,I.laid (t':=s.toks) kp (ai _) (show ah8 X.prog X.w _ h' _ (.lst ys)from⟨hz,its,z,F,e⟩),rfl,q _ (I.hok.fresh (ai _))⟩
 rcases hq with hq|hq
 ·obtain⟨its,F,N,hz⟩:=I.list hq
  have J:=F.length
  obtain⟨o,ho,hc,n,hd⟩:=N.isList
  exact call_list_seq p (.inl rfl) ho hc hd (fun h' z kp e=>fin its F hz h' z kp e) (by simp only[ao]<;>omega)
 ·obtain⟨its,F,N,hz⟩:=I.tuple hq
  have J:=F.length
  obtain⟨o,ho,hc,n,hd⟩:=N
  exact call_list_seq p (.inr rfl) ho hc hd (fun h' z kp e=>fin its F hz h' z kp e) (by simp only[ao]<;>omega)
theorem av3:ai1 X (.type "tuple") (fun Y H Q=>∃ p ys,Y=[.ref p]/\((SqL X.K H p ys/\∀ l,H l=none->Q (.ref l) (upd H l (.tup ys)))\/(SqT X.K H p ys/\Q (.ref p) H))):=by
 intro z s σ H Y us Q I r h
 obtain⟨p,ys,rfl,h⟩:=h
 obtain⟨u,rfl,rx⟩:=am7 r
 cases rx
 rcases h with⟨hq,q⟩|⟨hq,q⟩
 ·obtain⟨its,G,F,hz⟩:=I.list hq
  have N:=G.length
  refine call_tuple_list F.isList (fun h' kp=>?_) (by simp only[ao]<;>omega)
  have J:Inv X z σ H { s with heap:=h' }:=I.kept (t':=s.toks) kp
  have Z:Inv X z σ (upd H h'.objs.size (.tup ys)) { s with heap:=h'.push { cls:=.type "tuple",data:=.seq its.toArray } } :=
   J.laid (t':=s.toks) (fun b o e=>ar _ e) (ai _) (show ah8 X.prog X.w _ _ _ (.tup ys)from⟨hz,its,G,gM _ _⟩)
  exact⟨.ref h'.objs.size,_,Z,rfl,q _ (J.hok.fresh (ai _))⟩
 ·obtain⟨its,G,F,hz⟩:=I.tuple hq
  exact call_tuple_same F ⟨.ref p,H,I,rfl,q⟩
def tyV (K:ac)(T:String)(x:V)(H:Hp):Prop:=match x with
 | .str _=>T = "str"
 | .int _=>T = "int"
 | .ref p=>(T = "list"/\∃ xs,SqL K H p xs)\/(T = "tuple"/\∃ o,K.lookup p=some o/\o.cls=.type "tuple"/\o.dict=none) \/
   (T = "dict"/\((∃ kvs,H p=some (.dK kvs))\/∃ kvs,H p=some (.dT kvs)))\/(T = "set"/\∃ S n,H p=some (.set S n))
 | _=>False
theorem bg8 {h:List (Addr×Obj)}{σ:St}{H:Hp}{s:ae}{T:String}{x:V}{v:Value}(I:Inv X h σ H s)(r:RelV x v)(F:tyV X.K T x H) :
  s.TypeIs v T/\∀ a,v=.ref a->∃ ob,s.heap.get? a=some ob/\ob.dict=none:=by
 cases x with
 | str z =>
  obtain⟨t,rfl⟩:=r
  cases(show T = "str" from F)
  exact⟨ie s z t,fun _ e=>nomatch e⟩
 | int i =>
  obtain⟨t,rfl⟩:=r
  cases(show T = "int" from F)
  exact⟨e6 s i t,fun _ e=>nomatch e⟩
 | ref p =>
  cases r
  rcases F with⟨rfl,J,hq⟩|⟨rfl,o,hk,hc,hd⟩|⟨rfl,hk⟩|⟨rfl,S,n,hk⟩
  ·obtain⟨its,_,G,_⟩:=I.list hq
   refine⟨G.isList.typeIs,fun a e=>?_⟩
   cases e
   obtain⟨o,n,e,c,hd,_⟩:=G
   exact⟨o,e,hd⟩
  ·refine⟨⟨o,I.kIn p o hk,hc⟩,fun a e=>?_⟩
   cases e
   exact⟨o,I.kIn _ o hk,hd⟩
  ·have z:∃ o,s.heap.get? p=some o/\o.ExactDict:=by
    rcases hk with⟨kvs,hk⟩|⟨kvs,hk⟩
    ·obtain⟨_,_,_,_,o,_,_,e,ex,_⟩:=I.hok p _ hk
     exact⟨o,e,ex⟩
    ·obtain⟨_,_,_,_,o,_,_,e,ex,_⟩:=I.hok p _ hk
     exact⟨o,e,ex⟩
   obtain⟨o,e,ex⟩:=z
   refine⟨⟨o,e,ex.1⟩,fun a e2=>?_⟩
   cases e2
   exact⟨o,e,ex.2.1⟩
  ·obtain⟨o,_,_,_,e,ex,_⟩:=I.hok p _ hk
   refine⟨⟨o,e,ex.1⟩,fun a e2=>?_⟩
   cases e2
   exact⟨o,e,ex.2.1⟩
 | _=>exact bH F
def bW5 (K:ac)(T:String)(r:V->List V->Hp->VK->Prop)(to:TE):TE:=fun σ H Q=>to σ H fun x H1=>tyV K T x H1/\r x [] H1 Q
def tBM (K:ac)(T:String)(r:V->List V->Hp->VK->Prop)(to:TE)(t:TA):TE:=fun σ H Q=>to σ H fun x H1=>tyV K T x H1/\t σ H1 fun xs H2=>r x xs H2 Q
variable {o e:Expr} {es:List Expr} {to:TE} {t:TA} {name:Str} {apos cpos:Pos} {T id:String} {r:V->List V->Hp->VK->Prop}
theorem bD2 (pa:ig T)(slot:Slot T name id)(J:iK (.builtin id)=pure (.type "method_descriptor"))(hm:MtR X id r)(ho:PE X o to)
  (F:eC o name X.env (eval o X.env)=eval o X.env:=by rfl) (G:(apos.endLine==cpos.line)=true:=by rfl):PE X (.Call (.Attribute o name apos) [] [] cpos) (bW5 X.K T r to):=by
 intro z s σ H Q I h
 refine wpAny_Call_method0_late F G (thn (ho z s σ H _ I h) fun v s1 ⟨x,H1,N,r1,ty,Y⟩=>?_)
 obtain⟨Z,h2⟩:=bg8 N r1 ty
 exact⟨T,id,pa,slot,J,Z,h2,e7 rfl (PySem.evalArgs_none (hm z s1 σ H1 x [] v [] Q N r1 .nil Y))⟩
theorem bR5 (pa:ig T)(slot:Slot T name id)(Y:iK (.builtin id)=pure (.type "method_descriptor"))(hm:MtR X id r)(ho:PE X o to)(ha:PA X (e::es) t)
  (J:eC o name X.env (eval o X.env)=eval o X.env:=by rfl)
  (N:((dz cpos (bu (e::es) X.env)).all (fun x=>!x.1)&&(backToKw cpos (keywordEach [] X.env)).all (fun x=>x.1.isSome)
   && decide ((e::es).length+([]:List hU).length+(if([]:List hU).isEmpty then 0 else 1)<30))=true:=by rfl)
  (G:(apos.endLine==cpos.line)=true:=by rfl) (hs:bu (e::es) X.env=(false,eval e X.env)::bu es X.env:=by rfl) (F:(dz cpos (bu es X.env)).any (·.1)=false:=by rfl) :
  PE X (.Call (.Attribute o name apos) (e::es) [] cpos) (tBM X.K T r to t):=by
 intro z s σ H Q I h
 refine wpAny_Call_method_late J N G rfl (thn (ho z s σ H _ I h) fun v s1 ⟨x,H1,Z,r1,ty,q1⟩=>?_)
 obtain⟨h1,h2⟩:=bg8 Z r1 ty
 refine⟨T,id,pa,slot,Y,h1,h2,?_⟩
 have hA:=ha cpos z s1 σ H1 _ Z q1
 rw[hs]at hA ⊢
 refine e7 (by show(false||(dz cpos (bu es X.env)).any (·.1))=false;rw[F]<;>rfl) (Calls.evalArgs_plain ?_)
 exact thn hA fun us s2 ⟨vs,H2,I2,r2,q2⟩=>hm z s2 σ H2 x vs v us Q I2 r1 r2 q2
end
def MtM (X:Cx)(id:String)(r:V->List V->Hp->VK->Prop):Prop :=
 ∀(pins:List (Addr×Obj)) (s:ae) (σ:St) (H:Hp) (x:V) (xs:List V) (v:Value) (us:List Value) (Q:VK),Inv X pins σ H s->RelV x v->Vals xs us->r x xs H Q ->
  wpAny (model X.prog X.w) X.A (call (.builtin id) (v::us)) (EP X pins σ Q) X.xe s
theorem Vals.one:∀ {x:V} {us:List Value},Vals [x] us->∃ u,us=[u]/\RelV x u
 | _,_,.cons r .nil=>⟨_,rfl,r⟩
theorem Vals.zero:∀ {us:List Value},Vals [] us->us=[]
 | _,.nil=>rfl
theorem Vals.dropLast {z:List V}{us:List Value}(h:Vals z us):Vals z.dropLast us.dropLast:=by
 induction h with
 | nil=>exact .nil
 | cons r t ih =>
  cases t with
  | nil=>exact .nil
  | cons q t'=>exact .cons r ih
theorem Vals.reverse {z:List V}{us:List Value}(h:Vals z us):Vals z.reverse us.reverse:=by
 induction h with
 | nil=>exact .nil
 | cons r t ih=>rw[c8,c8];exact Vals.append ih (.cons r .nil)
theorem Vals.rep {z:List V}{us:List Value}(h:Vals z us):∀ k:Nat,Vals (aq k z).flatten (aq k us).flatten
 | 0=>.nil
 | k+1=>by
  rw[bA,bA,b9,b9]
  exact Vals.append h (Vals.rep h k)
theorem aK2 {α:Type}(l:List α):l.eraseIdx (l.length - 1)=l.dropLast:=by
 induction l with
 | nil=>rfl
 | cons a r ih =>
  cases r with
  | nil=>rfl
  | cons b r =>
   have e:(a::b::r).length - 1=((b::r).length - 1)+1:=by
    have h:(a::b::r).length=r.length+2:=rfl
    have z:(b::r).length=r.length+1:=rfl
    omega
   rw[e,List.eraseIdx_cons_succ,ih]
   all_goals rfl
theorem av5 (its:List Value):∀(k:Nat) (h:List Value),
  ii (fun x1 z=>x1++z) h.toArray (aq k its.toArray)=(h++(aq k its).flatten).toArray
 | 0,h=>by simp
 | k+1,h=>by
  have e:h.toArray++its.toArray=(h++its).toArray:=by simp
  have e2:(h++its)++(aq k its).flatten=h++(aq (k+1) its).flatten:=by
   rw[bA,b9,bj]
  rw[<-e2,<-av5 its k (h++its),<-e,bA,cR]
section
variable {X:Cx} {pins:List (Addr×Obj)} {σ:St} {H:Hp} {s:ae} {l b:Addr} {xs ys zs:List V}
theorem Inv.lset {its its':List Value}{n:Nat}{f:Array Value->Array Value}{t':Nat}(I:Inv X pins σ H s)(z:H l=some (.lst xs))
  (e:s.heap.get? l=some { cls:=.type "list",data:=.seq its.toArray n }) (h:f its.toArray=its'.toArray) (hv:Vals ys its') (hz:ys.length<=aD) :
  Inv X pins σ (upd H l (.lst ys)) { s with heap:=s.heap.update l (eY f),toks:=t' }:=by
 have q:=PySem.IsL.update e f
 rw[h]at q
 refine I.write (x:=l) (e:=l) (by rw[z];exact trivial) (.inl rfl) (fun G u hb F=>(eZ s.heap (eY f) (cP hb)).trans F) ⟨_,q⟩ ?_
 exact⟨hz,its',_,hv,q⟩
theorem Inv.lnew {its:List Value}{t':Nat}(I:Inv X pins σ H s)(hv:Vals ys its)(hz:ys.length<=aD) :
  Inv X pins σ (upd H s.heap.objs.size (.lst ys)) { s with heap:=s.heap.push { cls:=.type "list",data:=.seq its.toArray },toks:=t' } :=
 I.laid (fun _ _ q=>ar _ q) (ai _) ⟨hz,its,0,hv,aZ _ rfl⟩
theorem Inv.fresh (I:Inv X pins σ H s):H s.heap.objs.size=none:=I.hok.fresh (ai _)
theorem Inv.lstM (I:Inv X pins σ H s)(h:H l=some (.lst xs)):xs.length<=aD/\∃(its:List Value) (n:Nat),Vals xs its/\xs.length=its.length/\s.heap.get? l=some { cls:=.type "list",data:=.seq its.toArray n }:=by
 obtain⟨z,its,n,r,e⟩:=I.hok l _ h
 exact⟨z,its,n,r,r.length,e⟩
theorem aZ7 {n:Nat}(h:n<=aD):cO n=false:=by
 unfold cO
 exact decide_eq_false (by omega)
end
section
variable {X:Cx}
def bt2:V->List V->Hp->VK->Prop:=fun x vs H Q=>∃ l xs y,x=.ref l/\vs=[y]/\H l=some (.lst xs)/\xs.length<aD/\Q .non (upd H l (.lst (xs++[y])))
theorem ax8:MtM X "list.append" bt2:=by
 intro G s σ H x vs v us Q I Z Y h
 obtain⟨l,xs,y,rfl,rfl,J,hz,q⟩:=h
 cases Z
 obtain⟨u,rfl,N⟩:=Y.one
 obtain⟨z,its,n,r,hl,e⟩:=I.lstM J
 refine e8 fy ⟨_,e,rfl⟩ F.entry_list_append (F.args_list_append_2 _ _) (PySem.list_append l its.toArray n u (by rw[ao];omega)) ⟨e,?_⟩
 refine⟨.non,_,I.lset (its':=its++[u]) J e (by simp) (r.append (.cons N .nil)) ?_,rfl,q⟩
 rw[aA,aX]
 omega
def bX4:V->List V->Hp->VK->Prop:=fun x vs H Q=>∃ l xs y,x=.ref l/\vs=[]/\H l=some (.lst xs)/\xs[xs.length - 1]?=some y/\Q y (upd H l (.lst xs.dropLast))
theorem bv5:MtM X "list.pop" bX4:=by
 intro N s σ H x vs v us Q I rx rv h
 obtain⟨l,xs,y,rfl,rfl,Y,hy,q⟩:=h
 cases rx
 have G:=rv.zero
 subst G
 obtain⟨z,its,n,r,hl,e⟩:=I.lstM Y
 obtain⟨u,Z,ru⟩:=r.get hy
 have J:its.toArray[its.toArray.size - 1]?=some u:=by
  show its.toArray[its.length - 1]?=some u
  rw[<-fz,<-hl]
  exact Z
 refine e8 gm ⟨_,e,rfl⟩ F.entry_list_pop (F.args_list_pop_1 _) (MeetsSeq.list_pop_last l its.toArray n u J (by rw[ao];omega)) ⟨e,?_⟩
 refine⟨y,_,I.lset (its':=its.dropLast) Y e ?_ r.dropLast ?_,ru,q⟩
 ·show its.toArray.eraseIdxIfInBounds (its.toArray.size - 1)=its.dropLast.toArray
  rw[ao,List.eraseIdxIfInBounds_toArray,aK2]
 ·rw[List.length_dropLast]
  omega
def bY7:R2:=fun x y H Q=>∃ l b xs zs,x=.ref l/\y=.ref b/\H l=some (.lst xs)/\H b=some (.lst zs)/\xs.length+zs.length<=aD/\∀ p,H p=none->Q (.ref p) (upd H p (.lst (xs++zs)))
theorem bD1:OpR X (bM .Add) bY7:=by
 intro G s σ H x y v u Q I rx ry h
 obtain⟨l,b,xs,zs,rfl,rfl,Y,J,hz,q⟩:=h
 cases rx
 cases ry
 obtain⟨z,its,n,r,hl,e⟩:=I.lstM Y
 obtain⟨z2,F,n2,r2,Z,e2⟩:=I.lstM J
 refine PySem.P.add_list e e2 ?_ (by rw[ao,ao];omega)
 have N:its.toArray++F.toArray=(its++F).toArray:=by simp
 rw[N]
 exact⟨.ref _,_,I.lnew (t':=s.toks) (r.append r2) (by rw[aA];omega),rfl,q _ I.fresh⟩
def bX8:R2:=fun x y H Q=>∃ l k xs,x=.ref l/\y=.int k/\H l=some (.lst xs)/\-(2^63)<=k/\k<2^63/\xs.length*k.toNat<=aD /\
 ∀ p,H p=none->Q (.ref p) (upd H p (.lst (aq k.toNat xs).flatten))
theorem br1 {α:Type}(h:List α)(k:Nat):(aq k h).flatten.length=k*h.length:=by
 induction k with
 | zero=>simp
 | succ k ih=>rw[bA,b9,aA,ih,Nat.succ_mul,e9]
theorem bw9:OpR X (bM .Mult) bX8:=by
 intro a0 s σ H x y v u Q I rx ry h
 obtain⟨l,k,xs,rfl,rfl,hH,h1,h2,hz,q⟩:=h
 cases rx
 obtain⟨t,rfl⟩:=ry
 obtain⟨z,its,n,r,hl,e⟩:=I.lstM hH
 have J:its.toArray.size*k.toNat<=aD:=by rw[ao,<-hl];exact hz
 have N:¬ its.toArray.size*k.toNat > (2^63 - 1) / 8:=by
  have:(aD:Nat)<=(2^63 - 1) / 8:=by decide
  omega
 have Z:¬(!Builtin.List.listFitsIndex k)=true:=by
  rw[fitsIndex_both h1 h2]
  exact aS
 have G:¬ cO (its.toArray.size*k.toNat)=true:=by
  rw[aZ7 J]
  exact aS
 have Y:ii (fun x1 x2=>x1++x2) #[] (aq (if its.toArray.isEmpty=true then 0 else k.toNat) its.toArray)=(aq k.toNat its).flatten.toArray:=by
  have f0:∀ m:Nat,ii (fun x1 x2=>x1++x2) #[] (aq m its.toArray)=(aq m its).flatten.toArray:=fun m=>by
   have:=av5 its m []
   rw[cS]at this
   exact this
  rw[f0]
  cases its with
  | nil=>simp
  | cons a r'=>rw[if_neg (by simp)]
 refine dX (T := "list") (U := "int") (by decide) ⟨_,e,rfl⟩ (fun s'=>e6 s' k t) noFill_list_mul gq cV repeat_list fT.lookup
  (e8 cV (e6 s k t) fU (fG _ _) (int___rmul___int_list k t l its.toArray n)
   ⟨e,rfl,⟨_,e,rfl⟩,e8 F.slot_list_mul ⟨_,e,rfl⟩ F.entry_list_mul (F.args_list_mul_2 _ _) (AutoListH.list___mul___list_int_3 l its.toArray n k t Z N G) ⟨e,?_⟩⟩)
 rw[Y]
 exact⟨.ref _,_,I.lnew (t':=s.toks) (r.rep k.toNat) (by rw[br1,iL];exact hz),rfl,q _ I.fresh⟩
end
section
variable {prog:aG} {w:World} {A:aR} {E:Value->ae->Prop} {s:ae}
end
section
variable {X:Cx}
end
end L2
end
noncomputable section
namespace Att
open PySem PySem.W PySem.Calls PyProof.Rows
theorem ints_of_wellAll {P:Params}{h:Heap}:∀(ns:List Int) (vs:List Value),WellAll P h vs (ns.map WData.int)->hV vs ns:=by
 intro ns
 induction ns with
 | nil =>
  intro vs w
  rw[cL]at w
  cases w
  exact .nil
 | cons n ns ih =>
  intro vs w
  rw[aY]at w
  cases w with
  | cons a b =>
   cases a
   exact .cons _ _ (ih _ b)
theorem script_of {l:OpenLaw}{n:Nat}(hn:l.most=some n){P:Params}{h:Heap}{args:List WData}{F:List Value}
  (z:l.row.toRowW.claim.pre args=true) (Y:WellAll P h F args) :
  ∃ a vs ns,F=[Value.ref a]/\args=[WData.list (ns.map WData.int)]/\h.get? a=some { cls:=.type "list",data:=.seq vs.toArray }/\hV vs ns/\ns.length<=n:=by
 have Z:WShape.hasAll [] args [.list .int]=true:=(pre_splitW z).1
 have hc:l.pre.holds [] { args:=args }=true:=(pre_splitW z).2
 obtain⟨d,r,rfl,h1,h2⟩:=hasAllW_cons Z
 obtain rfl:=hasAllW_nil h2
 obtain⟨xs,rfl,h3⟩:=hasW_list h1
 obtain⟨ns,rfl⟩:=items_int h3
 have G:ns.length<=n:=by
  unfold OpenLaw.pre at hc
  have J:(WTm.not (.lt (.lit (.int (n:Int))) (.len (.arg 0)))).holds [] { args:=[.list (ns.map .int)] }=true:=by
   have J:=(holds_andW hc).1
   rw[hn]at J
   exact J
  have N:=condW_of J (w_not (w_lt w_lit (w_len_list (w_arg rfl))))
  rw[aK]at N
  refine gO fun q=>?_
  have q':(n:Int)<((ns.length:Nat):Int):=by omega
  first
   | (rw[decide_eq_true q']at N;exact absurd N (by decide))
   | (simp at N;omega)
 cases Y with
 | cons w1 w2 =>
  cases w2
  cases w1 with
  | list ho hall=>exact⟨_,_,ns,rfl,rfl,ho,ints_of_wellAll ns _ hall,G⟩
theorem post_true (l:OpenLaw)(args:List WData):l.row.toRowW.claim.post args (.bool true) args=true :=
 postW_of (r:=l.row.toRowW) (X:=(true==true))
  (show WShape.has [] (.bool true) .bool=true by first|rfl|decide|simp[WShape.has,WShape.arms,WShape.armsAll])
  (show(WTm.eq .res (.lit (.bool true))).value [] { args:=args,res:=some (.bool true),after:=args }=some (.bool (true==true))from w_eq_bool (w_res rfl) w_lit) rfl
theorem attach_call {l:OpenLaw}{n:Nat}{q:aG}{z:List Str}{XP:(Str->Option Value)->Heap->Prop}{YP:World->Heap->Prop}{d:DefRec}
  (hn:l.most=some n) (a2:d.params.defaults=[])
  (call:∀(w:World) (s₀ h:ae) (mg mb:Str->Option Value) (fa:Addr) (o:Obj) (pm cd F:Value) (a:Addr) (vs:List Value) (ns:List Int),
   Ground q z [] XP w s₀ mg mb h.heap->YP w h.heap ->
   h.heap.get? fa=some o->o.data=.func (docDef d.name d.params d.body d.scope pm cd F)->h.heap.CodeRec cd d.name->mg d.name=some (.ref fa) ->
   h.heap.get? a=some { cls:=.type "list",data:=.seq vs.toArray }->hV vs ns->ns.length<=n->h.gens=#[] ->
   fP (model l.prog w) fQ (.call (.ref fa) ⟨[.ref a],[]⟩) (fun r s'=>r=.ok (.ret (.bool true))/\OldK h.heap s'.heap/\s'.os=h.os/\dG s'.gens) h) :
  WalkO q z XP YP l.row.toRowW d [] (fun f vs=>iZ f vs):=by
 intro w s₀ h mg mb G Y fa o pm cd F dV kV ho hd hcd hD a3 hg args a5 as a0 a4 a6 a1 b0
 obtain rfl:dV=.none:=Dflts.none hD a2
 obtain rfl:kV=.none:=Dflts.noKw hD
 obtain⟨a,vs,ns,rfl,rfl,N,J,Z⟩:=script_of hn a0 a1
 refine enter_call (gD (call w s₀ h mg mb fa o pm cd F a vs ns G Y ho (fd_plain hd) hcd a3 N J Z hg) fun r s' hq=>?_)
 obtain⟨rfl,h2,h3,h4⟩:=hq
 exact⟨.inl ⟨.bool true,.bool true,[],rfl,fun _=>rfl,.bool true,post_true l _,fun _=>⟨List.Pairwise.nil,fun _ hm=>(nomatch hm)⟩⟩,h2,h3,h4⟩
section
variable {prog:aG} {w:World} {A:aR} {E:Value->ae->Prop} {s:ae} {K:Frag}
end
end Att
noncomputable section
namespace L2
open PySem PySem.Spec PyProof.Rows
theorem av8:∀ {vs:List Value} {ns:List Int},hV vs ns->Vals (ns.map V.int) vs
 | _,_,.nil=>.nil
 | _,_,.cons n t h=>.cons ⟨t,rfl⟩ (av8 h)
noncomputable def defArgs (s:Stmt):bP:=match s with
 | .FunctionDef _ a _ _ _ _ _ _ _ _=>a
 | _=>{ posonlyargs:=[],args:=[],vararg:=none,kwonlyargs:=[],kw_defaults:=[],kwarg:=none,defaults:=[] }
noncomputable def zz (s:Stmt):List Stmt:=match s with
 | .FunctionDef _ _ b _ _ _ _ _ _ _=>b
 | _=>[]
noncomputable def defScope (s:Stmt):Scope:=match s with
 | .FunctionDef _ _ _ _ _ _ sc _ _ _=>sc
 | _=>{ kind:=.function,names:=[],isGenerator:=false,isCoroutine:=false }
noncomputable abbrev CX0:CXT:=fun _ _ _ _ _ _=>False
abbrev E0:XK:=fun _ _ _=>False
theorem bH0 {X:Cx}:aH0 CX0 X E0:=fun _ _ _ _ _ _ _ h=>h.elim
structure Fun (K:ac)(x qual:Str)(st:Stmt)(f:Addr)(fd:bJ):Prop where
 ex:∃(oc:Value) (od:Option Addr) (kV doc pm:Value) (an:Option Addr) (cdv ct:Value) (osl:Array (Option Value)),
  fd=cj x qual (defArgs st) (zz st) (defScope st) .none kV doc pm an cdv ct/\K.lookup f=some ⟨oc,od,.func fd,osl⟩/\dR K cdv qual=true
 kp:bV K (.ref f)=true
section
variable {P:aG} {w:World} {K:ac} {mg:Str->Option Value} {base:Heap}
theorem Fun.ok {x qual:Str}{st:Stmt}{f:Addr}{Z:bJ}{N ps:List Str}{k:Nat}{sp:Sp}(F:Fun K x qual st f Z)(S:FnScope N ps (defScope st))(len:∀ vs H Q E,sp vs H Q E->vs.length=ps.length)
  (J:∀(G:Value) (A:aR) (z:List Env) (s:ae) (H:Hp) (vs:List V) (Q:VK) (E:XK),Room k (A.deeper (dQ qual (defScope st) s.heap.objs.size f G))->sp vs H Q E ->
   ∃ t,PSs (ba7 CX0 P w K mg base N qual (defScope st) f G A z s H E).nox (zz st) t/\t { nx:=fun _ H'=>Q .non H',rt:=Q } (al9 N vs) H):FnOk P w K mg base CX0 (k+1) f Z ps sp:=by
 obtain⟨oc,od,kV,a1,pm,an,G,ct,a0,rfl,lk,hcd⟩:=F.ex
 refine bI4 lk hcd S len fun A z s H vs Q E hr Y=>?_
 obtain⟨t,h,q⟩:=J G A z s H vs Q E hr Y
 exact⟨t,h.nox,q⟩
theorem Fun.binds {x qual:Str}{st:Stmt}{f:Addr}{Y:bJ}{ps:List Str}(F:Fun K x qual st f Y)
  (h:∀(kV z J:Value) (N:Option Addr) (G ct:Value) (us:List Value),us.length=ps.length->c6 (cj x qual (defArgs st) (zz st) (defScope st) .none kV z J N G ct) ⟨us,[]⟩=pure (ps.zip us)):Binds K Y ps []:=by
 obtain⟨oc,od,kV,z,J,N,G,ct,Z,rfl,lk,hcd⟩:=F.ex
 exact .all (h kV z J N G ct)
theorem bh7 {x qual:Str}{st:Stmt}{f:Addr}{oc:Value}{od J:Option Addr}{F:Array (Option Value)}{kV z G h ct:Value}(l:K.lookup f=some ⟨oc,od,.func (cj x qual (defArgs st) (zz st) (defScope st) .none kV z G J h ct),F⟩)
  (c:dR K h qual=true) (k:bV K (.ref f)=true):Fun K x qual st f (cj x qual (defArgs st) (zz st) (defScope st) .none kV z G J h ct):=⟨⟨oc,od,kV,z,G,J,h,ct,F,rfl,l,c⟩,k⟩
end
theorem aK6 {A:aR}{k:Nat}(h:Room k A):A.units+1<cLine:=Nat.lt_of_le_of_lt (Nat.add_le_add_left (by decide:1<=64) _) h.units
section
variable {X:Cx}
end
theorem bY5 {A B:Prop}(h:B):if false=true then A else B:=by
 rw[if_neg aS]
 exact h
theorem iteT {A B:Prop}(h:A):if true=true then A else B:=by
 rw[if_pos rfl]
 exact h
def aj9 (H H':Hp):Prop:=∀ b o,H b=some o->H' b=some o
theorem aj9.refl (H:Hp):aj9 H H:=fun _ _ h=>h
theorem aj9.trans {H F z:Hp}(a:aj9 H F)(b:aj9 F z):aj9 H z:=fun c o h=>b c o (a c o h)
theorem aT9 {prog:aG}{w:World}{A:aR}{R:hZ->ae->Prop}{s:ae}{G z iter:Expr}{J:List Expr}{scope:Scope}{pos:Pos}{it F:Value}{env:Env}(I:Nat->ae->Prop)
  (turn:∀ n s,I n s->wpAny (model prog w) A (pyNext it) (fun r Z=>match r with
   | none=>R (.ok .next) Z
   | some v=>wpAny (model prog w) A (dA z it v) (fun _ N=>wpAny (model prog w) A (eS z env v) (fun _ s₂ =>
     wpAny (model prog w) A (forIn J true fun c r=>if r=true then do let ok <- cT c env (eval c env);pure (ForInStep.yield ok)else pure (ForInStep.yield r)) (fun ok s₃ =>
      if ok=true then wpAny (model prog w) A (eval G env) (fun x s₄ =>
       wpAny (model prog w) A (call (.builtin "list.append") [F,x]) (fun _ s₅=>∃ m,m<n/\I m s₅) (gI (model prog w) A env fun e s'=>R (.error e) s') s₄) (gI (model prog w) A env fun e s'=>R (.error e) s') s₃
      else ∃ m,m<n/\I m s₃) (gI (model prog w) A env fun e s'=>R (.error e) s') s₂) (gI (model prog w) A env fun e s'=>R (.error e) s') N) (gI (model prog w) A env fun e s'=>R (.error e) s') Z) (gI (model prog w) A env fun e s'=>R (.error e) s') s)
  (n:Nat) (h:I n s) :
  fP (model prog w) A (.compLoop (.ListComp G [⟨z,iter,J,0⟩] scope pos) 0 it F env) R s:=by
 refine codeAny_loop rfl I (fun n s hI=>?_) n h
 show wpAny _ A ((compTurn (.ListComp G [⟨z,iter,J,0⟩] scope pos) 0 it F env).onRaise (fun x=>do noteFrame x env;theTreesLotGoes x)) _ _ s
 refine wpAny_noted ?_
 rw[compTurn_list]
 refine ak (fZ (ak (bw (turn n s hI) (fun r Z h₁=>?_) fun _ _ h'=>h')))
 cases r with
 | none=>exact aF h₁
 | some v =>
  refine ak (bw h₁ (fun _ N Y=>?_) fun _ _ h'=>h')
  refine ak (bw Y (fun _ s₂ h₂=>ak (bw h₂ (fun ok s₃ h₃=>?_) fun _ _ h'=>h')) fun _ _ h'=>h')
  cases ok with
  | false=>exact aF ⟨rfl,h₃⟩
  | true =>
   exact ak (ak (bw h₃ (fun x s₄ h₄=>ak (bw h₄ (fun _ s₅ h₅=>aF (aF ⟨rfl,h₅⟩)) fun _ _ h'=>h')) fun _ _ h'=>h'))
noncomputable def aq6 (cells:List (Str×Addr)):List (Str×bR)->List (Str×Addr)->List (Str×Addr)
 | [],acc=>acc
 | (n,k)::r,acc=>aq6 cells r (if k==.free then(match cells.lookup n with|some c=>(n,c)::acc|none=>acc)else acc)
theorem ak9 {env:Env}:∀(names:List (Str×bR)) (z:List (Str×Addr)),(∀ y∈names,y.2=.free->∃ c,env.cells.lookup y.1=some c) ->
  (forIn names z fun(x:Str×bR) (cs:List (Str×Addr))=>(if x.2==.free then do let c <- cellOf env x.1;pure (ForInStep.yield ((x.1,c)::cs))else pure (ForInStep.yield cs):Sem (ForInStep (List (Str×Addr)))))=pure (aq6 env.cells names z)
 | [],z,_=>by rw[fH];rfl
 | (n,k)::r,z,h=>by
  have F:=fun a=>ak9 r a fun y hy=>h y (aw _ hy)
  rw[g7]
  unfold aq6
  cases e:(k==NameKind.free)with
  | false =>
   simp only[au,if_false]
   exact F z
  | true =>
   have hk:k=.free:=by simpa using e
   obtain⟨c,hc⟩:=h (n,k) az hk
   have e1:cellOf env n=pure c:=by unfold cellOf;rw[hc]
   simp only[if_true,e1,hc]
   exact F _
theorem ak7 {scope:Scope}{env:Env}(h:∀ y∈scope.names,y.2=.free->∃ c,env.cells.lookup y.1=some c):closureFor scope env=pure (aq6 env.cells scope.names []):=by
 have:=ak9 (env:=env) scope.names [] h
 show(forIn scope.names [] (fun(x:Str×bR) (cs:List (Str×Addr))=>(if x.2==.free then do let c <- cellOf env x.1;pure (ForInStep.yield ((x.1,c)::cs))else pure (ForInStep.yield cs):Sem (ForInStep (List (Str×Addr))))) >>= fun cs=>pure cs)=_
 rw[this]
 rfl
theorem clOf_mem {cells:List (Str×Addr)}{n:Str}{c:Addr}:∀ {names:List (Str×bR)} {F:List (Str×Addr)},(n,c)∈aq6 cells names F->cells.lookup n=some c\/(n,c)∈F
 | [],_,h=>.inr h
 | (m,k)::r,F,h=>by
  unfold aq6 at h
  rcases clOf_mem h with z|z
  ·exact .inl z
  ·cases e:(k==NameKind.free)with
   | false=>simp only[e,au,if_false]at z;exact .inr z
   | true =>
    simp only[e,if_true]at z
    cases q:cells.lookup m with
    | none=>rw[q]at z;exact .inr z
    | some d =>
     rw[q]at z
     rcases aN.mp z with y|y
     ·cases y;exact .inl q
     ·exact .inr y
theorem aI7 {cells:List (Str×Addr)}{n:Str}{c:Addr}(hc:cells.lookup n=some c):∀ {names:List (Str×bR)} {z:List (Str×Addr)},((n,NameKind.free)∈names\/(n,c)∈z)->(n,c)∈aq6 cells names z
 | [],_,h=>by rcases h with h|h;(exact absurd h (by simp));exact h
 | (m,k)::r,z,h=>by
  unfold aq6
  refine aI7 hc ?_
  rcases h with h|h
  ·rcases aN.mp h with e|h
   ·cases e
    right
    simp[hc]
   ·exact .inl h
  ·right
   cases e:(k==NameKind.free)with
   | false=>simpa using h
   | true =>
    simp only[if_true]
    cases q:cells.lookup m with
    | none=>exact h
    | some d=>exact aw _ h
theorem al3 {α:Type}{n:Str}{c:α}:∀ {l:List (Str×α)},(n,c)∈l->(∀ d,(n,d)∈l->d=c)->l.lookup n=some c
 | (m,d)::r,h,u=>by
  rw[aP]
  cases e:n==m with
  | true =>
   have e':=beq_iff_eq.mp e
   subst e'
   rw[u d az]
  | false =>
   rcases aN.mp h with z|z
   ·cases z;simp at e
   ·exact al3 z fun d' h'=>u d' (aw _ h')
theorem aA9 {cells:List (Str×Addr)}{n:Str}{c:Addr}{names:List (Str×bR)}(hc:cells.lookup n=some c)(h:(n,NameKind.free)∈names):(aq6 cells names []).lookup n=some c:=by
 refine al3 (aI7 hc (.inl h)) fun d hd=>?_
 rcases clOf_mem hd with z|z
 ·rw[hc]at z;exact(av z).symm
 ·exact absurd z (by simp)
theorem ze:∀(names:List (Str×bR)) (n:Nat) (h:List (Str×Addr)),aI n names h=aI n names []++h
 | [],_,h=>by simp[aI]
 | (x,k)::r,n,h=>by
  unfold aI
  split
  ·rw[ze r (n+1) ((x,n)::h),ze r (n+1) [(x,n)]]
   simp
  ·exact ze r n h
theorem zq:∀ {names:List (Str×bR)} {n:Nat} {F:List (Str×Addr)} {x:Str} {c:Addr},(x,c)∈aI n names F->(x,NameKind.cell)∈names\/(x,c)∈F
 | [],_,_,_,_,h=>.inr h
 | (y,k)::r,n,F,x,c,h=>by
  unfold aI at h
  split at h
  ·rename_i hk
   rcases zq h with z|z
   ·exact .inl (aw _ z)
   ·rcases aN.mp z with e|z
    ·cases e
     have:k=.cell:=by simpa using hk
     subst this
     exact .inl az
    ·exact .inr z
  ·rcases zq h with z|z
   ·exact .inl (aw _ z)
   ·exact .inr z
theorem zv {α:Type}(x:Str):∀(l r:List (Str×α)),(l++r).lookup x=(l.lookup x).or (r.lookup x)
 | [],r=>by simp
 | (y,v)::l,r=>by
  rw[eK,aP,aP]
  cases x==y with
  | true=>rfl
  | false=>exact zv x l r
noncomputable def zH (N':List Str)(src:List (Option Nat))(scope:Scope)(XN:List Str)(xs:Scope):Bool :=
 (scope.kind==.function) &&
 (scope.names.all fun y=>!(y.2==.free)||(xs.names.lookup y.1==some .cell||xs.names.lookup y.1==some .free)) &&
 (scope.names.all fun y=>!(y.2==.local)||scope.names.lookup y.1==some .local) &&
 (scope.names.all fun y=>!(y.2==.cell)||(scope.names.all fun z=>!(z.1==y.1)||z.2==.cell)) &&
 (src.length==N'.length) &&
 ((N'.zip src).all fun y=>match y.2 with|none=>true|some j=>XN[j]?==some y.1&&scope.names.lookup y.1==some .free)
structure CompCk (N':List Str)(src:List (Option Nat))(scope:Scope)(XN:List Str)(xs:Scope):Prop where
 kind:scope.kind=.function
 fr:∀ y∈scope.names,y.2=.free->xs.names.lookup y.1=some .cell\/xs.names.lookup y.1=some .free
 loc:∀ y∈scope.names,y.2=.local->scope.names.lookup y.1=some .local
 cel:∀ y∈scope.names,y.2=.cell->∀ z∈scope.names,z.1=y.1->z.2=.cell
 len:src.length=N'.length
 sr:∀(i j:Nat) (x:Str),src[i]?=some (some j)->N'[i]?=some x->XN[j]?=some x/\scope.names.lookup x=some .free
theorem bg3 {F:List Str}{src:List (Option Nat)}{scope:Scope}{G:List Str}{J:Scope}(h:zH F src scope G J=true):CompCk F src scope G J:=by
 unfold zH at h
 simp only[ag]at h
 obtain⟨⟨⟨⟨⟨N,h2⟩,Z⟩,Y⟩,h5⟩,h6⟩:=h
 refine⟨by simpa using N,fun y hy e=>?_,fun y hy e=>?_,fun y hy e z hz ez=>?_,by simpa using h5,fun i j x e1 e2=>?_⟩
 ·have:=aQ.mp h2 y hy
  simpa [e]using this
 ·have:=aQ.mp Z y hy
  simpa [e]using this
 ·have:=aQ.mp Y y hy
  simp only[e,beq_self_eq_true,aO,iB]at this
  have:=aQ.mp this z hz
  simpa [ez]using this
 ·have hm:(x,some j)∈F.zip src:=by
   refine bv (i:=i) ?_
   rw[List.getElem?_zip_eq_some]
   exact⟨e2,e1⟩
  have:=aQ.mp h6 _ hm
  simpa using this
noncomputable abbrev zw (X:Cx)(N':List Str)(scope:Scope)(C:Addr)(cells:List (Str×Addr))(s:ae)(H:Hp)(ex:List Addr):Cx where
 prog:=X.prog
 w:=X.w
 K:=X.K
 mg:=X.mg
 base:=X.base
 A:=X.A
 N:=N'
 s₀:=s
 H₀:=H
 env:={ scope:=dm scope X.env,locals:=C,globals:=X.env.globals,cells:=cells,qual:=X.env.qual,func:=none,code:=X.env.code,frame:=X.env.frame,builtins:=X.env.builtins }
 outer:=X.stack
 stack:=X.stack
 ex:=ex
 fn:=fun x=>scope.names.lookup x==some .cell
 calm:=X.calm
 pn:=[]
 xe:=fun _ _=>False
def PIf (X:Cx)(ifs:List Expr)(t:TT):Prop :=
 ∀(pins:List (Addr×Obj)) (s:ae) (σ:St) (H:Hp) (Q:Bool->Hp->Prop),Inv X pins σ H s->t σ H Q ->
  wpAny (model X.prog X.w) X.A (forIn ifs true fun c r=>if r=true then do let ok <- cT c X.env (eval c X.env);pure (ForInStep.yield ok)else pure (ForInStep.yield r)) (TP X pins σ Q) X.xe s
def bX1:TT:=fun _ H Q=>Q true H
theorem bq4 {X:Cx}:PIf X [] bX1:=fun _ _ _ H _ I h=>wpAny_tests_nil ⟨H,I,h⟩
theorem bt6 {X:Cx}{c:Expr}{t:TT}(h:PT X c t):PIf X [c] t:=fun z s σ H Q I hw=>wpAny_tests_one (h z s σ H Q I hw)
noncomputable def ay3 (src:List (Option Nat))(σ:St):St:=src.map fun o=>match o with|none=>none|some j=>(σ[j]?).join
def tComp (src:List (Option Nat))(wi:TI)(g:TG)(tc:TT)(te:TE):TE:=fun σ H Q=>wi σ H fun J H1=>∀ D,H1 D=none ->
 ∃ W:Nat->Nat->St->Hp->Prop,(∃ m,W 0 m (ay3 src σ) (upd H1 D (.lst [])))/\∀ i m σ' H',W i m σ' H' ->
  (J.stop i H'/\Q (.ref D) H')\/(J.go i H'/\∃ N:St->Hp->Prop,(∀ σ2 H2,N σ2 H2->∃ m',m'<m/\W (i+1) m' σ2 H2) /\
   ∀ x H2,J.yld i H' x H2->g x σ' H2 fun σ3 H3=>tc σ3 H3 fun b H4=>if b=true then te σ3 H4 fun v H5=>∃ ys,H5 D=some (.lst ys)/\ys.length<aD/\N σ3 (upd H5 D (.lst (ys++[v])))else N σ3 H4)
theorem zU {env:Env}:∀ {names:List (Str×bR)} {x:Str} {k:bR},names.lookup x=some k ->
  (names.map fun(n,k)=>if(k==NameKind.free&&env.scope.kind==.function&&env.kindOf n==some .cell)then(n,NameKind.cell)else(n,k)).lookup x =
   some (if(k==NameKind.free&&env.scope.kind==.function&&env.kindOf x==some .cell)then NameKind.cell else k)
 | [],_,_,h=>by simp at h
 | (n,k)::r,x,k',h=>by
  have z:=@zU env r x k'
  show gT x ((if(k==NameKind.free&&env.scope.kind==.function&&env.kindOf n==some .cell)=true then(n,NameKind.cell)else(n,k))::_)=_
  cases hx:x==n with
  | true =>
   have e:=beq_iff_eq.mp hx
   subst e
   simp only[aP,hx]at h
   cases h
   by_cases hc:(k==NameKind.free&&env.scope.kind==.function&&env.kindOf x==some .cell)=true
   ·rw[if_pos hc,if_pos hc];simp only[aP,hx]
   ·rw[if_neg hc,if_neg hc];simp only[aP,hx]
  | false =>
   simp only[aP,hx]at h
   by_cases hc:(k==NameKind.free&&env.scope.kind==.function&&env.kindOf n==some .cell)=true
   ·rw[if_pos hc];simp only[aP,hx];exact z h
   ·rw[if_neg hc];simp only[aP,hx];exact z h
theorem zO {env:Env}:∀ {names:List (Str×bR)} {x:Str},names.lookup x=none ->
  (names.map fun(n,k)=>if(k==NameKind.free&&env.scope.kind==.function&&env.kindOf n==some .cell)then(n,NameKind.cell)else(n,k)).lookup x=none
 | [],_,_=>rfl
 | (n,k)::r,x,h=>by
  have z:=@zO env r x
  show gT x ((if(k==NameKind.free&&env.scope.kind==.function&&env.kindOf n==some .cell)=true then(n,NameKind.cell)else(n,k))::_)=_
  cases hx:x==n with
  | true=>simp only[aP,hx]at h;cases h
  | false =>
   simp only[aP,hx]at h
   by_cases hc:(k==NameKind.free&&env.scope.kind==.function&&env.kindOf n==some .cell)=true
   ·rw[if_pos hc];simp only[aP,hx];exact z h
   ·rw[if_neg hc];simp only[aP,hx];exact z h
theorem ar3 {X:Cx}{N':List Str}{src:List (Option Nat)}{scope:Scope}{a5:List (Addr×Obj)}{σ:St}{H:Hp}{s s4:ae}{fp:List Addr}
  (F:CompCk N' src scope X.N X.env.scope) (I:Inv X a5 σ H s) (hf:∀ b∈fp,FpOk X a5 H b) (b2:∀ b∈fp,b<s.heap.objs.size)
  (e4:∃ tk,s4={ s with heap:=di (s.heap.push { cls:=.type "dict",data:=.dict #[] }) scope.names,toks:=tk }) :
  Inv (zw X N' scope s.heap.objs.size (aI (s.heap.objs.size+1) scope.names (aq6 X.env.cells scope.names [])) s H fp) [] (ay3 src σ) H s4:=by
 obtain⟨tk,rfl⟩:=e4
 have hk:∀ b o,s.heap.get? b=some o->(di (s.heap.push { cls:=.type "dict",data:=.dict #[] }) scope.names).get? b=some o:=fun b o e=>cu _ _ b o (ar _ e)
 have ok:=cellsFrom_ok scope.names (s.heap.push { cls:=.type "dict",data:=.dict #[] }) (s.heap.objs.size+1) [] ⟨fun _ _ hm=>(nomatch hm),List.Pairwise.nil⟩ (by rw[bN];exact ai _)
 rw[bN]at ok
 have Z:=ze scope.names (s.heap.objs.size+1) (aq6 X.env.cells scope.names [])
 have lk:∀ x c,(aI (s.heap.objs.size+1) scope.names (aq6 X.env.cells scope.names [])).lookup x=some c ->
   ((x,c)∈aI (s.heap.objs.size+1) scope.names []/\(x,NameKind.cell)∈scope.names)\/(X.env.cells.lookup x=some c/\(aI (s.heap.objs.size+1) scope.names []).lookup x=none):=fun x c e=>by
  rw[Z,zv]at e
  cases q:(aI (s.heap.objs.size+1) scope.names []).lookup x with
  | some d =>
   rw[q]at e
   have e':d=c:=av e
   subst e'
   have hm:=aB q
   refine .inl ⟨hm,?_⟩
   rcases zq hm with z|z
   ·exact z
   ·exact absurd z (by simp)
  | none =>
   rw[q]at e
   have e':(aq6 X.env.cells scope.names []).lookup x=some c:=e
   rcases clOf_mem (aB e')with z|z
   ·exact .inr ⟨z,rfl⟩
   ·exact absurd z (by simp)
 have up:∀ x c,(x,c)∈aI (s.heap.objs.size+1) scope.names []->s.heap.objs.size+1<=c:=fun x c h=>(ok.empty x c h).2
 have b3:∀ x c,X.env.cells.lookup x=some c->c<s.heap.objs.size:=fun x c h=>by
  obtain⟨v,q⟩:=I.cell x c h
  exact q.lt
 have a4:∀ b,b<s.heap.objs.size->b≠s.heap.objs.size:=fun b h=>ay h
 have b0:∀ b∈fp,H b=none/\b≠X.env.locals/\b ∉ X.fs:=fun b hb=>⟨(hf b hb).1,(hf b hb).2.1,(hf b hb).2.2.1⟩
 have b5:(di (s.heap.push { cls:=.type "dict",data:=.dict #[] }) scope.names).Ns s.heap.objs.size (fun _=>none):=(iW s.heap (.type "dict")).keeps (cu _ _)
 have a0:∀ x k,scope.names.lookup x=some k->(dm scope X.env).names.lookup x=some (if(k==NameKind.free&&X.env.scope.kind==.function&&X.env.kindOf x==some .cell)then NameKind.cell else k):=fun x k e=>zU (env:=X.env) e
 have a3:∀ x,scope.names.lookup x=none->(dm scope X.env).names.lookup x=none:=fun x e=>zO (env:=X.env) e
 have b4:∀ x c,(x,NameKind.free)∈scope.names->X.env.cells.lookup x=some c->(aI (s.heap.objs.size+1) scope.names (aq6 X.env.cells scope.names [])).lookup x=some c:=fun x c hx hc=>by
  rw[Z,zv]
  cases q:(aI (s.heap.objs.size+1) scope.names []).lookup x with
  | some d =>
   rcases zq (aB q)with z|z
   ·have:=F.cel _ z rfl _ hx rfl
    cases this
   ·exact absurd z (by simp)
  | none=>exact aA9 hc hx
 have a6:∀ x,(x,NameKind.free)∈scope.names->∃ c,X.env.cells.lookup x=some c:=fun x hx=>I.ok.has x (F.fr _ hx rfl)
 refine⟨⟨I.ok.mod,F.kind,I.ok.glob,I.ok.blt,ai _,fun x y c e1 e2=>?_,fun x hx=>?_,fun x c hx e=>?_,I.ok.hd,I.ok.frames,.inl rfl,fun b hb=>⟨a4 b (b2 b hb),fun x c e z=>?_⟩,I.bs,aj I.ok.bsz I.sz,fun b o e hb=>?_,fun b hb z=>?_,I.stack,I.stkFree⟩,
  rfl,I.bare,Un.kept hk,⟨_,b5,fun i x v e1 e2 e3=>?_⟩,fun x c e=>?_,I.hok.fresh (ai _),fun x c e=>?_,fun p hp=>absurd (show p∈([]:List (Addr×Obj))from hp) (by simp),I.hok.kept hk,by unfold ay3;rw[aK];exact F.len⟩
 ·rcases lk x c e1 with⟨a1,_⟩|⟨a1,_⟩<;>rcases lk y c e2 with⟨a2,_⟩|⟨a2,_⟩
  ·exact eU ok.apart a1 a2
  ·exact absurd (ax (b3 _ _ a2) (d5 (up _ _ a1))) (bt _)
  ·exact absurd (ax (b3 _ _ a1) (d5 (up _ _ a2))) (bt _)
  ·exact I.ok.inj x y c a1 a2
 ·cases q:scope.names.lookup x with
  | none =>
   have J:(dm scope X.env).names.lookup x=some .cell\/(dm scope X.env).names.lookup x=some .free:=hx
   rw[a3 x q]at J
   rcases J with z|z<;>cases z
  | some k =>
   have J:(dm scope X.env).names.lookup x=some .cell\/(dm scope X.env).names.lookup x=some .free:=hx
   rw[a0 x k q]at J
   cases k with
   | free =>
    obtain⟨c,hc⟩:=a6 x (aB q)
    exact⟨c,b4 x c (aB q) hc⟩
   | cell =>
    obtain⟨c,hc⟩:=zG (n:=s.heap.objs.size+1) q
    exact⟨c,by show(aI _ _ _).lookup x=_;rw[Z,zv,hc];rfl⟩
   | _=>rcases J with z|z<;>cases z
 ·have J:(scope.names.lookup x==some .cell)=true:=hx
  have q:scope.names.lookup x=some .cell:=by simpa using J
  rcases lk x c e with⟨a,_⟩|⟨a,b⟩
  ·have:=up _ _ a;show s.heap.objs.size<=c;omega
  ·obtain⟨d,hd⟩:=zG (n:=s.heap.objs.size+1) q
   rw[hd]at b;cases b
 ·subst z
  rcases lk x c e with⟨a,_⟩|⟨a,_⟩
  ·exact absurd (ax (b2 c hb) (d5 (up _ _ a))) (bt _)
  ·exact(hf c hb).2.2.2.2.1 x c a rfl
 ·rcases(hf b hb).2.2.2.1 with z|z
  ·exact I.ok.noex b o e z
  ·exact absurd (ax (aC e) (aj I.ok.bsz z)) (bt _)
 ·rcases aN.mp (I.stkSub b z)with y|y
  ·exact(b0 b hb).2.1 y
  ·exact(b0 b hb).2.2 y
 ·have G:(ay3 src σ)[i]?=some (some v):=e2
  unfold ay3 at G
  rw[aU]at G
  cases q:src[i]? with
  | none=>rw[q]at G;cases G
  | some o =>
   rw[q]at G
   cases o with
   | none=>cases G
   | some j =>
    have Y:(σ[j]?).join=some v:=av G
    have ej:σ[j]?=some (some v):=by
     cases q2:σ[j]? with
     | none=>rw[q2]at Y;cases Y
     | some o2=>rw[q2]at Y;exact congrArg some Y
    obtain⟨h1,h2⟩:=F.sr i j x q e1
    have hm:=aB h2
    obtain⟨mX,c3,b6⟩:=I.loc
    have b1:Vis X.env.scope x:=by
     rcases F.fr _ hm rfl with z|z
     ·exact .inr (.inl z)
     ·exact .inr (.inr z)
    obtain⟨u,ru,look⟩:=b6 j x v h1 ej b1
    refine⟨u,ru,.inr ?_⟩
    have hcell:∃ c,X.env.cells.lookup x=some c/\s.heap.IsCell c (some u):=by
     rcases look with⟨z,_⟩|⟨_,c,z1,z2⟩
     ·have z':X.env.scope.names.lookup x=some .local:=z
      rcases F.fr _ hm rfl with y|y<;>(rw[z']at y;cases y)
     ·exact⟨c,z1,z2⟩
    obtain⟨c,c1,c2⟩:=hcell
    refine⟨?_,c,b4 x c hm c1,c2.keeps hk⟩
    show(dm scope X.env).names.lookup x=some .cell\/(dm scope X.env).names.lookup x=some .free
    rw[a0 x _ h2]
    by_cases hc:(NameKind.free==NameKind.free&&X.env.scope.kind==.function&&X.env.kindOf x==some .cell)=true
    ·rw[if_pos hc];exact .inl rfl
    ·rw[if_neg hc];exact .inr rfl
 ·rcases lk x c e with⟨a,_⟩|⟨a,_⟩
  ·exact⟨_,(ok.empty x c a).1⟩
  ·obtain⟨v,q⟩:=I.cell x c a
   exact⟨v,q.keeps hk⟩
 ·rcases lk x c e with⟨a,_⟩|⟨a,_⟩
  ·exact I.hok.fresh (by have:=up _ _ a;omega)
  ·exact I.freeC x c a
theorem aH4 {X:Cx}{Z:List Str}{scope:Scope}{h:List (Addr×Obj)}{σ σ':St}{H G:Hp}{s s5:ae}{Y:List Addr}{cells:List (Str×Addr)}{h':Heap}
  (I:Inv X h σ H s) (N:∀ b∈Y,FpOk X h H b) (J:Inv (zw X Z scope s.heap.objs.size cells s H Y) [] σ' G s5) (hs:c5 s.heap.objs.size s5.heap h') :
  Inv X h σ G { s5 with heap:=h' }:=by
 have F:∀ b o,s.heap.get? b=some o->b≠s.heap.objs.size:=fun b o e=>ay (aC e)
 have u:Un (frs X.stack) Y H G s.heap s5.heap:=J.base
 refine I.call' (s':={ s5 with heap:=h' }) (ch:=Y) J.os ⟨fun b o e n hb hx=>?_,fun b o e n hb hx=>?_,fun b o e n hx=>u.free b o e n hx,fun b o e hx=>?_,u.tups,u.frzs,u.tbls⟩ (fun b o e=>?_) J.bare fun b hb=>⟨(N b hb).2.2.2.1,(N b hb).2.1,(N b hb).2.2.2.2.1,(N b hb).2.2.2.2.2⟩
 ·exact(hs.2 b (F b o e)).trans (u.keep b o e n hb hx)
 ·obtain⟨sl,q⟩:=u.slot b o e n hb hx
  exact⟨sl,(hs.2 b (F b o e)).trans q⟩
 ·obtain⟨o',q⟩:=u.there b o e hx
  exact⟨o',(hs.2 b (F b o e)).trans q⟩
 ·have fr:G s.heap.objs.size=none:=J.free
  refine(J.hok b o e).stay (fun c w' hc q=>(hs.2 c ?_).trans q) (fun _ q=>q) fun _ _ q=>q
  rintro rfl
  rcases hc with z|hc
  ·rw[<-z,fr]at e;cases e
  ·rw[fr]at hc;cases hc
theorem al6 {M:Model}{A:aR}{E:Value->ae->Prop}{s:ae}{scope:Scope}{globals:Addr}{F:List (Str×Addr)}{qual:Str}{z:Env}{Q:Env->ae->Prop}
  (h:Q { scope:=scope,locals:=s.heap.objs.size,globals:=globals,cells:=aI (s.heap.objs.size+1) scope.names F,qual:=qual,func:=none,code:=z.code,frame:=z.frame,builtins:=z.builtins }
   { s with heap:=di (s.heap.push { cls:=.type "dict",data:=.dict #[] }) scope.names }) :
  wpAny M A (dU scope globals F [] qual none .none (some z)) Q E s:=by
 simp only[dU,gr,if_true]
 refine ak (wpAny_alloc ?_)
 refine ak (wpAny_layCells _ (fun name kind cells=>by cases hkc:kind==NameKind.cell<;>simp[hkc]) _ _ _ _ ?_)
 rw[show({ s with heap:=s.heap.push { cls:=.type "dict",data:=.dict #[] } }:ae).heap.objs.size=s.heap.objs.size+1 from bN ..]
 refine ak ?_
 rw[fH]
 exact aF (aF h)
theorem aA0 {X':Cx}{R:hZ->ae->Prop}{a4 tg iter:Expr}{a5:List Expr}{scope:Scope}{pos:Pos}{g:TG}{tc:TT}{te:TE}{J:It}{fp:List Addr}{it D:Addr}{tn:Nat->Heap->Prop}{W:Nat->Nat->St->Hp->Prop}
  {QD:Hp->Prop} {σ0:St} {H0:Hp} {s4:ae} {m0:Nat} (hx:X'.xe=fun _ _=>False) (F:X'.calm=true) (I4:Inv X' [] σ0 H0 s4) (T:Turn X'.prog X'.w X'.K tg J fp it tn) (b0:tn 0 s4.heap)
  (G:∀ H':Hp,(∀ b∈fp,H' b=none)->∀ b∈fp,FpOk X' [] H' b) (b1:∀ b∈fp,H0 b=none) (w0:W 0 m0 σ0 H0)
  (turn:∀ i m σ' H',W i m σ' H'->(J.stop i H'/\QD H')\/(J.go i H'/\∃ N:St->Hp->Prop,(∀ σ2 H2,N σ2 H2->∃ m',m'<m/\W (i+1) m' σ2 H2) /\
   ∀ x H2,J.yld i H' x H2->g x σ' H2 fun σ3 Y=>tc σ3 Y fun b H4=>if b=true then te σ3 H4 fun v H5=>∃ ys,H5 D=some (.lst ys)/\ys.length<aD/\N σ3 (upd H5 D (.lst (ys++[v])))else N σ3 H4))
  (hg:PG X' tg g) (a6:PIf X' a5 tc) (he:PE X' a4 te) (a3:∀ σ' H' s',Inv X' [] σ' H' s'->QD H'->R (.ok .next) s') :
  fP (model X'.prog X'.w) X'.A (.compLoop (.ListComp a4 [⟨tg,iter,a5,0⟩] scope pos) 0 (.ref it) (.ref D) X'.env) R s4:=by
 have nox:∀ {α:Type} {t:Sem α} {Q Q':α->ae->Prop} {E:Value->ae->Prop} {s:ae},wpAny (model X'.prog X'.w) X'.A t Q X'.xe s->(∀ a s,Q a s->Q' a s)->wpAny (model X'.prog X'.w) X'.A t Q' E s :=
  fun h hQ=>bw h hQ fun _ _ z=>by rw[hx]at z;exact z.elim
 refine aT9 (fun n s'=>∃ i σ' H',Inv X' [] σ' H' s'/\tn i s'.heap/\(∀ b∈fp,H' b=none)/\W i n σ' H') ?_ m0 ⟨0,σ0,H0,I4,b0,b1,w0⟩
 rintro n s3 ⟨i,σ3,Y,I3,a2,a1,w3⟩
 rcases turn i n σ3 Y w3 with⟨stop,qn⟩|⟨go,N,hN,step⟩
 ·refine nox (T.done X' rfl rfl rfl F i [] s3 σ3 Y X'.xe I3 (G Y a1) a2 stop) fun r s4 ⟨hr,I4⟩=>?_
  subst hr
  exact a3 σ3 Y s4 I4 qn
 ·refine nox (T.item X' rfl rfl rfl F i [] s3 σ3 Y X'.xe I3 (G Y a1) a2 go) fun r s4 ⟨u,hr,h4⟩=>?_
  subst hr
  refine nox h4 fun _ s5 ⟨x,H5,I5,r5,y5,a0,b3⟩=>?_
  have b2:=I5.pinned (G H5 b3) (T.obj _ _ a0)
  refine nox (hg _ s5 σ3 H5 x u _ b2 r5 (step x H5 y5)) fun _ s6 ⟨σ6,H6,I6,q6⟩=>?_
  have again:∀ {σ7:St} {Z:Hp} {s7:ae},Inv X' ([]++aw9 fp s5.heap) σ7 Z s7->N σ7 Z->∃ m,m<n/\∃ i σ' H',Inv X' [] σ' H' s7/\tn i s7.heap/\(∀ b∈fp,H' b=none)/\W i m σ' H':=fun {σ7 Z s7} I7 n7=>by
   obtain⟨m',hm,w7⟩:=hN σ7 Z n7
   refine⟨m',hm,i+1,σ7,Z,I7.unpinned,T.keep _ _ _ a0 fun b hb o e=>(I7.pin (b,o) (aW _ (aW _ (qg hb e)))).1,fun b hb=>?_,w7⟩
   obtain⟨o,e,d⟩:=T.obj _ _ a0 b hb
   exact(I7.pin (b,o) (aW _ (aW _ (qg hb e)))).2.1
  refine nox (a6 _ s6 σ6 H6 _ I6 q6) fun b s7 ⟨Z,I7,q7⟩=>?_
  cases b with
  | false =>
   rw[if_neg aS]at q7 ⊢
   exact again I7 q7
  | true =>
   rw[if_pos rfl]at q7 ⊢
   refine nox (he _ s7 σ6 Z _ I7 q7) fun v s8 ⟨y,H8,I8,r8,ys,hy,hz,q8⟩=>?_
   refine nox (ax8 _ s8 σ6 H8 (.ref D) [y] (.ref D) [v] (fun _ H9=>N σ6 H9) I8 rfl (.cons r8 .nil) ⟨D,ys,y,rfl,rfl,hy,hz,q8⟩) fun v9 s9 ⟨_,H9,I9,_,q9⟩=>?_
   exact again I9 q9
theorem aU2 {X:Cx}{a3 tg iter:Expr}{a4:List Expr}{scope:Scope}{pos:Pos}{wi:TI}{g:TG}{tc:TT}{te:TE}(Z:List Str)(src:List (Option Nat))
  (b3:zH Z src scope X.N X.env.scope=true) (hi:PI X tg iter wi) (Y:X.calm=true)
  (b1:∀(C:Addr) (cells:List (Str×Addr)) (s:ae) (H:Hp) (ex:List Addr),PG (zw X Z scope C cells s H ex) tg g/\PIf (zw X Z scope C cells s H ex) a4 tc/\PE (zw X Z scope C cells s H ex) a3 te)
  (hs:∀ x,cD iter X.env x=pure x:=by intro _;rfl):PE X (.ListComp a3 [⟨tg,iter,a4,0⟩] scope pos) (tComp src wi g tc te):=by
 intro z s σ H Q I h
 have ck:=bg3 b3
 rw[eval_ListComp]
 have b5:=ak7 (scope:=scope) (env:=X.env) fun y hy e=>I.ok.has y.1 (ck.fr y hy e)
 refine eD (use:=none) rfl hs b5 ck.kind ck.loc (thn (hi z s σ H _ I h) fun v s1 h1=>thn h1 fun c1 s2 h2=>?_)
 obtain⟨it,F,tn,J,H2,e,I2,T,a2,f2,W⟩:=h2
 subst e
 have hD:=I2.fresh
 obtain⟨W,⟨m0,w0⟩,turn⟩:=W _ hD
 have I3:=I2.lnew (its:=[]) (ys:=[]) (t':=s2.toks) .nil (c0 _)
 have a0:∀ b∈F,b<s2.heap.objs.size:=fun b hb=>by obtain⟨o,q,_⟩:=T.obj _ _ a2 b hb;exact aC q
 have f3:∀ b∈F,FpOk X z (upd H2 s2.heap.objs.size (.lst [])) b:=fun b hb=>⟨by rw[zl (ay (a0 b hb))];exact(f2 b hb).1,(f2 b hb).2⟩
 refine bC (al6 ?_)
 generalize G:({ s2 with heap:=s2.heap.push { cls:=.type "list",data:=.seq ([]:List Value).toArray },toks:=s2.toks }:ae)=s3 at I3
 have b6:({ s2 with heap:=s2.heap.push { cls:=.type "list",data:=.seq ([]:List Value).toArray } }:ae)=s3:=G
 have a6:∀ b∈F,b<s3.heap.objs.size:=fun b hb=>by
  rw[<-G]
  show b<(s2.heap.push _).objs.size
  rw[bN]
  exact c9 (a0 b hb)
 have I4:=ar3 (s4:={ s3 with heap:=di (s3.heap.push { cls:=.type "dict",data:=.dict #[] }) scope.names }) ck I3 f3 a6 ⟨_,rfl⟩
 have a5:tn 0 (di (s3.heap.push { cls:=.type "dict",data:=.dict #[] }) scope.names):=T.keep _ _ _ a2 fun b hb o e=>cu _ _ b o (ar _ (by rw[<-G];exact ar _ e))
 obtain⟨hg,b2,he⟩:=b1 s3.heap.objs.size (aI (s3.heap.objs.size+1) scope.names (aq6 X.env.cells scope.names [])) s3 (upd H2 s2.heap.objs.size (.lst [])) F
 have a1:∀ H':Hp,(∀ b∈F,H' b=none)->∀ b∈F,FpOk (zw X Z scope s3.heap.objs.size (aI (s3.heap.objs.size+1) scope.names (aq6 X.env.cells scope.names [])) s3 (upd H2 s2.heap.objs.size (.lst [])) F) [] H' b:=fun H' hn b hb =>
  ⟨hn b hb,(I4.ok.exf b hb).1,I4.ok.exfs b hb,.inl hb,fun x c e=>(I4.ok.exf b hb).2 x c e,fun p hp=>absurd (show p∈([]:List (Addr×Obj))from hp) (by simp)⟩
 have T':Turn X.prog X.w X.K tg J F it tn:=T
 have b0:∀ b∈F,upd H2 s2.heap.objs.size (.lst []) b=none:=fun b hb=>(f3 b hb).1
 have L:=aA0 (X':=zw X Z scope s3.heap.objs.size (aI (s3.heap.objs.size+1) scope.names (aq6 X.env.cells scope.names [])) s3 (upd H2 s2.heap.objs.size (.lst [])) F) (R:=compPost (model X.prog X.w) X.A X.xe none (EP X z σ Q) (Value.ref s2.heap.objs.size) s3.heap.objs.size) (iter:=iter) (scope:=scope) (pos:=pos) (QD:=fun H'=>Q (.ref s2.heap.objs.size) H') rfl Y I4 T' a5 a1 b0 w0 turn hg b2 he
  (fun σ' H' s' J' q=>by
   obtain⟨mm,hn,_⟩:=J'.loc
   exact⟨mm,hn,fun h' b4=>⟨.ref s2.heap.objs.size,H',aH4 I3 f3 J' b4,rfl,q⟩⟩)
 exact fc L (T.self _ _ _ _ _ a5 L)
section
variable {X:Cx}
theorem bP4:a7 "abs"=some (.builtin "abs"):=by decide +kernel
theorem bL9:a7 "len"=some (.builtin "len"):=by decide +kernel
theorem bz7:a7 "min"=some (.builtin "min"):=by decide +kernel
theorem bN4:a7 "max"=some (.builtin "max"):=by decide +kernel
theorem bO9:a7 "sum"=some (.builtin "sum"):=by decide +kernel
theorem bO0:a7 "all"=some (.builtin "all"):=by decide +kernel
theorem az4:a7 "isinstance"=some (.builtin "isinstance"):=by decide +kernel
theorem bv2:a7 "int"=some (.type "int"):=by decide +kernel
theorem bA7:a7 "bool"=some (.type "bool"):=by decide +kernel
theorem bP8:a7 "str"=some (.type "str"):=by decide +kernel
theorem aQ6:a7 "tuple"=some (.type "tuple"):=by decide +kernel
theorem bi0:a7 "list"=some (.type "list"):=by decide +kernel
def bO4 (i j:Int):Prop:=0<j/\j<2^4096
theorem aL1 {y:Int}(h0:0<y)(h:y<2^4096):y.natAbs.log2<9000:=by
 have hn:y.natAbs<2^4096:=by
  have:(y.natAbs:Int)=y:=by omega
  have z:(y.natAbs:Int)<((2^4096:Nat):Int):=by rw[this];simpa using h
  exact gJ.mp z
 have:=(Nat.log2_lt (by omega)).mpr hn
 omega
theorem aZ9:OpR X (bM .FloorDiv) (rI bO4 fun i j=>.int (i / j)):=opI fun i j _ _ _ _ _ hc q=>by
 refine floordiv_int (by have:=hc.1;omega) ?_ (.inl (PyProof.noPylong_of_log2 (aL1 hc.1 hc.2)))
 rw[dP i (by have:=hc.1;omega)]
 exact q
theorem aH7 {K:ac}(h:X.K=K):IxR X (bU0 K):=by subst h;exact bo5
theorem bj6 {K:ac}(h:X.K=K):IxR X (bV7 K):=by subst h;exact ix_tup
theorem ao7 {K:ac}(h:X.K=K):ai1 X (.builtin "len") (fun z H Q=>∃ p ys,z=[.ref p]/\(SqL K H p ys\/SqT K H p ys)/\Q (.int ys.length) H):=by subst h;exact ax1
theorem aE0 {K:ac}(h:X.K=K):ai1 X (.type "tuple") (fun z H Q=>∃ p ys,z=[.ref p]/\((SqL K H p ys/\∀ l,H l=none->Q (.ref l) (upd H l (.tup ys)))\/(SqT K H p ys/\Q (.ref p) H))):=by subst h;exact av3
theorem aK0 {K:ac}(h:X.K=K):ai1 X (.type "list") (fun z H Q=>∃ p ys,z=[.ref p]/\(SqL K H p ys\/SqT K H p ys)/\∀ l,H l=none->Q (.ref l) (upd H l (.lst ys))):=by subst h;exact av9
theorem bb9 {K:ac}{tg l:Expr}{h:TE}(z:X.K=K)(hl:PE X l h):PI X tg l (bl5 K h):=by subst z;exact bo3 hl
theorem bk5 {K:ac}{tg l:Expr}{h:TE}(z:X.K=K)(hl:PE X l h):PI X tg l (bS1 K h):=by subst z;exact bF2 hl
theorem bo7 {K:ac}{pos:Pos}{es:List Expr}{k:Nat}{t:TGs}{n:Nat}(F:X.K=K)(hc:X.calm=true)(h:PGs X es t)
  (hn:(bU es X.env).length=n:=by rfl) (z:(bU es X.env).findIdx? (·.1)=none:=by rfl):PG X (.Tuple es k pos) (bM4 K n t):=by subst F;exact bC7 hc h hn z
end
structure DefAt (K:ac)(mg:Str->Option Value)(x:Str)(st:Stmt)(ps:List Str)(f:Addr)(fd:bJ):Prop where
 fn:Fun K x x st f fd
 mg:mg x=some (.ref f)
 bi:Binds K fd ps []
@[irreducible] noncomputable def bY8 (p:Prop):Prop:=p
theorem aj9.new {p:Addr}{H z:Hp}{o:HO}(h:aj9 H z)(F:z p=none):aj9 H (L2.upd z p o):=fun x o e=>by
 have e1:=h x o e
 rw[zl (zr e1 F)]
 exact e1
section
variable {prog:aG} {w:World} {A:aR} {R:hZ->ae->Prop} {I:Addr} {fp wr:List Addr} {n:Nat} {P:Nat->Value->Prop} {St:Nat->Heap->Prop} {kw:List (Str×Value)}
end
theorem an8 (val : Nat -> Int) : ∀ k j, j <= k -> val (hW (fun i j => decide (val i < val j)) k) <= val j
  | 0, j, h => by have : j = 0 := by omega
                  subst this; exact gU _
  | k + 1, j, h => by
    have ih := an8 val k
    unfold hW
    by_cases hb : val (k + 1) < val (hW (fun i j => decide (val i < val j)) k)
    · rw[if_pos (by simpa using hb)]
      by_cases hj : j = k + 1
      · subst hj; exact gU _
      · have := ih j (by omega); omega
    · rw[if_neg (by simpa using hb)]
      by_cases hj : j = k + 1
      · subst hj; omega
      · exact ih j (by omega)
theorem aD3 {ns:List Int}{its:List Value}(r:Vals (ns.map V.int) its){i:Nat}{v:Value}(h:its[i]?=some v):∃ z t,ns[i]?=some z/\v=Value.int z t:=by
 have hl:=r.length
 rw[aK]at hl
 have F:i<its.length:=(af.mp h).1
 obtain⟨u,e1,q⟩:=r.get (i:=i) (x:=.int ns[i]) (by rw[aU,am (by omega)];rfl)
 rw[h]at e1;cases e1
 obtain⟨t,rfl⟩:=q
 exact⟨_,t,am (by omega),rfl⟩
inductive D where
 | non|bl (b:Bool)|int (i:Int)|str (x:Str)|tup (l:List D)|lst (l:List D)
mutual
noncomputable def D.deep:D->Nat
 | .tup l=>D.deepL l+1
 | .lst l=>D.deepL l+1
 | _=>0
noncomputable def D.deepL:List D->Nat
 | []=>0
 | d::l=>max (D.deep d) (D.deepL l)
end
section
variable {X:Cx}
end
section
variable {X:Cx}
def bQ0 (K:ac):R2:=fun x y H Q=>∃ a b xs ys,x=.ref a/\y=.ref b/\SqT K H a xs/\SqT K H b ys/\xs.length+ys.length<=aD/\∀ p H',aj9 H H'->SqT K H' p (xs++ys)->(H' p=some (.tup (xs++ys))\/(p=a/\ys=[])\/(p=b/\xs=[]))->Q (.ref p) H'
theorem bm0 {prog:aG}{w:World}{A:aR}{E:Value->ae->Prop}{s:ae}{t b:Addr}{ws:List Value}{Q:Value->ae->Prop}(ht:IsTup s.heap t ([]:List Value).toArray)(hb:IsTup s.heap b ws.toArray)(h1:Q (.ref b) s) :
  wpAny (model prog w) A (bM .Add (.ref t) (.ref b)) Q E s:=by
 obtain⟨⟨cls,Z,data,sl⟩,ho,hc,n,hd⟩:=id ht
 obtain⟨⟨Y,G,N,J⟩,z,h,n2,F⟩:=id hb
 simp only at hc hd h F
 subst hc hd h F
 exact gE ⟨_,ho,rfl⟩ ⟨_,z,rfl⟩ eJ f8 c7 cX (cN _ _)
   (tuple_addW0 t b _ ws.toArray n n2 Z G sl J rfl) ⟨ho,z,h1⟩
theorem bo4 {K:ac}(Z:X.K=K):OpR X (bM .Add) (bQ0 K):=by
 subst Z
 intro F s σ H x y v u Q I N Y h
 obtain⟨a,b,G,ys,e1,e2,ha,hb,hz,q⟩:=h
 by_cases hx:G=[]
 ·subst e1;subst e2;subst hx
  cases N;cases Y
  obtain⟨its,r1,p1,_⟩:=I.tuple ha
  obtain⟨J,r2,p2,_⟩:=I.tuple hb
  obtain rfl:its=[]:=r1.nil_iff.mpr rfl
  exact bm0 p1 p2 ⟨.ref b,H,I,rfl,q b H (aj9.refl H) hb (.inr (.inr ⟨rfl,rfl⟩))⟩
 ·refine bs7 F s σ H x y v u Q I N Y ⟨a,b,G,ys,e1,e2,ha,hb,hx,hz,fun z=>?_,fun z p hp=>?_⟩
  ·subst z
   exact q a H (aj9.refl H) (by rw[bf];exact ha) (.inr (.inl ⟨rfl,rfl⟩))
  ·exact q p _ ((aj9.refl H).new hp) (SqT.of zt) (.inl zt)
def bX7 (K:ac):V->Option Int->Option Int->Hp->VK->Prop:=fun x lo hi H Q=>∃ a xs,x=.ref a/\SqT K H a xs/\∀ p H',aj9 H H'->SqT K H' p (aJ5 xs lo hi)->(H' p=some (.tup (aJ5 xs lo hi))\/(p=a/\aJ5 xs lo hi=xs))->Q (.ref p) H'
theorem at6 {prog:aG}{w:World}{A:aR}{E:Value->ae->Prop}{s:ae}{t sl:Addr}{z:Array Value}{vl vu:Value}{F N:Option Int}{Q:Value->ae->Prop}(J:IsTup s.heap t z)(hs:s.heap.IsSliceOf sl vl vu .none)(pl:et vl F)(pu:et vu N)
  (hw:HT.sIx z.size 0 F=0/\HT.sIx z.size z.size N=z.size) (h:Q (.ref t) s):wpAny (model prog w) A (eV (.ref t) (.ref sl)) Q E s:=by
 obtain⟨os,a0,Z,a1⟩:=id hs
 have Y:s.TypeIs (.ref sl) "slice":=⟨os,a0,Z⟩
 unfold eV
 try with_reducible refine dj ?_
 first|refine ak (aF ?_)|skip
 refine ak (gF J.typeIs (by decide) ?_)
 refine ak (cf (name:=cn "__getitem__") J.typeIs bn
  (cK bn J.typeIs fS ?_ (gk _ _)))
 show wpAny _ _ (cG (.ref t) >>= _) _ _ s
 refine ak (f9 J ?_)
 refine ak (eW Y ?_)
 rw[if_pos (by decide)]
 refine ak (HT.sliceApplied_gen hs pl pu ?_)
 have G:((((HT.sIx z.size 0 F:Nat):Int)==0&&(1:Int)==1&&(HT.sIx z.size z.size N - HT.sIx z.size 0 F)==z.size)=true):=by
  rw[hw.1,hw.2]
  simp
 show wpAny _ _ (if(((HT.sIx z.size 0 F:Nat):Int)==0&&(1:Int)==1&&(HT.sIx z.size z.size N - HT.sIx z.size 0 F)==z.size)=true then _ else _) _ _ s
 rw[if_pos G]
 refine ak (ak (eW J.typeIs (aF ?_)))
 rw[if_pos (by decide)]
 exact ak (ik (aF ⟨_,rfl,aF h⟩))
theorem as9 {z:List V}{F G:Option Int}(h:HT.sIx z.length 0 F=0/\HT.sIx z.length z.length G=z.length):aJ5 z F G=z:=by
 unfold aJ5
 rw[h.1,h.2]
 simp
theorem bp4 {K:ac}(hK:X.K=K):SlR X (bX7 K):=by
 subst hK
 intro F s σ H x v vl vu J N sl Q I Z hs Y pu h
 obtain⟨a,z,e1,hx,q⟩:=h
 by_cases hw:HT.sIx z.length 0 J=0/\HT.sIx z.length z.length N=z.length
 ·subst e1
  cases Z
  obtain⟨its,r,ht,hz⟩:=I.tuple hx
  have G:its.toArray.size=z.length:=by rw[ao];exact r.length.symm
  refine⟨"tuple",_,bn.lookup,ht.typeIs,?_⟩
  exact at6 ht hs Y pu (by rw[G];exact hw) ⟨.ref a,H,I,rfl,q a H (aj9.refl H) (by rw[as9 hw];exact hx) (.inr ⟨rfl,as9 hw⟩)⟩
 ·exact bB8 F s σ H x v vl vu J N sl Q I Z hs Y pu ⟨a,z,e1,hx,hw,fun p hp=>q p _ ((aj9.refl H).new hp) (SqT.of zt) (.inl zt)⟩
theorem aY4 {K:ac}(h:X.K=K):SlR X (bW3 K):=by subst h;exact bl0
theorem aS1 {K:ac}(hc:X.calm=true)(hK:X.K=K):ai1 X (.builtin "sum") (fun xs H Q=>∃ a ns,xs=[.ref a]/\SqL K H a (ns.map V.int)/\iC ns/\Q (.int ns.sum) H):=by
 subst hK
 intro Z s σ H xs us Q I r h
 obtain⟨a,ns,rfl,hS,J,q⟩:=h
 obtain⟨u,rfl,ru⟩:=am7 r
 cases ru
 obtain⟨its,rv,N,hz⟩:=I.list hS
 have hl:=rv.length
 rw[aK]at hl
 refine call_sum_walk (cC N.isList ?_)
 have G:a<s.heap.objs.size:=by obtain⟨o,_,e,_⟩:=N;exact aC e
 have W:=io (prog:=X.prog) (w:=X.w) (A:=X.A.in1) (I.ok.hd hc) s.heap.objs.size a (ay G) its.toArray
 let val:Nat->Int:=fun i=>ns.getD i 0
 have F:∀ i v,its.toArray[i]?=some v->∃ t,v=Value.int (val i) t:=fun i v e=>by
  obtain⟨z,t,e1,e2⟩:=aD3 rv (i:=i) (v:=v) (by rw[cA]at e;exact e)
  refine⟨t,?_⟩
  rw[e2]
  show Value.int z t=Value.int (ns.getD i 0) t
  rw[be,e1]
  rfl
 have es:its.toArray.size=ns.length:=by rw[ao];omega
 refine⟨_,_,_,_,_,_,val,rfl,W,⟨⟨_,aZ _ rfl,rfl,rfl⟩,?_⟩,fun b hb=>?_,F,fun j hj=>?_,fun h' tk t' k=>?_⟩
 ·obtain⟨o,e,r⟩:=N.isList
  exact⟨o,ar _ e,r⟩
 ·show b<(s.heap.push _).objs.size
  rw[bN]
  rcases aN.mp hb with z|z
  ·rw[z];exact cg _
  ·have Y:b=a:=by simpa using z
   rw[Y];exact c9 G
 ·rw[es]at hj
  obtain⟨h1,h2⟩:=J j hj
  refine⟨h1,?_⟩
  rw[eF]
  exact h2
 ·have e:preSum val its.toArray.size=ns.sum:=by
   show preSum (fun i=>ns.getD i 0) _=_
   rw[eF,es,List.take_length]
  refine⟨.int ns.sum,H,I.kept (h':=h') (t':=tk) fun b o q=>k b o ?_ (ar _ q),⟨t',by rw[e]⟩,q⟩
  intro z
  have Y:b=s.heap.objs.size:=by simpa using z
  exact absurd (aC q) (by rw[Y];exact bt _)
end
noncomputable def Its (x:Str):It:=⟨fun i _=>i<x.cps.size,fun i H v H'=>H'=H/\∃ c,x.cps[i]?=some c/\v=.str ⟨#[c]⟩,fun i _=>x.cps.size<=i⟩
theorem aH2 {P:aG}{w:World}{K:ac}{tg:Expr}{J:String}{x:Str}{t:Tok}(it:Addr)(hn:["enumerate", "zip", "dict_itemiterator", "dict_reverseitemiterator", "odict_iterator", "itertools.zip_longest", "itertools.pairwise"].contains J=false)
  (W:∀ A:aR,A.handled=none->Walks P w A it [it] [it] x.cps.size (SignAt x) (fun i h=>h.IsStrIter it J x t i))
  (Y:∀(A:aR) (s:ae) (i:Nat) (Q:Option Value->ae->Prop) (E:Value->ae->Prop),A.handled=none->s.heap.IsStrIter it J x t i->x.cps[i]?=none->(∀ h',gW it s.heap h'->Q none { s with heap:=h' })->wpAny (model P w) A (pyNext (.ref it)) Q E s)
  (G:∀(A:aR) (i:Nat) (s:ae) (Q:Value->ae->Prop) (E:Value->ae->Prop),s.heap.IsStrIter it J x t i->Q (.ref it) s->wpAny (model P w) A (iJ (.ref it)) Q E s):Turn P w K tg (Its x) [it] it (fun i h=>h.IsStrIter it J x t i) where
 mem:=by simp
 obj:=fun i h st b hb=>by
  have e:b=it:=by simpa using hb
  subst e
  obtain⟨o,ho,hc,hd⟩:=st
  exact⟨o,ho,fun v z=>by rw[hd]at z;cases z⟩
 keep:=fun i h h' st k=>by
  obtain⟨o,ho,r⟩:=st
  exact⟨o,k it (by simp) _ ho,r⟩
 item:=by
  intro X hP hw hK hc i F s σ H E I Z st hg
  subst hP hw hK
  obtain⟨f0,f1,f2,f3,f4,f5⟩:=Z it (by simp)
  refine(W X.A (I.ok.hd hc)).item i s _ _ hg st fun v h' tk hv N kk=>?_
  obtain⟨c,u,a0,rfl⟩:=hv
  have I1:Inv X F σ H { s with heap:=h',toks:=tk }:=I.turned (fun b o hb e=>kk b o (by simpa using hb) e) f0 f1 f3 f4 f5
  obtain⟨o,ho,a1,hd⟩:=id N
  exact⟨_,rfl,bc8 (s:={ s with heap:=h',toks:=tk }) (n:=J) ho a1 hd hn ⟨.str ⟨#[c]⟩,H,I1,⟨u,rfl⟩,⟨rfl,c,a0,rfl⟩,N,fun b hb=>(Z b hb).1⟩⟩
 done:=by
  intro X hP hw hK hc i F s σ H E I Z st hg
  subst hP hw hK
  obtain⟨f0,f1,f2,f3,f4,f5⟩:=Z it (by simp)
  have a2:x.cps.size<=i:=hg
  exact Y X.A s i _ E (I.ok.hd hc) st (by simp;omega) fun h' eb=>⟨rfl,I.turned (t':=s.toks) (fun b o hb e=>eb b o hb e) f0 f1 f3 f4 f5⟩
 self:=fun A i s Q E st h=>G A i s Q E st h
def bU6 (tl:TE):TI:=fun σ H R=>tl σ H fun v H1=>∃ x,v=.str x/\R (Its x) H1
theorem bv0 {X:Cx}{tg l:Expr}{Y:TE}(hl:PE X l Y):PI X tg l (bU6 Y):=by
 intro z s σ H R I h
 refine thn (hl z s σ H _ I h) fun v s1 ⟨v0,H1,J,r1,q1⟩=>?_
 obtain⟨x,e,q⟩:=q1
 subst e
 obtain⟨t,rfl⟩:=r1
 have fin:∀(N:String) (o:Obj),o={ cls:=.type N,data:=.fields #[.str x t,.int 0 0] }->Turn X.prog X.w X.K tg (Its x) [s1.heap.objs.size] s1.heap.objs.size (fun i h=>h.IsStrIter s1.heap.objs.size N x t i)->PIE X z σ tg R (.ref s1.heap.objs.size) { s1 with heap:=s1.heap.push o }:=fun N o Z T=>by
  subst Z
  refine⟨s1.heap.objs.size,[s1.heap.objs.size],_,_,H1,rfl,J.kept (t':=s1.toks) fun b o e=>ar _ e,T,⟨_,aZ _ rfl,rfl,rfl⟩,fun b hb=>?_,q⟩
  have e:b=s1.heap.objs.size:=by simpa using hb
  subst e
  exact J.fpOk (ai _) (J.hok.fresh (ai _))
 cases ha:x.cps.all (·<128)
 ·exact wpAny_pyIter_wide ha (fin "str_iterator" _ rfl (aH2 _ (by decide) (fun A F=>Walks.strWide F _ x t) (fun A s i Q E F st hx G=>wpAny_pyNext_wide_end F st hx G) fun A i s Q E st h=>wpAny_pyIter_striter_wide st h))
 ·exact wpAny_pyIter_ascii ha (fin "str_ascii_iterator" _ rfl (aH2 _ (by decide) (fun A F=>Walks.strAscii F _ x t) (fun A s i Q E F st hx G=>wpAny_pyNext_ascii_end F st hx G) fun A i s Q E st h=>wpAny_pyIter_striter_ascii st h))
section
variable {X:Cx} {K:ac} {T id:String} {name:Str} {o e:Expr} {es:List Expr} {to:TE} {t:TA} {r:V->List V->Hp->VK->Prop} {apos cpos:Pos}
theorem by0 (N:X.K=K)(pa:ig T)(slot:Slot T name id)(J:iK (.builtin id)=pure (.type "method_descriptor"))(Y:MtR X id r)(ho:PE X o to)(ha:PA X (e::es) t)
  (F:eC o name X.env (eval o X.env)=eval o X.env:=by rfl)
  (G:((dz cpos (bu (e::es) X.env)).all (fun x=>!x.1)&&(backToKw cpos (keywordEach [] X.env)).all (fun x=>x.1.isSome)
   && decide ((e::es).length+([]:List hU).length+(if([]:List hU).isEmpty then 0 else 1)<30))=true:=by rfl)
  (z:(apos.endLine==cpos.line)=true:=by rfl) (hs:bu (e::es) X.env=(false,eval e X.env)::bu es X.env:=by rfl) (h:(dz cpos (bu es X.env)).any (·.1)=false:=by rfl) :
  PE X (.Call (.Attribute o name apos) (e::es) [] cpos) (tBM K T r to t):=by
 subst N
 exact bR5 pa slot J Y ho ha F G z hs h
end
structure Mach where
 letters:Int
 rooms:Int
 begins:List Int
 ends:List Int
 doors:List (Int×Str×Int×Int)
noncomputable def bM8 (q:Int×Str×Int×Int):D:=.tup [.int q.1,.str q.2.1,.int q.2.2.1,.int q.2.2.2]
noncomputable def Mach.D (M:Mach):D:=.tup [.int M.letters,.int M.rooms,.tup (M.begins.map .int),.tup (M.ends.map .int),.tup (M.doors.map bM8)]
noncomputable def ltr (i:Nat):Str:=⟨#[97+i]⟩
structure DoorOk (letters rooms:Int)(q:Int×Str×Int×Int):Prop where
 s0:0<=q.1
 s1:q.1<rooms
 l:∃ i:Nat,(i:Int)<letters/\q.2.1=ltr i
 g0:0<=q.2.2.1
 g1:q.2.2.1<rooms
 t0:0<=q.2.2.2
 t1:q.2.2.2<=3
structure RoomsOk (rooms:Int)(l:List Int):Prop where
 mem:∀ r∈l,0<=r/\r<rooms
 up:l.Pairwise (· < ·)
structure Mach.Ok (most:Nat)(M:Mach):Prop where
 l0:1<=M.letters
 l1:M.letters<=3
 r0:1<=M.rooms
 r1:M.rooms<=5
 b:RoomsOk M.rooms M.begins
 e:RoomsOk M.rooms M.ends
 d:∀ q∈M.doors,DoorOk M.letters M.rooms q
 m:M.doors.length<=most
mutual
noncomputable def D.tups:D->Bool
 | .lst _=>false
 | .tup l=>D.tupsL l
 | _=>true
noncomputable def D.tupsL:List D->Bool
 | []=>true
 | d::l=>D.tups d&&D.tupsL l
end
end L2
end
noncomputable section
namespace L2
end L2
end
noncomputable section
namespace L2
open PySem PySem.Spec PyProof.Rows
noncomputable def bT5:List Int->Option Int
 | []=>none
 | a::l=>some (match bT5 l with|none=>a|some b=>if b<a then b else a)
theorem aL2 {X:Cx}{Y tg iter:Expr}{Z:List Expr}{scope:Scope}{pos a0 py:Pos}{y:Str}{i:Nat}{wi:TI}{g:TG}{tc:TT}{te:TE}(N':List Str)(src:List (Option Nat))
  (hN:X.N.Nodup) (b3:X.N[i]?=some y) (a6:X.env.scope.names.lookup y=some .local)
  (b6:zH N' src scope X.N X.env.scope=true) (hi:PI X tg iter wi) (a1:X.calm=true)
  (b5:∀(C:Addr) (cells:List (Str×Addr)) (s:ae) (H:Hp) (ex:List Addr),PG (zw X N' scope C cells s H ex) tg g/\PIf (zw X N' scope C cells s H ex) Z tc/\PE (zw X N' scope C cells s H ex) Y te)
  (hs:∀ x,cD iter X.env x=pure x:=by intro _;rfl)
  (b1:dL (.ListComp Y [⟨tg,iter,Z,0⟩] scope pos) (some (.Name y py)) a0.line X.env=pure true:=by rfl) :
  PS X (.Assign [.Name y py] (.ListComp Y [⟨tg,iter,Z,0⟩] scope pos) a0) (bc4 (tComp src wi g tc te) (az0 i)):=by
 intro F s σ H D0 I h
 have ck:=bg3 b6
 rw[exec_Assign_Name_used _ _ _ _ b1]
 refine ak (fZ (ak ?_))
 show wpAny _ X.A (do let _ <- comprehension (.ListComp Y [⟨tg,iter,Z,0⟩] scope pos) scope X.env _ (newList []) false (eval iter X.env) (some (eS (.Name y py) X.env))) _ _ s
 have c3:=ak7 (scope:=scope) (env:=X.env) fun y hy e=>I.ok.has y.1 (ck.fr y hy e)
 refine ak (bw (eD (use:=some (eS (.Name y py) X.env)) (Q:=fun _ s'=>SP X F D0 .next s') rfl hs c3 ck.kind ck.loc (thn (hi F s σ H _ I h) fun v s1 h1=>thn h1 fun d1 s2 h2=>?_)) (fun _ s' hq=>aF (aF hq)) fun _ _ e=>e)
 obtain⟨it,G,tn,J,H2,e,I2,T,a4,f2,W⟩:=h2
 subst e
 have hD:=I2.fresh
 obtain⟨W,⟨m0,w0⟩,turn⟩:=W _ hD
 have I3:=I2.lnew (its:=[]) (ys:=[]) (t':=s2.toks) .nil (c0 _)
 have b0:∀ b∈G,b<s2.heap.objs.size:=fun b hb=>by obtain⟨o,q,_⟩:=T.obj _ _ a4 b hb;exact aC q
 have f3:∀ b∈G,FpOk X F (upd H2 s2.heap.objs.size (.lst [])) b:=fun b hb=>⟨by rw[zl (ay (b0 b hb))];exact(f2 b hb).1,(f2 b hb).2⟩
 refine bC (al6 ?_)
 generalize a2:({ s2 with heap:=s2.heap.push { cls:=.type "list",data:=.seq ([]:List Value).toArray },toks:=s2.toks }:ae)=s3 at I3
 have c4:({ s2 with heap:=s2.heap.push { cls:=.type "list",data:=.seq ([]:List Value).toArray } }:ae)=s3:=a2
 have b4:∀ b∈G,b<s3.heap.objs.size:=fun b hb=>by
  rw[<-a2]
  show b<(s2.heap.push _).objs.size
  rw[bN]
  exact c9 (b0 b hb)
 have I4:=ar3 (s4:={ s3 with heap:=di (s3.heap.push { cls:=.type "dict",data:=.dict #[] }) scope.names }) ck I3 f3 b4 ⟨_,rfl⟩
 have a3:tn 0 (di (s3.heap.push { cls:=.type "dict",data:=.dict #[] }) scope.names):=T.keep _ _ _ a4 fun b hb o e=>cu _ _ b o (ar _ (by rw[<-a2];exact ar _ e))
 obtain⟨hg,b2,he⟩:=b5 s3.heap.objs.size (aI (s3.heap.objs.size+1) scope.names (aq6 X.env.cells scope.names [])) s3 (upd H2 s2.heap.objs.size (.lst [])) G
 have a5:∀ H':Hp,(∀ b∈G,H' b=none)->∀ b∈G,FpOk (zw X N' scope s3.heap.objs.size (aI (s3.heap.objs.size+1) scope.names (aq6 X.env.cells scope.names [])) s3 (upd H2 s2.heap.objs.size (.lst [])) G) [] H' b:=fun H' hn b hb =>
  ⟨hn b hb,(I4.ok.exf b hb).1,I4.ok.exfs b hb,.inl hb,fun x c e=>(I4.ok.exf b hb).2 x c e,fun p hp=>absurd (show p∈([]:List (Addr×Obj))from hp) (by simp)⟩
 have T':Turn X.prog X.w X.K tg J G it tn:=T
 have c1:∀ b∈G,upd H2 s2.heap.objs.size (.lst []) b=none:=fun b hb=>(f3 b hb).1
 have L:=aA0 (X':=zw X N' scope s3.heap.objs.size (aI (s3.heap.objs.size+1) scope.names (aq6 X.env.cells scope.names [])) s3 (upd H2 s2.heap.objs.size (.lst [])) G) (R:=compPost (model X.prog X.w) X.A X.xe (some (eS (.Name y py) X.env)) (fun _ s'=>SP X F D0 .next s') (Value.ref s2.heap.objs.size) s3.heap.objs.size) (iter:=iter) (scope:=scope) (pos:=pos) (QD:=fun H'=>D0.nx (σ.set i (some (.ref s2.heap.objs.size))) H') rfl a1 I4 T' a3 a5 c1 w0 turn hg b2 he
  (fun σ' H' s' J' q=>by
   have J2:=aH4 I3 f3 J' (Heap.SameBut.refl _ _)
   obtain⟨mm,hn,_⟩:=J'.loc
   have nL:s3.heap.objs.size≠X.env.locals:=gz I3.lt
   have nC:∀ x c,X.env.cells.lookup x=some c->c≠s3.heap.objs.size:=fun x c e=>by
    obtain⟨v,z⟩:=I3.cell x c e
    exact ay z.lt
   show wpAny _ X.A (eS (.Name y py) X.env (.ref s2.heap.objs.size)) _ _ _
   refine gy (az9 (v:=.ref s2.heap.objs.size) J2 hN b3 (.inl a6) rfl (fun s5 I5 sb=>?_) (.inr a6))
   obtain⟨aa,sb,ha⟩:=sb
   have na:s3.heap.objs.size≠aa:=by
    rcases ha with z|z
    ·rw[z];exact nL
    ·exact fun e=>nC _ _ z e.symm
   refine⟨mm,hn.sameBut sb na,fun h' c2=>⟨_,H',I5.turned (t':=s5.toks) (fun b o hb e=>(c2.2 b hb).trans e) J'.free nL (.inr I3.sz) nC fun p hp z=>?_,q⟩⟩
   exact absurd (aC (I3.pin p hp).1) (by rw[z];exact bt _))
 exact fc L (T.self _ _ _ _ _ a3 L)
def bY0:V->Option Int->Option Int->Hp->VK->Prop:=fun x lo hi H Q=>∃ z,x=.str z/\z.length<=aD/\Q (.str (dC z lo hi)) H
theorem ay9 {v:Value}{o:Option Int}(p:et v o):∃ q:Option (Int×Tok),v=partValue q/\q.map (·.1)=o:=by
 cases p with
 | none=>exact⟨none,rfl,rfl⟩
 | int i t=>exact⟨some (i,t),rfl,rfl⟩
theorem bI1 {X:Cx}:SlR X bY0:=by
 intro Z s σ H x v vl vu J N sl Q I rx hs pl pu h
 obtain⟨z,rfl,hz,q⟩:=h
 obtain⟨t,rfl⟩:=rx
 obtain⟨l,rfl,el⟩:=ay9 pl
 obtain⟨u,rfl,eu⟩:=ay9 pu
 refine⟨"str",_,F.slot_str_getitem.lookup,ie s z t,?_⟩
 refine wpAny_getItem_str_slice (l:=l) (u:=u) (st:=none) hs rfl ?_
 unfold sliceMade
 have e:slicePicked z l u none=bp J N 1 z.length:=by
  unfold slicePicked
  rw[el,eu]
  rfl
 rw[e]
 unfold dC at q
 split
 ·rename_i hc
  have G:((1:Int)==1&&(bp J N 1 z.length).length==z.length)=true:=hc
  rw[if_pos G]at q
  exact⟨.str z,H,I,⟨t,rfl⟩,q⟩
 ·rename_i hc
  have G:¬((1:Int)==1&&(bp J N 1 z.length).length==z.length)=true:=hc
  rw[if_neg G]at q
  have Y:(Str.mk (fI (fun x=>z.cps[x]?) (bp J N 1 z.length)).toArray).length<=aD:=by
   show(fI (fun x=>z.cps[x]?) (bp J N 1 z.length)).toArray.size<=aD
   rw[ao]
   exact aj (List.length_filterMap_le _ _) (aj (sliceIndices_le J N z.length) hz)
  exact⟨Y,.str _,H,I.tok _,⟨_,rfl⟩,q⟩
section
variable {M:Model} {A:aR} {E:Value->ae->Prop} {s₀ s:ae} {m cm:Str->Option Value} {env:Env} {cs:List (Str×Addr)}
theorem bp2 {n:Str}{v:Value}{Q:Unit->ae->Prop}(z:d4 s₀ env.locals m cs cm s)(h:env.scope.kind=.function)(kl:env.kindOf n=some .local)
  (go:∀ s',d4 s₀ env.locals (fun y=>if y=n then some v else m y) cs cm s'->Q () s'):wpAny M A (fO env n v) Q E s:=by
 refine fv kl z.toInCall.ns (fun g F gs=>go _ ⟨⟨?a,F,fun b o e=>?b,z.toInCall.fresh⟩,fun k c e=>?c,z.apart,z.above⟩) (by rw[h];rfl)
 case a=>obtain⟨G,tk,e⟩:=z.toInCall.same;subst e;exact⟨g,_,rfl⟩
 case b=>exact gs.extBut b o (ay (ax (aC e) z.toInCall.fresh)) (z.toInCall.keep b o e)
 case c=>exact(z.cell k c e).sameBut gs (gz (z.above k c (aB e)))
theorem bq2 {n:Str}{c:Addr}{v:Value}{Q:Unit->ae->Prop}(z:d4 s₀ env.locals m cs cm s)(G:env.scope.kind=.function)(J:env.kindOf n=some .cell)
  (e1:env.cells.lookup n=some c) (e2:cs.lookup n=some c) (go:∀ s',d4 s₀ env.locals m cs (fun y=>if y=n then some v else cm y) s'->Q () s'):wpAny M A (fO env n v) Q E s:=by
 have up:=z.above n c (aB e2)
 refine fC G J e1 (z.cell n c e2) fun g F gs=>go _ ⟨⟨?a,z.toInCall.ns.sameBut gs (ay up),fun b o e=>?b,z.toInCall.fresh⟩,fun k h e=>?c,z.apart,z.above⟩
 case a=>obtain⟨N,tk,e⟩:=z.toInCall.same;subst e;exact⟨g,_,rfl⟩
 case b=>exact gs.extBut b o (ay (fe (ax (aC e) z.toInCall.fresh) up)) (z.toInCall.keep b o e)
 case c =>
  by_cases q:k=n
  ·subst q
   rw[e2]at e;cases e
   simpa using F
  ·rw[if_neg q]
   exact(z.cell k h e).sameBut gs fun y=>q (eU z.apart (aB e) (y▸aB e2))
theorem aC7 (f:Str×Value->PUnit->Sem (ForInStep PUnit))(Y:∀ n v u,f (n,v) u=(do fO env n v;pure (.yield ⟨⟩)))(G:env.scope.kind=.function)(sub:∀ n c,cs.lookup n=some c->env.cells.lookup n=some c) :
  ∀(bs:List (Str×Value)) (m J:Str->Option Value) (s:ae) (Q:PUnit->ae->Prop),d4 s₀ env.locals m cs J s ->
   (∀ y∈bs,env.kindOf y.1=some .local\/(env.kindOf y.1=some .cell/\∃ c,cs.lookup y.1=some c)) ->
   (∀ s',d4 s₀ env.locals (bindL env.kindOf bs m) cs (bindC env.kindOf bs J) s'->Q ⟨⟩ s')->wpAny M A (forIn bs ⟨⟩ f) Q E s
 | [],m,J,s,Q,z,_,go=>by rw[fH];exact aF (go s z)
 | (n,v)::r,m,J,s,Q,z,hy,go=>by
  rw[g7,Y]
  have hr:=fun y (q:y∈r)=>hy y (aw _ q)
  rcases hy (n,v) az with kl|⟨kc,c,e2⟩
  ·refine ak (ak (bp2 z G kl fun s' N=>aF (aC7 f Y G sub r _ _ s' Q N hr fun h F=>go h ?_)))
   unfold bindL bindC;rw[if_pos kl,if_pos kl];exact F
  ·have Z:¬ env.kindOf n=some .local:=by rw[kc];decide
   refine ak (ak (bq2 z G kc (sub n c e2) e2 fun s' N=>aF (aC7 f Y G sub r _ _ s' Q N hr fun h F=>go h ?_)))
   unfold bindL bindC;rw[if_neg Z,if_neg Z];exact F
end
theorem ar9 {M:Model}{A:aR}{E:Value->ae->Prop}{s:ae}{scope:Scope}{globals:Addr}{h:List (Str×Addr)}{binds:List (Str×Value)}{qual:Str}{func:Option Addr}{code:Value}{builtins:Addr}{Q:Env->ae->Prop}
  (F:scope.kind=.function) (hy:∀ y∈binds,scope.names.lookup y.1=some .local\/(scope.names.lookup y.1=some .cell/\∃ c,(aI (s.heap.objs.size+1) scope.names []).lookup y.1=some c))
  (go:∀ env,env=newEnv scope s.heap.objs.size globals (aI (s.heap.objs.size+1) scope.names h) qual func code none builtins ->
   ∀ s',d4 s env.locals (bindL env.kindOf binds fun _=>none) (aI (s.heap.objs.size+1) scope.names []) (bindC env.kindOf binds fun _=>none) s'->Q env s') :
  wpAny M A (dU scope globals h binds qual func code none builtins) Q E s:=by
 simp only[dU,Option.isSome_none,au,if_false]
 refine ak (wpAny_alloc (ak (wpAny_layCells _ (fun N kd J=>by cases q:kd==NameKind.cell<;>simp[q]) _ _ _ _ ?_)))
 have ok:=cellsFrom_ok scope.names (s.heap.push { cls:=.type "frame",data:=.dict #[] }) (s.heap.objs.size+1) [] ⟨fun _ _ G=>(nomatch G),List.Pairwise.nil⟩ (by rw[bN];exact ai _)
 have z:({ s with heap:=s.heap.push { cls:=.type "frame",data:=.dict #[] } }:ae).heap.objs.size=s.heap.objs.size+1:=bN ..
 rw[bN]at ok
 rw[z]
 refine ak (aC7 (s₀:=s) (cs:=aI (s.heap.objs.size+1) scope.names []) (env:=newEnv scope s.heap.objs.size globals (aI (s.heap.objs.size+1) scope.names h) qual func code none builtins)
  _ (fun _ _ _=>rfl) F (fun n c e=>?sub) binds (fun _=>none) (fun _=>none) _ _ ⟨⟨⟨_,_,rfl⟩,?ns,fun b o e=>?k,ai _⟩,fun n c e=>(ok.empty n c (aB e)).1,ok.apart,fun n c e=>(ok.empty n c e).2⟩ hy fun s' x=>aF (go _ rfl s' x))
 case sub =>
  show(aI _ _ _).lookup n=some c
  rw[ze,zv,e];rfl
 case ns=>exact(iW s.heap (.type "frame")).keeps (cu _ _)
 case k=>exact cu _ _ b o (ar _ e)
noncomputable def ay7 (c:Addr)(qual:Str):HO:=.ext fun h=>h.CodeRec (.ref c) qual
noncomputable def bu9 (f:Addr)(fd:bJ):HO:=.ext fun h=>h.get? f=some { cls:=.type "function",data:=.func fd }
theorem aw3 {P:aG}{w:World}{H:Hp}{h:Heap}{c:Addr}{q:Str}(x:HOk P w H h)(e:H c=some (ay7 c q)):h.CodeRec (.ref c) q:=(x c _ e).1
theorem au0 {P:aG}{w:World}{H:Hp}{h:Heap}{f:Addr}{z:bJ}(x:HOk P w H h)(e:H f=some (bu9 f z)):h.get? f=some { cls:=.type "function",data:=.func z }:=(x f _ e).1
noncomputable def isC (cells:List (Str×Addr))(b:Addr):Bool:=cells.any fun p=>cells.lookup p.1==some b
theorem aO8 {cells:List (Str×Addr)}{b:Addr}:isC cells b=true↔∃ x,cells.lookup x=some b:=by
 unfold isC
 rw[gP]
 constructor
 ·rintro⟨p,_,e⟩;exact⟨p.1,by simpa using e⟩
 ·rintro⟨x,e⟩;exact⟨(x,b),aB e,by simpa using e⟩
noncomputable def ah9 (cells:List (Str×Addr))(H:Hp):Hp:=fun b=>if isC cells b=true then none else H b
noncomputable def Put (cells:List (Str×Addr))(H H':Hp):Hp:=fun b=>if isC cells b=true then H b else H' b
theorem ah9.cell {cells:List (Str×Addr)}{H:Hp}{b:Addr}(h:isC cells b=true):ah9 cells H b=none:=if_pos h
theorem ah9.ne {cells:List (Str×Addr)}{H:Hp}{b:Addr}(h:isC cells b≠true):ah9 cells H b=H b:=if_neg h
theorem ah9.some {cells:List (Str×Addr)}{H:Hp}{b:Addr}{o:HO}(h:ah9 cells H b=some o):isC cells b≠true/\H b=some o:=by
 unfold ah9 at h
 split at h
 ·cases h
 ·rename_i z;exact⟨z,h⟩
theorem ah9.none {cells:List (Str×Addr)}{H:Hp}{b:Addr}(h:H b=none):ah9 cells H b=none:=by
 unfold ah9
 split
 ·rfl
 ·exact h
theorem Put.cell {cells:List (Str×Addr)}{H H':Hp}{b:Addr}(h:isC cells b=true):Put cells H H' b=H b:=if_pos h
theorem Put.ne {cells:List (Str×Addr)}{H H':Hp}{b:Addr}(h:isC cells b≠true):Put cells H H' b=H' b:=if_neg h
def Cells (clos:List (Str×Addr))(H:Hp):Prop:=∀ x c,clos.lookup x=some c->∃ o v,H c=some (.frz o (.own c))/\o.data=.cell v
theorem Cells.at {F:List (Str×Addr)}{H:Hp}(z:Cells F H){b:Addr}(h:isC F b=true):∃ o v,H b=some (.frz o (.own b))/\o.data=.cell v:=by
 obtain⟨x,e⟩:=aO8.mp h
 exact z x b e
def Cap (clos:List (Str×Addr))(H:Hp)(fr:List Str)(cap:List V):Prop:=∀(i:Nat) (x:Str) (v:V),fr[i]?=some x->cap[i]?=some v->∃ c o u,clos.lookup x=some c/\H c=some (.frz o (.own c))/\o.data=.cell (some u)/\RelV v u
structure LamScope (N ps fr:List Str)(sc:Scope):Prop where
 kind:sc.kind=.function
 co:sc.isCoroutine=false
 gen:sc.isGenerator=false
 nd:N.Nodup
 app:N=ps++fr
 par:∀ x∈ps,sc.names.lookup x=some .local\/sc.names.lookup x=some .cell
 frs:∀ x∈fr,sc.names.lookup x=some .free
 cel:∀ y∈sc.names,y.2=.cell->sc.names.lookup y.1=some .cell
noncomputable def aB8 (P:aG)(w:World)(K:ac)(mg:Str->Option Value)(base:Heap)(N:List Str)(qual:Str)(scope:Scope)(f:Addr)(cd:Value)(clos:List (Str×Addr))(A:aR)(outer:List Env)(s:ae)(H:Hp):Cx where
 prog:=P
 w:=w
 K:=K
 mg:=mg
 base:=base
 A:=A.deeper (cq qual scope s.heap.objs.size f cd (aI (s.heap.objs.size+1) scope.names clos))
 N:=N
 s₀:=s
 H₀:=ah9 clos H
 env:=cq qual scope s.heap.objs.size f cd (aI (s.heap.objs.size+1) scope.names clos)
 outer:=outer
 stack:=cq qual scope s.heap.objs.size f cd (aI (s.heap.objs.size+1) scope.names clos)::outer
 ex:=[]
 fn:=fun x=>scope.names.lookup x==some .cell
 calm:=true
 pn:=[]
 xe:=fun _ _=>False
theorem HOk.drop {P:aG}{w:World}{H:Hp}{h:Heap}{F:List (Str×Addr)}(x:HOk P w H h)(z:Cells F H):HOk P w (ah9 F H) h:=fun b o e=>by
 obtain⟨_,e'⟩:=ah9.some e
 have J:∀ c u,H c=some u->(∀ o v,u≠.frz o v)->isC F c≠true:=fun c u q d y=>by
  obtain⟨o,v,G,_⟩:=z.at y
  rw[q]at G;cases G
  exact d _ _ rfl
 exact(x b o e').stay (fun _ _ _ q=>q) (fun c q=>by rw[ah9.ne (J c _ q fun _ _=>by nofun)];exact q) fun c N q=>by rw[ah9.ne (J c _ q fun _ _=>by nofun)];exact q
theorem aQ0 {P:aG}{w:World}{K:ac}{mg:Str->Option Value}{base:Heap}{N ps fr:List Str}{qual:Str}{scope:Scope}{f:Addr}{cd:Value}{h:List (Str×Addr)}{A:aR}{F:List Env}{s s1:ae}{H:Hp}{us:List Value}{vs cap:List V}
  (S:LamScope N ps fr scope) (hd:A.handled=none) (G:Env0 P w K mg base A F s H) (hl:vs.length=ps.length) (a3:cap.length=fr.length) (r:Vals vs us)
  (hc:Cells h H) (inj:∀ x y c,h.lookup x=some c->h.lookup y=some c->x=y) (a2:∀ x,scope.names.lookup x=some .free->∃ c,h.lookup x=some c) (a0:Cap h H fr cap)
  (x:d4 s s.heap.objs.size (bindL (cq qual scope s.heap.objs.size f cd (aI (s.heap.objs.size+1) scope.names h)).kindOf (ps.zip us) fun _=>none) (aI (s.heap.objs.size+1) scope.names [])
   (bindC (cq qual scope s.heap.objs.size f cd (aI (s.heap.objs.size+1) scope.names h)).kindOf (ps.zip us) fun _=>none) s1) :
  Inv (aB8 P w K mg base N qual scope f cd h A F s H) [] (vs.map some++cap.map some) (ah9 h H) s1:=by
 obtain⟨h1,tk,rfl,hk⟩:=x.done
 have Y:∀ b:Addr,b ∉ (aB8 P w K mg base N qual scope f cd h A F s H).ex:=fun b z=>absurd (show b∈([]:List Addr)from z) (by simp)
 have lk:∀ y c,(aI (s.heap.objs.size+1) scope.names h).lookup y=some c->(aI (s.heap.objs.size+1) scope.names []).lookup y=some c\/((aI (s.heap.objs.size+1) scope.names []).lookup y=none/\h.lookup y=some c):=fun y c e=>by
  rw[ze,zv]at e
  cases q:(aI (s.heap.objs.size+1) scope.names []).lookup y with
  | some d=>rw[q]at e;left;simpa using e
  | none=>rw[q]at e;right;exact⟨rfl,by simpa using e⟩
 have own:∀ y c,(aI (s.heap.objs.size+1) scope.names []).lookup y=some c->s.heap.objs.size<c:=fun y c e=>x.above y c (aB e)
 have Z:∀ y c,h.lookup y=some c->c<s.heap.objs.size:=fun y c e=>by
  obtain⟨o,v,q,_⟩:=hc y c e
  exact G.hok.lt q
 have hx:∀ y c,h.lookup y=some c->scope.names.lookup y=some .free->(aI (s.heap.objs.size+1) scope.names h).lookup y=some c:=fun y c e k=>by
  rw[ze,zv]
  cases q:(aI (s.heap.objs.size+1) scope.names []).lookup y with
  | none=>exact e
  | some d =>
   rcases zq (aB q)with z|z
   ·rw[S.cel _ z rfl]at k;cases k
   ·exact absurd z (by simp)
 have dn:∀ b,H b=none->ah9 h H b=none:=fun b e=>ah9.none e
 refine⟨⟨G.mod,S.kind,rfl,rfl,ai _,fun y z c a b=>?inj,fun y hy=>?has,fun y c hy e=>?cab,fun _=>hd,fF G.frames,.inr ⟨rfl,rfl⟩,fun b z=>absurd z (Y b),fun b o e=>⟨(G.bs b o e).1,dn b (G.bs b o e).2⟩,G.bsz,fun b _ _=>Y b,fun b z=>absurd z (Y b),G.funs,fun b hb=>dn b (G.frf b hb)⟩,
  rfl,G.bare,Un.kept hk,⟨_,x.toInCall.ns,fun i y v q1 q2 q3=>?loc⟩,fun y c e=>?cell,dn _ (G.hok.fresh (ai _)),fun y c e=>?freeC,fun p hp=>absurd (show p∈([]:List (Addr×Obj))from hp) (by simp),(G.hok.drop hc).kept hk,?len⟩
 case inj =>
  rcases lk y c a with a|⟨_,a⟩<;>rcases lk z c b with b|⟨_,b⟩
  ·exact eU x.apart (aB a) (aB b)
  ·exact absurd (fe (own _ _ a) (Z _ _ b)) (bt _)
  ·exact absurd (fe (own _ _ b) (Z _ _ a)) (bt _)
  ·exact inj y z c a b
 case has =>
  have hy:scope.names.lookup y=some .cell\/scope.names.lookup y=some .free:=hy
  rcases hy with hy|hy
  ·obtain⟨c,e⟩:=zG (n:=s.heap.objs.size+1) hy
   refine⟨c,?_⟩
   show(aI (s.heap.objs.size+1) scope.names h).lookup y=some c
   rw[ze,zv,e];rfl
  ·obtain⟨c,e⟩:=a2 y hy
   exact⟨c,hx y c e hy⟩
 case cab =>
  have hy:(scope.names.lookup y==some .cell)=true:=hy
  have a4:scope.names.lookup y=some .cell:=by simpa using hy
  rcases lk y c e with a|⟨a,_⟩
  ·exact dH (own y c a)
  ·obtain⟨d,q⟩:=zG (n:=s.heap.objs.size+1) a4
   rw[q]at a;cases a
 case loc =>
  have a1:ps.Nodup:=by have:=S.nd;rw[S.app]at this;exact(List.nodup_append.mp this).1
  by_cases hi:i<vs.length
  ·have ha:vs[i]?=some v:=by
    rw[aJ (by simpa using hi),aU]at q2
    cases e:vs[i]? with
    | none=>rw[e]at q2;cases q2
    | some a=>rw[e]at q2;cases q2;rfl
   obtain⟨u,hu,rv⟩:=r.get ha
   have hp:ps[i]?=some y:=by
    have J:N[i]?=some y:=q1
    rw[S.app,aJ (by omega)]at J;exact J
   refine⟨u,rv,?_⟩
   rcases S.par y (bv hp)with k|k
   ·exact .inl ⟨k,ao4 a1 hp hu k⟩
   ·obtain⟨c,e⟩:=zG (n:=s.heap.objs.size+1) k
    refine .inr ⟨.inl k,c,?_,?_⟩
    ·show(aI (s.heap.objs.size+1) scope.names h).lookup y=some c
     rw[ze,zv,e];rfl
    ·have q:=x.cell y c e
     rw[ap6 a1 hp hu (by show scope.names.lookup y≠_;rw[k];decide)]at q
     exact q
  ·have hf:fr[i - vs.length]?=some y:=by
    have J:N[i]?=some y:=q1
    rw[S.app,br (by omega)]at J;rw[hl];exact J
   have hv:cap[i - vs.length]?=some v:=by
    rw[br (by simpa using hi),aU,aK]at q2
    cases e:cap[i - vs.length]? with
    | none=>rw[e]at q2;cases q2
    | some a=>rw[e]at q2;cases q2;rfl
   obtain⟨c,o,u,e1,e2,e3,e4⟩:=a0 _ y v hf hv
   have kf:=S.frs y (bv hf)
   refine⟨u,e4,.inr ⟨.inr kf,c,hx y c e1 kf,?_⟩⟩
   exact⟨o,hk c o (G.hok c _ e2).1,e3⟩
 case cell =>
  rcases lk y c e with a|⟨_,a⟩
  ·exact⟨_,x.cell y c a⟩
  ·obtain⟨o,v,q,d⟩:=hc y c a
   exact⟨v,o,hk c o (G.hok c _ q).1,d⟩
 case freeC =>
  rcases lk y c e with a|⟨_,a⟩
  ·exact dn c (G.hok.fresh (dH (own y c a)))
  ·exact ah9.cell (aO8.mpr ⟨y,a⟩)
 case len =>
  show _=N.length
  rw[S.app]
  simp[hl,a3]
theorem aS4 {P:aG}{w:World}{F:List Env}{H H':Hp}{s s':ae}{h:List (Str×Addr)}(hok:HOk P w H s.heap)(hc:Cells h H)(frf:∀ b∈frs F,H b=none)
  (un:Un (frs F) [] (ah9 h H) H' s.heap s'.heap) (N:HOk P w H' s'.heap):Un (frs F) [] H (Put h H H') s.heap s'.heap/\HOk P w (Put h H H') s'.heap:=by
 have nc:∀ b,H b=none->isC h b≠true:=fun b e y=>by
  obtain⟨o,v,q,_⟩:=hc.at y
  rw[e]at q;cases q
 have G:∀ c u,H c=some u->(∀ o v,u≠.frz o v)->isC h c≠true:=fun c u q d y=>by
  obtain⟨o,v,Z,_⟩:=hc.at y
  rw[q]at Z;cases Z
  exact d _ _ rfl
 have J:∀ b,isC h b=true->H' b=none:=fun b y=>by
  obtain⟨o,v,q,_⟩:=hc.at y
  exact un.free b o (hok b _ q).1 (ah9.cell y) (by simp)
 refine⟨⟨fun b o e n hb hx=>un.keep b o e (ah9.none n) hb hx,fun b o e n hb hx=>un.slot b o e (ah9.none n) hb hx,fun b o e n hx=>?_,fun b o e hx=>un.there b o e hx,fun b Y e=>?_,fun b o u e=>?_,fun b ps e=>?_⟩,fun b o e=>?_⟩
 ·rw[Put.ne (nc b n)];exact un.free b o e (ah9.none n) hx
 ·have z:=G b _ e fun _ _=>by nofun
  rw[Put.ne z];exact un.tups b Y (by rw[ah9.ne z];exact e)
 ·by_cases z:isC h b=true
  ·rw[Put.cell z];exact e
  ·rw[Put.ne z];exact un.frzs b o u (by rw[ah9.ne z];exact e)
 ·have z:=G b _ e fun _ _=>by nofun
  rw[Put.ne z];exact un.tbls b ps (by rw[ah9.ne z];exact e)
 ·by_cases z:isC h b=true
  ·rw[Put.cell z]at e
   obtain⟨ob,v,q,d⟩:=hc.at z
   rw[q]at e;cases e
   have g:=(hok b _ q).1
   have g':=un.keep b ob g (ah9.cell z) (fun y=>by rw[frf b y]at q;cases q) (by simp)
   exact⟨g',ob,g'⟩
  ·rw[Put.ne z]at e
   have np:∀ c u,H' c=some u->Put h H H' c=some u:=fun c u q=>by
    rw[Put.ne fun y=>by rw[J c y]at q;cases q];exact q
   exact(N b o e).stay (fun _ _ _ q=>q) (fun c q=>np c _ q) fun c Y q=>np c _ q
structure ClOk (P:aG)(w:World)(K:ac)(mg:Str->Option Value)(base:Heap)(k:Nat)(R:Hp->Prop)(f:Addr)(sp:Sp):Prop where
 run:∀(A:aR) (outer:List Env) (s:ae) (H:Hp) (us:List Value) (vs:List V) (Q:VK),Room k A->Env0 P w K mg base A outer s H->R H->Vals vs us->sp vs H Q E0 ->
  fP (model P w) A (.call (.ref f) ⟨us,[]⟩) (CR CX0 outer P w H s Q E0) s
def aC1 (H:Hp)(f:Addr)(qual:Str)(params:bP)(body:Expr)(scope:Scope)(fr:List Str)(cap:List V)(clos:List (Str×Addr)):Prop :=
 ∃ pm c' ctv,H f=some (bu9 f (cH "<lambda>" qual params body scope clos pm (.ref c') ctv))/\H c'=some (ay7 c' qual)/\Cells clos H /\
  (∀ x y c,clos.lookup x=some c->clos.lookup y=some c->x=y)/\(∀ x,scope.names.lookup x=some .free->∃ c,clos.lookup x=some c)/\Cap clos H fr cap
def BM (mg:Str->Option Value)(base:Heap):Prop:=∃ bm ob,mg "__builtins__"=some (.ref bm)/\bm≠eQ/\base.get? bm=some ob/\ob.cls=.type "module"/\ob.dict=some eQ/\ob.data=.plain
noncomputable def lamCheck (scope xs:Scope):Bool:=scope.names.all fun y=>!(y.2==.free)||(xs.names.lookup y.1==some .cell||xs.names.lookup y.1==some .free)
structure Caught (cl:List (Str×Addr))(N:List Str)(kd:Str->Option bR)(σ:St)(H1 H2:Hp):Prop where
 ne:∀ b,isC cl b≠true->H2 b=H1 b
 free:∀ b,isC cl b=true->H1 b=none
 cells:Cells cl H2
 cap:∀(i:Nat) (x:Str) (v:V) (c:Addr),N[i]?=some x->σ[i]?=some (some v)->(kd x=some .cell\/kd x=some .free)->cl.lookup x=some c->∃ o u,H2 c=some (.frz o (.own c))/\o.data=.cell (some u)/\RelV v u
 inj:∀ x y c,cl.lookup x=some c->cl.lookup y=some c->x=y
def bK1 (K:ac)(H:Hp)(f:Addr):Prop:=(∃ fd,H f=some (bu9 f fd))\/∃ oc od fd sl,K.lookup f=some ⟨oc,od,.func fd,sl⟩
theorem bK1.at {X:Cx}{z:List (Addr×Obj)}{σ:St}{H:Hp}{s:ae}{f:Addr}(h:bK1 X.K H f)(I:Inv X z σ H s):PySem.W.FnAt f s.heap:=by
 rcases h with⟨F,h⟩|⟨oc,od,F,sl,h⟩
 ·exact⟨_,_,_,_,au0 I.hok h⟩
 ·exact⟨_,_,_,_,I.kIn _ _ h⟩
noncomputable def aw0 (K:ac)(names:List Str):List (Str×Addr×Addr):=names.filterMap fun x=>(a9 K x).map fun p=>(x,p)
theorem as0 {K:ac}{names:List Str}{y:Str×Addr×Addr}:y∈aw0 K names↔y.1∈names/\a9 K y.1=some y.2:=by
 unfold aw0
 rw[dN]
 constructor
 ·rintro⟨x,hx,e⟩
  obtain⟨p,h,rfl⟩:=fg.mp e
  exact⟨hx,h⟩
 ·rintro⟨hx,e⟩
  exact⟨y.1,hx,by rw[e];rfl⟩
def br4 (K:ac)(names:List Str)(base:Heap):Prop:=∀ x∈names,∀ c P,a9 K x=some (c,P)->bW base c P
def br8 (K:ac)(names:List Str)(H:Hp):Prop:=∀ x∈names,∀ c P,a9 K x=some (c,P)->H P=some (.tbl #[])
noncomputable def bC6 (K:ac)(names:List Str)(ts:List Addr):Bool:=names.all fun x=>match a9 K x with
 | some (c,P)=>gQ K c P&&ts.contains P
 | none=>true
theorem au3 {K:ac}{x:Str}(h:(a9 K x).isSome=true):a9 K x=some (((a9 K x).getD (0,0)).1,((a9 K x).getD (0,0)).2):=by
 obtain⟨p,e⟩:=ef.mp h
 rw[e]
 rfl
def bx2 (H:Hp)(P:Addr)(q:Str):Prop:=∃ ps:Array Value,H P=some (.tbl ps)/\TriplesOk ps.toList/\∀ pos cv,codeAmong pos ps.toList=some cv->∃ c',cv=.ref c'/\H c'=some (ay7 c' q)
def TabsH (T:List (Addr×Str))(H:Hp):Prop:=∀ y∈T,bx2 H y.1 y.2
def bB1 (H H':Hp):Prop:=∀ b o,(∀ ps,o≠.tbl ps)->H b=some o->H' b=some o
theorem bB1.of {H z:Hp}(a:aj9 H z):bB1 H z:=fun c o _ h=>a c o h
theorem TabsH.keep {T:List (Addr×Str)}{H H':Hp}(h:TabsH T H)(k:∀ b o,(∀ z,o≠.lst z)->H b=some o->H' b=some o):TabsH T H':=fun y hy=>by
 obtain⟨ps,e,t,c⟩:=h y hy
 refine⟨ps,k _ _ (fun _=>by nofun) e,t,fun pos F q=>?_⟩
 obtain⟨G,e1,e2⟩:=c pos F q
 exact⟨G,e1,k _ _ (fun _=>by unfold ay7;nofun) e2⟩
theorem TabsH.same {T:List (Addr×Str)}{H H':Hp}(h:TabsH T H)(s:aj9 H H'):TabsH T H':=h.keep fun b o _ e=>s b o e
theorem TabsH.new {T:List (Addr×Str)}{H:Hp}{a:Addr}{o:HO}(h:TabsH T H)(n:H a=none):TabsH T (upd H a o):=h.same ((aj9.refl H).new n)
theorem TabsH.put {T:List (Addr×Str)}{H:Hp}{a:Addr}{o:HO}{F:List V}(h:TabsH T H)(n:H a=some (.lst F)):TabsH T (upd H a o):=h.keep fun b u d e=>by
 rw[zl fun z=>by subst z;rw[n]at e;cases e;exact d _ rfl];exact e
theorem TabsH.init {T:List (Addr×Str)}{H:Hp}(h:∀ p∈T.map (·.1),H p=some (.tbl #[])):TabsH T H:=fun y hy =>
 ⟨#[],h _ (bI hy),trivial,fun pos z e=>by simp[codeAmong]at e⟩
theorem Caught.same {cells:List (Str×Addr)}{N:List Str}{kd:Str->Option bR}{σ:St}{G F:Hp}(h:Caught cells N kd σ G F):aj9 G F:=fun b o e=>by
 rw[h.ne b fun z=>by rw[h.free b z]at e;cases e];exact e
theorem Fun.okC {P:aG}{w:World}{K:ac}{mg:Str->Option Value}{base:Heap}{x qual:Str}{st:Stmt}{f c:Addr}{J:bJ}{N ps:List Str}{k:Nat}{sp:Sp}(F:Fun K x qual st f J)(hcd:J.code=.ref c)(S:FnScope N ps (defScope st))(len:∀ vs H Q E,sp vs H Q E->vs.length=ps.length)
  (G:∀(A:aR) (z:List Env) (s:ae) (H:Hp) (vs:List V) (Q:VK) (E:XK),Room k (A.deeper (dQ qual (defScope st) s.heap.objs.size f (.ref c)))->sp vs H Q E ->
   ∃ t,PSs (ba7 CX0 P w K mg base N qual (defScope st) f (.ref c) A z s H E).nox (zz st) t/\t { nx:=fun _ H'=>Q .non H',rt:=Q } (al9 N vs) H):FnOk P w K mg base CX0 (k+1) f J ps sp:=by
 obtain⟨oc,od,kV,a1,pm,an,Z,ct,a0,rfl,lk,hc⟩:=F.ex
 have e:Z=.ref c:=hcd
 subst e
 refine bI4 lk hc S len fun A z s H vs Q E hr Y=>?_
 obtain⟨t,h,q⟩:=G A z s H vs Q E hr Y
 exact⟨t,h.nox,q⟩
theorem aV8 {X:Cx}{K:ac}(hc:X.calm=true)(hK:X.K=K):ai1 X (.builtin "min") (fun xs H Q=>∃ a ns,xs=[.ref a]/\SqL K H a (ns.map V.int)/\ns≠[]/\∀ m∈ns,(∀ y∈ns,m<=y)->Q (.int m) H):=by
 subst hK
 intro a0 s σ H xs us Q I r h
 obtain⟨a,ns,rfl,hS,Z,q⟩:=h
 obtain⟨u,rfl,ru⟩:=am7 r
 cases ru
 obtain⟨its,N,J,hz⟩:=I.list hS
 have hl:=N.length
 rw[aK]at hl
 have a1:0<ns.length:=fV.mpr Z
 refine call_min_walk (cC J.isList ?_)
 have G:a<s.heap.objs.size:=by obtain⟨o,_,e,_⟩:=J;exact aC e
 have W:=io (prog:=X.prog) (w:=X.w) (A:=X.A.in1) (I.ok.hd hc) s.heap.objs.size a (ay G) its.toArray
 let val:Nat->Int:=fun i=>ns.getD i 0
 have F:∀ i v,its.toArray[i]?=some v->∃ t,v=Value.int (val i) t:=fun i v e=>by
  obtain⟨z,t,e1,e2⟩:=aD3 N (i:=i) (v:=v) (by rw[cA]at e;exact e)
  refine⟨t,?_⟩
  rw[e2]
  show Value.int z t=Value.int (ns.getD i 0) t
  rw[be,e1]
  rfl
 refine⟨_,_,_,_,_,_,_,rfl,W,⟨⟨_,aZ _ rfl,rfl,rfl⟩,?_⟩,fun b hb=>?_,by rw[ao];omega,CmpOf.ints_lt val F,fun v h' tk hP k=>?_⟩
 ·obtain⟨o,e,r⟩:=J.isList
  exact⟨o,ar _ e,r⟩
 ·show b<(s.heap.push _).objs.size
  rw[bN]
  rcases aN.mp hb with z|z
  ·rw[z];exact cg _
  ·have Y:b=a:=by simpa using z
   rw[Y];exact c9 G
 ·obtain⟨z,t,e1,e2⟩:=aD3 N (i:=hW (fun i j=>decide (val i<val j)) (its.toArray.size - 1)) (v:=v) (by rw[cA]at hP;exact hP)
  subst e2
  have hv:val (hW (fun i j=>decide (val i<val j)) (its.toArray.size - 1))=z:=by
   show ns.getD _ 0=z
   rw[be,e1]
   rfl
  refine⟨.int z,H,I.kept (h':=h') (t':=tk) fun b o q=>k b o ?_ (ar _ q),⟨t,rfl⟩,q z (bv e1) fun y hy=>?_⟩
  ·intro z
   have Y:b=s.heap.objs.size:=by simpa using z
   exact absurd (aC q) (by rw[Y];exact bt _)
  ·obtain⟨j,hj,e3⟩:=cI.mp hy
   have:=an8 val (its.toArray.size - 1) j (by simp only[ao];omega)
   rw[hv]at this
   have e4:val j=y:=by
    show ns.getD j 0=y
    rw[be,am hj]
    exact e3
   omega
noncomputable def mx (a b:Int):Int:=if b > a then b else a
section
variable {X:Cx}
end
noncomputable def mx3 (a b c:Int):Int:=mx (mx a b) c
noncomputable def rnd (x:Int):Int:=if x=0\/x=3 then x else 2
noncomputable def sharp (n:Nat)(s:Nat->Nat->Int)(i j:Nat):Int:=(bT5 ((bB n).map fun k=>mx3 (s i k) (rnd (s k k)) (s k j))).getD 3
section
variable {n:Nat} {s:Nat->Nat->Int}
end
def aq7 (H:Hp)(f:Addr)(name qual:Str)(params:bP)(body:List Stmt)(scope:Scope)(fr:List Str)(cap:List V)(clos:List (Str×Addr)):Prop :=
 ∃ doc pm c' ctv,H f=some (bu9 f (d6 name qual params body scope clos .none .none doc pm none (.ref c') ctv))/\H c'=some (ay7 c' qual)/\Cells clos H /\
  (∀ x y c,clos.lookup x=some c->clos.lookup y=some c->x=y)/\(∀ x,scope.names.lookup x=some .free->∃ c,clos.lookup x=some c)/\Cap clos H fr cap
theorem aq7.fn {K:ac}{H:Hp}{f:Addr}{name qual:Str}{params:bP}{body:List Stmt}{scope:Scope}{fr:List Str}{cap:List V}{z:List (Str×Addr)}(h:aq7 H f name qual params body scope fr cap z):bK1 K H f:=by
 obtain⟨F,N,Y,G,J,_⟩:=h
 exact .inl ⟨_,J⟩
end L2
end
noncomputable section
namespace L2
open PySem PySem.Spec PyProof.Rows Builtin
section
variable {P:aG} {w:World} {A:aR} {E:Value->ae->Prop} {s:ae}
theorem aD6 {it t:Addr}{i:Nat}{l:Array Value}{v:Value}{Q:Value->ae->Prop}(F:s.heap.IsTupleIter it t i)(J:s.heap.IsTuple t l)(hv:l[i]?=some v)
  (k:∀ h',h'.IsTupleIter it t (i+1)->c5 it s.heap h'->Q v { s with heap:=h' }):wpAny (model P w) A (bG (.ref it)) Q E s:=by
 obtain⟨o,e1,e2,h⟩:=id F
 obtain⟨p,p1,_,n,G⟩:=J
 unfold bG
 refine ak (cf (name:=cn "__next__") F.typeIs bX (cK bX F.typeIs dJ ?_ (dD _)))
 show wpAny _ _ (field (.ref it) 0 >>= _) _ _ _
 refine ak (cY e1 h (x:=.ref t) rfl ?_)
 show wpAny _ _ (if(Value.ref t==Value.none)=true then _ else _) _ _ _
 rw[if_neg (show ¬((Value.ref t==Value.none)=true)from fun z=>nomatch z)]
 show wpAny _ _ (field (.ref it) 1 >>= _) _ _ _
 refine ak (cY e1 h (x:=.int i 0) rfl ?_)
 show wpAny _ _ (seqItems? (.ref t) >>= _) _ _ _
 refine ak (wpAny_seqItems p1 G ?_)
 simp only[gK,hv]
 refine ak (wpAny_setField e1 h (by simp) (aF ⟨v,rfl,aF (k _ ⟨_,fx _ e1 (Obj.isFreed_of_fields (gu h _)),(Obj.cls_mapFields ..).trans e2,by rw[gu h];simp[rawInt]⟩ (fW ..))⟩))
theorem aL7 {it t:Addr}{i:Nat}{l:Array Value}{Q:Value->ae->Prop}(G:A.handled=none)(h:s.heap.IsTupleIter it t i)(N:s.heap.IsTuple t l)(hv:l[i]?=none)
  (k:∀ h' e,gW it s.heap h'->(∃ o,h'.get? e=some o/\o.cls=.type "StopIteration")->E (.ref e) { s with heap:=h' }):wpAny (model P w) A (bG (.ref it)) Q E s:=by
 obtain⟨o,e1,e2,F⟩:=id h
 obtain⟨p,p1,_,n,J⟩:=N
 unfold bG
 refine ak (cf (name:=cn "__next__") h.typeIs bX (cK bX h.typeIs dJ ?_ (dD _)))
 show wpAny _ _ (field (.ref it) 0 >>= _) _ _ _
 refine ak (cY e1 F (x:=.ref t) rfl ?_)
 show wpAny _ _ (if(Value.ref t==Value.none)=true then _ else _) _ _ _
 rw[if_neg (show ¬((Value.ref t==Value.none)=true)from fun z=>nomatch z)]
 show wpAny _ _ (field (.ref it) 1 >>= _) _ _ _
 refine ak (cY e1 F (x:=.int i 0) rfl ?_)
 show wpAny _ _ (seqItems? (.ref t) >>= _) _ _ _
 refine ak (wpAny_seqItems p1 J ?_)
 simp only[gK,hv]
 refine ak (ik (ak (wpAny_setField e1 F (by simp) ?_)))
 show wpAny _ _ (newExc (.type "StopIteration") [] >>= _) _ _ (_:ae)
 refine ak ?_
 simp only[newExc,newTuple]
 refine ak (bC ?_ (by size_fits))
 refine ak (m:=firstArgMember _ _) (wpAny_of_eq (a:=Value.none) (by first|rfl|(simp only[firstArgMember];rfl)) (bC ?_ (by size_fits)))
 simp only[raiseNew]
 refine ak (wpAny_handled ?_)
 first|rw[show A.in1.handled=none from G]|rw[G]
 exact ak (aF (wpAny_throw (k _ _ (((fW ..).extBut.push _).push _) ⟨_,aZ _ rfl,rfl⟩)))
end
structure Dw (P:aG)(w:World)(K:ac)(J:It)(it:Addr)(tn:Nat->Heap->Prop):Prop where
 obj:∀ i h,tn i h->∃ o,h.get? it=some o/\∀ v,o.data≠.cell v
 keep:∀ i h h',tn i h->(∀ o,h.get? it=some o->h'.get? it=some o)->tn i h'
 item:∀(X:Cx),X.prog=P->X.w=w->X.K=K->∀(A:aR) (i:Nat) (pins:List (Addr×Obj)) (s:ae) (σ:St) (H:Hp) (Q:Value->ae->Prop) (E:Value->ae->Prop),Inv X pins σ H s->tn i s.heap->J.go i H ->
  (∀ x u h' tk,RelV x u->J.yld i H x H->tn (i+1) h'->c5 it s.heap h'->Q u { s with heap:=h',toks:=tk })->wpAny (model P w) A (bG (.ref it)) Q E s
 done:∀(X:Cx),X.prog=P->X.w=w->X.K=K->∀(A:aR) (i:Nat) (pins:List (Addr×Obj)) (s:ae) (σ:St) (H:Hp) (Q:Value->ae->Prop) (E:Value->ae->Prop),A.handled=none->Inv X pins σ H s->tn i s.heap->J.stop i H ->
  (∀ h' e,gW it s.heap h'->(∃ o,h'.get? e=some o/\o.cls=.type "StopIteration")->E (.ref e) { s with heap:=h' })->wpAny (model P w) A (bG (.ref it)) Q E s
theorem bq7 {P:aG}{w:World}{K:ac}(a it:Addr):Dw P w K (Itl K a) it (fun i h=>h.IsListIter it a i) where
 obj:=fun i h st=>by
  obtain⟨o,e,c,d⟩:=st
  exact⟨o,e,fun v z=>by rw[d]at z;cases z⟩
 keep:=fun i h h' st k=>st.at k
 item:=by
  intro X J hw G A i F s σ H Q E I st hg k
  subst J hw G
  obtain⟨xs,x,hq,hx⟩:=hg
  obtain⟨its,N,p,hz⟩:=I.list hq
  obtain⟨u,hu,ru⟩:=N.get hx
  exact wpAny_nextOf_list_item st p.isList (x:=u) (by simpa using hu) fun h' Y Z=>k x u h' s.toks ru ⟨rfl,fun ys hy=>by rw[I.list_inj hy hq];exact hx⟩ Y Z
 done:=by
  intro X J hw G A i F s σ H Q E hA I st hg k
  subst J hw G
  obtain⟨xs,hq,hx⟩:=hg
  obtain⟨its,N,p,hz⟩:=I.list hq
  have hl:=N.length
  exact wpAny_nextOf_list_end hA st p.isList (by simp;omega) k
theorem bG9 {P:aG}{w:World}{K:ac}(a it:Addr):Dw P w K (Itt K a) it (fun i h=>h.IsTupleIter it a i) where
 obj:=fun i h st=>by
  obtain⟨o,e,c,d⟩:=st
  exact⟨o,e,fun v z=>by rw[d]at z;cases z⟩
 keep:=fun i h h' st k=>st.at k
 item:=by
  intro X J hw G A i F s σ H Q E I st hg k
  subst J hw G
  obtain⟨xs,x,hq,hx⟩:=hg
  obtain⟨its,N,p,hz⟩:=I.tuple hq
  obtain⟨u,hu,ru⟩:=N.get hx
  exact aD6 st (show s.heap.IsTuple a its.toArray from p) (v:=u) (by simpa using hu) fun h' Y Z=>k x u h' s.toks ru ⟨rfl,fun ys hy=>by rw[I.tuple_inj hy hq];exact hx⟩ Y Z
 done:=by
  intro X J hw G A i F s σ H Q E hA I st hg k
  subst J hw G
  obtain⟨xs,hq,hx⟩:=hg
  obtain⟨its,N,p,hz⟩:=I.tuple hq
  have hl:=N.length
  exact aL7 hA st (show s.heap.IsTuple a its.toArray from p) (by simp;omega) k
theorem bA0 {P:aG}{w:World}{K:ac}(x:Str)(t:Tok)(it:Addr):Dw P w K (Its x) it (fun i h=>h.IsStrIter it (fJ x) x t i) where
 obj:=fun i h st=>by
  obtain⟨o,e,c,d⟩:=st
  exact⟨o,e,fun v z=>by rw[d]at z;cases z⟩
 keep:=fun i h h' st k=>by
  obtain⟨o,ho,r⟩:=st
  exact⟨o,k _ ho,r⟩
 item:=by
  intro X Y hw N A i J s σ H Q E I st hg k
  subst Y hw N
  have F:i<x.cps.size:=hg
  have hc:x.cps[i]?=some x.cps[i]:=by simp[F]
  unfold fJ at st k
  cases ha:x.cps.all (·<128)
  ·rw[ha]at st k
   exact wpAny_nextOf_wide_item st hc fun h' G Z=>k (.str ⟨#[x.cps[i]]⟩) _ h' (s.toks+1) ⟨_,rfl⟩ ⟨rfl,_,hc,rfl⟩ G Z
  ·rw[ha]at st k
   exact wpAny_nextOf_ascii_item st hc fun h' G Z=>k (.str ⟨#[x.cps[i]]⟩) _ h' (s.toks+1) ⟨_,rfl⟩ ⟨rfl,_,hc,rfl⟩ G Z
 done:=by
  intro X Y hw N A i J s σ H Q E hA I st hg k
  subst Y hw N
  have F:x.cps.size<=i:=hg
  have hc:x.cps[i]?=none:=by simp[F]
  unfold fJ at st
  cases ha:x.cps.all (·<128)
  ·rw[ha]at st
   exact wpAny_nextOf_wide_end hA st hc k
  ·rw[ha]at st
   exact wpAny_nextOf_ascii_end hA st hc k
section
variable {X:Cx} {pins:List (Addr×Obj)} {σ:St} {H:Hp} {s:ae} {A:aR} {E:Value->ae->Prop} {J1 J2:It} {t1 t2:Nat->Heap->Prop} {z ti to i1 i2:Addr} {n:Nat} {a b:Value}
end
def Mkr (v:Value)(o:Obj)(h:Heap):Prop:=∀(P:aG) (w:World) (A:aR) (E:Value->ae->Prop) (s:ae) (Q:Value->ae->Prop),(∀ b u,h.get? b=some u->s.heap.get? b=some u) ->
 Q (.ref s.heap.objs.size) { s with heap:=s.heap.push o }->wpAny (model P w) A (iJ v) Q E s
def Sr (K:ac)(H:Hp)(x:V)(J:It):Prop:=(∃ a,x=.ref a/\(∃ xs,SqL K H a xs)/\J=Itl K a)\/(∃ a,x=.ref a/\(∃ xs,SqT K H a xs)/\J=Itt K a)\/∃ y,x=.str y/\J=Its y
theorem Sr.mk {X:Cx}{z:List (Addr×Obj)}{σ:St}{H:Hp}{s:ae}{x:V}{u:Value}{J:It}(I:Inv X z σ H s)(h:Sr X.K H x J)(r:RelV x u) :
  ∃(o:Obj) (F:Addr->Nat->Heap->Prop),o.isFreed=false/\Mkr u o s.heap/\(∀ it,Dw X.prog X.w X.K J it (F it))/\∀ it h',h'.get? it=some o->F it 0 h':=by
 rcases h with⟨a,e,⟨N,hq⟩,e'⟩|⟨a,e,⟨N,hq⟩,e'⟩|⟨y,e,e'⟩
 ·subst e e';cases r
  obtain⟨its,G,p,hz⟩:=I.list hq
  exact⟨_,fun it i h=>h.IsListIter it a i,rfl,fun P w A E s' Q hk q=>cC (p.isList.at fun o e=>hk _ _ e) q,fun it=>bq7 a it,fun it h' e=>⟨_,e,rfl,rfl⟩⟩
 ·subst e e';cases r
  obtain⟨its,G,p,hz⟩:=I.tuple hq
  exact⟨_,fun it i h=>h.IsTupleIter it a i,rfl,fun P w A E s' Q hk q=>gi (Heap.IsTuple.at (show s.heap.IsTuple a its.toArray from p) fun o e=>hk _ _ e) q,fun it=>bG9 a it,fun it h' e=>⟨_,e,rfl,rfl⟩⟩
 ·subst e e';obtain⟨t,rfl⟩:=r
  exact⟨_,fun it i h=>h.IsStrIter it (fJ y) y t i,rfl,fun P w A E s' Q hk q=>wpAny_pyIter_strU q,fun it=>bA0 y t it,fun it h' e=>⟨_,e,rfl,rfl⟩⟩
end L2
end
noncomputable section
namespace L2
open PySem PySem.Spec PyProof.Rows Builtin
open AutoSeq1 (wpAny_loadPart')
section
variable {X:Cx} {pins:List (Addr×Obj)} {σ:St} {H:Hp} {s:ae} {A:aR} {E:Value->ae->Prop} {J1:It} {t1:Nat->Heap->Prop} {z it:Addr} {n:Nat} {old:Value}
end
end L2
end
noncomputable section
namespace L2
open PySem PySem.Spec PyProof.Rows Builtin
open AutoSeq1 (wpAny_loadPart')
theorem aE6:fillsNumberSlot (.type "tuple") "mul"=pure false :=
 PySem.fillsNumberSlot_seq (id := "tuple.__mul__") (r:=some (.builtin "tuple.__rmul__")) da.lookup (by decide +kernel) eM.lookup (by decide +kernel)
theorem aM3:seqRepeat? (.type "tuple")=pure (some (.builtin "tuple.__mul__")):=by
 unfold seqRepeat?
 rw[gR (T := "tuple") (name := "__mul__") (id := "tuple.__mul__") da.lookup (by decide +kernel),gR (T := "tuple") (name := "__rmul__") (id := "tuple.__rmul__") eM.lookup (by decide +kernel)]
 rfl
theorem ax5 (a:Int)(t:Tok)(l:Addr)(o:Obj)(z:Array Value)(n:Nat)(F:Option Addr)(sl:Array (Option Value)) :
  Meets (Builtin.«int.__rmul__» ⟨[.int a t,.ref l],[]⟩) (fun _ R s=>s.heap.get? l=some { cls:=.type "tuple",dict:=F,data:=.seq z n,slots:=sl }/\R (.ok (.ret Value.notImplemented)) s) :=
 .of_wp fun prog w A R s h=>by obtain⟨G,g,d,tk,os⟩:=s;obtain⟨hl,h⟩:=h;wp_walk;exact⟨_,rfl,h⟩
noncomputable def aq2 {α:Type}:Nat->List α->List α
 | 0,_=>[]
 | n+1,a=>a++aq2 n a
theorem aG6 {α:Type}(l:List α):∀(n:Nat) (h:Array α),(aq n l.toArray).foldl (·++·) h=h++(aq2 n l).toArray
 | 0,h=>by simp[aq2]
 | n+1,h=>by rw[bA,cR,aG6 l n];simp[aq2]
theorem ax9 {α:Type}(a:Array α):∀(n:Nat) (h:Array α),((aq n a).foldl (·++·) h).size=h.size+a.size*n
 | 0,h=>by simp
 | n+1,h=>by rw[bA,cR,ax9 a n,Array.size_append,Nat.mul_succ];omega
def TmA (items:Array Value)(k:Int)(l:Addr)(R:Value->ae->Prop)(s:ae):Prop :=
 ((items.isEmpty||k==1)=true->R (.ref l) s)/\((items.isEmpty||k==1)=false->R (.ref s.heap.objs.size) { s with heap:=s.heap.push { cls:=.type "tuple",data:=.seq ((aq k.toNat items).foldl (·++·) #[]) } })
theorem aP4 {P:aG}{w:World}{A:aR}{E:Value->ae->Prop}{s:ae}{l:Addr}{z:Array Value}{k:Int}{t:Tok}{Q:Value->ae->Prop}(h0:0<=k)(Y:k<=1000000)(hz:z.size*k.toNat<=1000000)(hl:IsTup s.heap l z)
  (h:TmA z k l Q s):wpAny (model P w) A (call (.builtin "tuple.__mul__") [.ref l,.int k t]) Q E s:=by
 refine cK da hl.typeIs PySem.F.entry_tuple_mul ?_ (PySem.F.args_tuple_mul_2 _ _)
 obtain⟨G,q2⟩:=h
 show wpAny _ _ (asIndex (.int k t) >>= _) _ _ _
 refine ak (aF ?_)
 rw[if_neg (by rw[decide_eq_false (by omega),decide_eq_false (by omega)];decide)]
 show wpAny _ _ (cG (.ref l) >>= _) _ _ _
 refine ak (f9 hl ?_)
 have J:(z.size:Int)*k<=1000000:=by
  have:((z.size*k.toNat:Nat):Int)<=1000000:=by omega
  rw[g8,dF h0]at this
  exact this
 cases hb:(z.isEmpty||k==1)with
 | true =>
  rw[if_pos rfl]
  unfold ip
  refine ak (ak (eW hl.typeIs (aF ?_)))
  rw[if_pos (by decide)]
  exact ak (ik (aF ⟨_,rfl,G hb⟩))
 | false =>
  rw[if_neg aS]
  have he:z.isEmpty=false:=by
   rw[dr]at hb;exact hb.1
  have q:=q2 hb
  show wpAny _ _ (if(decide (k<=0)||z.isEmpty)=true then _ else _) _ _ _
  by_cases hk:k<=0
  ·rw[if_pos (by rw[decide_eq_true hk];rfl)]
   have:k.toNat=0:=by omega
   rw[this]at q
   exact ak (bC (aF ⟨_,rfl,q⟩) (by size_fits))
  ·rw[if_neg (by rw[decide_eq_false hk,he];decide)]
   show wpAny _ _ (if(z.size:Int)*k > (2^63 - 1) / 8 then _ else _) _ _ _
   rw[if_neg (by omega)]
   show wpAny _ _ (if dW ((z.size:Int)*k)=true then _ else _) _ _ _
   rw[if_neg (by unfold dW;rw[decide_eq_false (by unfold aD;omega)];decide)]
   refine ak (bC (aF ⟨_,rfl,q⟩) ?_)
   show Array.size _<=aD
   rw[ax9]
   show 0+_<=_
   rw[fh]
   have N:z.size*k.toNat<=aD:=aj hz (by decide)
   exact N
theorem aI6 {α:Type}:∀ n,aq2 n ([]:List α)=[]
 | 0=>rfl
 | n+1=>by simp[aq2,aI6 n]
theorem bf2 {α:Type}(l:List α):aq2 1 l=l:=by simp[aq2]
theorem aG0 {α:Type}(l:List α):∀ n,(aq2 n l).length=l.length*n
 | 0=>by simp[aq2]
 | n+1=>by simp[aq2,aG0 l n,gX];omega
theorem Vals.repT {h:List V}{us:List Value}(r:Vals h us):∀ n,Vals (aq2 n h) (aq2 n us)
 | 0=>.nil
 | n+1=>r.append (Vals.repT r n)
def bS2 (K:ac):R2:=fun x y H Q=>∃ a xs n,x=.ref a/\y=.int n/\SqT K H a xs/\(0<=n/\n<=1000000/\xs.length*n.toNat<=1000000)/\∀ p H',aj9 H H'->SqT K H' p (aq2 n.toNat xs)->(H' p=some (.tup (aq2 n.toNat xs))\/(p=a/\aq2 n.toNat xs=xs))->Q (.ref p) H'
theorem bo6 {X:Cx}{K:ac}(N:X.K=K):OpR X (bM .Mult) (bS2 K):=by
 subst N
 intro G s σ H x y v u Q I rx ry h
 obtain⟨a,F,n,rfl,rfl,ha,⟨h0,h1,hz⟩,q⟩:=h
 cases rx
 obtain⟨t,rfl⟩:=ry
 obtain⟨its,r1,p1,a0⟩:=I.tuple ha
 have z:=r1.length
 obtain⟨⟨cls,J,data,sl⟩,ho,hc,Z,hd⟩:=id p1
 simp only at hc hd
 subst hc hd
 refine dX (T := "tuple") (U := "int") (by decide) p1.typeIs (fun s'=>e6 s' n t) aE6 gq cV aM3 fT.lookup
  (e8 cV (e6 s n t) fU (fG _ _) (ax5 n t a default its.toArray Z J sl) ⟨ho,⟨rfl,p1.typeIs,aP4 h0 h1 (by rw[ao,<-z];exact hz) p1 ⟨fun hb=>?_,fun hb=>?_⟩⟩⟩)
 ·have ex:aq2 n.toNat F=F:=by
   rw[bh]at hb
   rcases hb with hb|hb
   ·have Y:its=[]:=by simpa using hb
    have hx:F=[]:=r1.nil_iff.mp Y
    rw[hx,aI6]
   ·have:n=1:=by simpa using hb
    subst this
    exact bf2 _
  exact⟨.ref a,H,I,rfl,q a H (aj9.refl H) (by rw[ex];exact ha) (.inr ⟨rfl,ex⟩)⟩
 ·have hp:=I.hok.fresh (ai s.heap.objs.size)
  refine⟨.ref s.heap.objs.size,_,I.laid (t':=s.toks) (o:=.tup (aq2 n.toNat F)) (fun b ob q=>ar _ q) (ai _) ?_,rfl,q _ _ ((aj9.refl H).new hp) (SqT.of zt) (.inl zt)⟩
  refine⟨by rw[aG0];exact aj hz (by decide),aq2 n.toNat its,r1.repT _,?_⟩
  rw[show(aq2 n.toNat its).toArray=(aq n.toNat its.toArray).foldl (·++·) #[]by rw[aG6];simp]
  exact⟨_,aZ _ rfl,rfl,_,rfl⟩
end L2
end
noncomputable section
namespace L2
open PySem PySem.Spec PyProof.Rows
section
variable {κ:Type} [DecidableEq κ]
noncomputable def aA4 (kvs:List (κ×V))(k:κ):Option V:=(kvs.find? fun kv=>decide (kv.1=k)).map (·.2)
noncomputable def at1 (kvs:List (κ×V))(k:κ)(v:V):List (κ×V) :=
 if(kvs.any fun kv=>decide (kv.1=k))=true then kvs.map (fun kv=>if kv.1=k then(kv.1,v)else kv)else kvs++[(k,v)]
theorem an1 {p:κ×V}{r:List (κ×V)}{k:κ}(e:p.1=k):aA4 (p::r) k=some p.2:=by simp[aA4,cw,e]
theorem am9 {p:κ×V}{r:List (κ×V)}{k:κ}(e:¬ p.1=k):aA4 (p::r) k=aA4 r k:=by simp[aA4,cw,e]
theorem au5 (k:κ):∀ kvs:List (κ×V),(kvs.any fun h=>decide (h.1=k))=(aA4 kvs k).isSome
 | []=>rfl
 | p::r=>by
  rw[eG]
  by_cases e:p.1=k
  ·simp only[an1 e,decide_eq_true e,Bool.true_or,gr]
  ·rw[am9 e,decide_eq_false e,iB];exact au5 k r
theorem qq (kvs:List (κ×V))(k:κ)(v:V):(at1 kvs k v).length<=kvs.length+1:=by
 unfold at1
 split
 ·rw[aK];omega
 ·rw[aA,aV,cx];omega
theorem aJ3.isSome_eq {o:Option V}{u:Option Value}(r:aJ3 o u):o.isSome=u.isSome:=by
 cases o with
 | none=>cases u with
  | none=>rfl
  | some _=>exact(show False from r).elim
 | some _=>cases u with
  | none=>exact(show False from r).elim
  | some _=>rfl
theorem aJ3.getD {o:Option V}{u:Option Value}{d:V}{d':Value}(r:aJ3 o u)(h:RelV d d'):RelV (o.getD d) (u.getD d'):=by
 cases o with
 | none=>cases u with
  | none=>exact h
  | some _=>exact(show False from r).elim
 | some _=>cases u with
  | none=>exact(show False from r).elim
  | some _=>exact r
theorem KV.val {kvs:List (κ×V)}{vs:List (κ×Value)}(r:KV kvs vs)(k:κ):aJ3 (aA4 kvs k) (fR vs k):=by
 unfold KV at r
 induction r with
 | nil=>exact True.intro
 | @cons p q ps qs h t ih =>
  obtain⟨F,G⟩:=h
  by_cases e:p.1=k
  ·have e':q.1=k:=F.symm.trans e
   have b:fR (q::qs) k=some q.2:=by simp[fR,cw,e']
   rw[an1 e,b];exact G
  ·have e':¬ q.1=k:=fun z=>e (F.trans z)
   have b:fR (q::qs) k=fR qs k:=by simp[fR,cw,e']
   rw[am9 e,b];exact ih
theorem KV.any {kvs:List (κ×V)}{vs:List (κ×Value)}(r:KV kvs vs)(k:κ):(kvs.any fun z=>decide (z.1=k))=vs.any fun z=>decide (z.1=k):=by
 unfold KV at r
 induction r with
 | nil=>rfl
 | cons h t ih=>rw[eG,eG,ih,h.1]
theorem KV.repl {kvs:List (κ×V)}{vs:List (κ×Value)}(r:KV kvs vs)(k:κ){y:V}{u:Value}(N:RelV y u) :
  KV (kvs.map fun F=>if F.1=k then(F.1,y)else F) (vs.map fun F=>if F.1=k then(F.1,u)else F):=by
 unfold KV at r ⊢
 induction r with
 | nil=>exact .nil
 | @cons p q ps qs h t ih =>
  rw[aY,aY]
  refine .cons ?_ ih
  obtain⟨G,J⟩:=h
  by_cases e:p.1=k
  ·rw[if_pos e,if_pos (G.symm.trans e)];exact⟨G,N⟩
  ·rw[if_neg e,if_neg (fun z=>e (G.trans z))];exact⟨G,J⟩
theorem KV.put {kvs:List (κ×V)}{vs:List (κ×Value)}(r:KV kvs vs)(k:κ){y:V}{u:Value}(h:RelV y u):KV (at1 kvs k y) (stored vs k u):=by
 unfold at1 stored
 rw[r.any k]
 by_cases e:(vs.any fun z=>decide (z.1=k))=true
 ·rw[if_pos e,if_pos e];exact r.repl k h
 ·rw[if_neg e,if_neg e];exact iX r ⟨rfl,h⟩
theorem KV.length {kvs:List (κ×V)}{vs:List (κ×Value)}(r:KV kvs vs):kvs.length=vs.length:=fY r
end
theorem aJ4 {P:aG}{w:World}{k:Key}{u:Value}(r:RelV (kV k) u):(zx P w).is k u=true:=by
 cases k with
 | inl i=>obtain⟨t,e⟩:=(show ∃ t,u=Value.int i t from r);subst e;exact aD8 P w i t
 | inr x=>obtain⟨t,e⟩:=(show ∃ t,u=Value.str x t from r);subst e;exact aC0 P w x t
theorem ax6 {P:aG}{w:World}:∀ {z:List Key} {us:List Value},Vals (z.map kV) us->ItemsAre (zx P w) z us
 | [],_,r=>by rw[cL]at r;cases r;exact .nil
 | k::z,_,r=>by
  rw[aY]at r
  cases r with
  | cons h t=>exact .cons (aJ4 h) (ax6 t)
abbrev KT (H:Hp):List (List Key×V)->List (List Key×Addr×Value)->Prop:=ed fun p q=>p.1=q.1/\H q.2.1=some (.tup (p.1.map kV))/\RelV p.2 q.2.2
theorem KT.val {H:Hp}{kvs:List (List Key×V)}{G:List (List Key×Addr×Value)}(r:KT H kvs G)(k:List Key):aJ3 (aA4 kvs k) ((atKey G k).map (·.2)):=by
 induction r with
 | nil=>exact True.intro
 | @cons p q ps qs h t ih =>
  obtain⟨F,_,J⟩:=h
  by_cases e:p.1=k
  ·have e':q.1=k:=F.symm.trans e
   have b:atKey (q::qs) k=some q.2:=by simp[atKey,cw,e']
   rw[an1 e,b];exact J
  ·have e':¬ q.1=k:=fun z=>e (F.trans z)
   have b:atKey (q::qs) k=atKey qs k:=by simp[atKey,cw,e']
   rw[am9 e,b];exact ih
theorem KT.repl {H:Hp}{kvs:List (List Key×V)}{N:List (List Key×Addr×Value)}(r:KT H kvs N)(k:List Key){y:V}{u:Value}(Z:RelV y u) :
  KT H (kvs.map fun G=>if G.1=k then(G.1,y)else G) (N.map (putAt k u)):=by
 induction r with
 | nil=>exact .nil
 | @cons p q ps qs h t ih =>
  rw[aY,aY]
  refine .cons ?_ ih
  obtain⟨F,J,Y⟩:=h
  unfold putAt
  by_cases e:p.1=k
  ·rw[if_pos e,if_pos (F.symm.trans e)];exact⟨F,J,Z⟩
  ·rw[if_neg e,if_neg (fun z=>e (F.trans z))];exact⟨F,J,Y⟩
theorem KT.put {H:Hp}{kvs:List (List Key×V)}{h:List (List Key×Addr×Value)}(r:KT H kvs h)(k:List Key){b:Addr}{y:V}{u:Value}(hb:H b=some (.tup (k.map kV)))(z:RelV y u) :
  KT H (at1 kvs k y) (storedH h k b u):=by
 have e:(kvs.any fun F=>decide (F.1=k))=(atKey h k).isSome:=by
  rw[au5,(r.val k).isSome_eq,d7]
 unfold at1 storedH
 rw[e]
 by_cases q:(atKey h k).isSome=true
 ·rw[if_pos q,if_pos q];exact r.repl k z
 ·rw[if_neg q,if_neg q];exact iX r ⟨rfl,hb,z⟩
theorem KT.keeps {H H':Hp}{kvs:List (List Key×V)}{h:List (List Key×Addr×Value)}(r:KT H kvs h)(F:∀ b ys,H b=some (.tup ys)->H' b=some (.tup ys)):KT H' kvs h :=
 ed.mapP r fun _ _ z=>⟨z.1,F _ _ z.2.1,z.2.2⟩
section
variable {P:aG} {w:World} {H:Hp} {h:Heap} {a:Addr}
theorem bE7 {u:HO}(ok:HOk P w H h)(e:Rd H a u):ah8 P w H h a u:=e.ok ok
theorem aW3 {kvs:List (Key×V)}(ok:HOk P w H h)(e:Rd H a (.dK kvs)):kvs.length<=aD/\(a==cE)=false/\∃ vs,KV kvs vs/\h.DictOf (zx P w) a vs :=
 show ah8 P w H h a (.dK kvs)from bE7 ok e
theorem bG1 {kvs:List (Key×V)}(ok:HOk P w H h)(e:H a=some (.dK kvs)):kvs.length<=aD/\(a==cE)=false/\∃ vs,KV kvs vs/\h.DictOf (zx P w) a vs:=aW3 ok (.inl e)
theorem aw6 {z:List Key}(ok:HOk P w H h)(e:H a=some (.tup (z.map kV))):(fN (zx P w)).is h z a:=by
 obtain⟨_,its,r,o,F,J,n,G⟩:=(show ah8 P w H h a (.tup (z.map kV))from ok a _ e)
 exact⟨o,its.toArray,n,F,J,G,by simpa using ax6 r⟩
theorem aU4 {kvs:List (List Key×V)}(ok:HOk P w H h)(e:Rd H a (.dT kvs)):kvs.length<=aD/\(a==cE)=false /\
  ∃ F,KT H kvs F/\h.DictOfH (fN (zx P w)) a F:=by
 obtain⟨z,y,F,r,o,es,Z,Y,h2,J,G,N⟩:=(show ah8 P w H h a (.dT kvs)from bE7 ok e)
 refine⟨z,y,F,r,o,es,Z,Y,h2,J,G,fun x hx=>?_,N⟩
 have all:∀ {l:List (List Key×V)} {m:List (List Key×Addr×Value)},KT H l m->∀ x∈m,(fN (zx P w)).is h x.1 x.2.1:=by
  intro l m q
  induction q with
  | nil=>intro x hx;exact nomatch hx
  | @cons p q ps qs hq t ih =>
   intro x hx
   rcases aN.mp hx with e|hx
   ·subst e
    exact aw6 ok (by rw[<-hq.1];exact hq.2.1)
   ·exact ih x hx
 exact all r x hx
theorem bS9 {kvs:List (List Key×V)}(ok:HOk P w H h)(e:H a=some (.dT kvs)):kvs.length<=aD/\(a==cE)=false /\
  ∃ z,KT H kvs z/\h.DictOfH (fN (zx P w)) a z:=aU4 ok (.inl e)
end
def aA3 (H:Hp)(a:Addr)(y:V)(r:Option V):Prop :=
 (∃ kvs k,Rd H a (.dK kvs)/\y=kV k/\r=aA4 kvs k)\/∃ kvs k b,Rd H a (.dT kvs)/\y=.ref b/\H b=some (.tup (k.map kV))/\r=aA4 kvs k
def br9 (H:Hp)(a:Addr)(y v:V)(H':Hp):Prop :=
 (∃ kvs k,H a=some (.dK kvs)/\y=kV k/\kvs.length<aD/\H'=upd H a (.dK (at1 kvs k v))) \/
 ∃ kvs k b,H a=some (.dT kvs)/\y=.ref b/\H b=some (.tup (k.map kV))/\kvs.length<aD/\H'=upd H a (.dT (at1 kvs k v))
theorem aA3.k {H:Hp}{a:Addr}{kvs:List (Key×V)}{k:Key}(e:H a=some (.dK kvs)):aA3 H a (kV k) (aA4 kvs k):=.inl ⟨kvs,k,.inl e,rfl,rfl⟩
theorem aA3.t {H:Hp}{a b:Addr}{kvs:List (List Key×V)}{k:List Key}(e:H a=some (.dT kvs))(eb:H b=some (.tup (k.map kV))):aA3 H a (.ref b) (aA4 kvs k):=.inr ⟨kvs,k,b,.inl e,rfl,eb,rfl⟩
theorem br9.k {H:Hp}{a:Addr}{kvs:List (Key×V)}{k:Key}{v:V}(e:H a=some (.dK kvs))(hl:kvs.length<aD):br9 H a (kV k) v (upd H a (.dK (at1 kvs k v))):=.inl ⟨kvs,k,e,rfl,hl,rfl⟩
theorem br9.t {H:Hp}{a b:Addr}{kvs:List (List Key×V)}{k:List Key}{v:V}(e:H a=some (.dT kvs))(eb:H b=some (.tup (k.map kV)))(hl:kvs.length<aD) :
  br9 H a (.ref b) v (upd H a (.dT (at1 kvs k v))):=.inr ⟨kvs,k,b,e,rfl,eb,hl,rfl⟩
section
variable {X:Cx} {pins:List (Addr×Obj)} {σ:St} {H:Hp} {s:ae} {a:Addr} {y v:V} {u r:Value} {o:Option V} {A:aR} {E:Value->ae->Prop}
theorem Inv.big (I:Inv X pins σ H s):cE<s.heap.objs.size:=by
 have h:bo<s.heap.objs.size:=(I.mod.glob.keeps I.bk).lt
 exact fe (by decide) h
theorem az8 {Q:Value->ae->Prop}(hu:A.units+1<cLine)(I:Inv X pins σ H s)(g:aA3 H a y (some v))(ry:RelV y u)(h:∀ J s',Inv X pins σ H s'->RelV v J->Q J s') :
  wpAny (model X.prog X.w) A (eV (.ref a) u) Q E s:=by
 rcases g with⟨kvs,k,e,Z,l⟩|⟨kvs,k,b,e,Z,eb,l⟩
 ·subst Z
  obtain⟨z,hd,vs,G,N⟩:=aW3 I.hok e
  obtain⟨J,hw,F⟩:=aJ3.some_of (v:=v) (o:=fR vs k) (by rw[l];exact G.val k)
  exact wpAny_getItem_of (aJ4 ry) N.mapOf hw (h J _ (I.tok _) F)
 ·subst Z
  cases(show u=Value.ref b from ry)
  obtain⟨z,hd,xs,G,N⟩:=aU4 I.hok e
  obtain⟨J,hw,F⟩:=aJ3.some_of (v:=v) (o:=(atKey xs k).map (·.2)) (by rw[l];exact G.val k)
  obtain⟨p,hp,Y⟩:=fg.mp hw
  refine wpAny_getItem_heap (cW hu) (aw6 I.hok eb) N hp ?_
  rw[Y]
  exact h J _ (I.tok _) F
theorem bU3 {Q:Value->ae->Prop}(Y:A.units+1<cLine)(I:Inv X pins σ H s)(g:aA3 H a y o)(N:RelV y u)(h:∀ s',Inv X pins σ H s'->Q (.bool o.isSome) s') :
  wpAny (model X.prog X.w) A (cz .In u (.ref a)) Q E s:=by
 rcases g with⟨kvs,k,e,J,l⟩|⟨kvs,k,b,e,J,eb,l⟩
 ·subst J
  obtain⟨z,hd,vs,F,G⟩:=aW3 I.hok e
  refine wpAny_in_of (aJ4 N) hd G.mapOf ?_
  rw[<-(F.val k).isSome_eq,<-l]
  exact h _ (I.tok _)
 ·subst J
  cases(show u=Value.ref b from N)
  obtain⟨z,hd,Z,F,G⟩:=aU4 I.hok e
  refine wpAny_in_heap (cW Y) (aw6 I.hok eb) hd G ?_
  have q:=(F.val k).isSome_eq
  rw[d7]at q
  rw[<-q,<-l]
  exact h _ (I.tok _)
theorem aW5 {Q:Value->ae->Prop}(Y:A.units+1<cLine)(I:Inv X pins σ H s)(g:aA3 H a y o)(N:RelV y u)(h:∀ s',Inv X pins σ H s'->Q (.bool (!o.isSome)) s') :
  wpAny (model X.prog X.w) A (cz .NotIn u (.ref a)) Q E s:=by
 rcases g with⟨kvs,k,e,J,l⟩|⟨kvs,k,b,e,J,eb,l⟩
 ·subst J
  obtain⟨z,hd,vs,F,G⟩:=aW3 I.hok e
  refine wpAny_notIn_of (aJ4 N) hd G.mapOf ?_
  rw[<-(F.val k).isSome_eq,<-l]
  exact h _ (I.tok _)
 ·subst J
  cases(show u=Value.ref b from N)
  obtain⟨z,hd,Z,F,G⟩:=aU4 I.hok e
  refine wpAny_notIn_heap (cW Y) (aw6 I.hok eb) hd G ?_
  have q:=(F.val k).isSome_eq
  rw[d7]at q
  rw[<-q,<-l]
  exact h _ (I.tok _)
theorem aD5 {h':Heap}{t':Nat}{ob:HO}(I:Inv X pins σ H s)(mu:Mut (H a))(hs:c5 a s.heap h')(he:∃ q,h'.get? a=some q)(new:ah8 X.prog X.w (upd H a ob) h' a ob) :
  Inv X pins σ (upd H a ob) { s with heap:=h',toks:=t' } :=
 I.write (x:=a) (e:=a) mu (.inl rfl) (fun b q hb z=>(hs.2 b hb).trans z) he new
theorem bh0 {P:aG}{w:World}{H':Hp}{h':Heap}{kvs:List (Key×V)}{vs:List (Key×Value)}(z:kvs.length<=aD)(hd:(a==cE)=false)(h:KV kvs vs)(F:h'.DictOf (zx P w) a vs) :
  ah8 P w H' h' a (.dK kvs):=⟨z,hd,vs,h,F⟩
theorem ay5 {H':Hp}{Q:Unit->ae->Prop}(hu:A.units+1<cLine)(I:Inv X pins σ H s)(g:br9 H a y v H')(ry:RelV y u)(Z:RelV v r)(h:∀ s',Inv X pins σ H' s'->Q () s') :
  wpAny (model X.prog X.w) A (setItem (.ref a) u r) Q E s:=by
 rcases g with⟨kvs,k,e,Y,l,N⟩|⟨kvs,k,b,e,Y,eb,l,N⟩
 ·subst Y N
  obtain⟨z,hd,vs,F,J⟩:=bG1 I.hok e
  have hz:vs.length<=aD:=by rw[<-F.length];exact z
  have hl:(at1 kvs k v).length<=aD:=by have:=qq kvs k v;omega
  refine wpAny_setItem_pairs (hsz:=hz) (aJ4 ry) J fun h' G hs=>h _ ?_
  have he:∃ q,h'.get? a=some q:=let⟨q,_,_,hq,_⟩:=G;⟨q,hq⟩
  exact aD5 I (by rw[e];exact True.intro) hs he (bh0 hl hd (F.put k Z) G)
 ·subst Y N
  cases(show u=Value.ref b from ry)
  obtain⟨z,hd,xs,F,J⟩:=bS9 I.hok e
  have hz:xs.length<=aD:=by rw[<-fY F];exact z
  have hl:(at1 kvs k v).length<=aD:=by have:=qq kvs k v;omega
  refine wpAny_setItem_heap (hsz:=hz) (cW hu) (aw6 I.hok eb) J fun h' G hs=>h _ ?_
  obtain⟨q,es,ep,hq,h2,h3,h4,_,h5⟩:=G
  refine aD5 I (by rw[e];exact True.intro) hs ⟨q,hq⟩ ⟨hl,hd,_,(F.put k eb Z).keeps fun c ys ec=>?_,q,es,ep,hq,h2,h3,h4,h5⟩
  rw[zl (bS6 ec e (fun z=>nomatch z))]
  exact ec
end
section
variable {X:Cx} {pins:List (Addr×Obj)} {σ:St} {H:Hp} {s:ae} {a:Addr} {kvs:List (Key×V)} {k:Key} {u:Value} {A:aR} {E:Value->ae->Prop}
end
theorem ap0 {X:Cx}{h:List (Addr×Obj)}{σ:St}{H:Hp}{s:ae}{a:Addr}{y:V}{o:Option V}(I:Inv X h σ H s)(g:aA3 H a y o):s.TypeIs (.ref a) "dict":=by
 rcases g with⟨kvs,k,e,_,_⟩|⟨kvs,k,b,e,_,_,_⟩
 ·obtain⟨_,_,vs,_,z⟩:=aW3 I.hok e
  exact z.typeIs
 ·obtain⟨_,_,F,_,z⟩:=aU4 I.hok e
  exact z.typeIs
section
variable {X:Cx} {o i e value:Expr} {pos pos' tpos:Pos} {td ty tv:TE}
end
theorem aF1 {P:aG}{w:World}{H:Hp}(h:Heap)(hb:cE<h.objs.size):ah8 P w H (h.push { cls:=.type "dict",data:=.dict #[] }) h.objs.size (.dK []) :=
 ⟨c0 _,beq_eq_false_iff_ne.mpr (cP (ay hb)),[],.nil,Heap.DictOf.new h⟩
def bg2:TE:=fun _ H Q=>∀ p,H p=none->Q (.ref p) (upd H p (.dK []))
section
variable {X:Cx} {pos:Pos}
theorem be9:PE X (.Dict [] [] pos) bg2:=fun z s σ H Q I h =>
 wpAny_Dict_empty ⟨.ref s.heap.objs.size,_,I.laid (a:=s.heap.objs.size) (o:=.dK []) (t':=s.toks) (fun _ _ q=>ar _ q) (ai _) (aF1 s.heap I.big),rfl,h _ (I.hok.fresh (ai _))⟩
end
noncomputable def aP5:List (TE×TE)->St->Hp->(List (V×V)->Hp->Prop)->Prop
 | [],_,H,Q=>Q [] H
 | (tk,tv)::r,σ,H,Q=>tk σ H fun x H1=>tv σ H1 fun y H2=>aP5 r σ H2 fun ps H3=>Q ((x,y)::ps) H3
abbrev VV:List (V×V)->List (Value×Value)->Prop:=ed fun p q=>RelV p.1 q.1/\RelV p.2 q.2
def PPs (X:Cx)(pos:Pos)(keys:List (Option Expr))(values:List Expr)(trs:List (TE×TE)):Prop :=
 ∀(pins:List (Addr×Obj)) (s:ae) (σ:St) (H:Hp) (Q:List (V×V)->Hp->Prop),Inv X pins σ H s->aP5 trs σ H Q ->
  wpAny (model X.prog X.w) X.A (evalPairs (pairTrees keys values X.env pos)) (fun vs s'=>∃ ps H',Inv X pins σ H' s'/\VV ps vs/\Q ps H') X.xe s
theorem bj7 {X:Cx}{pos:Pos}:PPs X pos [] [] []:=fun z s σ H Q I h=>pairTrees_nil_walk ⟨[],H,I,.nil,h⟩
theorem aY1 {X:Cx}{pos:Pos}{k v:Expr}{J:List (Option Expr)}{vs:List Expr}{tk N:TE}{F:List (TE×TE)}(hk:PE X k tk)(hv:PE X v N)(hr:PPs X pos J vs F) :
  PPs X pos (some k::J) (v::vs) ((tk,N)::F):=fun z s σ H Q I h =>
 pairTrees_cons_walk (thn (hk z s σ H _ I h) fun u s1 ⟨x,H1,Y,rx,q1⟩=>thn (hv z s1 σ H1 _ Y q1) fun w2 s2 ⟨y,H2,I2,ry,q2⟩ =>
  thn (hr z s2 σ H2 _ I2 q2) fun ws s3 ⟨ps,Z,I3,G,q3⟩=>⟨(x,y)::ps,Z,I3,.cons ⟨rx,ry⟩ G,q3⟩)
noncomputable def av7 (kvs more:List (Key×V)):List (Key×V):=more.foldl (fun acc kv=>at1 acc kv.1 kv.2) kvs
theorem KV.merge:∀ {z:List (Key×V)} {F:List (Key×Value)} {kvs:List (Key×V)} {vs:List (Key×Value)},KV z F->KV kvs vs->KV (av7 kvs z) (merged vs F):=by
 intro z F kvs vs r
 unfold KV at r
 induction r generalizing kvs vs with
 | nil=>intro q;exact q
 | @cons p q ps qs h t ih =>
  intro r0
  have e:KV (at1 kvs p.1 p.2) (stored vs q.1 q.2):=by
   have:=r0.put p.1 h.2
   rw[<-h.1];exact this
  exact ih e
theorem ak8:∀(h kvs:List (Key×V)),(av7 kvs h).length<=kvs.length+h.length
 | [],kvs=>by show kvs.length<=kvs.length+0;omega
 | p::r,kvs=>by
  have F:=ak8 r (at1 kvs p.1 p.2)
  have z:=qq kvs p.1 p.2
  show(av7 (at1 kvs p.1 p.2) r).length<=_
  rw[aV];omega
theorem at3 {P:aG}{w:World}:∀ {kvs:List (Key×V)} {ws:List (Value×Value)},VV (kvs.map fun F=>(kV F.1,F.2)) ws->∃ z,Carries (zx P w) ws z/\KV kvs z
 | [],_,r=>by rw[cL]at r;cases r;exact⟨[],True.intro,.nil⟩
 | p::kvs,_,r=>by
  rw[aY]at r
  cases r with
  | @cons a b as bs h t =>
   obtain⟨z,c,q⟩:=at3 (P:=P) (w:=w) t
   obtain⟨J,G⟩:=b
   exact⟨(p.1,G)::z,⟨aJ4 h.1,rfl,c⟩,.cons ⟨rfl,h.2⟩ q⟩
def bv3 (trs:List (TE×TE)):TE:=fun σ H Q=>∀ p,H p=none->aP5 trs σ (upd H p (.dK [])) fun ps H2=>H2 p=some (.dK [])/\∃ kvs:List (Key×V),ps=kvs.map (fun kv=>(kV kv.1,kv.2))/\kvs.length<=15/\Q (.ref p) (upd H2 p (.dK (av7 [] kvs)))
theorem bt9 {X:Cx}{pos:Pos}{keys:List (Option Expr)}{F:List Expr}{G:List (TE×TE)}(h:PPs X pos keys F G)(Y:keys.all (·.isSome)=true)(hl:keys.length=F.length)(h0:keys≠[])
  (Z:keys.length<=15):PE X (.Dict keys F pos) (bv3 G):=by
 intro N s σ H Q I q
 have hn:=I.hok.fresh (ai s.heap.objs.size)
 have I1:=I.laid (a:=s.heap.objs.size) (o:=.dK []) (h':=s.heap.push { cls:=.type "dict",data:=.dict #[] }) (t':=s.toks) (fun _ _ q=>ar _ q) (ai _) (aF1 s.heap I.big)
 refine wpAny_Dict_walk (knd:=zx X.prog X.w) Y hl h0 Z (thn (h N _ σ _ _ I1 (q _ hn)) fun ws s2 ⟨ps,H2,I2,a0,e,kvs,ep,lk,q2⟩=>?_)
 subst ep
 obtain⟨rs,c,rk⟩:=at3 (P:=X.prog) (w:=X.w) a0
 obtain⟨z,hd,a1,r0,dd⟩:=bG1 I2.hok e
 cases r0
 refine⟨rs,c,dd,fun h' J hs=>⟨.ref s.heap.objs.size,_,?_,rfl,q2⟩⟩
 have hz:(av7 [] kvs).length<=aD:=by
  have h1:=ak8 kvs []
  rw[cx]at h1
  rw[d3];omega
 have he:∃ q,h'.get? s.heap.objs.size=some q:=let⟨q,_,_,hq,_⟩:=J;⟨q,hq⟩
 exact aD5 I2 (by rw[e];exact True.intro) hs he (bh0 hz hd (rk.merge .nil) J)
section
variable {X:Cx} {pins:List (Addr×Obj)} {σ:St} {H:Hp} {s:ae} {a:Addr} {y d:V} {u r:Value} {o:Option V} {A:aR} {E:Value->ae->Prop}
end
section
variable {X:Cx} {o e f:Expr} {apos cpos:Pos} {td ty tx:TE}
end
section
variable {P:aG} {w:World} {A:aR} {E:Value->ae->Prop} {s:ae}
end
section
variable {X:Cx} {pins:List (Addr×Obj)} {σ:St} {H:Hp} {s:ae}
end
section
variable {prog:aG} {w:World} {A:aR} {R:hZ->ae->Prop} {I:Addr} {fp wr:List Addr} {n:Nat} {P:Nat->Value->Prop} {St:Nat->Heap->Prop} {kw:List (Str×Value)}
end
theorem bn1 (i:Int)(h:0<=i):iq i 1=i % 2:=by
 unfold iq
 rw[decide_eq_true h]
 show((i.toNat &&& (1:Int).toNat:Nat):Int)=_
 rw[show(1:Int).toNat=1 from rfl,Nat.and_one_is_mod]
 omega
theorem bp0 {X:Cx}:OpR X (bM .BitAnd) (rI (fun i j=>0<=i/\j=1) fun i j=>.int (i % 2)):=opI fun i j _ _ _ _ _ hc q=>by
 obtain⟨h0,rfl⟩:=hc
 refine and_int ?_
 rw[bn1 i h0]
 exact q
def XAt (h:Heap)(x C:Addr):Prop:=∃ ox,h.get? x=some ox/\ox.cls=Value.ref C
theorem XAt.type {M:Model}{h:Heap}{x C:Addr}(I:XAt h x C):PySem.W.Looks M h (iK (Value.ref x)) (Value.ref C):=by
 obtain⟨G,z,F⟩:=I
 exact F▸iT (i7 z) i6
theorem ah8.at_ {P:aG}{w:World}{H:Hp}{h:Heap}{a:Addr}{o:HO}(x:ah8 P w H h a o):∃ u,h.get? a=some u:=by
 cases o with
 | lst xs=>obtain⟨_,_,_,_,e⟩:=x;exact⟨_,e⟩
 | tup xs=>obtain⟨_,_,_,ob,e,_⟩:=x;exact⟨_,e⟩
 | dK kvs=>obtain⟨_,_,_,_,o,_,_,e,_⟩:=x;exact⟨_,e⟩
 | dT kvs=>obtain⟨_,_,_,_,o,_,_,e,_⟩:=x;exact⟨_,e⟩
 | set S n=>obtain⟨o,_,_,_,e,_⟩:=x;exact⟨_,e⟩
 | ins C dx fs=>obtain⟨_,_,_,e,_⟩:=x;exact⟨_,e⟩
 | own y=>exact x
 | xd fs=>obtain⟨_,⟨_,_,_,e,_⟩,_⟩:=x;exact⟨_,e⟩
 | rng lo hi=>obtain⟨_,_,_,e⟩:=x;exact⟨_,e⟩
 | frz ob u=>obtain⟨e,_⟩:=x;exact⟨_,e⟩
 | tbl ps=>exact⟨_,(show h.get? a=some _ from x)⟩
 | met f y=>exact⟨_,(show h.get? a=some _ from x)⟩
 | ext φ=>obtain⟨_,e,_⟩:=x;exact e
structure Fly (h0:Heap)(H:Hp)(h:Heap)(a C:Addr):Prop where
 new:h0.get? a=none
 free:H a=none
 at_:∃ a0 oe vs T oT ts,h.get? a=some oe/\(oe.cls=.ref C/\vs[0]?=some a0)/\oe.data=.fields vs/\vs[1]?=some (.ref T)/\h0.get? T=none/\H T=none/\T≠a/\h.get? T=some oT/\oT.data=.fields ts/\ts[3]?=some .none
section
variable {X:Cx} {pins:List (Addr×Obj)} {σ:St} {H:Hp} {s:ae} {a C:Addr} {a0:Value}
end
noncomputable def CX1 (P:aG)(w:World):CXT:=fun outer H s E e s'=>∃ a C H',e=.ref a/\s'.os=s.os/\dG s'.gens/\Un (frs outer) [] H H' s.heap s'.heap/\HOk P w H' s'.heap/\Fly s.heap H' s'.heap a C/\E e (some C) H'
theorem CX1.inv {X:Cx}{G:List (Addr×Obj)}{σ:St}{H:Hp}{s s':ae}{E:XK}{e:Value}(I:Inv X G σ H s)(N:X.ex=[])(h:CX1 X.prog X.w X.stack H s E e s') :
  ∃ a C H',e=.ref a/\Inv X G σ H' s'/\Fly X.s₀.heap H' s'.heap a C/\E e (some C) H':=by
 obtain⟨a,C,H',rfl,os,bare,un,hok,F,q⟩:=h
 have J:∀ b,s.heap.get? b=none->X.s₀.heap.get? b=none:=fun b z=>by
  cases e:X.s₀.heap.get? b with
  | none=>rfl
  | some o=>obtain⟨o',e'⟩:=I.base.there b o e (by rw[N];simp);rw[z]at e';cases e'
 obtain⟨n0,nH,a0,Z,vs,T,oT,ts,h1,h2,h3,Y,h5,h6,h7⟩:=F
 exact⟨a,C,H',rfl,I.call' os un hok bare (ch:=[]) (fun b z=>absurd z (by simp)),⟨J _ n0,nH,a0,Z,vs,T,oT,ts,h1,h2,h3,Y,J _ h5,h6,h7⟩,q⟩
section
variable {P:aG} {w:World} {K:ac} {mg:Str->Option Value} {base:Heap} {N:List Str} {qual:Str} {scope:Scope} {f:Addr} {cd:Value} {A:aR} {outer:List Env} {s0:ae} {H0:Hp} {E:XK}
end
noncomputable def excTail:List Value:=[.type "ValueError",.type "Exception",.type "BaseException",.type "object"]
structure ExcCls (K:ac)(C:Addr):Prop where
 obj:∃ bm N nm q bs hdct sn sub ab col dd k0 k1 k2 k3 k5 mN,K.lookup C=some (excClassObj nm q C N bs bm hdct sn sub ab col dd k0 k1 k2 k3 k5 "ValueError.__new__")/\(∀ n∈quietNames,mN n=none)/\∀ h:Heap,K.In h->h.Ns N mN/\OwnTailQ h excTail bm
noncomputable def excI (K:ac)(C:Addr):Bool:=cF K (.ref C) (cn "__getattribute__")==some (some (.builtin "BaseException.__getattribute__"))&&(cF K (.ref C) (cn "__getattr__")==some none&&(cF K (.ref C) (cn "__class__")==some (some (.builtin "object.__class__"))&&(gA K (.builtin "object.__class__") (cn "__get__")==some (some (.builtin "getset_descriptor.__get__"))&&(gZ K (.builtin "object.__class__")==some true&&iA K C (.type "object")==some true))))
section
variable {X:Cx} {E:XK} {C:Addr} {x:Str}
end
structure Tr (X:Cx)(pins:List (Addr×Obj))(σ:St)(H:Hp)(s:ae)(a C:Addr)(fl:Value):Prop where
 inv:Inv X pins σ H s
 n0:X.s₀.heap.get? a=none
 nH:H a=none
 np:∀ p∈X.pn++pins,p.1≠a
 tr:∃ a0 oe vs T oT ts,s.heap.get? a=some oe/\(oe.cls=.ref C/\vs[0]?=some a0)/\oe.data=.fields vs/\vs[1]?=some (.ref T)/\X.s₀.heap.get? T=none/\H T=none/\(∀ p∈X.pn++pins,p.1≠T)/\T≠a/\s.heap.get? T=some oT/\oT.data=.fields ts/\ts[3]?=some fl
section
variable {X:Cx} {pins:List (Addr×Obj)} {σ:St} {H:Hp} {s:ae} {a C T:Addr} {fl fl' a0:Value} {h':Heap}
theorem Tr.stk (h:X.stack=X.env::X.outer)(z:X.env.frame=some X.env.locals):∀ b∈X.fs,b∈frs X.stack:=fun b hb=>by rw[h];unfold frs;rw[bS,z];exact aw _ hb
theorem CX1.tr {s':ae}{E:XK}{e:Value}(I:Inv X pins σ H s)(Y:X.ex=[])(h:CX1 X.prog X.w X.stack H s E e s') :
  ∃ a C H',e=.ref a/\Tr X pins σ H' s' a C .none/\E e (some C) H':=by
 have h0:=h
 obtain⟨a,C,H',rfl,os,bare,un,hok,F,q⟩:=h
 obtain⟨a',C',a1,e,J,G,q'⟩:=CX1.inv I Y h0
 have N:∀ b,s.heap.get? b=none->X.s₀.heap.get? b=none:=fun b z=>by
  cases e:X.s₀.heap.get? b with
  | none=>rfl
  | some o=>obtain⟨o',e'⟩:=I.base.there b o e (by rw[Y];simp);rw[z]at e';cases e'
 have pn:∀ b,s.heap.get? b=none->∀ p∈X.pn++pins,p.1≠b:=fun b z p hp y=>by
  have:=(I.pin p hp).1
  rw[y,z]at this;cases this
 obtain⟨n0,nH,a0,oe,vs,T,oT,ts,h1,h2,h3,h4,Z,h6,h7⟩:=F
 exact⟨a,C,H',rfl,⟨I.call' os un hok bare (ch:=[]) (fun b z=>absurd z (by simp)),N _ n0,nH,pn _ n0,a0,oe,vs,T,oT,ts,h1,h2,h3,h4,N _ Z,h6,pn _ Z,h7⟩,q⟩
end
noncomputable abbrev Cx.hnd (X:Cx)(a:Addr)(oe:Obj):Cx:={ X with A:=X.A.mark (some (.ref a)),calm:=false,pn:=(a,oe)::X.pn,xe:=fun _ _=>False }
section
variable {X:Cx} {pins:List (Addr×Obj)} {σ:St} {H:Hp} {s:ae} {a C:Addr} {oe:Obj} {fl:Value}
theorem Cx.Ok.hnd (ok:X.Ok)(a:Addr)(h:Obj):(X.hnd a h).Ok:=⟨ok.mod,ok.kind,ok.glob,ok.blt,ok.above,ok.inj,ok.has,ok.cab,(fun z=>by cases z),ok.frames,ok.stk,ok.exf,ok.bs,ok.bsz,ok.noex,ok.exfs,ok.funs,ok.frf⟩
theorem Inv.apart (I:Inv X pins σ H s){b:Addr}{o:Obj}{vs:Array Value}(e:s.heap.get? b=some o)(d:o.data=.fields vs):b≠X.env.locals/\b ∉ X.fs/\∀ v,o.data≠.cell v:=by
 refine⟨fun z=>?_,fun z=>?_,fun v z=>by rw[d]at z;cases z⟩
 ·obtain⟨m,⟨h,es,F,ho,hd,_⟩,_⟩:=I.loc
  rw[<-z,e]at ho;cases ho
  rw[d]at hd;cases hd
 ·obtain⟨_,h,e',d'⟩:=I.funs.mem z
  rw[e]at e';cases e'
  exact d' _ d
theorem Inv.hnd {vs:Array Value}(I:Inv X pins σ H s)(e:s.heap.get? a=some oe)(n:H a=none)(d:oe.data=.fields vs):Inv (X.hnd a oe) pins σ H s :=
 ⟨I.ok.hnd a oe,I.os,I.bare,I.base,I.loc,I.cell,I.free,I.freeC,fun p h=>by
  rcases aN.mp h with z|z
  ·subst z;exact⟨e,n,I.apart e d⟩
  ·exact I.pin p z,I.hok,I.len⟩
theorem Inv.unhnd (ok:X.Ok)(I:Inv (X.hnd a oe) pins σ H s):Inv X pins σ H s:=⟨ok,I.os,I.bare,I.base,I.loc,I.cell,I.free,I.freeC,fun p h=>I.pin p (aw _ h),I.hok,I.len⟩
theorem Tr.own (t:Tr X pins σ H s a C fl):∃ h vs,s.heap.get? a=some h/\h.cls=.ref C/\h.data=.fields vs:=by
 obtain⟨N,h,vs,T,J,ts,z,G,F,_⟩:=t.tr
 exact⟨h,vs,z,G.1,F⟩
theorem Tr.again (t:Tr X pins σ H s a C fl){Q:V->Hp->Prop}{e:Expr}{v:V}(he:∀ h,PE (X.hnd a h) e (tC v)){E:Value->ae->Prop}{R:Value->ae->Prop}
  (k:∀ u s',RelV v u->Tr X pins σ H s' a C fl->R u s'):wpAny (model X.prog X.w) (X.A.mark (some (.ref a))) (eval e X.env) R E s:=by
 obtain⟨a0,h,vs,T,G,ts,h1,h2,h3,h4,h5,h6,N,h7,h8,h9,Y⟩:=t.tr
 have I:=t.inv
 have J:Inv (X.hnd a h) ((T,G)::pins) σ H s:=(I.hnd h1 t.nH h3).pins_of fun p Z=>by
  rcases aN.mp Z with z|z
  ·subst z;exact⟨h8,h6,I.apart h8 h9⟩
  ·exact I.pin p (aW _ z)
 refine bw (he h ((T,G)::pins) s σ H (fun w H1=>w=v/\H1=H) J ⟨rfl,rfl⟩) (fun u s1 ⟨w,H1,F,r,e1,e2⟩=>?_) (fun _ _ z=>bH z)
 subst e1 e2
 refine k u s1 r ⟨(F.pins_of fun p Z=>F.pin p (aW _ (aw _ Z))).unhnd I.ok,t.n0,t.nH,t.np,a0,h,vs,T,G,ts,(F.pin (a,h) (az ..)).1,h2,h3,h4,h5,h6,N,h7,(F.pin (T,G) (aW _ (az ..))).1,h9,Y⟩
end
section
variable {prog:aG} {w:World} {A:aR} {R:hZ->ae->Prop} {I:Addr} {fp wr:List Addr} {n:Nat} {P:Nat->Value->Prop} {St:Nat->Heap->Prop} {h₀:Heap}
end
end L2
end
noncomputable section
namespace DV
inductive D where
 | non|bl (b:Bool)|int (i:Int)|str (x:List Nat)|tup (l:List D)|ref (n:Nat)|fn (f:String)|clo (f:String) (cs:List D)
noncomputable instance:DecidableEq D:=fun a b=>eN (a=b)
noncomputable instance (x:D):Decidable (x=.non):=match x with
 | .non=>.isTrue rfl
 | .bl _=>.isFalse nofun
 | .int _=>.isFalse nofun
 | .str _=>.isFalse nofun
 | .tup _=>.isFalse nofun
 | .ref _=>.isFalse nofun
 | .fn _=>.isFalse nofun
 | .clo _ _=>.isFalse nofun
inductive O where
 | lst (l:List D)|ro (l:List D)|dic (l:List (D×D))|ins (c:String) (fs:List (String×D))|dit (l:List (D×D))
noncomputable instance:DecidableEq O:=fun a b=>eN (a=b)
noncomputable abbrev Sto:=List O
noncomputable def O.kd:O->Nat
 | .lst _=>0|.ro _=>1|.dic _=>2|.ins _ _=>3|.dit _=>4
inductive R (α:Type) where
 | ok (a:α) (s:Sto)|exc (e:D) (s:Sto)|bad
noncomputable abbrev M (α:Type):=Sto->R α
noncomputable def R.bind {α β:Type}(r:R α)(f:α->Sto->R β):R β:=match r with
 | .ok a s=>f a s
 | .exc e s=>.exc e s
 | .bad=>.bad
@[simp] theorem R.bind_ok {α β:Type} (a:α) (s:Sto) (f:α->Sto->R β):(R.ok a s).bind f=f a s:=rfl
@[simp] theorem R.bind_bad {α β:Type} (f:α->Sto->R β):(R.bad:R α).bind f=.bad:=rfl
@[simp] theorem R.bind_exc {α β:Type} (e:D) (s:Sto) (f:α->Sto->R β):(R.exc e s:R α).bind f=.exc e s:=rfl
theorem R.bind_inv {α β:Type}{r:R α}{f:α->Sto->R β}{b:β}{t:Sto}(h:r.bind f=.ok b t):∃ a s,r=.ok a s/\f a s=.ok b t:=by
 cases r with
 | ok a s=>exact⟨a,s,rfl,h⟩
 | exc e s=>cases h
 | bad=>cases h
@[simp] theorem R.bind_assoc {α β γ:Type} (r:R α) (f:α->Sto->R β) (g:β->Sto->R γ):(r.bind f).bind g=r.bind fun a s=>(f a s).bind g:=by cases r<;>rfl
mutual
noncomputable def D.bnd (n:Nat):D->Bool
 | .tup l=>D.bndL n l
 | .ref k=>decide (k<n)
 | .clo _ l=>D.bndL n l
 | _=>true
noncomputable def D.bndL (n:Nat):List D->Bool
 | []=>true
 | d::l=>D.bnd n d&&D.bndL n l
end
noncomputable def O.bnd (n:Nat):O->Bool
 | .lst l=>D.bndL n l
 | .ro l=>D.bndL n l
 | .dic l=>D.bndL n (l.map (·.1))&&D.bndL n (l.map (·.2))
 | .ins _ fs=>D.bndL n (fs.map (·.2))
 | .dit l=>D.bndL n (l.map (·.1))&&D.bndL n (l.map (·.2))
mutual
noncomputable def D.plain:D->Bool
 | .non=>true|.int _=>true|.str _=>true
 | .tup l=>D.plainL l
 | _=>false
noncomputable def D.plainL:List D->Bool
 | []=>true
 | d::l=>D.plain d&&D.plainL l
end
mutual
noncomputable def D.ncl:D->Bool
 | .tup l=>D.nclL l
 | .clo _ _=>false
 | _=>true
noncomputable def D.nclL:List D->Bool
 | []=>true
 | d::l=>D.ncl d&&D.nclL l
end
noncomputable def O.ncl:O->Bool
 | .lst l=>D.nclL l
 | .ro l=>D.nclL l
 | .dic l=>D.nclL (l.map (·.2))
 | .dit l=>D.nclL (l.map (·.2))
 | _=>false
noncomputable def D.key:D->Bool
 | .int _=>true|.str _=>true|_=>false
noncomputable def D.hdI:List D->Bool
 | .int _::_=>true|_=>false
noncomputable def D.keyS:D->Bool
 | .int _=>true|.str x=>decide (x.length<=1000)|_=>false
noncomputable def D.keyT:D->Bool
 | .tup l=>D.hdI l&&(l.all D.keyS&&decide (l.length<=1000))|_=>false
noncomputable def LIM:Nat:=1000000
@[irreducible] noncomputable def BIG:Nat:=2^60000
@[irreducible] noncomputable def DIVL:Nat:=2^4096
inductive BOp where
 | add|sub|mul|fdiv|mod|pow|shl|shr|band|bor
 deriving DecidableEq
inductive COp where
 | eq|ne|lt|le|gt|ge|isin|notin
 deriving DecidableEq
inductive Cn where
 | non|bl (b:Bool)|int (i:Int)|str (x:List Nat)
 deriving DecidableEq
noncomputable def Cn.d:Cn->D
 | .non=>.non|.bl b=>.bl b|.int i=>.int i|.str x=>.str x
inductive Bi where
 | len|abs|int|str|min2|max2|max3|min3|isInt|isBool|isStr|isTup|isList|ord
 deriving DecidableEq
inductive Mk where
 | tuple|list|all|any|sum|min|max|sorted|lenset
 deriving DecidableEq
inductive Mt where
 | append|pop|index|count|reverse|clear|bitlen|get1|get2|setdefault|update|split|partition
 deriving DecidableEq
inductive Tg where
 | one (i:Nat)|tup (is:List Nat)
 deriving DecidableEq
mutual
inductive E where
 | var (i:Nat)|cst (c:Cn)|glob (x:String)
 | bin (op:BOp) (a b:E)|neg (a:E)|not (a:E)
 | cmp (op:COp) (a b:E)|chain (o p:COp) (a b c:E)
 | isN (a:E)|notN (a:E)|isB (a:E) (b:Bool)|notB (a:E) (b:Bool)
 | and (a b:E)|or (a b:E)|ite (c a b:E)
 | tup (es:Es)|lst (es:Es)|dic (ks vs:Es)|dicT|get2 (o k d:E)|bitl (a:E)|lrng (a:E)|fstr (es:Es)|inC (e:E) (c:String)|getC (c:String) (e:E)
 | ix (a b:E)|slL (a lo:E)|slU (a hi:E)|slLU (a lo hi:E)|rev (a:E)
 | call (f:String) (as:As)|callC (f:String) (as:As)|callV (i:Nat) (es:Es)
 | bi (b:Bi) (es:Es)|mk (k:Mk) (l:L)|mkD (k:Mk) (l:L) (d:E)
 | meth (m:Mt) (o:E) (es:Es)|ext (o:E) (l:L)|extS (o e:E)|join (o e:E)|mks (k:Mk) (e:E)|mkDs (k:Mk) (e d:E)|minK (id:String) (e:E) (j:Int)
inductive Es where
 | nil|cons (e:E) (es:Es)
inductive As where
 | nil|ex (e:E) (as:As)|lam (id:String) (caps:List Nat) (as:As)|fn (f:String) (as:As)
inductive I where
 | seq (e:E)|rng1 (a:E)|rng2 (a b:E)|rng3 (a b:E) (c:Int)|enum (it:I)|zip (a b:I)|items (e:E)
inductive L where
 | comp (tg:Tg) (it:I) (e:E) (caps:List (Option Nat))|compIf (tg:Tg) (it:I) (c e:E) (caps:List (Option Nat))|disp (es:Es)|seq (e:E)|itm (e:E)
end
mutual
inductive S where
 | asg (tg:Tg) (e:E)|setIx (o i e:E)|aug (i:Nat) (e:E)|ex (e:E)|ret (e:E)|retN
 | ite (c:E) (a b:Ss)|whl (c:E) (b:Ss)|for_ (tg:Tg) (it:I) (b:Ss)|pass|cont|brk|raise|und (i:Nat)
inductive Ss where
 | nil|cons (s:S) (ss:Ss)
end
noncomputable abbrev Env:=List (Option D)
noncomputable def ai9 (o:O):M D:=fun s=>.ok (.ref s.length) (s++[o])
noncomputable def pur (d:D):M D:=fun s=>.ok d s
noncomputable def bad {α:Type}:M α:=fun _=>.bad
noncomputable def mulOk (a b:Int):Bool:=decide (a.natAbs<2^64)||decide (b.natAbs<2^64)||(decide (a.natAbs<BIG)&&decide (b.natAbs<BIG))
noncomputable def rep:Nat->List Nat->List Nat
 | 0,_=>[]
 | n+1,a=>a++rep n a
noncomputable def aM8:Nat->List D->List D
 | 0,_=>[]
 | n+1,a=>a++aM8 n a
noncomputable def am6:BOp->D->D->M D
 | .add,.int a,.int b=>pur (.int (a+b))
 | .add,.str a,.str b=>if a.length+b.length<=LIM then pur (.str (a++b))else bad
 | .add,.tup a,.tup b=>if a.length+b.length<=LIM then pur (.tup (a++b))else bad
 | .add,.ref a,.ref b=>fun s=>match s[a]?,s[b]? with
  | some (.lst l),some (.lst m)=>if l.length+m.length<=LIM then ai9 (.lst (l++m)) s else .bad
  | _,_=>.bad
 | .sub,.int a,.int b=>pur (.int (a - b))
 | .mul,.int a,.int b=>if mulOk a b then pur (.int (a*b))else bad
 | .mul,.str a,.int n=>if 0<=n/\n<=1000000/\a.length*n.toNat<=LIM then pur (.str (rep n.toNat a))else bad
 | .mul,.tup a,.int n=>if 0<=n/\n<=1000000/\a.length*n.toNat<=LIM then pur (.tup (aM8 n.toNat a))else bad
 | .mul,.ref a,.int n=>fun s=>match s[a]? with
  | some (.lst l)=>if 0<=n/\n<=1000000/\l.length*n.toNat<=LIM then ai9 (.lst (aM8 n.toNat l)) s else .bad
  | _=>.bad
 | .fdiv,.int a,.int b=>if 0<b/\b<(DIVL:Int)then pur (.int (a / b))else bad
 | .mod,.int a,.int b=>if 0<b then pur (.int (a % b))else bad
 | .pow,.int a,.int b=>if 0<=b/\b<=1000000/\a.natAbs<2^64 then pur (.int (a^b.toNat))else bad
 | .shl,.int a,.int b=>if 0<=b/\b<=1000000/\a.natAbs<2^64 then pur (.int (a*2^b.toNat))else bad
 | .shr,.int a,.int b=>if 0<=b then pur (.int (a / 2^b.toNat))else bad
 | .band,.int a,.int b=>if 0<=a/\b=1 then pur (.int (a % 2))else bad
 | _,_,_=>bad
noncomputable def kd (s:Sto):D->Nat
 | .non=>0|.bl _=>1|.int _=>1|.str _=>2|.tup _=>3
 | .ref r=>match s[r]? with|some (.lst _)=>4|_=>9
 | _=>9
noncomputable def aw7 (a b:Nat):Bool:=a==9||b==9||a==b
noncomputable def b2i (b:Bool):Int:=if b then 1 else 0
noncomputable def aD0:D->D->Option Bool
 | .non,.non=>some true
 | .bl a,.bl b=>some (a==b)
 | .int a,.int b=>some (a==b)
 | .bl a,.int b=>some (b2i a==b)
 | .int a,.bl b=>some (a==b2i b)
 | .str a,.str b=>some (a==b)
 | _,_=>none
noncomputable def ai2 (s:Sto)(a b:D):Option Bool:=match aD0 a b with
 | some z=>some z
 | none=>if aw7 (kd s a) (kd s b)then none else some false
noncomputable def eqL (f:D->D->Option Bool):List D->List D->Option Bool
 | [],[]=>some true
 | [],_::_=>some false
 | _::_,[]=>some false
 | a::l,b::m=>match f a b,eqL f l m with
  | some x,some y=>some (x&&y)
  | _,_=>none
noncomputable def eqv (s:Sto):Nat->D->D->Option Bool
 | 0,a,b=>ai2 s a b
 | n+1,a,b=>match a,b with
  | .tup l,.tup m=>eqL (eqv s n) l m
  | .ref x,.ref y=>match s[x]?,s[y]? with
   | some (.lst l),some (.lst m)=>if l.length=m.length then eqL (eqv s n) l m else some false
   | _,_=>none
  | a,b=>ai2 s a b
noncomputable def DEEP:Nat:=30
noncomputable def eqM (a b:D):M D:=fun s=>match eqv s DEEP a b with
 | some r=>.ok (.bl r) s
 | none=>.bad
noncomputable def inL (s:Sto)(x:D):List D->Option Bool
 | []=>some false
 | y::l=>match eqv s DEEP y x,inL s x l with
  | some a,some b=>some (a||b)
  | _,_=>none
noncomputable def look (k:D):List (D×D)->Option D
 | []=>none
 | (a,v)::l=>if a=k then some v else look k l
noncomputable def inM (a b:D):M Bool:=fun s=>match b with
 | .tup l=>match inL s a l with|some r=>.ok r s|none=>.bad
 | .ref r=>match s[r]? with
  | some (.lst l)=>match inL s a l with|some r=>.ok r s|none=>.bad
  | some (.dic l)=>if a.key then .ok (look a l).isSome s else .bad
  | some (.dit l)=>if a.keyT then .ok (look a l).isSome s else .bad
  | _=>.bad
 | .str y=>match a with|.str [c]=>.ok (decide (c∈y)) s|_=>.bad
 | _=>.bad
noncomputable def zR:COp->D->D->M D
 | .eq,a,b=>eqM a b
 | .ne,a,b=>fun s=>match eqv s DEEP a b with|some r=>.ok (.bl (!r)) s|none=>.bad
 | .lt,.int a,.int b=>pur (.bl (decide (a<b)))
 | .le,.int a,.int b=>pur (.bl (decide (a<=b)))
 | .gt,.int a,.int b=>pur (.bl (decide (b<a)))
 | .ge,.int a,.int b=>pur (.bl (decide (b<=a)))
 | .isin,a,b=>fun s=>(inM a b s).bind fun r s=>.ok (.bl r) s
 | .notin,a,b=>fun s=>(inM a b s).bind fun r s=>.ok (.bl (!r)) s
 | _,_,_=>bad
noncomputable def ixn (n:Nat)(i:Int):Option Nat:=if 0<=i then(if i<n then some i.toNat else none)else if -(n:Int)<=i then some (i+n).toNat else none
noncomputable def sbd (n:Nat)(i:Int):Nat:=if 0<=i then min i.toNat n else(i+n).toNat
noncomputable def loB (n:Nat):Option Int->Nat
 | none=>0
 | some i=>sbd n i
noncomputable def hiB (n:Nat):Option Int->Nat
 | none=>n
 | some i=>sbd n i
noncomputable def ar0 {α:Type}(l:List α)(lo hi:Option Int):List α:=(l.drop (loB l.length lo)).take (hiB l.length hi - loB l.length lo)
noncomputable def ixM (a b:D):M D:=fun s=>match a,b with
 | .tup l,.int i=>match(ixn l.length i).bind fun j=>l[j]? with|some d=>.ok d s|none=>.bad
 | .str l,.int i=>match(ixn l.length i).bind fun j=>l[j]? with|some c=>.ok (.str [c]) s|none=>.bad
 | .ref r,b=>match s[r]? with
  | some (.lst l)=>match b with
   | .int i=>match(ixn l.length i).bind fun j=>l[j]? with|some d=>.ok d s|none=>.bad
   | _=>.bad
  | some (.ro l)=>match b with
   | .int i=>match(ixn l.length i).bind fun j=>l[j]? with|some d=>.ok d s|none=>.bad
   | _=>.bad
  | some (.dic l)=>if b.key then match look b l with|some d=>.ok d s|none=>.bad else .bad
  | some (.dit l)=>if b.keyT then match look b l with|some d=>.ok d s|none=>.bad else .bad
  | _=>.bad
 | _,_=>.bad
noncomputable def slM (a:D)(lo hi:Option Int):M D:=fun s=>match a with
 | .tup l=>.ok (.tup (ar0 l lo hi)) s
 | .str l=>.ok (.str (ar0 l lo hi)) s
 | .ref r=>match s[r]? with
  | some (.lst l)=>ai9 (.lst (ar0 l lo hi)) s
  | _=>.bad
 | _=>.bad
noncomputable def bP9 (a:D):M D:=fun s=>match a with
 | .str l=>.ok (.str l.reverse) s
 | .ref r=>match s[r]? with
  | some (.lst l)=>ai9 (.lst l.reverse) s
  | _=>.bad
 | _=>.bad
noncomputable def am5:List D->Option (List Bool)
 | []=>some []
 | .bl b::l=>(am5 l).map (b::·)
 | _=>none
noncomputable def zX:List D->Option (List Int)
 | []=>some []
 | .int i::l=>(zX l).map (i::·)
 | _=>none
noncomputable def al1:List D->Option (List (List Nat))
 | []=>some []
 | .str i::l=>(al1 l).map (i::·)
 | _=>none
noncomputable def bo9 (d:D):M D:=fun s=>match d with
 | .tup l=>.ok (.int l.length) s
 | .str l=>.ok (.int l.length) s
 | .ref r=>match s[r]? with
  | some (.lst l)=>.ok (.int l.length) s
  | some (.ro l)=>.ok (.int l.length) s
  | _=>.bad
 | _=>.bad
noncomputable def isK (k:Nat)(d:D):M D:=fun s=>match d with
 | .non=>.ok (.bl false) s
 | .bl _=>.ok (.bl (k==1||k==2)) s
 | .int _=>.ok (.bl (k==1)) s
 | .str _=>.ok (.bl (k==3)) s
 | .tup _=>.ok (.bl (k==4)) s
 | .ref r=>match s[r]? with
  | some (.lst _)=>.ok (.bl (k==5)) s
  | _=>.bad
 | _=>.bad
noncomputable def bi1 (f:D->M D):List D->M D
 | [d]=>f d
 | _=>bad
noncomputable def bi:Bi->List D->M D
 | .len,l=>bi1 bo9 l
 | .abs,l=>fun s=>match zX l with|some [i]=>.ok (.int (if i<0 then -i else i)) s|_=>.bad
 | .int,l=>fun s=>match am5 l with|some [b]=>.ok (.int (if b then 1 else 0)) s|_=>.bad
 | .min2,l=>fun s=>match zX l with|some [a,b]=>.ok (.int (if b<a then b else a)) s|_=>.bad
 | .max2,l=>fun s=>match zX l with|some [a,b]=>.ok (.int (if b > a then b else a)) s|_=>.bad
 | .max3,l=>fun s=>match zX l with|some [a,b,c]=>.ok (.int (max (max a b) c)) s|_=>.bad
 | .isInt,l=>bi1 (isK 1) l
 | .isBool,l=>bi1 (isK 2) l
 | .isStr,l=>bi1 (isK 3) l
 | .isTup,l=>bi1 (isK 4) l
 | .isList,l=>bi1 (isK 5) l
 | _,_=>bad
noncomputable def bD5:List Int->Option Int
 | []=>none
 | a::l=>some (l.foldl min a)
noncomputable def bT8:List Int->Option Int
 | []=>none
 | a::l=>some (l.foldl max a)
noncomputable def ins (a:Int):List Int->List Int
 | []=>[a]
 | b::l=>if a<=b then a::b::l else b::ins a l
noncomputable def bF3:List Int->List Int
 | []=>[]
 | a::l=>ins a (bF3 l)
noncomputable def bx6 (is:List Int):Bool:=is.all (fun i=>decide (-1000000000<=i/\i<=1000000000))&&decide (is.length<=1000000)
noncomputable def mk:Mk->List D->M D
 | .tuple,l=>fun s=>.ok (.tup l) s
 | .list,l=>ai9 (.lst l)
 | .all,l=>fun s=>match am5 l with|some bs=>.ok (.bl (bs.all id)) s|none=>.bad
 | .any,l=>fun s=>match am5 l with|some bs=>.ok (.bl (bs.any id)) s|none=>.bad
 | .sum,l=>fun s=>match zX l with|some is=>if bx6 is then .ok (.int is.sum) s else .bad|none=>.bad
 | .min,l=>fun s=>match(zX l).bind bD5 with|some m=>.ok (.int m) s|none=>.bad
 | .max,l=>fun s=>match(zX l).bind bT8 with|some m=>.ok (.int m) s|none=>.bad
 | .sorted,l=>fun s=>match zX l with|some is=>ai9 (.lst ((bF3 is).map D.int)) s|none=>.bad
 | .lenset,l=>bad
noncomputable def mkD (k:Mk)(l:List D)(d:D):M D:=fun s=>match k with
 | .min=>match zX l with|some is=>(match bD5 is with|some m=>.ok (.int m) s|none=>.ok d s)|none=>.bad
 | .max=>match zX l with|some is=>(match bT8 is with|some m=>.ok (.int m) s|none=>.ok d s)|none=>.bad
 | _=>.bad
noncomputable def az3 (k v:D)(l:List (D×D)):List (D×D):=if(look k l).isSome then l.map (fun p=>if p.1=k then(p.1,v)else p)else l++[(k,v)]
noncomputable def setIx (o i v:D):Sto->R Unit:=fun s=>match o with
 | .ref r=>match s[r]? with
  | some (.lst l)=>match i with
   | .int i=>match ixn l.length i with|some j=>.ok () (s.set r (.lst (l.set j v)))|none=>.bad
   | _=>.bad
  | some (.dic l)=>if i.key&&decide (l.length<LIM)then .ok () (s.set r (.dic (az3 i v l)))else .bad
  | some (.dit l)=>if i.keyT&&decide (l.length<LIM)then .ok () (s.set r (.dit (az3 i v l)))else .bad
  | _=>.bad
 | _=>.bad
noncomputable def bP5 (o k e:D):M D:=fun s=>match o with
 | .ref r=>match s[r]? with
  | some (.dit l)=>if k.keyT then .ok ((look k l).getD e) s else .bad
  | _=>.bad
 | _=>.bad
noncomputable def idx (s:Sto)(x:D):Nat->List D->Option Nat
 | _,[]=>none
 | n,y::l=>match eqv s DEEP y x with
  | some true=>some n
  | some false=>idx s x (n+1) l
  | none=>none
noncomputable def meth:Mt->D->List D->M D
 | .append,.ref r,[d]=>fun s=>match s[r]? with
  | some (.lst l)=>if l.length<LIM then .ok .non (s.set r (.lst (l++[d])))else .bad
  | _=>.bad
 | .pop,.ref r,[]=>fun s=>match s[r]? with
  | some (.lst l)=>match l.getLast? with|some d=>.ok d (s.set r (.lst l.dropLast))|none=>.bad
  | _=>.bad
 | .reverse,.ref r,[]=>fun s=>match s[r]? with
  | some (.lst l)=>.ok .non (s.set r (.lst l.reverse))
  | _=>.bad
 | .clear,.ref r,[]=>fun s=>match s[r]? with
  | some (.lst l)=>.ok .non (s.set r (.lst []))
  | _=>.bad
 | .index,.ref r,[d]=>fun s=>match s[r]? with
  | some (.lst l)=>match inL s d l,idx s d 0 l with|some true,some n=>.ok (.int n) s|_,_=>.bad
  | _=>.bad
 | _,_,_=>bad
noncomputable def bD4 (o:D)(l:List D):M D:=fun s=>match o with
 | .ref r=>match s[r]? with
  | some (.lst m)=>if m.length+l.length<=LIM then .ok .non (s.set r (.lst (m++l)))else .bad
  | _=>.bad
 | _=>.bad
noncomputable def bn9 (x y:D):M D:=fun s=>match x with
 | .str []=>match y with
  | .ref r=>match s[r]? with
   | some (.lst l)=>match al1 l with
    | some ss=>if ss.flatten.length<=LIM then .ok (.str ss.flatten) s else .bad
    | none=>.bad
   | _=>.bad
  | _=>.bad
 | _=>.bad
noncomputable def extS (o d:D):M D:=fun s=>match d with
 | .ref k=>match s[k]? with
  | some (.lst l)=>bD4 o l s
  | _=>.bad
 | _=>.bad
structure Fns where
 call:String->List D->M D
 lam:String->List D->List D->M D
 con:String->Option D
 xcall:String->List D->Sto->Option (String×Sto)
 xc:String->Bool
 xt:String->Bool
 cdc:String->Option (List (List Nat×List Nat))
noncomputable def aU0 (ρ:Env)(i:Nat):M D:=fun s=>match ρ[i]? with|some (some d)=>.ok d s|_=>.bad
noncomputable def bl7 (ρ:Env):List Nat->Option (List D)
 | []=>some []
 | i::is=>match ρ[i]?,bl7 ρ is with|some (some d),some l=>some (d::l)|_,_=>none
noncomputable def aj3 (ρ:Env)(caps:List (Option Nat)):Env:=caps.map fun o=>match o with|none=>none|some j=>(ρ[j]?).join
noncomputable def aC8 (ρ:Env)(i:Nat)(d:D):Option Env:=if i < ρ.length then some (ρ.set i (some d))else none
noncomputable def ap2 (ρ:Env)(i:Nat):Option Env:=if i < ρ.length then some (ρ.set i none)else none
noncomputable def aq1 (ρ:Env):List Nat->List D->Option Env
 | [],[]=>some ρ
 | i::is,d::l=>(aC8 ρ i d).bind fun ρ=>aq1 ρ is l
 | _,_=>none
noncomputable def aj0 (ρ:Env):Tg->D->Option Env
 | .one i,d=>aC8 ρ i d
 | .tup is,.tup l=>aq1 ρ is l
 | _,_=>none
structure Sq where
 its:List D
 src:List Nat
noncomputable def aR6 (d:D):M Sq:=fun s=>match d with
 | .tup l=>.ok ⟨l,[]⟩ s
 | .str l=>.ok ⟨l.map fun c=>.str [c],[]⟩ s
 | .ref r=>match s[r]? with
  | some (.lst l)=>.ok ⟨l,[r]⟩ s
  | some (.ro l)=>.ok ⟨l,[]⟩ s
  | _=>.bad
 | _=>.bad
noncomputable def aM4 (d:D):M Sq:=fun s=>match d with
 | .tup l=>.ok ⟨l,[]⟩ s
 | .str l=>.ok ⟨l.map fun c=>.str [c],[]⟩ s
 | .ref r=>match s[r]? with
  | some (.lst l)=>.ok ⟨l,[r]⟩ s
  | some (.ro l)=>.ok ⟨l,[]⟩ s
  | _=>.bad
 | _=>.bad
noncomputable def bd5 (d:D):M Sq:=fun s=>match d with
 | .tup l=>.ok ⟨l,[]⟩ s
 | .ref r=>match s[r]? with
  | some (.lst l)=>.ok ⟨l,[r]⟩ s
  | some (.ro l)=>.ok ⟨l,[]⟩ s
  | _=>.bad
 | _=>.bad
noncomputable def bY2 (p:D×D):D:=match p.1 with
 | .tup l=>.tup (l++[p.2])
 | _=>.non
noncomputable def bO1 (d:D):Sto->R (List D):=fun s=>match d with
 | .ref r=>match s[r]? with
  | some (.dit l)=>if l.length<=LIM then .ok (l.map bY2) s else .bad
  | _=>.bad
 | _=>.bad
noncomputable def bI2 (d:D):Sto->R (List D):=fun s=>match d with
 | .tup l=>.ok l s
 | .str l=>.ok (l.map fun c=>.str [c]) s
 | .ref r=>match s[r]? with
  | some (.lst l)=>.ok l s
  | some (.ro l)=>.ok l s
  | _=>.bad
 | _=>.bad
noncomputable def bg0 (d:D):Sto->R (List D):=fun s=>match d with
 | .ref r=>match s[r]? with
  | some (.lst l)=>.ok l s
  | _=>.bad
 | _=>.bad
noncomputable def bX2 (j:Int):D->Option Int
 | .tup l=>match(ixn l.length j).bind fun k=>l[k]? with|some (.int z)=>some z|_=>none
 | _=>none
noncomputable def bx7 (j:Int):List D->Option (List Int)
 | []=>some []
 | d::l=>match bX2 j d with
  | some z=>(match bx7 j l with|some zs=>some (z::zs)|none=>none)
  | none=>none
noncomputable def bP3 (f:Nat->Int):Nat->Nat
 | 0=>0
 | k+1=>if f (k+1)<f (bP3 f k)then k+1 else bP3 f k
noncomputable def br6 (j:Int)(l:List D):M D:=fun s=>match bx7 j l with
 | some ks=>(match l[bP3 (fun i=>ks.getD i 0) (l.length - 1)]? with|some d=>.ok d s|none=>.bad)
 | none=>.bad
noncomputable def W62:Int:=4611686018427387904
noncomputable def ar4 (a b:Int):List D:=(bB (b - a).toNat).map fun(k:Nat)=>.int (a+k)
noncomputable def bitsN (i:Int):Nat:=if i=0 then 0 else i.natAbs.log2+1
noncomputable def bC8 (x:D):M D:=fun s=>match x with|.int i=>.ok (.int (bitsN i:Nat)) s|_=>.bad
noncomputable def bJ2 (x:D):M D:=fun s=>match x with|.int i=>if 0<=i/\i<=1000000 then ai9 (.lst (ar4 0 i)) s else .bad|_=>.bad
noncomputable def bX0 (a b c:Int):List D:=if 0<c then(bB ((b - a+c - 1) / c).toNat).map fun(k:Nat)=>.int (a+c*k)else(bB ((a - b+(-c) - 1) / (-c)).toNat).map fun(k:Nat)=>.int (a+c*k)
noncomputable def bm9 (n:Nat):List D->List D
 | []=>[]
 | d::l=>.tup [.int n,d]::bm9 (n+1) l
noncomputable def bR6:List D->List D->List D
 | a::l,b::m=>.tup [a,b]::bR6 l m
 | _,_=>[]
noncomputable def chk (s0 s:Sto)(src:List Nat):Bool:=src.all fun r=>decide (s[r]?=s0[r]?)
noncomputable def tru {α:Type}(r:R D)(f:Bool->Sto->R α):R α:=r.bind fun d s=>match d with|.bl b=>f b s|_=>.bad
@[simp] theorem z8 {α:Type} (b:Bool) (s:Sto) (f:Bool->Sto->R α):tru (.ok (.bl b) s) f=f b s:=rfl
noncomputable def aj6 (ok:Sto->Bool)(g:D->Env->Sto->R (Option D×Env)):List D->Env->Sto->R (List D)
 | [],_,s=>if ok s then .ok [] s else .bad
 | d::l,ρ,s=>if ok s then(g d ρ s).bind fun p s=>(aj6 ok g l p.2 s).bind fun r s=>.ok (match p.1 with|some v=>v::r|none=>r) s else .bad
noncomputable def aW6 (l:List D):M D:=fun s=>match al1 l with|some ws=>if ws.flatten.length<=LIM then .ok (.str ws.flatten) s else .bad|none=>.bad
noncomputable def aW9 (F:Fns)(c:String)(x:D):M D:=fun s=>match F.cdc c,x with|some kvs,.str w=>.ok (.bl (kvs.lookup w).isSome) s|_,_=>.bad
noncomputable def aJ2 (F:Fns)(c:String)(x:D):M D:=fun s=>match F.cdc c,x with|some kvs,.str w=>(match kvs.lookup w with|some v=>if v.length<=LIM then .ok (.str v) s else .bad|none=>.bad)|_,_=>.bad
mutual
noncomputable def ev (F:Fns):E->Env->Sto->R D
 | .var i,ρ,s=>aU0 ρ i s
 | .cst c,_,s=>.ok c.d s
 | .glob x,_,s=>match F.con x with|some d=>.ok d s|none=>.bad
 | .bin op a b,ρ,s=>(ev F a ρ s).bind fun x s=>(ev F b ρ s).bind fun y s=>am6 op x y s
 | .neg a,ρ,s=>(ev F a ρ s).bind fun x s=>match x with|.int i=>.ok (.int (-i)) s|_=>.bad
 | .not a,ρ,s=>tru (ev F a ρ s) fun b s=>.ok (.bl (!b)) s
 | .cmp op a b,ρ,s=>(ev F a ρ s).bind fun x s=>(ev F b ρ s).bind fun y s=>zR op x y s
 | .chain o p a b c,ρ,s=>(ev F a ρ s).bind fun x s=>(ev F b ρ s).bind fun y s=>tru (zR o x y s) fun k s=>if k then(ev F c ρ s).bind fun z s=>zR p y z s else .ok (.bl false) s
 | .isN a,ρ,s=>(ev F a ρ s).bind fun x s=>.ok (.bl (decide (x=.non))) s
 | .notN a,ρ,s=>(ev F a ρ s).bind fun x s=>.ok (.bl (!decide (x=.non))) s
 | .isB a b,ρ,s=>(ev F a ρ s).bind fun x s=>match x with|.bl c=>.ok (.bl (c==b)) s|_=>.bad
 | .notB a b,ρ,s=>(ev F a ρ s).bind fun x s=>match x with|.bl c=>.ok (.bl (!(c==b))) s|_=>.bad
 | .and a b,ρ,s=>tru (ev F a ρ s) fun c s=>if c then tru (ev F b ρ s) fun c s=>.ok (.bl c) s else .ok (.bl false) s
 | .or a b,ρ,s=>tru (ev F a ρ s) fun c s=>if c then .ok (.bl true) s else tru (ev F b ρ s) fun c s=>.ok (.bl c) s
 | .ite c a b,ρ,s=>tru (ev F c ρ s) fun k s=>if k then ev F a ρ s else ev F b ρ s
 | .tup es,ρ,s=>(evs F es ρ s).bind fun l s=>.ok (.tup l) s
 | .lst es,ρ,s=>(evs F es ρ s).bind fun l s=>ai9 (.lst l) s
 | .dic .nil .nil,ρ,s=>ai9 (.dic []) s
 | .dic (.cons k .nil) (.cons v .nil),ρ,s=>(ev F k ρ (s++[.dic []])).bind fun kd s1=>(ev F v ρ s1).bind fun vd s2=>if kd.key=true/\s2[s.length]?=some (.dic [])then .ok (.ref s.length) (s2.set s.length (.dic [(kd,vd)]))else .bad
 | .dic _ _,ρ,s=>.bad
 | .dicT,_,s=>ai9 (.dit []) s
 | .get2 o k d,ρ,s=>(ev F o ρ s).bind fun x s=>(ev F k ρ s).bind fun y s=>(ev F d ρ s).bind fun z s=>bP5 x y z s
 | .bitl a,ρ,s=>(ev F a ρ s).bind fun x s=>bC8 x s
 | .lrng a,ρ,s=>(ev F a ρ s).bind fun x s=>bJ2 x s
 | .fstr es,ρ,s=>(evs F es ρ s).bind fun l s=>aW6 l s
 | .inC e c,ρ,s=>(ev F e ρ s).bind fun x s=>aW9 F c x s
 | .getC c e,ρ,s=>(ev F e ρ s).bind fun x s=>aJ2 F c x s
 | .ix a b,ρ,s=>(ev F a ρ s).bind fun x s=>(ev F b ρ s).bind fun y s=>ixM x y s
 | .slL a lo,ρ,s=>(ev F a ρ s).bind fun x s=>(ev F lo ρ s).bind fun y s=>match y with|.int i=>slM x (some i) none s|_=>.bad
 | .slU a hi,ρ,s=>(ev F a ρ s).bind fun x s=>(ev F hi ρ s).bind fun y s=>match y with|.int i=>slM x none (some i) s|_=>.bad
 | .slLU a lo hi,ρ,s=>(ev F a ρ s).bind fun x s=>(ev F lo ρ s).bind fun y s=>match y with|.int i=>(ev F hi ρ s).bind (fun z s=>match z with|.int j=>slM x (some i) (some j) s|_=>.bad)|_=>.bad
 | .rev a,ρ,s=>(ev F a ρ s).bind fun x s=>bP9 x s
 | .call f as,ρ,s=>(aq3 F as ρ s).bind fun l s=>F.call f l s
 | .callC f as,ρ,s=>(aq3 F as ρ s).bind fun l s=>(F.call f l s).bind fun d s'=>if(d.ncl&&s'.all O.ncl)=true then .ok d s' else .bad
 | .callV i es,ρ,s=>(evs F es ρ s).bind fun l s=>match ρ[i]? with
  | some (some (.fn f))=>F.call f l s
  | some (some (.clo id cs))=>F.lam id cs l s
  | _=>.bad
 | .bi b es,ρ,s=>(evs F es ρ s).bind fun l s=>bi b l s
 | .mk k it,ρ,s=>(evL F it ρ s).bind fun q s=>mk k q s
 | .mkD k it d,ρ,s=>(evL F it ρ s).bind fun q s=>(ev F d ρ s).bind fun d s=>mkD k q d s
 | .meth m o es,ρ,s=>(ev F o ρ s).bind fun x s=>(evs F es ρ s).bind fun l s=>meth m x l s
 | .ext o it,ρ,s=>(ev F o ρ s).bind fun x s=>(evL F it ρ s).bind fun q s=>bD4 x q s
 | .extS o e,ρ,s=>(ev F o ρ s).bind fun x s=>(ev F e ρ s).bind fun y s=>extS x y s
 | .join o e,ρ,s=>(ev F o ρ s).bind fun x s=>(ev F e ρ s).bind fun y s=>bn9 x y s
 | .mks k e,ρ,s=>(ev F e ρ s).bind fun x s=>(bg0 x s).bind fun q s=>mk k q s
 | .mkDs k e d,ρ,s=>(ev F e ρ s).bind fun x s=>(ev F d ρ s).bind fun z s=>(bg0 x s).bind fun q s=>mkD k q z s
 | .minK _ e j,ρ,s=>(ev F e ρ s).bind fun x s=>(bg0 x s).bind fun q s=>br6 j q s
noncomputable def evs (F:Fns):Es->Env->Sto->R (List D)
 | .nil,_,s=>.ok [] s
 | .cons e es,ρ,s=>(ev F e ρ s).bind fun d s=>(evs F es ρ s).bind fun l s=>.ok (d::l) s
noncomputable def aq3 (F:Fns):As->Env->Sto->R (List D)
 | .nil,_,s=>.ok [] s
 | .ex e as,ρ,s=>(ev F e ρ s).bind fun d s=>(aq3 F as ρ s).bind fun l s=>.ok (d::l) s
 | .lam id caps as,ρ,s=>match bl7 ρ caps with
  | some cs=>(aq3 F as ρ s).bind fun l s=>.ok (.clo id cs::l) s
  | none=>.bad
 | .fn f as,ρ,s=>(aq3 F as ρ s).bind fun l s=>.ok (.fn f::l) s
noncomputable def evI (F:Fns):I->Env->Sto->R Sq
 | .seq e,ρ,s=>(ev F e ρ s).bind fun d s=>aR6 d s
 | .rng1 a,ρ,s=>(ev F a ρ s).bind fun x s=>match x with|.int i=>if -W62<=i/\i<W62 then .ok ⟨ar4 0 i,[]⟩ s else .bad|_=>.bad
 | .rng2 a b,ρ,s=>(ev F a ρ s).bind fun x s=>(ev F b ρ s).bind fun y s=>match x,y with|.int i,.int j=>if(-W62<=i/\i<W62)/\-W62<=j/\j<W62 then .ok ⟨ar4 i j,[]⟩ s else .bad|_,_=>.bad
 | .rng3 a b c,ρ,s=>(ev F a ρ s).bind fun x s=>(ev F b ρ s).bind fun y s=>match x,y with|.int i,.int j=>if c=2/\(0<=i/\i<1048576)/\0<=j/\j<1048576 then .ok ⟨bX0 i j c,[]⟩ s else .bad|_,_=>.bad
 | .enum (.seq e),ρ,s=>(ev F e ρ s).bind fun d s=>(bd5 d s).bind fun q s=>.ok ⟨bm9 0 q.its,q.src⟩ s
 | .zip (.seq a) (.seq b),ρ,s=>(ev F a ρ s).bind fun x s=>(ev F b ρ s).bind fun y s=>(aM4 x s).bind fun p s=>(aM4 y s).bind fun q s=>.ok ⟨bR6 p.its q.its,p.src++q.src⟩ s
 | .enum _,_,_=>.bad
 | .zip _ _,_,_=>.bad
 | .items e,ρ,s=>.bad
noncomputable def evL (F:Fns):L->Env->Sto->R (List D)
 | .comp tg it e caps,ρ,s=>(evI F it ρ s).bind fun q s0=>if q.its.length<=LIM then aj6 (fun s=>chk s0 s q.src) (fun d ρ s=>match aj0 ρ tg d with
   | some ρ=>(ev F e ρ s).bind fun v s=>.ok (some v,ρ) s
   | none=>.bad) q.its (aj3 ρ caps) s0 else .bad
 | .compIf tg it c e caps,ρ,s=>(evI F it ρ s).bind fun q s0=>if q.its.length<=LIM then aj6 (fun s=>chk s0 s q.src) (fun d ρ s=>match aj0 ρ tg d with
   | some ρ=>tru (ev F c ρ s) fun k s=>if k then(ev F e ρ s).bind fun v s=>.ok (some v,ρ) s else .ok (none,ρ) s
   | none=>.bad) q.its (aj3 ρ caps) s0 else .bad
 | .disp es,ρ,s=>evs F es ρ s
 | .seq e,ρ,s=>(ev F e ρ s).bind fun d s=>bI2 d s
 | .itm e,ρ,s=>(ev F e ρ s).bind fun d s=>bO1 d s
end
inductive Ct where
 | next (ρ:Env)|ret (d:D)|cont (ρ:Env)|brk (ρ:Env)
noncomputable def aw5 (ok:Sto->Bool)(g:D->Env->Sto->R Ct):List D->Env->Sto->R Ct
 | [],ρ,s=>if ok s then .ok (.next ρ) s else .bad
 | d::l,ρ,s=>if ok s then(g d ρ s).bind fun c s=>match c with
   | .next ρ=>aw5 ok g l ρ s
   | .cont ρ=>aw5 ok g l ρ s
   | .brk ρ=>.ok (.next ρ) s
   | .ret d=>.ok (.ret d) s
  else .bad
noncomputable def qr (c:Env->Sto->R D)(g:Env->Sto->R Ct):Nat->Env->Sto->R Ct
 | 0,_,_=>.bad
 | n+1,ρ,s=>tru (c ρ s) fun b s=>if b then(g ρ s).bind fun c' s=>match c' with
   | .next ρ=>qr c g n ρ s
   | .cont ρ=>qr c g n ρ s
   | .brk ρ=>.ok (.next ρ) s
   | .ret d=>.ok (.ret d) s
  else .ok (.next ρ) s
open Classical in
noncomputable def whl (c:Env->Sto->R D)(g:Env->Sto->R Ct)(ρ:Env)(s:Sto):R Ct :=
 if h:∃ n,qr c g n ρ s≠.bad then qr c g h.choose ρ s else .bad
mutual
noncomputable def ex (F:Fns):S->Env->Sto->R Ct
 | .asg tg e,ρ,s=>(ev F e ρ s).bind fun d s=>match aj0 ρ tg d with|some ρ=>.ok (.next ρ) s|none=>.bad
 | .setIx o i e,ρ,s=>(ev F e ρ s).bind fun d s=>(ev F o ρ s).bind fun x s=>(ev F i ρ s).bind fun y s=>(setIx x y d s).bind fun _ s=>.ok (.next ρ) s
 | .aug i e,ρ,s=>(aU0 ρ i s).bind fun x s=>(ev F e ρ s).bind fun y s=>match x,y with
  | .int a,.int b=>match aC8 ρ i (.int (a+b))with|some ρ=>.ok (.next ρ) s|none=>.bad
  | _,_=>.bad
 | .ex e,ρ,s=>(ev F e ρ s).bind fun _ s=>.ok (.next ρ) s
 | .ret e,ρ,s=>(ev F e ρ s).bind fun d s=>.ok (.ret d) s
 | .retN,_,s=>.ok (.ret .non) s
 | .ite c a b,ρ,s=>tru (ev F c ρ s) fun k s=>if k then exs F a ρ s else exs F b ρ s
 | .whl c b,ρ,s=>whl (ev F c) (exs F b) ρ s
 | .for_ tg it b,ρ,s=>(evI F it ρ s).bind fun q s0=>aw5 (fun s=>chk s0 s q.src) (fun d ρ s=>match aj0 ρ tg d with
   | some ρ=>exs F b ρ s
   | none=>.bad) q.its ρ s0
 | .pass,ρ,s=>.ok (.next ρ) s
 | .cont,ρ,s=>.ok (.cont ρ) s
 | .brk,ρ,s=>.ok (.brk ρ) s
 | .raise,_,_=>.bad
 | .und i,ρ,s=>match ap2 ρ i with|some ρ=>.ok (.next ρ) s|none=>.bad
noncomputable def exs (F:Fns):Ss->Env->Sto->R Ct
 | .nil,ρ,s=>.ok (.next ρ) s
 | .cons st ss,ρ,s=>(ex F st ρ s).bind fun c s=>match c with|.next ρ=>exs F ss ρ s|c=>.ok c s
end
structure Df where
 name:String
 ps:Nat
 vs:Nat
 body:Ss
structure Lm where
 id:String
 ps:Nat
 cs:Nat
 body:E
inductive HT where
 | isi (cs:List String)|one (c:String)|not (t:HT)|or (a b:HT)
inductive Hd where
 | ret (t:HT)|iff (t:HT) (b:Bool) (h:Hd)
noncomputable def subC (c d:String):Bool:=c==d||(d == "TollError"||d == "ValueError")
noncomputable def HT.val (c:String):HT->Bool
 | .isi cs=>cs.any (subC c)
 | .one d=>subC c d
 | .not t=>!t.val c
 | .or a b=>if a.val c then true else b.val c
noncomputable def HT.ok (p:String->Bool):HT->Bool
 | .isi cs=>cs.all p
 | .one d=>p d
 | .not t=>t.ok p
 | .or a b=>a.ok p&&b.ok p
noncomputable def Hd.val (c:String):Hd->Bool
 | .ret t=>t.val c
 | .iff t b h=>if t.val c then b else h.val c
noncomputable def Hd.ok (p:String->Bool):Hd->Bool
 | .ret t=>t.ok p
 | .iff t _ h=>t.ok p&&h.ok p
inductive XB where
 | no|rais (c:String)|call (f:String) (as:As)|iteT (c:E) (a r:XB)|seq (s:S) (b:XB)
noncomputable def xB (F:Fns):XB->Env->Sto->Option (String×Sto)
 | .no,_,_=>none
 | .rais c,_,s=>if F.xc c=true then some (c,s)else none
 | .call f as,ρ,s=>match aq3 F as ρ s with|.ok l s1=>F.xcall f l s1|_=>none
 | .iteT c a r,ρ,s=>match ev F c ρ s with|.ok (.bl b) s1=>if b then xB F a ρ s1 else xB F r ρ s1|_=>none
 | .seq st b,ρ,s=>match ex F st ρ s with|.ok (.next ρ1) s1=>xB F b ρ1 s1|_=>none
structure Xf where
 ps:Nat
 vs:Nat
 body:XB
structure Tf where
 ps:Nat
 vs:Nat
 body:Ss
 xb:XB
 c:String
 i:Nat
 h:Hd
 tl:Ss
structure Pr where
 df:String->Option Df
 lm:String->Option Lm
 con:String->Option D
 xf:String->Option Xf
 tf:String->Option Tf
 xc:String->Bool
 xt:String->Bool
 cdc:String->Option (List (List Nat×List Nat))
noncomputable def ao8 (st st':Sto):Bool:=(bB st.length).all fun i=>decide (st'[i]?=st[i]?)||(match st'[i]? with|some o=>o.bnd st.length|none=>false)
noncomputable def zu (st:Sto)(d:D)(st':Sto):R D :=
 if ao8 st st' then
  match d with
  | .ref r=>if r<st.length then .ok d (st'.take st.length)else match st'[r]? with
   | some o=>if o.bnd st.length then .ok (.ref st.length) (st'.take st.length++[o])else .ok d st'
   | none=>.bad
  | d=>if d.bnd st.length then .ok d (st'.take st.length)else .ok d st'
 else .ok d st'
noncomputable def bN7 (F:Fns)(d:Tf)(l:List D)(s:Sto):R D:=match xB F d.xb (l.map some++aq d.vs none) s with
 | some (c,s')=>if c=d.c/\F.xc c=true/\d.h.ok F.xt=true then zu s (.bl (d.h.val c)) s' else .bad
 | none=>(exs F d.body (l.map some++aq d.vs none) s).bind fun c s1=>match c with
  | .ret v=>zu s v s1
  | .next ρ=>(exs F d.tl ρ s1).bind fun c s2=>match c with
   | .ret v=>zu s v s2
   | .next _=>zu s .non s2
   | _=>.bad
  | _=>.bad
noncomputable def aa1 (P:Pr):Nat->Fns
 | 0=>⟨fun _ _ _=>.bad,fun _ _ _ _=>.bad,P.con,fun _ _ _=>none,P.xc,P.xt,P.cdc⟩
 | n+1=>⟨fun f l s=>match P.df f with
   | some d=>if l.length=d.ps then(exs (aa1 P n) d.body (l.map some++aq d.vs none) s).bind fun c s'=>match c with
     | .ret v=>zu s v s'
     | .next _=>zu s .non s'
     | _=>.bad else .bad
   | none=>match P.tf f with
    | some d=>if l.length=d.ps then bN7 (aa1 P n) d l s else .bad
    | none=>.bad,
  fun id cs l s=>match P.lm id with
   | some d=>if l.length=d.ps/\cs.length=d.cs/\(D.nclL l&&D.nclL cs&&s.all O.ncl)=true then(ev (aa1 P n) d.body (l.map some++cs.map some) s).bind fun v s'=>zu s v s' else .bad
   | none=>.bad,P.con,
  fun f l s=>match P.xf f with
   | some d=>if l.length=d.ps then xB (aa1 P n) d.body (l.map some++aq d.vs none) s else none
   | none=>none,P.xc,P.xt,P.cdc⟩
def KP (s s':Sto):Prop:=∀(i:Nat) (o:O),s[i]?=some o->∃ o',s'[i]?=some o'/\o'.kd=o.kd
theorem KP.refl (s:Sto):KP s s:=fun i o h=>⟨o,h,rfl⟩
theorem KP.trans {a b c:Sto}(h:KP a b)(g:KP b c):KP a c:=fun i o e=>by
 obtain⟨z,e1,k1⟩:=h i o e
 obtain⟨F,e2,k2⟩:=g i z e1
 exact⟨F,e2,k2.trans k1⟩
theorem KP.app (s t:Sto):KP s (s++t):=fun i o e=>⟨o,by rw[aJ (af.mp e).1];exact e,rfl⟩
theorem KP.set {s:Sto}{r:Nat}{o F:O}(h:s[r]?=some F)(k:o.kd=F.kd):KP s (s.set r o):=fun i u e=>by
 by_cases z:r=i
 ·subst z
  rw[h]at e;cases e
  exact⟨o,a8 (af.mp h).1,k⟩
 ·exact⟨u,by rw[aL z];exact e,rfl⟩
def KR {α:Type}(s:Sto)(r:R α):Prop:=∀ a s',r=.ok a s'->KP s s'
theorem KR.bad {α:Type}{s:Sto}:KR s (.bad:R α):=fun _ _ h=>by cases h
theorem KR.ok {α:Type}{s:Sto}{a:α}:KR s (.ok a s):=fun _ _ h=>by cases h;exact KP.refl _
theorem KR.bind {α β:Type}{s:Sto}{r:R α}{f:α->Sto->R β}(h:KR s r)(g:∀ a s1,KR s1 (f a s1)):KR s (r.bind f):=fun b s' e=>by
 obtain⟨a,s1,e1,e2⟩:=R.bind_inv e
 exact(h a s1 e1).trans (g a s1 b s' e2)
theorem KR.tru {α:Type}{s:Sto}{r:R D}{f:Bool->Sto->R α}(h:KR s r)(g:∀ a s1,KR s1 (f a s1)):KR s (tru r f):=KR.bind h fun a s1=>by
 cases a with
 | bl b=>exact g b s1
 | _=>exact KR.bad
theorem KR.if {α:Type}{s:Sto}{c:Prop}[Decidable c]{a b:R α}(h:KR s a)(g:KR s b):KR s (if c then a else b):=by split;exact h;exact g
theorem KR.al {s:Sto}{o:O}:KR s (ai9 o s):=fun _ _ h=>by cases h;exact KP.app _ _
theorem KR.pu {s:Sto}{d:D}:KR s (pur d s):=fun _ _ h=>by cases h;exact KP.refl _
theorem KR.bd {s:Sto}:KR s ((DV.bad:M D) s):=fun _ _ h=>by cases h
theorem KR.im {s:Sto}{c:Prop}{_:Decidable c}{d:D}:KR s ((if c then pur d else DV.bad:M D) s):=by split;exact KR.pu;exact KR.bd
theorem KR.ia {s:Sto}{c:Prop}{_:Decidable c}{o:O}:KR s (if c then ai9 o s else .bad):=KR.if KR.al KR.bd
theorem bd8 (op:BOp)(x y:D)(s:Sto):KR s (am6 op x y s):=by
 cases op with
 | add=>cases x with
  | int a=>cases y with
   | int b=>exact KR.pu
   | _=>exact KR.bd
  | str a=>cases y with
   | str b=>exact KR.im
   | _=>exact KR.bd
  | tup a=>cases y with
   | tup b=>exact KR.im
   | _=>exact KR.bd
  | ref a=>cases y with
   | ref b =>
    show KR s (match s[a]?,s[b]? with|some (.lst l),some (.lst m)=>if l.length+m.length<=LIM then ai9 (.lst (l++m)) s else .bad|_,_=>.bad)
    split
    ·exact KR.ia
    ·exact KR.bd
   | _=>exact KR.bd
  | _=>exact KR.bd
 | sub=>cases x with
  | int a=>cases y with
   | int b=>exact KR.pu
   | _=>exact KR.bd
  | _=>exact KR.bd
 | mul=>cases x with
  | int a=>cases y with
   | int b=>exact KR.im
   | _=>exact KR.bd
  | str a=>cases y with
   | int b=>exact KR.im
   | _=>exact KR.bd
  | tup a=>cases y with
   | int b=>exact KR.im
   | _=>exact KR.bd
  | ref a=>cases y with
   | int n =>
    show KR s (match s[a]? with|some (.lst l)=>if 0<=n/\n<=1000000/\l.length*n.toNat<=LIM then ai9 (.lst (aM8 n.toNat l)) s else .bad|_=>.bad)
    split
    ·exact KR.ia
    ·exact KR.bd
   | _=>exact KR.bd
  | _=>exact KR.bd
 | fdiv=>cases x with
  | int a=>cases y with
   | int b=>exact KR.im
   | _=>exact KR.bd
  | _=>exact KR.bd
 | mod=>cases x with
  | int a=>cases y with
   | int b=>exact KR.im
   | _=>exact KR.bd
  | _=>exact KR.bd
 | pow=>cases x with
  | int a=>cases y with
   | int b=>exact KR.im
   | _=>exact KR.bd
  | _=>exact KR.bd
 | shl=>cases x with
  | int a=>cases y with
   | int b=>exact KR.im
   | _=>exact KR.bd
  | _=>exact KR.bd
 | shr=>cases x with
  | int a=>cases y with
   | int b=>exact KR.im
   | _=>exact KR.bd
  | _=>exact KR.bd
 | band=>cases x with
  | int a=>cases y with
   | int b=>exact KR.im
   | _=>exact KR.bd
  | _=>exact KR.bd
 | _=>exact KR.bd
theorem aN5 (op:COp)(x y:D)(s:Sto):KR s (zR op x y s):=by
 have z:∀ a b:D,KR s (inM a b s):=fun a b=>by
  intro r s' h
  unfold inM at h
  split at h
  ·split at h<;>cases h;exact KP.refl _
  ·split at h
   ·split at h<;>cases h;exact KP.refl _
   ·split at h<;>cases h;exact KP.refl _
   ·split at h<;>cases h;exact KP.refl _
   ·cases h
  ·split at h<;>cases h;exact KP.refl _
  ·cases h
 cases op with
 | isin=>exact KR.bind (z x y) fun _ _=>KR.ok
 | notin=>exact KR.bind (z x y) fun _ _=>KR.ok
 | eq=>intro a s' h;change eqM x y s=_ at h;unfold eqM at h;split at h<;>cases h;exact KP.refl _
 | ne =>
  intro a s' h
  change(match eqv s DEEP x y with|some r=>R.ok (D.bl (!r)) s|none=>.bad)=_ at h
  split at h<;>cases h;exact KP.refl _
 | _ =>
  intro a s' h
  cases x with
  | int i=>(cases y with
   | int j=>cases h;exact KP.refl _
   | _=>cases h)
  | _=>cases h
theorem bT0 (x y:D)(s:Sto):KR s (ixM x y s):=by
 intro a s' h
 unfold ixM at h
 repeat' split at h
 all_goals first|(cases h;exact KP.refl _;done)|(cases h;done)
theorem bl4 (x:D)(F z:Option Int)(s:Sto):KR s (slM x F z s):=by
 intro a s' h
 unfold slM at h
 repeat' split at h
 all_goals first|(cases h;exact KP.refl _;done)|(cases h;exact KP.app _ _;done)|(cases h;done)
theorem br5 (x:D)(s:Sto):KR s (bI2 x s):=by
 intro a s' h
 unfold bI2 at h
 repeat' split at h
 all_goals first|(cases h;exact KP.refl _;done)|(cases h;done)
theorem aC4 (x:D)(s:Sto):KR s (bg0 x s):=by
 intro a s' h
 unfold bg0 at h
 repeat' split at h
 all_goals first|(cases h;exact KP.refl _;done)|(cases h;done)
theorem bs2 (x:D)(s:Sto):KR s (aR6 x s):=by
 intro a s' h
 unfold aR6 at h
 repeat' split at h
 all_goals first|(cases h;exact KP.refl _;done)|(cases h;done)
theorem aG7 (x:D)(s:Sto):KR s (aM4 x s):=by
 intro a s' h
 unfold aM4 at h
 repeat' split at h
 all_goals first|(cases h;exact KP.refl _;done)|(cases h;done)
theorem be7 (x:D)(s:Sto):KR s (bd5 x s):=by
 intro a s' h
 unfold bd5 at h
 repeat' split at h
 all_goals first|(cases h;exact KP.refl _;done)|(cases h;done)
theorem bp1 (x y:D)(s:Sto):KR s (bn9 x y s):=by
 intro a s' h
 unfold bn9 at h
 repeat' split at h
 all_goals first|(cases h;exact KP.refl _;done)|(cases h;done)
theorem bL7 (b:Bi)(l:List D)(s:Sto):KR s (bi b l s):=by
 have k1:∀ f:D->M D,(∀ d,KR s (f d s))->KR s (bi1 f l s):=fun f z=>by
  cases l with
  | nil=>exact KR.bad
  | cons d t=>(cases t with
   | nil=>exact z d
   | cons _ _=>exact KR.bad)
 have k2:∀ k d,KR s (isK k d s):=fun k d=>by
  intro a s' h
  unfold isK at h
  repeat' split at h
  all_goals first|(cases h;exact KP.refl _;done)|(cases h;done)
 have F:∀ d,KR s (bo9 d s):=fun d=>by
  intro a s' h
  unfold bo9 at h
  repeat' split at h
  all_goals first|(cases h;exact KP.refl _;done)|(cases h;done)
 cases b with
 | len=>exact k1 _ F
 | isInt=>exact k1 _ (k2 1)
 | isBool=>exact k1 _ (k2 2)
 | isStr=>exact k1 _ (k2 3)
 | isTup=>exact k1 _ (k2 4)
 | isList=>exact k1 _ (k2 5)
 | _ =>
  intro a s' h
  unfold bi at h
  first|(cases h;done)|(simp only at h;split at h<;>first|(cases h;exact KP.refl _;done)|(cases h;done))
theorem bH5 (k:Mk)(l:List D)(s:Sto):KR s (mk k l s):=by
 cases k with
 | tuple=>exact KR.ok
 | list=>exact KR.al
 | lenset=>exact KR.bad
 | _ =>
  intro a s' h
  unfold mk at h
  simp only at h
  repeat' split at h
  all_goals first|(cases h;exact KP.refl _;done)|(cases h;exact KP.app _ _;done)|(cases h;done)
theorem bi4 (k:Mk)(l:List D)(d:D)(s:Sto):KR s (mkD k l d s):=by
 intro a s' h
 unfold mkD at h
 repeat' split at h
 all_goals first|(cases h;exact KP.refl _;done)|(cases h;done)
theorem bs4 (m : Mt) (o : D) (l : List D) (s : Sto) : KR s (meth m o l s) := by
  have lc : ∀ {r : Nat} {f : List D -> R D}, (∀ l, s[r]? = some (.lst l) -> KR s (f l)) -> KR s (match s[r]? with|some (.lst l) => f l|_ => .bad : R D) := fun {r f} h => by
    cases e : s[r]? with
    | none => exact KR.bad
    | some ob => cases ob with
      | lst l => exact h l e
      | _ => exact KR.bad
  cases o with
  | ref r => cases m with
    | append => match l with
      | [d] => exact lc fun l e => KR.if (fun _ _ h => by cases h; exact KP.set e rfl) KR.bad
      | [] => exact KR.bd
      | _ :: _ :: _ => exact KR.bd
    | pop => match l with
      | [] => exact lc fun l e => by
                show KR s (match l.getLast? with|some d => R.ok d (s.set r (.lst l.dropLast))|none => .bad : R D)
                split
                · exact fun _ _ h => by cases h; exact KP.set e rfl
                · exact KR.bad
      | _ :: _ => exact KR.bd
    | reverse => match l with
      | [] => exact lc fun l e => fun _ _ h => by cases h; exact KP.set e rfl
      | _ :: _ => exact KR.bd
    | clear => match l with
      | [] => exact lc fun l e => fun _ _ h => by cases h; exact KP.set e rfl
      | _ :: _ => exact KR.bd
    | index => match l with
      | [d] => exact lc fun l e => by
                show KR s (match inL s d l, idx s d 0 l with|some true, some n => R.ok (.int n) s|_, _ => .bad : R D)
                split
                · exact fun _ _ h => by cases h; exact KP.refl _
                · exact KR.bad
      | [] => exact KR.bd
      | _ :: _ :: _ => exact KR.bd
    | _ => exact KR.bd
  | _ => cases m <;> exact KR.bd
theorem aT8 (o:D)(l:List D)(s:Sto):KR s (bD4 o l s):=by
 intro a s' h
 unfold bD4 at h
 repeat' split at h
 all_goals first|(cases h;done)|(rename_i e _;cases h;exact KP.set e rfl;done)
theorem bf0 (o i v:D)(s:Sto):KR s (setIx o i v s):=by
 intro a s' h
 unfold setIx at h
 cases o with
 | ref r =>
  simp only at h
  cases e:s[r]? with
  | none=>rw[e]at h;cases h
  | some ob =>
   rw[e]at h
   cases ob with
   | lst l =>
    cases i with
    | int k=>simp only at h;split at h<;>cases h;exact KP.set e rfl
    | _=>cases h
   | dic l=>simp only at h;split at h<;>cases h;exact KP.set e rfl
   | dit l=>simp only at h;split at h<;>cases h;exact KP.set e rfl
   | _=>cases h
 | _=>cases h
theorem bs8 (o k e:D)(s:Sto):KR s (bP5 o k e s):=by
 intro a s' h
 unfold bP5 at h
 repeat' split at h
 all_goals first|(cases h;exact KP.refl _;done)|(cases h;done)
theorem bs6 (d:D)(s:Sto):KR s (bO1 d s):=by
 intro a s' h
 unfold bO1 at h
 repeat' split at h
 all_goals first|(cases h;exact KP.refl _;done)|(cases h;done)
structure FK (F:Fns):Prop where
 call:∀ f l s,KR s (F.call f l s)
 lam:∀ id cs l s,KR s (F.lam id cs l s)
 xcall:∀ f l s c s',F.xcall f l s=some (c,s')->KP s s'
theorem au2 {ok:Sto->Bool}{g:D->Env->Sto->R (Option D×Env)}(hg:∀ d ρ s,KR s (g d ρ s)):∀(l:List D) (ρ:Env) (s:Sto),KR s (aj6 ok g l ρ s)
 | [],ρ,s=>KR.if KR.ok KR.bad
 | d::l,ρ,s=>KR.if (KR.bind (hg d ρ s) fun p s1=>KR.bind (au2 hg l p.2 s1) fun r s2=>KR.ok) KR.bad
section
variable {F:Fns} (hF:FK F)
theorem aS6 (ρ:Env)(i:Nat)(s:Sto):KR s (aU0 ρ i s):=by
 intro a s' h
 unfold aU0 at h
 split at h<;>cases h;exact KP.refl _
include hF
mutual
theorem zb:∀(e:E) (ρ:Env) (s:Sto),KR s (ev F e ρ s)
 | .var i,ρ,s=>aS6 ρ i s
 | .cst c,ρ,s=>KR.ok
 | .glob x,ρ,s=>by
  intro a s' h
  change(match F.con x with|some d=>R.ok d s|none=>.bad)=_ at h
  split at h<;>cases h;exact KP.refl _
 | .bin op a b,ρ,s=>KR.bind (zb a ρ s) fun x s=>KR.bind (zb b ρ s) fun y s=>bd8 op x y s
 | .neg a,ρ,s=>KR.bind (zb a ρ s) fun x s=>by
  cases x with
  | int i=>exact KR.ok
  | _=>exact KR.bad
 | .not a,ρ,s=>KR.tru (zb a ρ s) fun b s=>KR.ok
 | .cmp op a b,ρ,s=>KR.bind (zb a ρ s) fun x s=>KR.bind (zb b ρ s) fun y s=>aN5 op x y s
 | .chain o p a b c,ρ,s=>KR.bind (zb a ρ s) fun x s=>KR.bind (zb b ρ s) fun y s=>KR.tru (aN5 o x y s) fun k s=>KR.if (KR.bind (zb c ρ s) fun z s=>aN5 p y z s) KR.ok
 | .isN a,ρ,s=>KR.bind (zb a ρ s) fun x s=>KR.ok
 | .notN a,ρ,s=>KR.bind (zb a ρ s) fun x s=>KR.ok
 | .isB a b,ρ,s=>KR.bind (zb a ρ s) fun x s=>by
  cases x with
  | bl i=>exact KR.ok
  | _=>exact KR.bad
 | .notB a b,ρ,s=>KR.bind (zb a ρ s) fun x s=>by
  cases x with
  | bl i=>exact KR.ok
  | _=>exact KR.bad
 | .and a b,ρ,s=>KR.tru (zb a ρ s) fun c s=>KR.if (KR.tru (zb b ρ s) fun c s=>KR.ok) KR.ok
 | .or a b,ρ,s=>KR.tru (zb a ρ s) fun c s=>KR.if KR.ok (KR.tru (zb b ρ s) fun c s=>KR.ok)
 | .ite c a b,ρ,s=>KR.tru (zb c ρ s) fun k s=>KR.if (zb a ρ s) (zb b ρ s)
 | .tup es,ρ,s=>KR.bind (ak1 es ρ s) fun l s=>KR.ok
 | .lst es,ρ,s=>KR.bind (ak1 es ρ s) fun l s=>KR.al
 | .dic .nil .nil,ρ,s=>KR.al
 | .dic (.cons k .nil) (.cons v .nil),ρ,s=>by
  intro a s' h
  obtain⟨kd,s1,e1,h⟩:=R.bind_inv (show(ev F k ρ (s++[.dic []])).bind _=_ from h)
  obtain⟨G,s2,e2,h⟩:=R.bind_inv h
  split at h
  case isFalse=>cases h
  rename_i hc
  cases h
  exact((KP.app _ _).trans ((zb k ρ _ _ _ e1).trans (zb v ρ _ _ _ e2))).trans (KP.set hc.2 rfl)
 | .dic .nil (.cons _ _),ρ,s=>KR.bad
 | .dic (.cons _ .nil) .nil,ρ,s=>KR.bad
 | .dic (.cons _ .nil) (.cons _ (.cons _ _)),ρ,s=>KR.bad
 | .dic (.cons _ (.cons _ _)) _,ρ,s=>KR.bad
 | .dicT,ρ,s=>KR.al
 | .fstr es,ρ,s=>KR.bind (ak1 es ρ s) fun x s=>by
  intro a s' h
  unfold aW6 at h
  split at h
  ·split at h<;>cases h;exact KP.refl _
  ·cases h
 | .inC e c,ρ,s=>KR.bind (zb e ρ s) fun x s=>by
  intro a s' h
  unfold aW9 at h
  split at h<;>cases h;exact KP.refl _
 | .getC c e,ρ,s=>KR.bind (zb e ρ s) fun x s=>by
  intro a s' h
  unfold aJ2 at h
  split at h
  ·split at h
   ·split at h<;>cases h;exact KP.refl _
   ·cases h
  ·cases h
 | .bitl a,ρ,s=>KR.bind (zb a ρ s) fun x s=>by
  intro a s' h
  unfold bC8 at h
  repeat' split at h
  all_goals first|(cases h;exact KP.refl _;done)|(cases h;done)
 | .lrng a,ρ,s=>KR.bind (zb a ρ s) fun x s=>by
  intro a s' h
  unfold bJ2 at h
  repeat' split at h
  all_goals first|(cases h;exact KP.app _ _;done)|(cases h;done)
 | .get2 o k d,ρ,s=>KR.bind (zb o ρ s) fun x s=>KR.bind (zb k ρ s) fun y s=>KR.bind (zb d ρ s) fun z s=>bs8 x y z s
 | .ix a b,ρ,s=>KR.bind (zb a ρ s) fun x s=>KR.bind (zb b ρ s) fun y s=>bT0 x y s
 | .slL a lo,ρ,s=>KR.bind (zb a ρ s) fun x s=>KR.bind (zb lo ρ s) fun y s=>by
  cases y with
  | int i=>exact bl4 _ _ _ _
  | _=>exact KR.bad
 | .slU a hi,ρ,s=>KR.bind (zb a ρ s) fun x s=>KR.bind (zb hi ρ s) fun y s=>by
  cases y with
  | int i=>exact bl4 _ _ _ _
  | _=>exact KR.bad
 | .slLU a lo hi,ρ,s=>KR.bind (zb a ρ s) fun x s=>KR.bind (zb lo ρ s) fun y s=>by
  cases y with
  | int i =>
   refine KR.bind (zb hi ρ s) fun z s=>?_
   cases z with
   | int j=>exact bl4 _ _ _ _
   | _=>exact KR.bad
  | _=>exact KR.bad
 | .rev a,ρ,s=>KR.bind (zb a ρ s) fun x s=>by
  cases x with
  | str l=>exact KR.ok
  | ref r =>
   intro a s' h
   unfold bP9 at h
   repeat' split at h
   all_goals first|(cases h;exact KP.refl _;done)|(cases h;exact KP.app _ _;done)|(cases h;done)
  | _=>exact KR.bad
 | .call f as,ρ,s=>KR.bind (am0 as ρ s) fun l s=>hF.call f l s
 | .callC f as,ρ,s=>KR.bind (am0 as ρ s) fun l s=>KR.bind (hF.call f l s) fun d s'=>KR.if KR.ok KR.bad
 | .callV i es,ρ,s=>KR.bind (ak1 es ρ s) fun l s=>by
  intro a s' h
  split at h
  ·exact hF.call _ _ _ _ _ h
  ·exact hF.lam _ _ _ _ _ _ h
  ·cases h
 | .bi b es,ρ,s=>KR.bind (ak1 es ρ s) fun l s=>bL7 b l s
 | .mk k it,ρ,s=>KR.bind (aO9 it ρ s) fun q s=>bH5 k q s
 | .mkD k it d,ρ,s=>KR.bind (aO9 it ρ s) fun q s=>KR.bind (zb d ρ s) fun d s=>bi4 k q d s
 | .meth m o es,ρ,s=>KR.bind (zb o ρ s) fun x s=>KR.bind (ak1 es ρ s) fun l s=>bs4 m x l s
 | .ext o it,ρ,s=>KR.bind (zb o ρ s) fun x s=>KR.bind (aO9 it ρ s) fun q s=>aT8 x q s
 | .extS o e,ρ,s=>KR.bind (zb o ρ s) fun x s=>KR.bind (zb e ρ s) fun y s=>by
  intro a s' h
  unfold extS at h
  repeat' split at h
  all_goals first|(cases h;done)|exact aT8 _ _ _ _ _ h
 | .join o e,ρ,s=>KR.bind (zb o ρ s) fun x s=>KR.bind (zb e ρ s) fun y s=>bp1 x y s
 | .mks k e,ρ,s=>KR.bind (zb e ρ s) fun x s=>KR.bind (aC4 x s) fun q s=>bH5 k q s
 | .mkDs k e d,ρ,s=>KR.bind (zb e ρ s) fun x s=>KR.bind (zb d ρ s) fun z s=>KR.bind (aC4 x s) fun q s=>bi4 k q z s
 | .minK _ e j,ρ,s=>KR.bind (zb e ρ s) fun x s=>KR.bind (aC4 x s) fun q s=>by
  intro a s' h
  unfold br6 at h
  split at h
  ·split at h<;>cases h;exact KP.refl _
  ·cases h
theorem ak1:∀(es:Es) (ρ:Env) (s:Sto),KR s (evs F es ρ s)
 | .nil,ρ,s=>KR.ok
 | .cons e es,ρ,s=>KR.bind (zb e ρ s) fun d s=>KR.bind (ak1 es ρ s) fun l s=>KR.ok
theorem am0:∀(z:As) (ρ:Env) (s:Sto),KR s (aq3 F z ρ s)
 | .nil,ρ,s=>KR.ok
 | .ex e z,ρ,s=>KR.bind (zb e ρ s) fun d s=>KR.bind (am0 z ρ s) fun l s=>KR.ok
 | .lam id caps z,ρ,s=>by
  intro a s' h
  change(match bl7 ρ caps with|some cs=>(aq3 F z ρ s).bind fun l s=>R.ok (D.clo id cs::l) s|none=>.bad)=_ at h
  split at h
  ·exact KR.bind (am0 z ρ s) (fun l s=>KR.ok) _ _ h
  ·cases h
 | .fn f z,ρ,s=>KR.bind (am0 z ρ s) fun l s=>KR.ok
theorem aN0:∀(it:I) (ρ:Env) (s:Sto),KR s (evI F it ρ s)
 | .seq e,ρ,s=>KR.bind (zb e ρ s) fun d s=>bs2 d s
 | .rng1 a,ρ,s=>KR.bind (zb a ρ s) fun x s=>by
  cases x with
  | int i=>exact KR.if KR.ok KR.bad
  | _=>exact KR.bad
 | .rng2 a b,ρ,s=>KR.bind (zb a ρ s) fun x s=>KR.bind (zb b ρ s) fun y s=>by
  cases x with
  | int i=>(cases y with
   | int j=>exact KR.if KR.ok KR.bad
   | _=>exact KR.bad)
  | _=>exact KR.bad
 | .rng3 a b c,ρ,s=>KR.bind (zb a ρ s) fun x s=>KR.bind (zb b ρ s) fun y s=>by
  cases x with
  | int i=>(cases y with
   | int j=>exact KR.if KR.ok KR.bad
   | _=>exact KR.bad)
  | _=>exact KR.bad
 | .enum (.seq e),ρ,s=>KR.bind (zb e ρ s) fun d s=>KR.bind (be7 d s) fun q s=>KR.ok
 | .zip (.seq a) (.seq b),ρ,s=>KR.bind (zb a ρ s) fun x s=>KR.bind (zb b ρ s) fun y s=>KR.bind (aG7 x s) fun p s=>KR.bind (aG7 y s) fun q s=>KR.ok
 | .enum (.rng1 _),ρ,s=>KR.bad
 | .enum (.rng2 _ _),ρ,s=>KR.bad
 | .enum (.rng3 _ _ _),ρ,s=>KR.bad
 | .enum (.enum _),ρ,s=>KR.bad
 | .enum (.zip _ _),ρ,s=>KR.bad
 | .enum (.items _),ρ,s=>KR.bad
 | .zip (.rng1 _) _,ρ,s=>KR.bad
 | .zip (.rng2 _ _) _,ρ,s=>KR.bad
 | .zip (.rng3 _ _ _) _,ρ,s=>KR.bad
 | .zip (.enum _) _,ρ,s=>KR.bad
 | .zip (.zip _ _) _,ρ,s=>KR.bad
 | .zip (.items _) _,ρ,s=>KR.bad
 | .zip (.seq _) (.rng1 _),ρ,s=>KR.bad
 | .zip (.seq _) (.rng2 _ _),ρ,s=>KR.bad
 | .zip (.seq _) (.rng3 _ _ _),ρ,s=>KR.bad
 | .zip (.seq _) (.enum _),ρ,s=>KR.bad
 | .zip (.seq _) (.zip _ _),ρ,s=>KR.bad
 | .zip (.seq _) (.items _),ρ,s=>KR.bad
 | .items e,ρ,s=>KR.bad
theorem aO9:∀(it:L) (ρ:Env) (s:Sto),KR s (evL F it ρ s)
 | .comp tg it e caps,ρ,s=>KR.bind (aN0 it ρ s) fun q s0=>KR.if (au2 (fun d ρ s=>by
   intro a s' h
   split at h
   ·exact KR.bind (zb e _ s) (fun v s=>KR.ok) _ _ h
   ·cases h) _ _ _) KR.bad
 | .compIf tg it c e caps,ρ,s=>KR.bind (aN0 it ρ s) fun q s0=>KR.if (au2 (fun d ρ s=>by
   intro a s' h
   split at h
   ·exact KR.tru (zb c _ s) (fun k s=>KR.if (KR.bind (zb e _ s) fun v s=>KR.ok) KR.ok) _ _ h
   ·cases h) _ _ _) KR.bad
 | .disp es,ρ,s=>ak1 es ρ s
 | .seq e,ρ,s=>KR.bind (zb e ρ s) fun d s=>br5 d s
 | .itm e,ρ,s=>KR.bind (zb e ρ s) fun d s=>bs6 d s
end
theorem aB5 {ok:Sto->Bool}{g:D->Env->Sto->R Ct}(hg:∀ d ρ s,KR s (g d ρ s)):∀(l:List D) (ρ:Env) (s:Sto),KR s (aw5 ok g l ρ s)
 | [],ρ,s=>KR.if KR.ok KR.bad
 | d::l,ρ,s=>KR.if (KR.bind (hg d ρ s) fun c s=>by
   cases c with
   | next ρ=>exact aB5 hg l ρ s
   | cont ρ=>exact aB5 hg l ρ s
   | brk ρ=>exact KR.ok
   | ret d=>exact KR.ok) KR.bad
theorem aC9 {c:Env->Sto->R D}{g:Env->Sto->R Ct}(hc:∀ ρ s,KR s (c ρ s))(hg:∀ ρ s,KR s (g ρ s)):∀(n:Nat) (ρ:Env) (s:Sto),KR s (qr c g n ρ s)
 | 0,ρ,s=>KR.bad
 | n+1,ρ,s=>KR.tru (hc ρ s) fun b s=>KR.if (KR.bind (hg ρ s) fun h s=>by
   cases h with
   | next ρ=>exact aC9 hc hg n ρ s
   | cont ρ=>exact aC9 hc hg n ρ s
   | brk ρ=>exact KR.ok
   | ret d=>exact KR.ok) KR.ok
mutual
theorem by8:∀(st:S) (ρ:Env) (s:Sto),KR s (ex F st ρ s)
 | .asg tg e,ρ,s=>KR.bind (zb hF e ρ s) fun d s=>by
  intro a s' h
  split at h<;>cases h;exact KP.refl _
 | .setIx o i e,ρ,s=>KR.bind (zb hF e ρ s) fun d s=>KR.bind (zb hF o ρ s) fun x s=>KR.bind (zb hF i ρ s) fun y s=>KR.bind (bf0 x y d s) fun _ s=>KR.ok
 | .aug i e,ρ,s=>KR.bind (aS6 ρ i s) fun x s=>KR.bind (zb hF e ρ s) fun y s=>by
  intro a s' h
  repeat' split at h
  all_goals first|(cases h;exact KP.refl _;done)|(cases h;done)
 | .ex e,ρ,s=>KR.bind (zb hF e ρ s) fun d s=>KR.ok
 | .ret e,ρ,s=>KR.bind (zb hF e ρ s) fun d s=>KR.ok
 | .retN,ρ,s=>KR.ok
 | .ite c a b,ρ,s=>KR.tru (zb hF c ρ s) fun k s=>KR.if (am2 a ρ s) (am2 b ρ s)
 | .whl c b,ρ,s=>by
  intro r s' h
  change whl (ev F c) (exs F b) ρ s=_ at h
  unfold whl at h
  split at h
  ·exact aC9 hF (fun ρ s=>zb hF c ρ s) (fun ρ s=>am2 b ρ s) _ ρ s _ _ h
  ·cases h
 | .for_ tg it b,ρ,s=>KR.bind (aN0 hF it ρ s) fun q s0=>aB5 hF (fun d ρ s=>by
   intro a s' h
   split at h
   ·exact am2 b _ _ _ _ h
   ·cases h) _ _ _
 | .pass,ρ,s=>KR.ok
 | .cont,ρ,s=>KR.ok
 | .brk,ρ,s=>KR.ok
 | .raise,ρ,s=>KR.bad
 | .und i,ρ,s=>by
  intro a s' h
  change(match ap2 ρ i with|some ρ=>R.ok (Ct.next ρ) s|none=>.bad)=_ at h
  split at h<;>cases h;exact KP.refl _
theorem am2:∀(h:Ss) (ρ:Env) (s:Sto),KR s (exs F h ρ s)
 | .nil,ρ,s=>KR.ok
 | .cons st h,ρ,s=>KR.bind (by8 st ρ s) fun c s=>by
  cases c with
  | next ρ=>exact am2 h ρ s
  | _=>exact KR.ok
end
end
theorem z6 {s st:Sto}{d:D}(h:KP s st):KR s (zu s d st):=by
 have tk:∀ t,KP s (st.take s.length++t):=fun t i o e=>by
  obtain⟨G,e',k⟩:=h i o e
  have F:=(af.mp e).1
  have J:=(af.mp e').1
  refine⟨G,?_,k⟩
  rw[aJ (by rw[bK];omega),gv,if_pos F];exact e'
 have z:KP s (st.take s.length):=by have:=tk [];rwa [bf]at this
 intro a s' e
 unfold zu at e
 repeat' split at e
 all_goals first|(cases e;exact z;done)|(cases e;exact tk _;done)|(cases e;exact h;done)|(cases e;done)
theorem aT0 {F:Fns}(z:FK F):∀(b:XB) (ρ:Env) (s:Sto) (c:String) (s':Sto),xB F b ρ s=some (c,s')->KP s s'
 | .no,ρ,s,c,s',h=>by cases h
 | .rais d,ρ,s,c,s',h=>by
  change(if F.xc d=true then some (d,s)else none)=_ at h
  split at h
  ·cases h;exact KP.refl _
  ·cases h
 | .call f as,ρ,s,c,s',h=>by
  change(match aq3 F as ρ s with|.ok l s1=>F.xcall f l s1|_=>none)=_ at h
  split at h
  ·rename_i l s1 e;exact(am0 z as ρ s _ _ e).trans (z.xcall _ _ _ _ _ h)
  ·cases h
 | .iteT d a r,ρ,s,c,s',h=>by
  change(match ev F d ρ s with|.ok (.bl b) s1=>if b then xB F a ρ s1 else xB F r ρ s1|_=>none)=_ at h
  split at h
  ·rename_i b s1 e
   have k:=zb z d ρ s _ _ e
   split at h
   ·exact k.trans (aT0 z a _ _ _ _ h)
   ·exact k.trans (aT0 z r _ _ _ _ h)
  ·cases h
 | .seq st b,ρ,s,c,s',h=>by
  change(match ex F st ρ s with|.ok (.next ρ1) s1=>xB F b ρ1 s1|_=>none)=_ at h
  split at h
  ·rename_i ρ1 s1 e;exact(by8 z st ρ s _ _ e).trans (aT0 z b _ _ _ _ h)
  ·cases h
theorem bp6 {F:Fns}(z:FK F)(d:Tf)(l:List D)(s:Sto):KR s (bN7 F d l s):=by
 intro a s' h
 unfold bN7 at h
 split at h
 ·rename_i c s1 e
  have k:=aT0 z _ _ _ _ _ e
  split at h
  ·exact z6 k _ _ h
  ·cases h
 ·obtain⟨c,s1,e1,h⟩:=R.bind_inv h
  have k1:=am2 z _ _ _ _ _ e1
  cases c with
  | ret v=>exact z6 k1 _ _ h
  | next ρ =>
   obtain⟨c,s2,e2,h⟩:=R.bind_inv h
   have k2:=k1.trans (am2 z _ _ _ _ _ e2)
   cases c with
   | ret v=>exact z6 k2 _ _ h
   | next ρ=>exact z6 k2 _ _ h
   | _=>cases h
  | _=>cases h
theorem ak0 (P:Pr):∀ n,FK (aa1 P n)
 | 0=>⟨fun _ _ _=>KR.bad,fun _ _ _ _=>KR.bad,fun _ _ _ _ _ h=>by cases h⟩
 | n+1=>by
  refine⟨fun f l s=>?_,fun id cs l s=>?_,fun f l s c s' h=>?_⟩
  ·intro a s' h
   unfold aa1 at h
   simp only at h
   split at h
   case h_2 =>
    split at h
    case h_2=>cases h
    split at h
    case isFalse=>cases h
    exact bp6 (ak0 P n) _ _ _ _ _ h
   split at h
   case isFalse=>cases h
   obtain⟨c,s1,e1,h⟩:=R.bind_inv h
   have k1:=am2 (ak0 P n) _ _ _ _ _ e1
   cases c with
   | ret v=>exact z6 k1 _ _ h
   | next ρ=>exact z6 k1 _ _ h
   | _=>cases h
  ·intro a s' h
   unfold aa1 at h
   simp only at h
   split at h
   case h_2=>cases h
   split at h
   case isFalse=>cases h
   obtain⟨v,s1,e1,h⟩:=R.bind_inv h
   exact z6 (zb (ak0 P n) _ _ _ _ _ e1) _ _ h
  ·unfold aa1 at h
   simp only at h
   split at h
   case h_2=>cases h
   split at h
   case isFalse=>cases h
   exact aT0 (ak0 P n) _ _ _ _ _ h
end DV
end
open DV renaming Sto->i8,D->i9,Env->jb,R->jc,ev->jd,LIM->jg,eqv->jh,aa1->ji,tru->jk,DEEP->jl,az3->jm,Fns->jn,Pr->jp,eqL->jq,rep->jr,kd->js,Es->ju,ai2->jw,aj0->jx,ar0->jy,O->jz,evs->jA,look->jB,Bi->jC,Tg->jD,Ct->jE,aM8->jF,sbd->jG,chk->jH,loB->jI,ai9->jJ,inL->jK,ixn->jL,aj3->jN,zX->jO,aw7->jP,M->jQ,am5->jR,ar4->jS,aC8->jT,aj6->jU,E->jV,mk->jW,al1->jX,Sq->jY,Lm->jZ,Df->j0,hiB->j1,slM->j2,aq1->j3,aq3->j4,meth->j5,Mk->j6,Mt->j7,As->j8,aD0->j9,COp->ka,pur->ke,inM->kg,bi1->kh,aw5->ki,bi->kj,BOp->km,isK->kn,W62->kq,bD5->kr,evI->kt,ao8->ku
open DV.D renaming bndL->ja,bnd->je,hdI->jj,keyS->jv,nclL->jM,ncl->ko
open DV.O renaming bnd->jf
noncomputable section
namespace L2
theorem fb {α:Type}{d:α}{s:i8}{p:Prop}(h:(DV.R.bad:jc α)=.ok d s):p:=nomatch h
open PySem PySem.Spec PyProof.Rows
structure LamI where
 qual:Str
 params:bP
 body:Expr
 scope:Scope
 ps:List Str
 fr:List Str
 nm:Option (Str×Pos)
def CloAt (H:Hp)(f:Addr)(J:LamI)(cap:List V)(clos:List (Str×Addr)):Prop:=match J.nm with
 | none=>aC1 H f J.qual J.params J.body J.scope J.fr cap clos
 | some p=>aq7 H f p.1 J.qual J.params [.Return (some J.body) p.2] J.scope J.fr cap clos
def ax0 (H:Hp)(f:Addr)(J:LamI)(clos:List (Str×Addr)):Prop:=match J.nm with
 | none=>∃ pm c' ctv,H f=some (bu9 f (cH "<lambda>" J.qual J.params J.body J.scope clos pm (.ref c') ctv))/\H c'=some (ay7 c' J.qual)
 | some p=>∃ doc pm c' ctv,H f=some (bu9 f (d6 p.1 J.qual J.params [.Return (some J.body) p.2] J.scope clos .none .none doc pm none (.ref c') ctv))/\H c'=some (ay7 c' J.qual)
structure Gm where
 K:ac
 fa:String->Option Addr
 lg:String->LamI->Prop
 T:List (Addr×Str)
variable (Γ:Gm)
mutual
noncomputable def RV (φ:Nat->Addr)(H:Hp):i9->V->Prop
 | .non,v=>v=.non
 | .bl b,v=>v=.bl b
 | .int i,v=>v=.int i
 | .str x,v=>v=.str ⟨x.toArray⟩/\x.length<=jg
 | .tup l,v=>∃ a xs,v=.ref a/\(SqT Γ.K H a xs/\(jj l=true->H a=some (.tup xs)))/\RVL φ H l xs
 | .ref n,v=>v=.ref (φ n)
 | .fn f,v=>∃ a,Γ.fa f=some a/\v=.ref a
 | .clo id cs,v=>∃ f cap J clos,v=.ref f/\Γ.lg id J/\CloAt H f J cap clos/\cap.length=J.fr.length/\RVL φ H cs cap
noncomputable def RVL (φ:Nat->Addr)(H:Hp):List i9->List V->Prop
 | [],xs=>xs=[]
 | d::l,xs=>∃ x r,xs=x::r/\RV φ H d x/\RVL φ H l r
end
noncomputable def bJ6:HO->Bool
 | .tup _=>true
 | .frz _ _=>true
 | .ext _=>true
 | _=>false
def Kp (H H':Hp):Prop:=∀ b o,H b=some o->bJ6 o=true->H' b=some o
theorem Kp.refl (H:Hp):Kp H H:=fun _ _ h _=>h
theorem Kp.trans {H F z:Hp}(a:Kp H F)(b:Kp F z):Kp H z:=fun c o h f=>b c o (a c o h f) f
theorem Kp.new {H z:Hp}{p:Addr}{o:HO}(a:Kp H z)(h:z p=none):Kp H (upd z p o):=fun c u e f=>by
 have e1:=a c u e f
 rw[zl (zr e1 h)];exact e1
theorem Kp.put {H F:Hp}{p:Addr}{o u:HO}(a:Kp H F)(h:F p=some u)(G:bJ6 u=false):Kp H (upd F p o):=fun c v e f=>by
 have e1:=a c v e f
 rw[zl (fun z=>by subst z;rw[h]at e1;cases e1;rw[G]at f;cases f)];exact e1
theorem Kp.sqT {K:ac}{H H':Hp}{a:Addr}{z:List V}(e:Kp H H')(h:SqT K H a z):SqT K H' a z:=by
 rcases h with(h|⟨o,h⟩)|h
 ·exact .inl (.inl (e _ _ h rfl))
 ·exact .inl (.inr ⟨o,e _ _ h rfl⟩)
 ·exact .inr h
theorem aC1.kp {H H':Hp}{f:Addr}{qual:Str}{params:bP}{body:Expr}{scope:Scope}{fr:List Str}{cap:List V}{F:List (Str×Addr)}(h:aC1 H f qual params body scope fr cap F)(e:Kp H H'):aC1 H' f qual params body scope fr cap F:=by
 obtain⟨pm,Y,G,h1,h2,h3,J,h5,Z⟩:=h
 refine⟨pm,Y,G,e _ _ h1 rfl,e _ _ h2 rfl,fun x c q=>?_,J,h5,fun i x v a b=>?_⟩
 ·obtain⟨o,v,z,d⟩:=h3 x c q
  exact⟨o,v,e _ _ z rfl,d⟩
 ·obtain⟨c,o,u,z1,z2,N⟩:=Z i x v a b
  exact⟨c,o,u,z1,e _ _ z2 rfl,N⟩
theorem aq7.kp {H H':Hp}{f:Addr}{name qual:Str}{params:bP}{body:List Stmt}{scope:Scope}{fr:List Str}{cap:List V}{F:List (Str×Addr)}(h:aq7 H f name qual params body scope fr cap F)(e:Kp H H'):aq7 H' f name qual params body scope fr cap F:=by
 obtain⟨J,pm,Z,G,h1,h2,h3,N,h5,h6⟩:=h
 refine⟨J,pm,Z,G,e _ _ h1 rfl,e _ _ h2 rfl,fun x c q=>?_,N,h5,fun i x v a b=>?_⟩
 ·obtain⟨o,v,z,d⟩:=h3 x c q
  exact⟨o,v,e _ _ z rfl,d⟩
 ·obtain⟨c,o,u,z1,z2,Y⟩:=h6 i x v a b
  exact⟨c,o,u,z1,e _ _ z2 rfl,Y⟩
theorem CloAt.kp {H H':Hp}{f:Addr}{J:LamI}{cap:List V}{z:List (Str×Addr)}(h:CloAt H f J cap z)(e:Kp H H'):CloAt H' f J cap z:=by
 unfold CloAt at h ⊢
 cases q:J.nm with
 | none=>rw[q]at h;exact aC1.kp h e
 | some p=>rw[q]at h;exact aq7.kp h e
theorem ax0.kp {H H':Hp}{f:Addr}{J:LamI}{z:List (Str×Addr)}(h:ax0 H f J z)(e:Kp H H'):ax0 H' f J z:=by
 unfold ax0 at h ⊢
 cases q:J.nm with
 | none =>
  rw[q]at h
  obtain⟨G,Z,F,Y,h2⟩:=h
  exact⟨G,Z,F,e _ _ Y rfl,e _ _ h2 rfl⟩
 | some p =>
  rw[q]at h
  obtain⟨N,G,Z,F,Y,h2⟩:=h
  exact⟨N,G,Z,F,e _ _ Y rfl,e _ _ h2 rfl⟩
theorem CloAt.fn {K:ac}{H:Hp}{f:Addr}{J:LamI}{cap:List V}{z:List (Str×Addr)}(h:CloAt H f J cap z):bK1 K H f:=by
 unfold CloAt at h
 cases q:J.nm with
 | none=>rw[q]at h;obtain⟨N,Y,F,G,_⟩:=h;exact .inl ⟨_,G⟩
 | some p=>rw[q]at h;exact aq7.fn h
structure Gw (φ:Nat->Addr)(n:Nat)(H:Hp)(φ':Nat->Addr)(H':Hp):Prop where
 map:∀ i,i<n->φ' i=φ i
 kp:Kp H H'
variable {Γ:Gm}
mutual
theorem RV.monoW {φ φ':Nat->Addr}{n:Nat}{H H':Hp}(g:Gw φ n H φ' H'):∀(d:i9) (v:V),d.bnd n=true->RV Γ φ H d v->RV Γ φ' H' d v
 | .non,_,_,h=>by unfold RV at h ⊢;exact h
 | .bl _,_,_,h=>by unfold RV at h ⊢;exact h
 | .int _,_,_,h=>by unfold RV at h ⊢;exact h
 | .str _,_,_,h=>by unfold RV at h ⊢;exact h
 | .tup l,_,b,h=>by
  unfold RV at h ⊢
  unfold je at b
  obtain⟨a,G,e,q,r⟩:=h
  exact⟨a,G,e,⟨g.kp.sqT q.1,fun z=>g.kp _ _ (q.2 z) rfl⟩,RVL.monoW g l G b r⟩
 | .ref k,_,b,h=>by
  unfold RV at h ⊢
  unfold je at b
  rw[g.map k (of_decide_eq_true b)];exact h
 | .fn _,_,_,h=>by unfold RV at h ⊢;exact h
 | .clo id cs,_,b,h=>by
  unfold RV at h ⊢
  unfold je at b
  obtain⟨f,cap,J,F,e,Z,h2,Y,N⟩:=h
  exact⟨f,cap,J,F,e,Z,h2.kp g.kp,Y,RVL.monoW g cs cap b N⟩
theorem RVL.monoW {φ φ':Nat->Addr}{n:Nat}{H H':Hp}(g:Gw φ n H φ' H'):∀(l:List i9) (z:List V),ja n l=true->RVL Γ φ H l z->RVL Γ φ' H' l z
 | [],_,_,h=>by unfold RVL at h ⊢;exact h
 | d::l,_,b,h=>by
  unfold RVL at h ⊢
  unfold ja at b
  rw[ag]at b
  obtain⟨x,r,e,q,t⟩:=h
  exact⟨x,r,e,RV.monoW g d x b.1 q,RVL.monoW g l r b.2 t⟩
end
mutual
theorem zg {n m:Nat}(h:n<=m):∀ d:i9,d.bnd n=true->d.bnd m=true
 | .non,_=>rfl
 | .bl _,_=>rfl
 | .int _,_=>rfl
 | .str _,_=>rfl
 | .tup l,b=>by unfold je at b ⊢;exact ad6 h l b
 | .ref k,b=>by unfold je at b ⊢;exact decide_eq_true (ax (of_decide_eq_true b) h)
 | .fn _,_=>rfl
 | .clo _ l,b=>by unfold je at b ⊢;exact ad6 h l b
theorem ad6 {n m:Nat}(h:n<=m):∀ l:List i9,ja n l=true->ja m l=true
 | [],_=>rfl
 | d::l,b=>by
  unfold ja at b ⊢
  rw[ag]at b ⊢
  exact⟨zg h d b.1,ad6 h l b.2⟩
end
theorem ad3 {n:Nat}:∀ {l:List i9},ja n l=true↔∀ d∈l,d.bnd n=true
 | []=>by unfold ja;simp
 | d::l=>by
  unfold ja
  rw[ag,ad3 (l:=l)]
  simp
theorem zD {n:Nat}{l m:List i9}(h:ja n l=true)(h':ja n m=true):ja n (l++m)=true :=
 ad3.mpr fun d hd=>(bE.mp hd).elim (ad3.mp h d) (ad3.mp h' d)
theorem av0 {n:Nat}{l m:List i9}(h:ja n l=true)(s:∀ d∈m,d∈l):ja n m=true:=ad3.mpr fun d hd=>ad3.mp h d (s d hd)
theorem al0 {n:Nat}{l:List i9}{i:Nat}{d:i9}(h:ja n l=true)(e:l[i]?=some d):d.bnd n=true:=ad3.mp h d (bv e)
section
variable {φ:Nat->Addr} {H:Hp}
theorem RVL.nil:RVL Γ φ H [] []:=by unfold RVL;rfl
theorem RVL.cons {d:i9}{l:List i9}{x:V}{h:List V}(a:RV Γ φ H d x)(b:RVL Γ φ H l h):RVL Γ φ H (d::l) (x::h):=by unfold RVL;exact⟨x,h,rfl,a,b⟩
theorem RVL.unnil {z:List V}(h:RVL Γ φ H [] z):z=[]:=by unfold RVL at h;exact h
theorem RVL.uncons {d:i9}{l:List i9}{z:List V}(h:RVL Γ φ H (d::l) z):∃ x r,z=x::r/\RV Γ φ H d x/\RVL Γ φ H l r:=by unfold RVL at h;exact h
theorem RVL.length:∀ {l:List i9} {z:List V},RVL Γ φ H l z->z.length=l.length
 | [],_,h=>by rw[h.unnil];rfl
 | d::l,_,h=>by
  obtain⟨x,r,rfl,_,t⟩:=h.uncons
  rw[aV,aV,RVL.length t]
theorem RVL.get:∀ {l:List i9} {z:List V} {i:Nat} {d:i9},RVL Γ φ H l z->l[i]?=some d->∃ x,z[i]?=some x/\RV Γ φ H d x
 | [],_,_,_,_,e=>by simp at e
 | d::l,_,0,d',h,e=>by
  obtain⟨x,r,rfl,q,t⟩:=h.uncons
  have e':d=d':=by simpa using e
  subst e'
  exact⟨x,rfl,q⟩
 | d::l,_,i+1,_,h,e=>by
  obtain⟨x,r,rfl,q,t⟩:=h.uncons
  obtain⟨y,e1,e2⟩:=RVL.get (i:=i) t (by simpa using e)
  exact⟨y,by simpa using e1,e2⟩
theorem RVL.append:∀ {l m:List i9} {z ys:List V},RVL Γ φ H l z->RVL Γ φ H m ys->RVL Γ φ H (l++m) (z++ys)
 | [],_,_,_,h,h'=>by rw[h.unnil];exact h'
 | d::l,_,_,_,h,h'=>by
  obtain⟨x,r,rfl,q,t⟩:=h.uncons
  exact .cons q (RVL.append t h')
theorem RVL.drop:∀ {l:List i9} {z:List V} (n:Nat),RVL Γ φ H l z->RVL Γ φ H (l.drop n) (z.drop n)
 | _,_,0,h=>h
 | [],_,n+1,h=>by rw[h.unnil];exact .nil
 | d::l,_,n+1,h=>by
  obtain⟨x,r,rfl,q,t⟩:=h.uncons
  exact RVL.drop n t
theorem RVL.take:∀ {l:List i9} {z:List V} (n:Nat),RVL Γ φ H l z->RVL Γ φ H (l.take n) (z.take n)
 | _,_,0,h=>.nil
 | [],_,n+1,h=>by rw[h.unnil];exact .nil
 | d::l,_,n+1,h=>by
  obtain⟨x,r,rfl,q,t⟩:=h.uncons
  exact .cons q (RVL.take n t)
theorem RVL.set:∀ {l:List i9} {z:List V} {d:i9} {x:V} (i:Nat),RVL Γ φ H l z->RV Γ φ H d x->RVL Γ φ H (l.set i d) (z.set i x)
 | [],_,_,_,_,h,_=>by rw[h.unnil];exact .nil
 | d::l,_,_,_,0,h,q=>by
  obtain⟨x,r,rfl,_,t⟩:=h.uncons
  exact .cons q t
 | d::l,_,_,_,i+1,h,q=>by
  obtain⟨x,r,rfl,F,t⟩:=h.uncons
  exact .cons F (RVL.set i t q)
theorem RVL.reverse:∀ {l:List i9} {z:List V},RVL Γ φ H l z->RVL Γ φ H l.reverse z.reverse
 | [],_,h=>by rw[h.unnil];exact .nil
 | d::l,_,h=>by
  obtain⟨x,r,rfl,q,t⟩:=h.uncons
  rw[c8,c8]
  exact(RVL.reverse t).append (.cons q .nil)
theorem RV.intE {i:Int}{v:V}(h:RV Γ φ H (.int i) v):v=.int i:=by unfold RV at h;exact h
theorem RV.blE {i:Bool}{v:V}(h:RV Γ φ H (.bl i) v):v=.bl i:=by unfold RV at h;exact h
theorem RV.nonE {v:V}(h:RV Γ φ H .non v):v=.non:=by unfold RV at h;exact h
theorem RV.strE {x:List Nat}{v:V}(h:RV Γ φ H (.str x) v):v=.str ⟨x.toArray⟩:=by unfold RV at h;exact h.1
theorem RV.strL {x:List Nat}{v:V}(h:RV Γ φ H (.str x) v):x.length<=jg:=by unfold RV at h;exact h.2
theorem RV.tupE {l:List i9}{v:V}(h:RV Γ φ H (.tup l) v):∃ a z,v=.ref a/\SqT Γ.K H a z/\RVL Γ φ H l z:=by unfold RV at h;obtain⟨a,z,e,q,r⟩:=h;exact⟨a,z,e,q.1,r⟩
theorem RV.tupZ {l:List i9}{v:V}(h:RV Γ φ H (.tup l) v):∃ a z,(v=.ref a/\(jj l=true->H a=some (.tup z)))/\SqT Γ.K H a z/\RVL Γ φ H l z:=by unfold RV at h;obtain⟨a,z,e,q,r⟩:=h;exact⟨a,z,⟨e,q.2⟩,q.1,r⟩
theorem RVL.tonil {l:List i9}(h:RVL Γ φ H l []):l=[]:=ci.mp h.length.symm
theorem RV.tupK {l:List i9}{v:V}(h:RV Γ φ H (.tup l) v)(z:jj l=true):∃ a F,v=.ref a/\H a=some (.tup F)/\RVL Γ φ H l F:=by unfold RV at h;obtain⟨a,F,e,q,r⟩:=h;exact⟨a,F,e,q.2 z,r⟩
theorem RV.refE {n:Nat}{v:V}(h:RV Γ φ H (.ref n) v):v=.ref (φ n):=by unfold RV at h;exact h
theorem RV.intI {i:Int}:RV Γ φ H (.int i) (.int i):=by unfold RV;rfl
theorem RV.blI {i:Bool}:RV Γ φ H (.bl i) (.bl i):=by unfold RV;rfl
theorem RV.nonI:RV Γ φ H .non .non:=by unfold RV;rfl
theorem RV.strI {x:List Nat}(h:x.length<=jg):RV Γ φ H (.str x) (.str ⟨x.toArray⟩):=by unfold RV;exact⟨rfl,h⟩
theorem RV.tupI {l:List i9}{a:Addr}{z:List V}(h:H a=some (.tup z))(q:RVL Γ φ H l z):RV Γ φ H (.tup l) (.ref a):=by unfold RV;exact⟨a,z,rfl,⟨SqT.of h,fun _=>h⟩,q⟩
theorem RV.tupC {l:List i9}{a:Addr}{F:List V}(h:SqT Γ.K H a F)(z:jj l=true->H a=some (.tup F))(q:RVL Γ φ H l F):RV Γ φ H (.tup l) (.ref a):=by unfold RV;exact⟨a,F,rfl,⟨h,z⟩,q⟩
theorem RV.refI {n:Nat}:RV Γ φ H (.ref n) (.ref (φ n)):=by unfold RV;rfl
end
theorem br7 {n:Nat}{l:List i9}(h:jj (jF n l)=true):jj l=true:=by
 cases n with
 | zero=>cases h
 | succ n =>
  cases l with
  | nil => 
   have:∀ k,jF k ([]:List i9)=[]:=fun k=>by
    induction k with
    | zero=>rfl
    | succ k ih=>show[]++jF k []=[];rw[ih];rfl
   rw[this]at h;cases h
  | cons a l =>
   have e:jF (n+1) (a::l)=a::(l++jF n (a::l)):=rfl
   rw[e]at h
   cases a with
   | int _=>rfl
   | _=>cases h
theorem aP8 {α:Type}{l:List α}{F G:Option Int}(h:(jy l F G).length=l.length):jy l F G=l:=by
 unfold jy at h ⊢
 rw[bK,cJ]at h
 by_cases z:l=[]
 ·subst z;simp
 ·have J:=fV.mpr z
  have e1:jI l.length F=0:=by omega
  rw[e1]at h ⊢
  rw[fK]
  exact db (by omega)
def SqF (K:ac)(H:Hp)(a:Addr)(xs:List V):Prop:=SqL K H a xs/\∀ H',Kp H H'->SqL K H' a xs
noncomputable def aC5:i9->Option Key
 | .int i=>some (.inl i)
 | .str x=>some (.inr ⟨x.toArray⟩)
 | _=>none
noncomputable def zT:List i9->Option (List Key)
 | []=>some []
 | d::l=>match aC5 d,zT l with
  | some k,some r=>some (k::r)
  | _,_=>none
noncomputable def bH7:i9->Option (List Key)
 | .tup l=>if(jj l&&(l.all jv&&decide (l.length<=1000)))=true then zT l else none
 | _=>none
noncomputable def RVD {κ:Type}(kf:i9->Option κ)(Γ:Gm)(φ:Nat->Addr)(H:Hp):List (i9×i9)->List (κ×V)->Prop
 | [],kvs=>kvs=[]
 | (d,e)::l,kvs=>∃ k v r,kvs=(k,v)::r/\kf d=some k/\RV Γ φ H e v/\RVD kf Γ φ H l r
variable (Γ)
noncomputable def RO (φ:Nat->Addr)(H:Hp)(a:Addr):jz->Prop
 | .lst l=>∃ xs,H a=some (.lst xs)/\RVL Γ φ H l xs
 | .ro l=>∃ xs,SqF Γ.K H a xs/\RVL Γ φ H l xs
 | .dic l=>∃ kvs,H a=some (.dK kvs)/\RVD aC5 Γ φ H l kvs
 | .dit l=>∃ kvs,H a=some (.dT kvs)/\RVD bH7 Γ φ H l kvs
 | .ins _ _=>False
noncomputable abbrev okd:jz->Nat:=DV.O.kd
noncomputable def isMut:jz->Bool
 | .ro _=>false
 | _=>true
structure Rp (φ:Nat->Addr)(H:Hp)(s:i8):Prop where
 inj:∀(i j:Nat) (o o':jz),s[i]?=some o->s[j]?=some o'->isMut o=true->isMut o'=true->φ i=φ j->i=j
 obj:∀(i:Nat) (o:jz),s[i]?=some o->RO Γ φ H (φ i) o
 wf:∀(i:Nat) (o:jz),s[i]?=some o->o.bnd s.length=true
 tab:TabsH Γ.T H
structure RE (φ:Nat->Addr)(H:Hp)(n:Nat)(ρ:jb)(σ:St):Prop where
 len:ρ.length=σ.length
 val:∀(i:Nat) (d:i9),ρ[i]?=some (some d)->d.bnd n=true/\∃ v,σ[i]?=some (some v)/\RV Γ φ H d v
structure Gr (φ:Nat->Addr)(s:i8)(H:Hp)(φ':Nat->Addr)(s':i8)(H':Hp):Prop where
 w:Gw φ s.length H φ' H'
 le:s.length<=s'.length
 new:∀ i:Nat,s.length<=i->i<s'.length->H (φ' i)=none
 kd:∀(i:Nat) (o o':jz),s[i]?=some o->s'[i]?=some o'->okd o'=okd o
 st:∀ b,H b≠none->H' b≠none
 fr:∀ b o,H b=some o->(∀ ps,o≠.tbl ps)->(∀(i:Nat) (ob:jz),s[i]?=some ob->isMut ob=true->φ i≠b)->H' b=some o
variable {Γ}
theorem bm4 {o z:jz}(h:okd z=okd o)(m:isMut z=true):isMut o=true:=by
 cases o with
 | ro _=>cases z with
  | ro _=>cases m
  | _=>cases h
 | _=>rfl
theorem Gr.mu {φ φ':Nat->Addr}{s s':i8}{H H':Hp}(g:Gr φ s H φ' s' H')(i:Nat)(o h:jz)(e:s[i]?=some o)(e':s'[i]?=some h)(m:isMut h=true):isMut o=true:=bm4 (g.kd i o h e e') m
theorem Gr.refl (φ:Nat->Addr)(s:i8)(H:Hp):Gr φ s H φ s H:=⟨⟨fun _ _=>rfl,Kp.refl H⟩,ai _,fun i G z=>absurd z (by omega),fun i o F e e'=>by rw[e]at e';cases e';rfl,fun _ h=>h,fun _ _ h _ _=>h⟩
theorem Gr.trans {φ φ1 φ2:Nat->Addr}{s s1 s2:i8}{H Z H2:Hp}(a:Gr φ s H φ1 s1 Z)(b:Gr φ1 s1 Z φ2 s2 H2)(_h:s.length<=s1.length):Gr φ s H φ2 s2 H2:=by
 refine⟨⟨fun i F=>(b.w.map i (ax F a.le)).trans (a.w.map i F),a.w.kp.trans b.w.kp⟩,aj a.le b.le,fun i h1 h2=>?_,fun i o o' e e'=>?_,fun c h=>b.st c (a.st c h),fun c o h N ne=>?_⟩
 ·by_cases F:i<s1.length
  ·rw[b.w.map i F];exact a.new i h1 F
  ·have e:=b.new i (by omega) h2
   cases q:H (φ2 i)with
   | none=>rfl
   | some o=>exact absurd e (a.st _ (by rw[q];simp))
 ·have hl:i<s1.length:=ax (af.mp e).1 a.le
  obtain⟨G,e1⟩:∃ G,s1[i]?=some G:=⟨s1[i],am hl⟩
  exact(b.kd i G o' e1 e').trans (a.kd i o G e e1)
 ·refine b.fr c o (a.fr c o h N ne) N fun i ob e m z=>?_
  by_cases F:i<s.length
  ·obtain⟨J,Y⟩:∃ J,s[i]?=some J:=⟨s[i],am F⟩
   exact ne i J Y (a.mu i J ob Y e m) (by rw[<-a.w.map i F];exact z)
  ·have:=a.new i (by omega) (af.mp e).1
   rw[z,h]at this;cases this
theorem RV.mono {φ φ':Nat->Addr}{s s':i8}{H H':Hp}(g:Gr φ s H φ' s' H')(d:i9)(v:V)(b:d.bnd s.length=true)(h:RV Γ φ H d v):RV Γ φ' H' d v:=RV.monoW g.w d v b h
theorem RVL.mono {φ φ':Nat->Addr}{s s':i8}{H H':Hp}(g:Gr φ s H φ' s' H')(d:List i9)(v:List V)(b:ja s.length d=true)(h:RVL Γ φ H d v):RVL Γ φ' H' d v:=RVL.monoW g.w d v b h
theorem RE.mono {φ φ':Nat->Addr}{s s':i8}{H H':Hp}{ρ:jb}{σ:St}(h:RE Γ φ H s.length ρ σ)(g:Gr φ s H φ' s' H')(hn:s.length<=s'.length):RE Γ φ' H' s'.length ρ σ :=
 ⟨h.len,fun i d e=>by
  obtain⟨b,v,e1,e2⟩:=h.val i d e
  exact⟨zg hn d b,v,e1,RV.mono g d v b e2⟩⟩
def aj4 (Γ:Gm)(φ:Nat->Addr)(s:i8)(H:Hp)(d:i9)(s':i8)(Q:VK):Prop :=
 ∀ v φ' H',Gr φ s H φ' s' H'->s.length<=s'.length->d.bnd s'.length=true->RV Γ φ' H' d v->Rp Γ φ' H' s'->Q v H'
theorem aj4.trans {φ φ1:Nat->Addr}{s s1 s':i8}{H z:Hp}{d:i9}{Q:VK}(h:aj4 Γ φ s H d s' Q)(g:Gr φ s H φ1 s1 z)(l:s.length<=s1.length):aj4 Γ φ1 s1 z d s' Q :=
 fun v φ' H' g' F b r p=>h v φ' H' (g.trans g' l) (aj l F) b r p
theorem aj4.here {φ:Nat->Addr}{s:i8}{H:Hp}{d:i9}{Q:VK}{v:V}(h:aj4 Γ φ s H d s Q)(p:Rp Γ φ H s)(b:d.bnd s.length=true)(r:RV Γ φ H d v):Q v H :=
 h v φ H (Gr.refl φ s H) (ai _) b r p
theorem RVD.monoW {κ:Type}{z:i9->Option κ}{φ φ':Nat->Addr}{n:Nat}{H H':Hp}(g:Gw φ n H φ' H'):∀(l:List (i9×i9)) (kvs:List (κ×V)),ja n (l.map (·.2))=true->RVD z Γ φ H l kvs->RVD z Γ φ' H' l kvs
 | [],_,_,h=>h
 | (d,e)::l,_,b,h=>by
  obtain⟨k,v,r,e1,e2,F,G⟩:=h
  rw[aY]at b
  unfold ja at b
  rw[ag]at b
  exact⟨k,v,r,e1,e2,RV.monoW g e v b.1 F,RVD.monoW g l r b.2 G⟩
theorem RO.mono {φ φ':Nat->Addr}{n:Nat}{H H':Hp}{a:Addr}{o:jz}(h:RO Γ φ H a o)(g:Gw φ n H φ' H')(b:o.bnd n=true)(hl:isMut o=true->∀ u,H a=some u->H' a=some u):RO Γ φ' H' a o:=by
 cases o with
 | lst l =>
  unfold jf at b
  obtain⟨z,e,r⟩:=h
  exact⟨z,hl rfl _ e,RVL.monoW g l z b r⟩
 | ro l =>
  unfold jf at b
  obtain⟨z,e,r⟩:=h
  exact⟨z,⟨e.2 _ g.kp,fun F k=>e.2 _ (g.kp.trans k)⟩,RVL.monoW g l z b r⟩
 | dic l =>
  unfold jf at b
  rw[ag]at b
  obtain⟨kvs,e,r⟩:=h
  exact⟨kvs,hl rfl _ e,RVD.monoW g l kvs b.2 r⟩
 | dit l =>
  unfold jf at b
  rw[ag]at b
  obtain⟨kvs,e,r⟩:=h
  exact⟨kvs,hl rfl _ e,RVD.monoW g l kvs b.2 r⟩
 | ins _ _=>exact h.elim
theorem RO.there {φ:Nat->Addr}{H:Hp}{a:Addr}{o:jz}(h:RO Γ φ H a o)(m:isMut o=true):∃ u,H a=some u/\bJ6 u=false/\∀ ps,u≠.tbl ps:=by
 cases o with
 | lst l=>obtain⟨z,e,_⟩:=h;exact⟨_,e,rfl,by nofun⟩
 | ro l=>cases m
 | dic l=>obtain⟨z,e,_⟩:=h;exact⟨_,e,rfl,by nofun⟩
 | dit l=>obtain⟨z,e,_⟩:=h;exact⟨_,e,rfl,by nofun⟩
 | ins _ _=>exact h.elim
theorem Rp.addr {φ:Nat->Addr}{H:Hp}{s:i8}(p:Rp Γ φ H s){i:Nat}{l:List i9}(e:s[i]?=some (.lst l)):∃ h,H (φ i)=some (.lst h)/\RVL Γ φ H l h:=p.obj i _ e
theorem zN {n m:Nat}(h:n<=m)(o:jz)(b:o.bnd n=true):o.bnd m=true:=by
 cases o with
 | lst l=>unfold jf at b ⊢;exact ad6 h l b
 | ro l=>unfold jf at b ⊢;exact ad6 h l b
 | dic l =>
  unfold jf at b ⊢
  rw[ag]at b ⊢
  exact⟨ad6 h _ b.1,ad6 h _ b.2⟩
 | dit l =>
  unfold jf at b ⊢
  rw[ag]at b ⊢
  exact⟨ad6 h _ b.1,ad6 h _ b.2⟩
 | ins c l=>unfold jf at b ⊢;exact ad6 h _ b
theorem TabsH.keepF {T:List (Addr×Str)}{H H':Hp}(h:TabsH T H)(k:∀ b o,(bJ6 o=true\/∃ ps,o=.tbl ps)->H b=some o->H' b=some o):TabsH T H':=fun y hy=>by
 obtain⟨ps,e,t,c⟩:=h y hy
 refine⟨ps,k _ _ (.inr ⟨_,rfl⟩) e,t,fun pos z q=>?_⟩
 obtain⟨F,e1,e2⟩:=c pos z q
 exact⟨F,e1,k _ _ (.inl rfl) e2⟩
theorem Rp.new {φ:Nat->Addr}{H:Hp}{s:i8}{p:Addr}{u:HO}{o:jz}(r:Rp Γ φ H s)(G:H p=none)(hb:o.bnd s.length=true)
  (ho:∀ φ' H',Gw φ s.length H φ' H'->H' p=some u->RO Γ φ' H' p o):Gr φ s H (fun i=>if i=s.length then p else φ i) (s++[o]) (upd H p u)/\Rp Γ (fun i=>if i=s.length then p else φ i) (upd H p u) (s++[o]):=by
 have g:Gw φ s.length H (fun i=>if i=s.length then p else φ i) (upd H p u):=⟨fun i z=>if_neg (ay z),(Kp.refl H).new G⟩
 have key:∀ i F,(s++[o])[i]?=some F->(i<s.length/\s[i]?=some F)\/(i=s.length/\F=o):=fun i F e=>by
  rcases d8 i s.length with h|h|h
  ·rw[aJ h]at e;exact .inl ⟨h,e⟩
  ·subst h;simp at e;exact .inr ⟨rfl,e.symm⟩
  ·rw[cB (by simp;omega)]at e;cases e
 refine⟨⟨g,by simp,fun i h1 h2=>?_,fun i o1 o2 e1 e2=>?_,fun b hb=>?_,fun b ob hb _ _=>by rw[zl (zr hb G)];exact hb⟩,fun i j Z Y N ej mi mj e=>?_,fun i F e=>?_,fun i F e=>?_,r.tab.new G⟩
 ·rw[aA,aX]at h2
  rw[if_pos (by omega)];exact G
 ·rcases key i o2 e2 with⟨_,e⟩|⟨z,_⟩
  ·rw[e1]at e;cases e;rfl
  ·have:=(af.mp e1).1;omega
 ·unfold upd;split
  ·simp
  ·exact hb
 ·rcases key i Z N with⟨z,N⟩|⟨z,rfl⟩<;>rcases key j Y ej with⟨hj,ej⟩|⟨hj,ej'⟩
  ·rw[if_neg (ay z),if_neg (ay hj)]at e
   exact r.inj i j Z Y N ej mi mj e
  ·rw[if_neg (ay z),if_pos hj]at e
   obtain⟨u,J,_,_⟩:=(r.obj i Z N).there mi
   rw[e,G]at J;cases J
  ·rw[if_neg (ay hj),if_pos z]at e
   obtain⟨u,J,_,_⟩:=(r.obj j Y ej).there mj
   rw[<-e,G]at J;cases J
  ·rw[z,hj]
 ·rcases key i F e with⟨z,e⟩|⟨z,rfl⟩
  ·show RO Γ _ _ (if i=s.length then p else φ i) F
   rw[if_neg (ay z)]
   exact(r.obj i F e).mono g (r.wf i F e) fun _ v hv=>by rw[zl (zr hv G)];exact hv
  ·show RO Γ _ _ (if i=s.length then p else φ i) F
   rw[if_pos z]
   exact ho _ _ g zt
 ·rw[aA,aX]
  rcases key i F e with⟨z,e⟩|⟨z,rfl⟩
  ·exact zN (dt _) _ (r.wf i F e)
  ·exact zN (dt _) _ hb
theorem Rp.set {φ:Nat->Addr}{H:Hp}{s:i8}{k:Nat}{u:HO}{o G:jz}(r:Rp Γ φ H s)(hk:s[k]?=some G)(Y:isMut G=true)(hb:o.bnd s.length=true)
  (ho:∀ H',Gw φ s.length H φ H'->H' (φ k)=some u->RO Γ φ H' (φ k) o) (a0:okd o=okd G:=by rfl):Gr φ s H φ (s.set k o) (upd H (φ k) u)/\Rp Γ φ (upd H (φ k) u) (s.set k o):=by
 obtain⟨v0,N,f0,a1⟩:=(r.obj k G hk).there Y
 have Z:k<s.length:=(af.mp hk).1
 have g:Gw φ s.length H φ (upd H (φ k) u):=⟨fun _ _=>rfl,(Kp.refl H).put N f0⟩
 have key:∀ i F,(s.set k o)[i]?=some F->(i≠k/\s[i]?=some F)\/(i=k/\F=o):=fun i F e=>by
  by_cases h:i=k
  ·subst h;rw[a8 Z]at e;exact .inr ⟨rfl,(av e).symm⟩
  ·rw[aL (cP h)]at e;exact .inl ⟨h,e⟩
 have mm:∀ i F,(s.set k o)[i]?=some F->isMut F=true->∃ J,s[i]?=some J/\isMut J=true:=fun i F e m=>by
  rcases key i F e with⟨_,e⟩|⟨h,_⟩
  ·exact⟨F,e,m⟩
  ·exact⟨G,by rw[h];exact hk,Y⟩
 refine⟨⟨g,by simp,fun i h1 h2=>by rw[bF]at h2;omega,fun i o1 o2 e1 e2=>?_,fun b hb=>?_,fun b ob hb nt ne=>by rw[zl (cP (ne k G hk Y))];exact hb⟩,fun i j oi oj ei ej mi mj e=>?_,fun i F e=>?_,fun i F e=>?_,r.tab.keepF fun b v hv q=>?_⟩
 ·rcases key i o2 e2 with⟨_,e⟩|⟨h,rfl⟩
  ·rw[e1]at e;cases e;rfl
  ·subst h;rw[hk]at e1;cases e1;exact a0
 ·unfold upd;split
  ·simp
  ·exact hb
 ·obtain⟨o1,e1,m1⟩:=mm i oi ei mi
  obtain⟨o2,e2,m2⟩:=mm j oj ej mj
  exact r.inj i j o1 o2 e1 e2 m1 m2 e
 ·rcases key i F e with⟨h,e⟩|⟨h,rfl⟩
  ·refine(r.obj i F e).mono g (r.wf i F e) fun m v hv=>?_
   rw[zl fun z=>h (r.inj i k F G e hk m Y z)];exact hv
  ·subst h
   exact ho _ g zt
 ·rw[bF]
  rcases key i F e with⟨_,e⟩|⟨_,rfl⟩
  ·exact r.wf i F e
  ·exact hb
 ·rw[zl fun z=>by
   subst z;rw[N]at q;cases q
   rcases hv with h|⟨ps,h⟩
   ·rw[f0]at h;cases h
   ·exact a1 _ h]
  exact q
theorem Rp.same {φ:Nat->Addr}{H H':Hp}{s:i8}(r:Rp Γ φ H s)(e:aj9 H H'):Gr φ s H φ s H'/\Rp Γ φ H' s:=by
 have g:Gw φ s.length H φ H':=⟨fun _ _=>rfl,fun b o h _=>e b o h⟩
 exact⟨⟨g,ai _,fun i G z=>absurd z (by omega),fun i o J e e'=>by rw[e]at e';cases e';rfl,fun b hb=>by
  cases q:H b with
  | none=>exact absurd q hb
  | some o=>rw[e b o q];simp,fun b o h _ _=>e b o h⟩,r.inj,fun i o h=>(r.obj i o h).mono g (r.wf i o h) fun _ u F=>e _ u F,r.wf,r.tab.same e⟩
section
variable {φ:Nat->Addr} {H:Hp} {s:i8} {Q:VK}
theorem aj4.alloc {l:List i9}{z:List V}(h:aj4 Γ φ s H (.ref s.length) (s++[.lst l]) Q)(r:Rp Γ φ H s)(hl:RVL Γ φ H l z)(hb:ja s.length l=true){p:Addr}(F:H p=none):Q (.ref p) (upd H p (.lst z)):=by
 obtain⟨g,G⟩:=r.new (o:=.lst l) (u:=.lst z) F hb fun φ' H' g e=>⟨z,e,RVL.monoW g l z hb hl⟩
 have:=h (.ref p) _ _ g (by simp) (by unfold je;simp) (by unfold RV;simp) G
 exact this
theorem aj4.tup {l:List i9}{z:List V}(h:aj4 Γ φ s H (.tup l) s Q)(r:Rp Γ φ H s)(hl:RVL Γ φ H l z)(hb:ja s.length l=true){p:Addr}(F:H p=none):Q (.ref p) (upd H p (.tup z)):=by
 obtain⟨g,G⟩:=r.same (H':=upd H p (.tup z)) ((aj9.refl H).new F)
 exact h _ _ _ g (ai _) (by unfold je;exact hb) (RV.tupI zt (RVL.mono g l z hb hl)) G
theorem aj4.put {k:Nat}{l l0:List i9}{z:List V}{d:i9}{v:V}(h:aj4 Γ φ s H d (s.set k (.lst l)) Q)(r:Rp Γ φ H s)(hk:s[k]?=some (.lst l0))(hl:RVL Γ φ H l z)(hb:ja s.length l=true)
  (hd:d.bnd s.length=true) (hv:RV Γ φ H d v):Q v (upd H (φ k) (.lst z)):=by
 obtain⟨g,F⟩:=r.set (o:=.lst l) (u:=.lst z) hk rfl hb fun H' g e=>⟨z,e,RVL.monoW g l z hb hl⟩
 exact h _ _ _ g (by simp) (by rw[bF];exact hd) (RV.mono g d v hd hv) F
end
variable {Γ:Gm}
theorem keyOf_inj {a b:i9}{k:Key}(ha:aC5 a=some k)(hb:aC5 b=some k):a=b:=by
 cases a with
 | int i =>
  cases ha
  cases b with
  | int j=>cases hb;rfl
  | str y=>cases hb
  | _=>cases hb
 | str x =>
  cases ha
  cases b with
  | int j=>cases hb
  | str y =>
   have h:=av hb
   injection h with h
   injection h with h
   have z:y=x:=by simpa using h
   rw[z]
  | _=>cases hb
 | _=>cases ha
theorem am8 {d:i9}(h:d.key=true):∃ k,aC5 d=some k:=by
 cases d with
 | int i=>exact⟨_,rfl⟩
 | str x=>exact⟨_,rfl⟩
 | _=>cases h
theorem ay8 {φ:Nat->Addr}{H:Hp}{d:i9}{k:Key}{v:V}(h:aC5 d=some k)(r:RV Γ φ H d v):v=kV k:=by
 cases d with
 | int i=>cases h;exact r.intE
 | str x=>cases h;exact r.strE
 | _=>cases h
def bB6 {κ:Type}(kf:i9->Option κ):Prop:=∀ {a b:i9} {k:κ},kf a=some k->kf b=some k->a=b
theorem as7:∀ {a b:List i9} {k:List Key},zT a=some k->zT b=some k->a=b
 | [],[],k,_,_=>rfl
 | [],y::b,k,ha,hb=>by
  cases ha
  unfold zT at hb
  split at hb<;>cases hb
 | x::a,[],k,ha,hb=>by
  cases hb
  unfold zT at ha
  split at ha<;>cases ha
 | x::a,y::b,k,ha,hb=>by
  unfold zT at ha hb
  split at ha
  ·rename_i k1 r1 e1 e2
   cases ha
   split at hb
   ·rename_i k2 F h z
    cases hb
    rw[keyOf_inj e1 h,as7 e2 z]
   ·cases hb
  ·cases ha
theorem av4 {d:i9}{k:List Key}(h:bH7 d=some k):∃ l,d=.tup l/\(jj l=true/\l.all jv=true/\l.length<=1000)/\zT l=some k:=by
 cases d with
 | tup l =>
  have h:(if(jj l&&(l.all jv&&decide (l.length<=1000)))=true then zT l else none)=some k:=h
  by_cases z:(jj l&&(l.all jv&&decide (l.length<=1000)))=true
  ·rw[if_pos z]at h;rw[ag,ag]at z;exact⟨l,rfl,⟨z.1,z.2.1,of_decide_eq_true z.2.2⟩,h⟩
  ·rw[if_neg z]at h;cases h
 | _=>cases h
theorem keyT_inj:bB6 bH7:=fun ha hb=>by
 obtain⟨l,rfl,_,z⟩:=av4 ha
 obtain⟨m,rfl,_,h⟩:=av4 hb
 rw[as7 z h]
theorem aR7 {d:i9}(h:d.keyS=true):∃ k,aC5 d=some k:=by
 cases d with
 | int i=>exact⟨_,rfl⟩
 | str x=>exact⟨_,rfl⟩
 | _=>cases h
theorem ap8:∀ {l:List i9},l.all jv=true->∃ k,zT l=some k
 | [],_=>⟨[],rfl⟩
 | d::l,h=>by
  rw[dq,ag]at h
  obtain⟨k,hk⟩:=aR7 h.1
  obtain⟨r,z⟩:=ap8 h.2
  exact⟨k::r,by unfold zT;rw[hk,z]⟩
theorem ao0 {d:i9}(h:d.keyT=true):∃ k,bH7 d=some k:=by
 cases d with
 | tup l =>
  have h:(jj l&&(l.all jv&&decide (l.length<=1000)))=true:=h
  have h':=h
  rw[ag,ag]at h'
  obtain⟨k,hk⟩:=ap8 h'.2.1
  exact⟨k,by show(if(jj l&&(l.all jv&&decide (l.length<=1000)))=true then zT l else none)=some k;rw[if_pos h];exact hk⟩
 | _=>cases h
theorem aR1 {φ:Nat->Addr}{H:Hp}:∀ {l:List i9} {k:List Key} {z:List V},zT l=some k->RVL Γ φ H l z->z=k.map kV
 | [],k,z,h,r=>by cases h;exact r.unnil
 | d::l,k,z,h,r=>by
  unfold zT at h
  split at h
  ·rename_i k1 r1 e1 e2
   cases h
   obtain⟨x,ys,rfl,F,G⟩:=r.uncons
   rw[ay8 e1 F,aR1 e2 G,aY]
  ·cases h
theorem aB6 {φ:Nat->Addr}{H:Hp}{d:i9}{k:List Key}{v:V}(h:bH7 d=some k)(r:RV Γ φ H d v):∃ b,v=.ref b/\H b=some (.tup (k.map kV)):=by
 obtain⟨l,rfl,z,hk⟩:=av4 h
 obtain⟨a,J,e,F,G⟩:=r.tupK z.1
 rw[aR1 hk G]at F
 exact⟨a,e,F⟩
section
variable {κ:Type} [DecidableEq κ] {kf:i9->Option κ}
theorem RVD.val {φ:Nat->Addr}{H:Hp}{d:i9}{k:κ}(F:bB6 kf)(hk:kf d=some k):∀ {l:List (i9×i9)} {kvs:List (κ×V)},RVD kf Γ φ H l kvs->(jB d l=none/\aA4 kvs k=none)\/∃ e v,jB d l=some e/\aA4 kvs k=some v/\RV Γ φ H e v/\e∈l.map (·.2)
 | [],kvs,h=>by
  have h:kvs=[]:=h
  subst h
  exact .inl ⟨rfl,rfl⟩
 | (a,e)::l,kvs,h=>by
  obtain⟨G,v,r,rfl,e2,Y,Z⟩:=h
  by_cases z:a=d
  ·subst z
   rw[hk]at e2;cases e2
   exact .inr ⟨e,v,by unfold jB;rw[if_pos rfl],an1 rfl,Y,by simp⟩
  ·have zk:¬ G=k:=fun q=>z (F e2 (by rw[q];exact hk))
   have N:jB d ((a,e)::l)=jB d l:=by
    conv=>lhs;unfold jB
    rw[if_neg z]
   rw[N,am9 (show ¬(G,v).1=k from zk)]
   rcases RVD.val F hk Z with q|⟨e',v',J,q2,q3,q4⟩
   ·exact .inl q
   ·exact .inr ⟨e',v',J,q2,q3,by simp at q4 ⊢;exact .inr q4⟩
theorem RVD.repl {φ:Nat->Addr}{H:Hp}{d e:i9}{k:κ}{v:V}(G:bB6 kf)(hk:kf d=some k)(hv:RV Γ φ H e v):∀ {l:List (i9×i9)} {kvs:List (κ×V)},RVD kf Γ φ H l kvs->RVD kf Γ φ H (l.map fun p=>if p.1=d then(p.1,e)else p) (kvs.map fun F=>if F.1=k then(F.1,v)else F)
 | [],kvs,h=>by
  have h:kvs=[]:=h
  subst h;exact(rfl:([]:List (κ×V))=[])
 | (a,e0)::l,kvs,h=>by
  obtain⟨J,v0,r,rfl,e2,Y,N⟩:=h
  rw[aY,aY]
  by_cases z:a=d
  ·subst z
   rw[hk]at e2;cases e2
   rw[if_pos rfl,if_pos rfl]
   exact⟨k,v,_,rfl,hk,hv,RVD.repl G hk hv N⟩
  ·have Z:¬ J=k:=fun q=>z (G e2 (by rw[q];exact hk))
   rw[if_neg z,if_neg Z]
   exact⟨J,v0,_,rfl,e2,Y,RVD.repl G hk hv N⟩
theorem RVD.snoc {φ:Nat->Addr}{H:Hp}{d e:i9}{k:κ}{v:V}(z:bB6 kf)(hk:kf d=some k)(hv:RV Γ φ H e v):∀ {l:List (i9×i9)} {kvs:List (κ×V)},RVD kf Γ φ H l kvs->RVD kf Γ φ H (l++[(d,e)]) (kvs++[(k,v)])
 | [],kvs,h=>by
  have h:kvs=[]:=h
  subst h;exact⟨k,v,[],rfl,hk,hv,rfl⟩
 | (a,e0)::l,kvs,h=>by
  obtain⟨F,v0,r,rfl,e2,G,J⟩:=h
  exact⟨F,v0,_,rfl,e2,G,RVD.snoc z hk hv J⟩
theorem RVD.put {φ:Nat->Addr}{H:Hp}{d e:i9}{k:κ}{v:V}{l:List (i9×i9)}{kvs:List (κ×V)}(F:bB6 kf)(hk:kf d=some k)(hv:RV Γ φ H e v)(h:RVD kf Γ φ H l kvs):RVD kf Γ φ H (jm d e l) (at1 kvs k v):=by
 unfold jm at1
 rw[au5]
 rcases h.val F hk with⟨z,q2⟩|⟨e',v',z,q2,_⟩
 ·rw[z,q2];exact h.snoc F hk hv
 ·rw[z,q2];exact h.repl F hk hv
theorem RVD.get {φ:Nat->Addr}{H:Hp}:∀ {l:List (i9×i9)} {kvs:List (κ×V)} {i:Nat} {d e:i9},RVD kf Γ φ H l kvs->l[i]?=some (d,e)->∃ k v,kvs[i]?=some (k,v)/\kf d=some k/\RV Γ φ H e v
 | [],_,_,_,_,_,h=>by cases h
 | (a,b)::l,kvs,0,d,e,h,q=>by
  obtain⟨k,v,r,rfl,e2,z,F⟩:=h
  cases q
  exact⟨k,v,rfl,e2,z⟩
 | (a,b)::l,kvs,i+1,d,e,h,q=>by
  obtain⟨k,v,r,rfl,e2,z,F⟩:=h
  exact RVD.get (i:=i) F (show l[i]?=some (d,e)from q)
theorem RVD.keys {φ:Nat->Addr}{H:Hp}:∀ {l:List (i9×i9)} {kvs:List (κ×V)},RVD kf Γ φ H l kvs->∀ kv∈kvs,∃ d,kf d=some kv.1
 | [],kvs,h,kv,hk=>by
  have h:kvs=[]:=h
  subst h;cases hk
 | (a,b)::l,kvs,h,kv,hk=>by
  obtain⟨k,v,r,rfl,e2,G,F⟩:=h
  rcases aN.mp hk with z|z
  ·subst z;exact⟨a,e2⟩
  ·exact RVD.keys F kv z
theorem RVD.length {φ:Nat->Addr}{H:Hp}:∀ {l:List (i9×i9)} {kvs:List (κ×V)},RVD kf Γ φ H l kvs->kvs.length=l.length
 | [],kvs,h=>by
  have h:kvs=[]:=h
  subst h;rfl
 | (a,e)::l,kvs,h=>by
  obtain⟨F,v,r,rfl,e2,G,z⟩:=h
  rw[aV,aV,RVD.length z]
end
theorem aF0 {n:Nat}{d e:i9}{l:List (i9×i9)}(h:(DV.O.dic l).bnd n=true)(hd:d.bnd n=true)(he:e.bnd n=true):(DV.O.dic (jm d e l)).bnd n=true:=by
 unfold jf at h ⊢
 rw[ag]at h ⊢
 obtain⟨G,J⟩:=h
 have g1:=ad3.mp G
 have F:=ad3.mp J
 unfold jm
 refine⟨ad3.mpr fun x hx=>?_,ad3.mpr fun x hx=>?_⟩
 ·obtain⟨p,z,rfl⟩:=bq.mp hx
  split at z
  ·obtain⟨q,hq,rfl⟩:=bq.mp z
   split
   ·exact g1 _ (bI (f:=(·.1)) hq)
   ·exact g1 _ (bI (f:=(·.1)) hq)
  ·rcases bE.mp z with q|q
   ·exact g1 _ (bI (f:=(·.1)) q)
   ·rw[bD.mp q];exact hd
 ·obtain⟨p,z,rfl⟩:=bq.mp hx
  split at z
  ·obtain⟨q,hq,rfl⟩:=bq.mp z
   split
   ·exact he
   ·exact F _ (bI (f:=(·.2)) hq)
  ·rcases bE.mp z with q|q
   ·exact F _ (bI (f:=(·.2)) q)
   ·rw[bD.mp q];exact he
theorem bb5 {n:Nat}{d e:i9}{l:List (i9×i9)}(h:(DV.O.dit l).bnd n=true)(hd:d.bnd n=true)(he:e.bnd n=true):(DV.O.dit (jm d e l)).bnd n=true:=aF0 h hd he
theorem an0 {f:i9->i9->Option Bool}{a b:i9}{l m:List i9}{z:Bool}(h:jq f (a::l) (b::m)=some z):∃ x y,f a b=some x/\jq f l m=some y/\z=(x&&y):=by
 unfold jq at h
 cases e1:f a b with
 | none=>rw[e1]at h;cases h
 | some x =>
  cases e2:jq f l m with
  | none=>rw[e1,e2]at h;cases h
  | some y=>rw[e1,e2]at h;exact⟨x,y,rfl,rfl,(av h).symm⟩
theorem aP1 {f:i9->i9->Option Bool}:∀ {l m:List i9} {z:Bool},jq f l m=some z->∃ e:Nat->Bool,(∀ j d d',l[j]?=some d->m[j]?=some d'->f d d'=some (e j))/\((l.length==m.length)&&(bB (min l.length m.length)).all e)=z
 | [],[],z,h=>by
  unfold jq at h
  cases h
  exact⟨fun _=>true,fun j d d' h=>by simp at h,by simp⟩
 | [],b::m,z,h=>by
  unfold jq at h
  cases h
  exact⟨fun _=>true,fun j d d' h=>by simp at h,by simp⟩
 | a::l,[],z,h=>by
  unfold jq at h
  cases h
  exact⟨fun _=>true,fun j d d' J G=>by simp at G,by simp⟩
 | a::l,b::m,z,h=>by
  obtain⟨x,y,e1,e2,N⟩:=an0 h
  obtain⟨e,J,G⟩:=aP1 e2
  refine⟨fun j=>match j with|0=>x|j+1=>e j,fun j d d' g1 F=>?_,?_⟩
  ·cases j with
   | zero=>simp at g1 F;subst g1;subst F;exact e1
   | succ j=>exact J j d d' (by simpa using g1) (by simpa using F)
  ·rw[aV,aV,show min (l.length+1) (m.length+1)=min l.length m.length+1 by omega,List.range_succ_eq_map,dq,List.all_map,N,<-G]
   have:((l.length+1==m.length+1)=(l.length==m.length)):=by
    by_cases q:l.length=m.length
    ·simp[q]
    ·have:¬ l.length+1=m.length+1:=by omega
     simp[q]
   rw[this]
   show((l.length==m.length)&&(x&&(bB _).all e))=_
   cases x<;>cases(l.length==m.length)<;>simp
section
variable {X:Cx} {pins:List (Addr×Obj)} {σ:St} {H:Hp} {sh:ae} {φ:Nat->Addr} {s:i8}
theorem an9 (I:Inv X pins σ H sh){a:Addr}{F ys:List V}(h:H a=some (.lst F))(h':SqT X.K H a ys):False:=by
 rcases h' with(z|⟨o,z⟩)|⟨o,its,n,hk,_⟩
 ·rw[h]at z;cases z
 ·rw[h]at z;cases z
 ·have:=(I.bs a o (I.mod.kin a o hk)).2
  rw[h]at this;cases this
theorem rv_two (I:Inv X pins σ H sh)(Z:X.K=Γ.K)(R:Rp Γ φ H s){a b:i9}{x:V}(J:RV Γ φ H a x)(z:RV Γ φ H b x)(n1:js s a≠9)(F:js s b≠9):a=b\/∃ l m p N,a=.tup l/\b=.tup m/\x=.ref p/\RVL Γ φ H l N/\RVL Γ φ H m N:=by
 have G:∀ {r:Nat},js s (.ref r)≠9->∃ l,s[r]?=some (.lst l):=fun {r} h=>by
  have h:(match s[r]? with|some (DV.O.lst l)=>4|_=>9:Nat)≠9:=h
  cases hs:s[r]? with
  | none=>rw[hs]at h;exact absurd rfl h
  | some o =>
   rw[hs]at h
   cases o with
   | lst l=>exact⟨l,rfl⟩
   | _=>exact absurd rfl h
 cases a with
 | non=>have e:=J.nonE;subst e;cases b with
  | non=>exact .inl rfl
  | bl _=>cases z.blE
  | int _=>cases z.intE
  | str _=>cases z.strE
  | tup _=>obtain⟨_,_,e,_⟩:=z.tupE;cases e
  | ref _=>cases z.refE
  | fn _=>exact absurd rfl F
  | clo _ _=>exact absurd rfl F
 | bl p=>have e:=J.blE;subst e;cases b with
  | non=>cases z.nonE
  | bl _=>cases z.blE;exact .inl rfl
  | int _=>cases z.intE
  | str _=>cases z.strE
  | tup _=>obtain⟨_,_,e,_⟩:=z.tupE;cases e
  | ref _=>cases z.refE
  | fn _=>exact absurd rfl F
  | clo _ _=>exact absurd rfl F
 | int p=>have e:=J.intE;subst e;cases b with
  | non=>cases z.nonE
  | bl _=>cases z.blE
  | int _=>cases z.intE;exact .inl rfl
  | str _=>cases z.strE
  | tup _=>obtain⟨_,_,e,_⟩:=z.tupE;cases e
  | ref _=>cases z.refE
  | fn _=>exact absurd rfl F
  | clo _ _=>exact absurd rfl F
 | str p=>have e:=J.strE;subst e;cases b with
  | non=>cases z.nonE
  | bl _=>cases z.blE
  | int _=>cases z.intE
  | str q =>
   have e':p.toArray=q.toArray:=i4 (V.str.inj z.strE)
   have a0:p=q:=by simpa using congrArg eR e'
   subst a0;exact .inl rfl
  | tup _=>obtain⟨_,_,e,_⟩:=z.tupE;cases e
  | ref _=>cases z.refE
  | fn _=>exact absurd rfl F
  | clo _ _=>exact absurd rfl F
 | tup l =>
  obtain⟨p,N,e,Y,d1⟩:=J.tupE;subst e;cases b with
  | non=>cases z.nonE
  | bl _=>cases z.blE
  | int _=>cases z.intE
  | str _=>cases z.strE
  | tup m =>
   obtain⟨p',ys,e,q2,d2⟩:=z.tupE
   cases e
   rw[<-Z]at Y q2
   rw[I.tuple_inj q2 Y]at d2
   exact .inr ⟨l,m,p,N,rfl,rfl,rfl,d1,d2⟩
  | ref r =>
   cases z.refE
   obtain⟨m,hm⟩:=G F
   obtain⟨ys,hy,_⟩:=R.addr hm
   rw[<-Z]at Y
   exact(an9 I hy Y).elim
  | fn _=>exact absurd rfl F
  | clo _ _=>exact absurd rfl F
 | ref r =>
  have e:=J.refE;subst e
  obtain⟨l,hl⟩:=G n1
  obtain⟨N,hx,_⟩:=R.addr hl
  cases b with
  | non=>cases z.nonE
  | bl _=>cases z.blE
  | int _=>cases z.intE
  | str _=>cases z.strE
  | tup m =>
   obtain⟨p',ys,e,q2,d2⟩:=z.tupE
   cases e
   rw[<-Z]at q2
   exact(an9 I hx q2).elim
  | ref r' =>
   obtain⟨m,hm⟩:=G F
   have e:φ r=φ r':=V.ref.inj z.refE
   rw[R.inj r r' _ _ hl hm rfl rfl e]
   exact .inl rfl
  | fn _=>exact absurd rfl F
  | clo _ _=>exact absurd rfl F
 | fn _=>exact absurd rfl n1
 | clo _ _=>exact absurd rfl n1
theorem qj {a b:i9}{z:Bool}(h:jw s a b=some z):j9 a b=some z\/(j9 a b=none/\jP (js s a) (js s b)=false/\z=false):=by
 unfold jw at h
 cases e:j9 a b with
 | some w=>rw[e]at h;exact .inl h
 | none =>
  rw[e]at h
  cases q:jP (js s a) (js s b)with
  | true=>rw[q]at h;cases h
  | false=>rw[q]at h;exact .inr ⟨rfl,rfl,(av h).symm⟩
theorem bf1 {a b:i9}{z:Bool}(h:j9 a b=some z):js s a≠9/\js s b≠9:=by
 cases a<;>cases b<;>first|(cases h;done)|(constructor<;>(intro z;cases z))
theorem ak6 {a b:i9}{z:Bool}(h:jw s a b=some z):js s a≠9/\js s b≠9:=by
 rcases qj h with h|⟨_,h,_⟩
 ·exact bf1 h
 ·unfold jP at h
  simp only[dr,beq_eq_false_iff_ne]at h
  exact⟨h.1.1,h.1.2⟩
theorem aE8 {a:i9}{z:Bool}(h:jw s a a=some z):z=true:=by
 rcases qj h with h|⟨_,h,_⟩
 ·cases a<;>cases h<;>first|rfl|exact beq_self_eq_true _
 ·unfold jP at h;simp at h
theorem aG5 (I:Inv X pins σ H sh)(hK:X.K=Γ.K)(R:Rp Γ φ H s):∀(n:Nat) (a b:i9) (x:V) (z:Bool),jh s n a b=some z->RV Γ φ H a x->RV Γ φ H b x->z=true:=by
 have N:∀(a b:i9) (x:V) (z:Bool),jw s a b=some z->RV Γ φ H a x->RV Γ φ H b x->z=true:=by
  intro a b x z h F G
  rcases rv_two I hK R F G (ak6 h).1 (ak6 h).2 with e|⟨l,m,_,_,rfl,rfl,_⟩
  ·subst e;exact aE8 h
  ·rcases qj h with h|⟨_,h,_⟩
   ·cases h
   ·unfold jP at h;simp[js]at h
 intro n
 induction n with
 | zero=>intro a b x z h;unfold jh at h;exact N a b x z h
 | succ n ih =>
  have Y:∀(l m:List i9) (J:List V) (z:Bool),jq (jh s n) l m=some z->RVL Γ φ H l J->RVL Γ φ H m J->z=true:=by
   intro l
   induction l with
   | nil =>
    intro m J z h F G
    cases m with
    | nil=>unfold jq at h;exact(av h).symm
    | cons b m=>obtain⟨x,r,e,_⟩:=G.uncons;rw[F.unnil]at e;cases e
   | cons a l ihl =>
    intro m J z h F G
    cases m with
    | nil=>obtain⟨x,r,e,_⟩:=F.uncons;rw[G.unnil]at e;cases e
    | cons b m =>
     obtain⟨p,q,e1,e2,ez⟩:=an0 h
     obtain⟨v,r,rfl,g1,g2⟩:=F.uncons
     obtain⟨v',r',e,g3,g4⟩:=G.uncons
     cases e
     rw[ez,ih a b v p e1 g1 g3,ihl m r q e2 g2 g4];rfl
  intro a b x z h F G
  unfold jh at h
  split at h
  ·rename_i l m
   obtain⟨a,J,rfl,q1,d1⟩:=F.tupE
   obtain⟨b,ys,e,q2,Z⟩:=G.tupE
   cases e
   rw[<-hK]at q1 q2
   rw[I.tuple_inj q2 q1]at Z
   exact Y l m J z h d1 Z
  ·rename_i p q
   split at h
   ·rename_i l m hl hm
    obtain⟨J,e1,d1⟩:=R.addr hl
    obtain⟨ys,e2,Z⟩:=R.addr hm
    have e:=F.refE.symm.trans G.refE
    have e':φ p=φ q:=V.ref.inj e
    rw[e',e2]at e1
    have e3:ys=J:=by injection (av e1)
    subst e3
    split at h
    ·exact Y l m ys z h d1 Z
    ·rename_i a0;exact absurd (d1.length.symm.trans Z.length) a0
   ·cases h
  ·exact N a b x z h F G
end
variable {Γ:Gm}
inductive Vw (sh:ae):Nat->Value->Prop where
 | non:Vw sh 0 .none
 | bl (b:Bool):Vw sh 1 (.bool b)
 | int (i:Int) (t:Tok):Vw sh 1 (.int i t)
 | str (x:Str) (t:Tok):Vw sh 2 (.str x t)
 | tup {l:Addr} {items:Array Value} (h:sh.heap.IsTuple l items):Vw sh 3 (.ref l)
 | lst {l:Addr} {items:Array Value} (h:sh.heap.IsList l items):Vw sh 4 (.ref l)
theorem Vw.eq {A:aR}{sh:ae}{k G:Nat}{u v:Value}(a:Vw sh k u)(b:Vw sh G v)(F:k≠G)(z:A.units<cLine):fi A sh u v false:=by
 cases a with
 | non=>cases b with
  | non=>exact absurd rfl F
  | bl b=>exact SeqAt.EqAt.none_bool b
  | int i t=>exact SeqAt.EqAt.none_int i t
  | str x t=>exact SeqAt.EqAt.none_str x t
  | tup h=>exact SeqAt.EqAt.none_tuple h z
  | lst h=>exact SeqAt.EqAt.none_list h z
 | bl a=>cases b with
  | non=>exact SeqAt.EqAt.bool_none a
  | bl b=>exact absurd rfl F
  | int i t=>exact absurd rfl F
  | str x t=>exact SeqAt.EqAt.bool_str a x t
  | tup h=>exact SeqAt.EqAt.bool_tuple a h z
  | lst h=>exact SeqAt.EqAt.bool_list a h z
 | int a q=>cases b with
  | non=>exact SeqAt.EqAt.int_none a q
  | bl b=>exact absurd rfl F
  | int i t=>exact absurd rfl F
  | str x t=>exact gf a q x t
  | tup h=>exact SeqAt.EqAt.int_tuple a q h z
  | lst h=>exact SeqAt.EqAt.int_list a q h z
 | str a q=>cases b with
  | non=>exact SeqAt.EqAt.str_none a q
  | bl b=>exact SeqAt.EqAt.str_bool a q b
  | int i t=>exact gg a q i t
  | str x t=>exact absurd rfl F
  | tup h=>exact SeqAt.EqAt.str_tuple a q h z
  | lst h=>exact SeqAt.EqAt.str_list a q h z
 | tup g=>cases b with
  | non=>exact SeqAt.EqAt.tuple_none g z
  | bl b=>exact SeqAt.EqAt.tuple_bool b g z
  | int i t=>exact SeqAt.EqAt.tuple_int i t g z
  | str x t=>exact SeqAt.EqAt.tuple_str x t g z
  | tup h=>exact absurd rfl F
  | lst h=>exact SeqAt.EqAt.tuple_list g h z
 | lst g=>cases b with
  | non=>exact SeqAt.EqAt.list_none g z
  | bl b=>exact SeqAt.EqAt.list_bool b g z
  | int i t=>exact SeqAt.EqAt.list_int i t g z
  | str x t=>exact SeqAt.EqAt.list_str x t g z
  | tup h=>exact SeqAt.EqAt.list_tuple g h z
  | lst h=>exact absurd rfl F
theorem Vw.rc {A:aR}{sh:ae}{k G:Nat}{u v:Value}(a:Vw sh k u)(b:Vw sh G v)(F:k≠G)(z:A.units<cLine):i5 A sh u v false:=by
 cases a with
 | non=>cases b with
  | non=>exact absurd rfl F
  | bl b=>exact SeqAt.RcAt.none_bool b
  | int i t=>exact SeqAt.RcAt.none_int i t
  | str x t=>exact SeqAt.RcAt.none_str x t
  | tup h=>exact SeqAt.RcAt.none_tuple h z
  | lst h=>exact SeqAt.RcAt.none_list h z
 | bl a=>cases b with
  | non=>exact SeqAt.RcAt.bool_none a
  | bl b=>exact absurd rfl F
  | int i t=>exact absurd rfl F
  | str x t=>exact SeqAt.RcAt.bool_str a x t
  | tup h=>exact SeqAt.RcAt.bool_tuple a h z
  | lst h=>exact SeqAt.RcAt.bool_list a h z
 | int a q=>cases b with
  | non=>exact SeqAt.RcAt.int_none a q
  | bl b=>exact absurd rfl F
  | int i t=>exact absurd rfl F
  | str x t=>exact SeqAt.RcAt.int_str a q x t
  | tup h=>exact SeqAt.RcAt.int_tuple a q h z
  | lst h=>exact SeqAt.RcAt.int_list a q h z
 | str a q=>cases b with
  | non=>exact SeqAt.RcAt.str_none a q
  | bl b=>exact SeqAt.RcAt.str_bool a q b
  | int i t=>exact SeqAt.RcAt.str_int a q i t
  | str x t=>exact absurd rfl F
  | tup h=>exact SeqAt.RcAt.str_tuple a q h z
  | lst h=>exact SeqAt.RcAt.str_list a q h z
 | tup g=>cases b with
  | non=>exact SeqAt.RcAt.tuple_none g z
  | bl b=>exact SeqAt.RcAt.tuple_bool b g z
  | int i t=>exact SeqAt.RcAt.tuple_int i t g z
  | str x t=>exact SeqAt.RcAt.tuple_str x t g z
  | tup h=>exact absurd rfl F
  | lst h=>exact SeqAt.RcAt.tuple_list g h z
 | lst g=>cases b with
  | non=>exact SeqAt.RcAt.list_none g z
  | bl b=>exact SeqAt.RcAt.list_bool b g z
  | int i t=>exact SeqAt.RcAt.list_int i t g z
  | str x t=>exact SeqAt.RcAt.list_str x t g z
  | tup h=>exact SeqAt.RcAt.list_tuple g h z
  | lst h=>exact absurd rfl F
theorem Vw.ne {A:aR}{sh:ae}{k G:Nat}{u v:Value}(a:Vw sh k u)(b:Vw sh G v)(F:k≠G)(z:A.units<cLine):iM A sh u v true:=by
 cases a with
 | non=>cases b with
  | non=>exact absurd rfl F
  | bl b=>exact SeqAt.RcNeAt.none_bool b
  | int i t=>exact SeqAt.RcNeAt.none_int i t
  | str x t=>exact SeqAt.RcNeAt.none_str x t
  | tup h=>exact SeqAt.RcNeAt.none_tuple h z
  | lst h=>exact SeqAt.RcNeAt.none_list h z
 | bl a=>cases b with
  | non=>exact SeqAt.RcNeAt.bool_none a
  | bl b=>exact absurd rfl F
  | int i t=>exact absurd rfl F
  | str x t=>exact SeqAt.RcNeAt.bool_str a x t
  | tup h=>exact SeqAt.RcNeAt.bool_tuple a h z
  | lst h=>exact SeqAt.RcNeAt.bool_list a h z
 | int a q=>cases b with
  | non=>exact SeqAt.RcNeAt.int_none a q
  | bl b=>exact absurd rfl F
  | int i t=>exact absurd rfl F
  | str x t=>exact SeqAt.RcNeAt.int_str a q x t
  | tup h=>exact SeqAt.RcNeAt.int_tuple a q h z
  | lst h=>exact SeqAt.RcNeAt.int_list a q h z
 | str a q=>cases b with
  | non=>exact SeqAt.RcNeAt.str_none a q
  | bl b=>exact SeqAt.RcNeAt.str_bool a q b
  | int i t=>exact SeqAt.RcNeAt.str_int a q i t
  | str x t=>exact absurd rfl F
  | tup h=>exact SeqAt.RcNeAt.str_tuple a q h z
  | lst h=>exact SeqAt.RcNeAt.str_list a q h z
 | tup g=>cases b with
  | non=>exact SeqAt.RcNeAt.tuple_none g z
  | bl b=>exact SeqAt.RcNeAt.tuple_bool b g z
  | int i t=>exact SeqAt.RcNeAt.tuple_int i t g z
  | str x t=>exact SeqAt.RcNeAt.tuple_str x t g z
  | tup h=>exact absurd rfl F
  | lst h=>exact SeqAt.RcNeAt.tuple_list g h z
 | lst g=>cases b with
  | non=>exact SeqAt.RcNeAt.list_none g z
  | bl b=>exact SeqAt.RcNeAt.list_bool b g z
  | int i t=>exact SeqAt.RcNeAt.list_int i t g z
  | str x t=>exact SeqAt.RcNeAt.list_str x t g z
  | tup h=>exact SeqAt.RcNeAt.list_tuple g h z
  | lst h=>exact absurd rfl F
theorem bE6 (a b:List Nat):((⟨a.toArray⟩:Str)==⟨b.toArray⟩)=(a==b):=by
 by_cases e:a=b
 ·subst e;simp
 ·have:(⟨a.toArray⟩:Str)≠⟨b.toArray⟩:=fun q=>e (by simpa using congrArg (fun z=>z.cps.toList) q)
  rw[beq_eq_false_iff_ne.mpr this,beq_eq_false_iff_ne.mpr e]
structure Cmp (A:aR)(sh:ae)(u v:Value)(z:Bool):Prop where
 rc:i5 A sh u v z
 ne:iM A sh u v (!z)
section
variable {X:Cx} {pins:List (Addr×Obj)} {σ:St} {H:Hp} {sh:ae} {φ:Nat->Addr} {s:i8}
theorem by9 (I:Inv X pins σ H sh)(z:X.K=Γ.K)(R:Rp Γ φ H s){d:i9}{x:V}{u:Value}(h:RV Γ φ H d x)(r:RelV x u)(hk:js s d≠9):Vw sh (js s d) u:=by
 cases d with
 | non=>have e:=h.nonE;subst e;cases r;exact .non
 | bl b=>have e:=h.blE;subst e;cases r;exact .bl b
 | int i=>have e:=h.intE;subst e;obtain⟨t,rfl⟩:=r;exact .int i t
 | str y=>have e:=h.strE;subst e;obtain⟨t,rfl⟩:=r;exact .str _ t
 | tup l =>
  obtain⟨a,F,e,q,_⟩:=h.tupE
  subst e;cases r
  rw[<-z]at q
  obtain⟨its,_,t,_⟩:=I.tuple q
  exact .tup t
 | ref n =>
  have e:=h.refE;subst e;cases r
  have hk:(match s[n]? with|some (DV.O.lst l)=>4|_=>9:Nat)≠9:=hk
  show Vw sh (match s[n]? with|some (DV.O.lst l)=>4|_=>9:Nat) _
  cases hs:s[n]? with
  | none=>rw[hs]at hk;exact absurd rfl hk
  | some o =>
   rw[hs]at hk
   cases o with
   | lst l =>
    obtain⟨F,e,_⟩:=R.addr hs
    obtain⟨its,_,t,_⟩:=I.list (SqL.of e)
    exact .lst t.isList
   | _=>exact absurd rfl hk
 | fn _=>exact absurd rfl hk
 | clo _ _=>exact absurd rfl hk
theorem az7 (I:Inv X pins σ H sh)(Z:X.K=Γ.K)(R:Rp Γ φ H s){a b:i9}{x y:V}{u v:Value}{A:aR}{z:Bool}(h:jw s a b=some z)(F:RV Γ φ H a x)(J:RV Γ φ H b y)(r1:RelV x u)(G:RelV y v)(Y:A.units<cLine) :
  fi A sh u v z/\Cmp A sh u v z:=by
 rcases qj h with h|⟨_,hn,hz⟩
 ·cases a<;>cases b<;>try cases h
  ·cases F.nonE;cases J.nonE;cases r1;cases G
   exact⟨ft _,SeqAt.RcAt.none_none,SeqAt.RcNeAt.none_none⟩
  ·cases F.blE;cases J.blE;cases r1;cases G
   exact⟨SeqAt.EqAt.bool_bool _ _,SeqAt.RcAt.bool_bool _ _,SeqAt.RcNeAt.bool_bool _ _⟩
  ·cases F.blE;cases J.intE;cases r1;obtain⟨t',rfl⟩:=G
   exact⟨SeqAt.EqAt.bool_int _ _ _,SeqAt.RcAt.bool_int _ _ _,SeqAt.RcNeAt.bool_int _ _ _⟩
  ·cases F.intE;cases J.blE;obtain⟨t,rfl⟩:=r1;cases G
   exact⟨SeqAt.EqAt.int_bool _ _ _,SeqAt.RcAt.int_bool _ _ _,SeqAt.RcNeAt.int_bool _ _ _⟩
  ·cases F.intE;cases J.intE;obtain⟨t,rfl⟩:=r1;obtain⟨t',rfl⟩:=G
   exact⟨SeqAt.EqAt.int_int _ _ _ _,SeqAt.RcAt.int_int _ _ _ _,SeqAt.RcNeAt.int_int _ _ _ _⟩
  ·cases F.strE;cases J.strE;obtain⟨t,rfl⟩:=r1;obtain⟨t',rfl⟩:=G
   rw[<-bE6]
   exact⟨SeqAt.EqAt.str_str _ _ _ _,SeqAt.RcAt.str_str _ _ _ _,SeqAt.RcNeAt.str_str _ _ _ _⟩
 ·subst hz
  unfold jP at hn
  simp only[dr,beq_eq_false_iff_ne]at hn
  have N:=by9 I Z R F r1 hn.1.1
  have w2:=by9 I Z R J G hn.1.2
  exact⟨N.eq w2 hn.2 Y,N.rc w2 hn.2 Y,N.ne w2 hn.2 Y⟩
theorem aT5 (I:Inv X pins σ H sh)(hK:X.K=Γ.K)(R:Rp Γ φ H s):∀(n:Nat) (a b:i9) (x y:V) (u v:Value) (A:aR) (z:Bool),jh s n a b=some z->RV Γ φ H a x->RV Γ φ H b y->RelV x u->RelV y v->Room n A ->
  fi A sh u v z/\Cmp A sh u v z:=by
 intro n
 induction n with
 | zero=>intro a b x y u v A z h h1 h2 r1 r2 G;unfold jh at h;exact az7 I hK R h h1 h2 r1 r2 G.units0
 | succ n ih =>
  have F:∀ {l m:List i9} {xs ys:List V} {its its':List Value} {A:aR} {e:Nat->Bool},RVL Γ φ H l xs->RVL Γ φ H m ys->Vals xs its->Vals ys its'->Room n A->(∀ j d d',l[j]?=some d->m[j]?=some d'->jh s n d d'=some (e j)) ->
    ∀ j (h1:j<its.toArray.size) (h2:j<its'.toArray.size),fi A sh its.toArray[j] its'.toArray[j] (e j):=by
   intro l m xs ys its its' A e d1 Z Y v2 G he j h1 h2
   have l1:=Y.length
   have l2:=v2.length
   have e1:=d1.length
   have e2:=Z.length
   have a4:j<its.length:=by simpa using h1
   have a3:j<its'.length:=by simpa using h2
   have hj:j<l.length:=by omega
   have a1:j<m.length:=by omega
   obtain⟨x,ex,dx⟩:=d1.get (am hj)
   obtain⟨y,ey,dy⟩:=Z.get (am a1)
   obtain⟨u,eu,ru⟩:=Y.get ex
   obtain⟨w,ew,a2⟩:=v2.get ey
   have g1:its.toArray[j]=u:=by
    have:=am a4
    rw[eu]at this
    simpa using(av this).symm
   have g2:its'.toArray[j]=w:=by
    have:=am a3
    rw[ew]at this
    simpa using(av this).symm
   rw[g1,g2]
   exact(ih _ _ x y u w A (e j) (he j _ _ (am hj) (am a1)) dx dy ru a2 G).1
  intro a b x y u v A z h h1 h2 r1 r2 G
  have hz:=h
  unfold jh at h
  split at h
  ·rename_i l m
   obtain⟨p,xs,ex,q1,d1⟩:=id h1.tupE
   obtain⟨q,ys,ey,q2,Z⟩:=id h2.tupE
   subst ex;subst ey
   cases r1;cases r2
   rw[<-hK]at q1 q2
   obtain⟨its,Y,t1,_⟩:=I.tuple q1
   obtain⟨its',v2,t2,_⟩:=I.tuple q2
   obtain⟨e,he,N⟩:=aP1 h
   have l1:=Y.length
   have l2:=v2.length
   have e1:=d1.length
   have e2:=Z.length
   have sz:((bB (min its.toArray.size its'.toArray.size)).all e&&its.toArray.size==its'.toArray.size)=z:=by
    rw[<-N,Bool.and_comm,show its.toArray.size=l.length by simp;omega,show its'.toArray.size=m.length by simp;omega]
   have key:=SeqAt.RcAt.tuples (A:=A) (s:=sh) (e:=e) t1 t2 G.units0 (F d1 Z Y v2 G.in1 he)
   have J:=SeqAt.RcNeAt.tuples (A:=A) (s:=sh) (e:=e) t1 t2 G.units0 (F d1 Z Y v2 G.in1 he)
   rw[sz]at key J
   refine⟨?_,key,J⟩
   by_cases hab:p=q
   ·subst hab
    rw[aG5 I hK R _ _ _ _ _ hz h1 h2]
    exact ft _
   ·exact gx hab key
  ·rename_i p q
   split at h
   ·rename_i l m hl hm
    obtain⟨xs,e1,d1⟩:=R.addr hl
    obtain⟨ys,e2,Z⟩:=R.addr hm
    have ex:=h1.refE
    have ey:=h2.refE
    subst ex;subst ey
    cases r1;cases r2
    obtain⟨its,Y,t1,_⟩:=I.list (SqL.of e1)
    obtain⟨its',v2,t2,_⟩:=I.list (SqL.of e2)
    have l1:=Y.length
    have l2:=v2.length
    have c1:=d1.length
    have c2:=Z.length
    have fin:Cmp A sh (.ref (φ p)) (.ref (φ q)) z:=by
     split at h
     ·rename_i a0
      obtain⟨e,he,N⟩:=aP1 h
      have sz:(bB its.toArray.size).all e=z:=by
       rw[<-N,show its.toArray.size=l.length by simp;omega,a0]
       simp
      have key:=SeqAt.RcAt.lists (A:=A) (s:=sh) (e:=e) t1.isList t2.isList (by simp;omega) G.units0 (F d1 Z Y v2 G.in1 he)
      have J:=SeqAt.RcNeAt.lists (A:=A) (s:=sh) (e:=e) t1.isList t2.isList (by simp;omega) G.units0 (F d1 Z Y v2 G.in1 he)
      rw[sz]at key J
      exact⟨key,J⟩
     ·rename_i a0
      cases h
      have hs:(its.toArray.size != its'.toArray.size)=true:=by simp;omega
      exact⟨SeqAt.RcAt.lists_lengths t1.isList t2.isList hs G.units0,SeqAt.RcNeAt.lists_lengths t1.isList t2.isList hs G.units0⟩
    refine⟨?_,fin⟩
    by_cases hab:φ p=φ q
    ·rw[aG5 I hK R _ _ _ _ _ hz RV.refI (by rw[hab];exact RV.refI),hab]
     exact ft _
    ·exact gx hab fin.rc
   ·cases h
  ·exact az7 I hK R h h1 h2 r1 r2 G.units0
end
variable {Γ:Gm} {X:Cx}
noncomputable def bR1:km->Operator
 | .add=>.Add|.sub=>.Sub|.mul=>.Mult|.fdiv=>.FloorDiv|.mod=>.Mod|.pow=>.Pow|.shl=>.LShift|.shr=>.RShift|.band=>.BitAnd|.bor=>.BitOr
noncomputable def bu2:ka->CmpOp
 | .eq=>.Eq|.ne=>.NotEq|.lt=>.Lt|.le=>.LtE|.gt=>.Gt|.ge=>.GtE|.isin=>.In|.notin=>.NotIn
def rOp (Γ:Gm)(f:i9->i9->i8->jc i9):R2:=fun x y H Q=>∃ φ s a b d s',Rp Γ φ H s/\RV Γ φ H a x/\RV Γ φ H b y/\a.bnd s.length=true/\b.bnd s.length=true/\f a b s=.ok d s'/\aj4 Γ φ s H d s' Q
theorem zF {d e:i9}{s t:i8}(h:ke d s=.ok e t):d=e/\s=t:=by
 unfold ke at h
 cases h
 exact⟨rfl,rfl⟩
theorem zP {o:jz}{e:i9}{s t:i8}(h:jJ o s=.ok e t):e=.ref s.length/\t=s++[o]:=by
 unfold jJ at h
 cases h
 exact⟨rfl,rfl⟩
theorem aV1 (a b:List Nat):(⟨a.toArray⟩:Str)++⟨b.toArray⟩=⟨(a++b).toArray⟩:=by
 show Str.append _ _=_
 unfold Str.append
 simp
theorem zB:jg<=aD:=by rw[d3];decide
theorem bk1:OpR X (bM .Mult) (rI (fun i j=>DV.mulOk i j=true) fun i j=>.int (i*j)):=opI fun i j _ _ _ _ _ hc q=>mul_int q (by
 unfold DV.mulOk at hc
 simp only[bh,ag,decide_eq_true_eq]at hc
 rcases hc with(h|h)|⟨F,z⟩
 ·exact bL3.ok (.inl (by omega))
 ·exact bL3.ok (.inr (by omega))
 ·unfold DV.BIG at F z
  exact IntMulOk.of_le (m:=60000) (n:=60000) (intBits_le_iff.mpr F) (intBits_le_iff.mpr z) (by decide))
theorem aG1 (l:List Nat):∀(n:Nat) (h:Array Nat),(aq n l.toArray).foldl (·++·) h=h++(jr n l).toArray
 | 0,h=>by simp[jr]
 | n+1,h=>by
  rw[bA,cR,aG1 l n]
  simp[jr,gh]
theorem br0 (l:List Nat):jr 1 l=l:=by simp[jr]
theorem aV9:∀ n,jr n []=[]
 | 0=>rfl
 | n+1=>by simp[jr,aV9 n]
theorem rep_len (l:List Nat):∀ n,(jr n l).length=l.length*n
 | 0=>by simp[jr]
 | n+1=>by simp[jr,rep_len l n,gX];omega
theorem bt7:OpR X (bM .Mult) (fun x y H Q=>∃(l:List Nat) (n:Int),x=.str ⟨l.toArray⟩/\y=.int n/\(0<=n/\n<=1000000/\l.length*n.toNat<=jg)/\Q (.str ⟨(jr n.toNat l).toArray⟩) H):=by
 intro G s σ H x y v u Q I rx ry h
 obtain⟨l,n,rfl,rfl,⟨h0,N,Z⟩,q⟩:=h
 obtain⟨t,rfl⟩:=rx
 obtain⟨t',rfl⟩:=ry
 have z:(⟨l.toArray⟩:Str).length=l.length:=by show l.toArray.size=_;simp
 have hL:=zB
 have J:=aq0
 refine SB.mul ⟨?_,fun hn _=>?_,fun hn _=>?_⟩ fun t2 k=>?_
 ·rw[decide_eq_false (by omega),decide_eq_false (by omega)];rfl
 ·rw[z]
  have F:1<=n:=by omega
  intro Y
  have h3:(l.length:Int)*n<=1000000:=by
   have:((l.length*n.toNat:Nat):Int)<=(jg:Nat):=Int.ofNat_le.mpr Z
   rw[g8,dF h0]at this
   have e:((jg:Nat):Int)=1000000:=by unfold jg;rfl
   omega
  have h4:(l.length:Int)<=1000000:=by
   have:(l.length:Int)*1<=(l.length:Int)*n:=du F (by omega)
   omega
  have h5:(1000000:Int)<=(2^63 - 1) / n:=by
   rw[Int.le_ediv_iff_mul_le (by omega)]
   have:(1000000:Int)*n<=1000000*1000000:=du N (by omega)
   omega
  omega
 ·rw[z]
  unfold iy
  exact decide_eq_false (by omega)
 ·have e:Txt.mul ⟨l.toArray⟩ n=⟨(jr n.toNat l).toArray⟩:=by
   unfold Txt.mul
   split
   ·have:n.toNat=0:=by omega
    rw[this];rfl
   ·split
    ·rename_i hc
     rw[bh]at hc
     rcases hc with hc|hc
     ·have:n=1:=by simpa using hc
      subst this
      show(⟨l.toArray⟩:Str)=⟨(jr 1 l).toArray⟩
      rw[br0]
     ·have:l=[]:=by
       have:=eq_of_beq hc
       rw[z]at this
       exact ci.mp this
      subst this
      rw[aV9]
    ·show(⟨(aq n.toNat l.toArray).foldl (·++·) #[]⟩:Str)=_
     rw[aG1];simp
  rw[e]
  exact⟨.str _,H,I.tok _,⟨_,rfl⟩,q⟩
theorem ao6 {n:Nat}{l:List i9}(h:ja n l=true):∀ k,ja n (jF k l)=true
 | 0=>rfl
 | k+1=>zD h (ao6 h k)
theorem RVL.repD {φ:Nat->Addr}{H:Hp}{l:List i9}{z:List V}(h:RVL Γ φ H l z):∀ k,RVL Γ φ H (jF k l) (aq2 k z)
 | 0=>RVL.nil
 | k+1=>h.append (RVL.repD h k)
theorem ax4 {α:Type}(h:List α):∀ k,aq2 k h=(aq k h).flatten
 | 0=>rfl
 | k+1=>by rw[bA,b9,<-ax4 h k];rfl
theorem bJ1 (hK:X.K=Γ.K)(op:km):OpR X (bM (bR1 op)) (rOp Γ (DV.am6 op)):=by
 intro G s σ H x y v u Q I N Y h
 obtain⟨φ,st,a,b,d,a0,R,ha,hb,na,nb,F,q⟩:=h
 cases op with
 | add =>
  cases a with
  | int a =>
   cases b with
   | int b =>
    change(ke _) st=_ at F
    obtain⟨rfl,rfl⟩:=zF F
    have ex:=ha.intE;have J:=hb.intE;subst ex;subst J
    exact bz6 G s σ H _ _ v u Q I N Y ⟨_,_,rfl,rfl,q.here R rfl RV.intI⟩
   | _=>exact fb F
  | str a =>
   cases b with
   | str b =>
    change(if _ then _ else _:jQ i9) st=_ at F
    split at F
    ·rename_i hl
     obtain⟨rfl,rfl⟩:=zF F
     have ex:=ha.strE;have J:=hb.strE;subst ex;subst J
     refine aJ9 G s σ H _ _ v u Q I N Y ⟨_,_,rfl,rfl,?_,?_⟩
     ·show a.toArray.size+b.toArray.size<=_
      simp only[ao]
      exact aj hl zB
     ·rw[aV1];exact q.here R rfl (RV.strI (by rw[aA];exact hl))
    ·exact fb F
   | _=>exact fb F
  | tup a =>
   cases b with
   | tup b =>
    change(if _ then _ else _:jQ i9) st=_ at F
    split at F
    ·rename_i hl
     obtain⟨rfl,rfl⟩:=zF F
     obtain⟨p,xs,⟨rfl,z1⟩,Z,d1⟩:=ha.tupZ
     obtain⟨p',ys,⟨rfl,z2⟩,h2,d2⟩:=hb.tupZ
     refine bo4 hK G s σ H _ _ v u Q I N Y ⟨p,p',xs,ys,rfl,rfl,Z,h2,?_,fun t H' e ht hn=>?_⟩
     ·rw[d1.length,d2.length];exact aj hl zB
     ·obtain⟨g,r'⟩:=R.same e
      unfold je at na nb
      refine q _ _ _ g (ai _) (by unfold je;exact zD na nb) (RV.tupC ht (fun z=>?_) ((RVL.mono g _ _ na d1).append (RVL.mono g _ _ nb d2))) r'
      rcases hn with hn|⟨rfl,rfl⟩|⟨rfl,rfl⟩
      ·exact hn
      ·rw[d2.tonil,bf]at z;rw[bf];exact e _ _ (z1 z)
      ·rw[d1.tonil]at z;exact e _ _ (z2 z)
    ·exact fb F
   | _=>exact fb F
  | ref a =>
   cases b with
   | ref b =>
    change(match st[a]?,st[b]? with|some (DV.O.lst l),some (DV.O.lst m)=>if l.length+m.length<=jg then jJ (.lst (l++m)) st else .bad|_,_=>.bad:jc i9)=_ at F
    split at F
    ·rename_i l m Z h2
     split at F
     ·rename_i hl
      obtain⟨rfl,rfl⟩:=zP F
      obtain⟨xs,e1,d1⟩:=R.addr Z
      obtain⟨ys,e2,d2⟩:=R.addr h2
      have ex:=ha.refE;have J:=hb.refE;subst ex;subst J
      have b1:=R.wf _ _ Z
      have b2:=R.wf _ _ h2
      unfold jf at b1 b2
      refine bD1 G s σ H _ _ v u Q I N Y ⟨φ a,φ b,xs,ys,rfl,rfl,e1,e2,?_,fun p hp=>?_⟩
      ·rw[d1.length,d2.length];exact aj hl zB
      ·exact q.alloc R (d1.append d2) (zD b1 b2) hp
     ·exact fb F
    ·exact fb F
   | _=>exact fb F
  | _=>exact fb F
 | sub =>
  cases a with
  | int a =>
   cases b with
   | int b =>
    change(ke _) st=_ at F
    obtain⟨rfl,rfl⟩:=zF F
    have ex:=ha.intE;have J:=hb.intE;subst ex;subst J
    exact bz1 G s σ H _ _ v u Q I N Y ⟨_,_,rfl,rfl,q.here R rfl RV.intI⟩
   | _=>exact fb F
  | _=>exact fb F
 | mul =>
  cases a with
  | int a =>
   cases b with
   | int b =>
    change(if _ then _ else _:jQ i9) st=_ at F
    split at F
    ·rename_i hc
     obtain⟨rfl,rfl⟩:=zF F
     have ex:=ha.intE;have J:=hb.intE;subst ex;subst J
     exact bk1 G s σ H _ _ v u Q I N Y ⟨_,_,rfl,rfl,hc,q.here R rfl RV.intI⟩
    ·exact fb F
   | _=>exact fb F
  | str a =>
   cases b with
   | int b =>
    change(if _ then _ else _:jQ i9) st=_ at F
    split at F
    ·rename_i hc
     obtain⟨rfl,rfl⟩:=zF F
     have ex:=ha.strE;have J:=hb.intE;subst ex;subst J
     exact bt7 G s σ H _ _ v u Q I N Y ⟨_,_,rfl,rfl,hc,q.here R rfl (RV.strI (by rw[rep_len];exact hc.2.2))⟩
    ·exact fb F
   | _=>exact fb F
  | tup a =>
   cases b with
   | int b =>
    change(if _ then _ else _:jQ i9) st=_ at F
    split at F
    ·rename_i hc
     obtain⟨rfl,rfl⟩:=zF F
     obtain⟨p,xs,⟨rfl,z1⟩,Z,d1⟩:=ha.tupZ
     have J:=hb.intE;subst J
     refine bo6 hK G s σ H _ _ v u Q I N Y ⟨p,xs,_,rfl,rfl,Z,⟨hc.1,hc.2.1,by rw[d1.length];exact hc.2.2⟩,fun t H' e ht hn=>?_⟩
     obtain⟨g,r'⟩:=R.same e
     unfold je at na
     refine q _ _ _ g (ai _) (by unfold je;exact ao6 na _) (RV.tupC ht (fun z=>?_) (RVL.repD (RVL.mono g _ _ na d1) _)) r'
     rcases hn with hn|⟨rfl,ex⟩
     ·exact hn
     ·rw[ex];exact e _ _ (z1 (br7 z))
    ·exact fb F
   | _=>exact fb F
  | ref a =>
   cases b with
   | int b =>
    change(match st[a]? with|some (DV.O.lst l)=>if 0<=b/\b<=1000000/\l.length*b.toNat<=jg then jJ (.lst (jF b.toNat l)) st else .bad|_=>.bad:jc i9)=_ at F
    split at F
    ·rename_i l Z
     split at F
     ·rename_i hc
      obtain⟨rfl,rfl⟩:=zP F
      obtain⟨xs,e1,d1⟩:=R.addr Z
      have ex:=ha.refE;have J:=hb.intE;subst ex;subst J
      have b1:=R.wf _ _ Z
      unfold jf at b1
      refine bw9 G s σ H _ _ v u Q I N Y ⟨φ a,b,xs,rfl,rfl,e1,by omega,by omega,?_,fun p hp=>?_⟩
      ·rw[d1.length];exact aj hc.2.2 zB
      ·rw[<-ax4];exact q.alloc R (RVL.repD d1 _) (ao6 b1 _) hp
     ·exact fb F
    ·exact fb F
   | _=>exact fb F
  | _=>exact fb F
 | fdiv =>
  cases a with
  | int a =>
   cases b with
   | int b =>
    change(if _ then _ else _:jQ i9) st=_ at F
    split at F
    ·rename_i hc
     obtain⟨rfl,rfl⟩:=zF F
     have ex:=ha.intE;have J:=hb.intE;subst ex;subst J
     refine aZ9 G s σ H _ _ v u Q I N Y ⟨_,_,rfl,rfl,⟨hc.1,?_⟩,q.here R rfl RV.intI⟩
     have:=hc.2
     unfold DV.DIVL at this
     simpa using this
    ·exact fb F
   | _=>exact fb F
  | _=>exact fb F
 | mod =>
  cases a with
  | int a =>
   cases b with
   | int b =>
    change(if _ then _ else _:jQ i9) st=_ at F
    split at F
    ·rename_i hc
     obtain⟨rfl,rfl⟩:=zF F
     have ex:=ha.intE;have J:=hb.intE;subst ex;subst J
     exact bD0 G s σ H _ _ v u Q I N Y ⟨_,_,rfl,rfl,hc,q.here R rfl RV.intI⟩
    ·exact fb F
   | _=>exact fb F
  | _=>exact fb F
 | pow =>
  cases a with
  | int a =>
   cases b with
   | int b =>
    change(if _ then _ else _:jQ i9) st=_ at F
    split at F
    ·rename_i hc
     obtain⟨rfl,rfl⟩:=zF F
     have ex:=ha.intE;have J:=hb.intE;subst ex;subst J
     exact bG6 G s σ H _ _ v u Q I N Y ⟨_,_,rfl,rfl,hc,q.here R rfl RV.intI⟩
    ·exact fb F
   | _=>exact fb F
  | _=>exact fb F
 | shl =>
  cases a with
  | int a =>
   cases b with
   | int b =>
    change(if _ then _ else _:jQ i9) st=_ at F
    split at F
    ·rename_i hc
     obtain⟨rfl,rfl⟩:=zF F
     have ex:=ha.intE;have J:=hb.intE;subst ex;subst J
     exact bC5 G s σ H _ _ v u Q I N Y ⟨_,_,rfl,rfl,hc,q.here R rfl RV.intI⟩
    ·exact fb F
   | _=>exact fb F
  | _=>exact fb F
 | shr =>
  cases a with
  | int a =>
   cases b with
   | int b =>
    change(if _ then _ else _:jQ i9) st=_ at F
    split at F
    ·rename_i hc
     obtain⟨rfl,rfl⟩:=zF F
     have ex:=ha.intE;have J:=hb.intE;subst ex;subst J
     exact bz8 G s σ H _ _ v u Q I N Y ⟨_,_,rfl,rfl,hc,q.here R rfl RV.intI⟩
    ·exact fb F
   | _=>exact fb F
  | _=>exact fb F
 | band =>
  cases a with
  | int a =>
   cases b with
   | int b =>
    change(if _ then _ else _:jQ i9) st=_ at F
    split at F
    ·rename_i hc
     obtain⟨rfl,rfl⟩:=zF F
     have ex:=ha.intE;have J:=hb.intE;subst ex;subst J
     exact bp0 G s σ H _ _ v u Q I N Y ⟨_,_,rfl,rfl,hc,q.here R rfl RV.intI⟩
    ·exact fb F
   | _=>exact fb F
  | _=>exact fb F
 | bor=>exact fb F
variable {Γ:Gm} {X:Cx} {pins:List (Addr×Obj)} {σ:St} {H:Hp} {sh:ae} {φ:Nat->Addr} {s:i8}
theorem aI3 {n:Nat}{a b:i9}{z:Bool}(h:jh s n a b=some z):js s a≠9:=by
 cases n with
 | zero=>unfold jh at h;exact(ak6 h).1
 | succ n =>
  unfold jh at h
  split at h
  ·simp[js]
  ·split at h
   ·rename_i F _;simp[js,F]
   ·cases h
  ·exact(ak6 h).1
theorem aT2 (I:Inv X pins σ H sh)(J:X.K=Γ.K)(R:Rp Γ φ H s):∀(n:Nat) (a b c:i9) (x:V) (p q:Bool),RV Γ φ H a x->RV Γ φ H b x->jh s n a c=some p->jh s n b c=some q->p=q:=by
 intro n
 induction n with
 | zero =>
  intro a b c x p q z h e1 e2
  rcases rv_two I J R z h (aI3 e1) (aI3 e2)with e|⟨l,m,_,_,rfl,rfl,_⟩
  ·subst e;rw[e1]at e2;exact av e2
  ·unfold jh at e1 e2
   have:jw s (.tup l) c=jw s (.tup m) c:=by unfold jw;cases c<;>rfl
   rw[this,e2]at e1;exact(av e1).symm
 | succ n ih =>
  have G:∀(l m k:List i9) (F:List V) (p q:Bool),RVL Γ φ H l F->RVL Γ φ H m F->jq (jh s n) l k=some p->jq (jh s n) m k=some q->p=q:=by
   intro l
   induction l with
   | nil =>
    intro m k F p q z h e1 e2
    have:=z.unnil;subst this
    have hm:m=[]:=by have:=h.length;exact ci.mp this.symm
    subst hm
    rw[e1]at e2;exact av e2
   | cons a l ihl =>
    intro m k F p q z h e1 e2
    obtain⟨x,r,rfl,g1,g2⟩:=z.uncons
    cases m with
    | nil=>have:=h.unnil;cases this
    | cons b m =>
     obtain⟨x',r',e,g3,g4⟩:=h.uncons
     cases e
     cases k with
     | nil=>unfold jq at e1 e2;rw[<-av e1,<-av e2]
     | cons c k =>
      obtain⟨p1,Z,a1,a2,a3⟩:=an0 e1
      obtain⟨q1,q2,N,b2,Y⟩:=an0 e2
      rw[a3,Y,ih a b c x p1 q1 g1 g3 a1 N,ihl m k r Z q2 g2 g4 a2 b2]
  intro a b c x p q z h e1 e2
  rcases rv_two I J R z h (aI3 e1) (aI3 e2)with e|⟨l,m,_,F,rfl,rfl,_,d1,d2⟩
  ·subst e;rw[e1]at e2;exact av e2
  ·cases c with
   | tup k=>unfold jh at e1 e2;exact G l m k F p q d1 d2 e1 e2
   | _ =>
    unfold jh at e1 e2
    simp only at e1 e2
    have e3:jw s (.tup l)=jw s (.tup m):=by funext c;unfold jw;cases c<;>rfl
    rw[e3]at e1
    exact av (e1.symm.trans e2)
theorem bi5 {x:i9}:∀ {l:List i9} {z:Bool},jK s x l=some z->∃ e:Nat->Bool,(∀ j d,l[j]?=some d->jh s jl d x=some (e j))/\(z=true↔∃ j,j<l.length/\e j=true)
 | [],z,h=>by
  unfold jK at h
  cases h
  exact⟨fun _=>true,fun j d h=>by simp at h,by simp⟩
 | y::l,z,h=>by
  unfold jK at h
  cases e1:jh s jl y x with
  | none=>rw[e1]at h;cases h
  | some a =>
   cases e2:jK s x l with
   | none=>rw[e1,e2]at h;cases h
   | some b =>
    rw[e1,e2]at h
    obtain⟨e,F,G⟩:=bi5 e2
    refine⟨fun j=>match j with|0=>a|j+1=>e j,fun j d g=>?_,?_⟩
    ·cases j with
     | zero=>simp at g;subst g;exact e1
     | succ j=>exact F j d (by simpa using g)
    ·have hz:(a||b)=z:=av h
     rw[<-hz,bh,G]
     constructor
     ·rintro(q|⟨j,hj,q⟩)
      ·exact⟨0,by simp,q⟩
      ·exact⟨j+1,by simpa using hj,q⟩
     ·rintro⟨j,hj,q⟩
      cases j with
      | zero=>exact .inl q
      | succ j=>exact .inr ⟨j,by simpa using hj,q⟩
theorem bj0 (I:Inv X pins σ H sh)(hK:X.K=Γ.K)(R:Rp Γ φ H s){x:i9}{xv:V}{xu:Value}(hx:RV Γ φ H x xv)(rx:RelV xv xu){l:List i9}{ys:List V}{its:List Value}(hl:RVL Γ φ H l ys)(hv:Vals ys its){z:Bool}(h:jK s x l=some z){A:aR}(hr:Room jl A) :
  ∃ e:Value->Bool,(∀ y,y∈its.toArray->fi A sh y xu (e y))/\its.toArray.any e=z:=by
 obtain⟨e,h1,h2⟩:=bi5 h
 have len:its.length=l.length:=by rw[<-hv.length];exact hl.length
 have F:∀ j u,its[j]?=some u->∃ d y,l[j]?=some d/\ys[j]?=some y/\RV Γ φ H d y/\RelV y u:=fun j u g=>by
  have hj:j<l.length:=by rw[<-len];exact(af.mp g).1
  obtain⟨y,g1,Z⟩:=hl.get (am hj)
  obtain⟨u',G,N⟩:=hv.get g1
  rw[g]at G;cases G
  exact⟨_,y,am hj,g1,Z,N⟩
 classical
 let f:Value->Bool:=fun u=>decide (∃ j,its[j]?=some u/\e j=true)
 have hf:∀ j u,its[j]?=some u->f u=e j:=fun j u g=>by
  obtain⟨d,y,g1,Z,G,N⟩:=F j u g
  cases q:e j with
  | true=>exact decide_eq_true ⟨j,g,q⟩
  | false =>
   refine decide_eq_false fun⟨k,g',q'⟩=>?_
   obtain⟨d',y',k1,k2,k3,k4⟩:=F k u g'
   have ey:y'=y:=k4.inj N
   subst ey
   have:=aT2 I hK R _ d d' x _ _ _ G k3 (h1 j d g1) (h1 k d' k1)
   rw[q,q']at this;cases this
 refine⟨f,fun u Y=>?_,?_⟩
 ·obtain⟨j,hj,g⟩:=cI.mp (by simpa using Y:u∈its)
  have g':its[j]?=some u:=by rw[am hj,g]
  obtain⟨d,y,g1,Z,G,N⟩:=F j u g'
  rw[hf j u g']
  exact(aT5 I hK R _ d x y xv u xu A _ (h1 j d g1) G hx N rx hr).1
 ·have e1:its.toArray.any f=true↔z=true:=by
   rw[h2,List.any_toArray,gP]
   constructor
   ·rintro⟨u,Y,q⟩
    obtain⟨j,hj,g⟩:=cI.mp Y
    have g':its[j]?=some u:=by rw[am hj,g]
    exact⟨j,by omega,by rw[<-hf j u g'];exact q⟩
   ·rintro⟨j,hj,q⟩
    have J:j<its.length:=by omega
    exact⟨its[j],eO J,by rw[hf j _ (am J)];exact q⟩
  cases z<;>cases q:its.toArray.any f
  ·rfl
  ·have:=e1.mp q;cases this
  ·rw[q]at e1;have:=e1.mpr rfl;cases this
  ·rfl
variable {Γ:Gm} {X:Cx}
theorem aa0 {α β:Type}{r:jc α}{f:α->i8->jc β}{b:β}{t:i8}(h:r.bind f=.ok b t):∃ a s,r=.ok a s/\f a s=.ok b t:=DV.R.bind_inv h
theorem bj1 (hK:X.K=Γ.K)(Y:Room (jl+1) X.A)(F:Bool){J:List (Addr×Obj)}{sh:ae}{σ:St}{H:Hp}{x y:V}{v u:Value}{φ:Nat->Addr}{st a1:i8}{a b:i9}{z:Bool}
  (I:Inv X J σ H sh) (N:RelV x v) (ry:RelV y u) (R:Rp Γ φ H st) (ha:RV Γ φ H a x) (hb:RV Γ φ H b y) (h:kg a b st=.ok z a1) :
  a1=st/\∀ Q:Value->ae->Prop,(∀ Z,Inv X J σ H Z->Q (.bool (if F then !z else z)) Z)->wpAny (model X.prog X.w) X.A (cz (if F then .NotIn else .In) v u) Q X.xe sh:=by
 unfold kg at h
 cases b with
 | tup l =>
  simp only at h
  cases e:jK st a l with
  | none=>rw[e]at h;cases h
  | some w =>
   rw[e]at h
   cases h
   obtain⟨p,ys,rfl,q,d⟩:=hb.tupE
   cases ry
   rw[<-hK]at q
   obtain⟨its,rv,t,_⟩:=I.tuple q
   obtain⟨f,h1,h2⟩:=bj0 I hK R ha N d rv e (A:=X.A.in1) Y.in1
   refine⟨rfl,fun Q hq=>?_⟩
   cases F with
   | false=>exact SeqAt.in_tupleAt f t h1 (by rw[h2];exact hq _ I)
   | true=>exact SeqAt.notIn_tupleAt f t h1 (by rw[h2];exact hq _ I)
 | str y0 =>
  simp only at h
  split at h
  case h_2=>exact fb h
  rename_i c
  cases h
  refine⟨rfl,fun Q hq=>?_⟩
  have e1:=ha.strE
  have e2:=hb.strE
  subst e1 e2
  obtain⟨t1,rfl⟩:=N
  obtain⟨t2,rfl⟩:=ry
  have a0:=iG (⟨y0.toArray⟩:Str) c
  cases F with
  | false=>exact in_str (by rw[show(⟨[c].toArray⟩:Str)=⟨#[c]⟩from rfl,a0];simpa using hq _ I)
  | true=>exact notIn_str (by rw[show(⟨[c].toArray⟩:Str)=⟨#[c]⟩from rfl,a0];simpa using hq _ I)
 | ref r =>
  simp only at h
  cases hs:st[r]? with
  | none=>rw[hs]at h;cases h
  | some o =>
   rw[hs]at h
   cases o with
   | lst l =>
    simp only at h
    cases e:jK st a l with
    | none=>rw[e]at h;cases h
    | some w =>
     rw[e]at h
     cases h
     obtain⟨ys,e1,d⟩:=R.addr hs
     have ey:=hb.refE;subst ey
     cases ry
     obtain⟨its,rv,t,_⟩:=I.list (SqL.of e1)
     obtain⟨f,h1,h2⟩:=bj0 I hK R ha N d rv e (A:=X.A.in1) Y.in1
     refine⟨rfl,fun Q hq=>?_⟩
     cases F with
     | false=>exact SeqAt.in_listAt f t.isList h1 (by rw[h2];exact hq _ I)
     | true=>exact SeqAt.notIn_listAt f t.isList h1 (by rw[h2];exact hq _ I)
   | dic l =>
    simp only at h
    split at h
    case isFalse=>exact fb h
    rename_i G
    cases h
    obtain⟨k,hk⟩:=am8 G
    obtain⟨kvs,e1,d⟩:=R.obj r _ hs
    have ey:=hb.refE;subst ey
    cases ry
    have ex:=ay8 hk ha;subst ex
    have ez:(jB a l).isSome=(aA4 kvs k).isSome:=by
     rcases d.val keyOf_inj hk with⟨q1,q2⟩|⟨_,_,q1,q2,_⟩<;>rw[q1,q2]<;>rfl
    refine⟨rfl,fun Q hq=>?_⟩
    rw[ez]at hq
    cases F with
    | false=>exact bU3 (aK6 Y) I (aA3.k e1) N hq
    | true=>exact aW5 (aK6 Y) I (aA3.k e1) N hq
   | dit l =>
    simp only at h
    split at h
    case isFalse=>exact fb h
    rename_i G
    cases h
    obtain⟨k,hk⟩:=ao0 G
    obtain⟨kvs,e1,d⟩:=R.obj r _ hs
    have ey:=hb.refE;subst ey
    cases ry
    obtain⟨kb,ex,a2⟩:=aB6 hk ha;subst ex
    have ez:(jB a l).isSome=(aA4 kvs k).isSome:=by
     rcases d.val keyT_inj hk with⟨q1,q2⟩|⟨_,_,q1,q2,_⟩<;>rw[q1,q2]<;>rfl
    refine⟨rfl,fun Q hq=>?_⟩
    rw[ez]at hq
    cases F with
    | false=>exact bU3 (aK6 Y) I (aA3.t e1 a2) N hq
    | true=>exact aW5 (aK6 Y) I (aA3.t e1 a2) N hq
   | ro l=>exact fb h
   | ins c l=>exact fb h
 | _=>exact fb h
theorem av2 {op:ka}{a b d:i9}{st z:i8}(ho:op=.lt\/op=.le\/op=.gt\/op=.ge)(h:DV.zR op a b st=.ok d z):∃ i j,a=.int i/\b=.int j:=by
 rcases ho with rfl|rfl|rfl|rfl <;>
 (cases a with
 | int i =>
  (cases b with
  | int j=>exact⟨i,j,rfl,rfl⟩
  | _=>cases h)
 | _=>cases h)
theorem bz3 (hK:X.K=Γ.K)(hr:Room (jl+1) X.A)(op:ka):OpR X (cz (bu2 op)) (rOp Γ (DV.zR op)):=by
 intro G s σ H x y v u Q I N Y h
 obtain⟨φ,st,a,b,d,J,R,ha,hb,na,nb,F,q⟩:=h
 cases op with
 | eq =>
  have F:DV.eqM a b st=.ok d J:=F
  unfold DV.eqM at F
  cases e:jh st jl a b with
  | none=>rw[e]at F;cases F
  | some z =>
   rw[e]at F;cases F
   exact(aT5 I hK R _ a b x y v u X.A z e ha hb N Y (hr.mono (by omega))).2.rc X.prog X.w X.xe _ ⟨.bl z,H,I,rfl,q.here R rfl RV.blI⟩
 | ne =>
  have F:(match jh st jl a b with|some r=>.ok (.bl (!r)) st|none=>.bad:jc i9)=.ok d J:=F
  cases e:jh st jl a b with
  | none=>rw[e]at F;cases F
  | some z =>
   rw[e]at F;cases F
   exact(aT5 I hK R _ a b x y v u X.A z e ha hb N Y (hr.mono (by omega))).2.ne X.prog X.w X.xe _ ⟨.bl (!z),H,I,rfl,q.here R rfl RV.blI⟩
 | lt =>
  obtain⟨i,j,rfl,rfl⟩:=av2 (.inl rfl) F
  cases F
  have ex:=ha.intE;have Z:=hb.intE;subst ex;subst Z
  exact bQ5 G s σ H _ _ v u Q I N Y ⟨_,_,rfl,rfl,q.here R rfl RV.blI⟩
 | le =>
  obtain⟨i,j,rfl,rfl⟩:=av2 (.inr (.inl rfl)) F
  cases F
  have ex:=ha.intE;have Z:=hb.intE;subst ex;subst Z
  exact bS8 G s σ H _ _ v u Q I N Y ⟨_,_,rfl,rfl,q.here R rfl RV.blI⟩
 | gt =>
  obtain⟨i,j,rfl,rfl⟩:=av2 (.inr (.inr (.inl rfl))) F
  cases F
  have ex:=ha.intE;have Z:=hb.intE;subst ex;subst Z
  exact bQ2 G s σ H _ _ v u Q I N Y ⟨_,_,rfl,rfl,q.here R rfl RV.blI⟩
 | ge =>
  obtain⟨i,j,rfl,rfl⟩:=av2 (.inr (.inr (.inr rfl))) F
  cases F
  have ex:=ha.intE;have Z:=hb.intE;subst ex;subst Z
  exact bN6 G s σ H _ _ v u Q I N Y ⟨_,_,rfl,rfl,q.here R rfl RV.blI⟩
 | isin =>
  have F:(kg a b st).bind (fun r s=>.ok (.bl r) s)=.ok d J:=F
  obtain⟨z,s1,e1,e2⟩:=aa0 F
  obtain⟨rfl,w⟩:=bj1 hK hr false I N Y R ha hb e1
  cases e2
  exact w _ fun s' I'=>⟨.bl z,H,I',rfl,q.here R rfl RV.blI⟩
 | notin =>
  have F:(kg a b st).bind (fun r s=>.ok (.bl (!r)) s)=.ok d J:=F
  obtain⟨z,s1,e1,e2⟩:=aa0 F
  obtain⟨rfl,w⟩:=bj1 hK hr true I N Y R ha hb e1
  cases e2
  exact w _ fun s' I'=>⟨.bl (!z),H,I',rfl,q.here R rfl RV.blI⟩
theorem aV5 {φ:Nat->Addr}{H:Hp}{l:List i9}{z:List V}{i:Int}{d:i9}(h:RVL Γ φ H l z)(e:((jL l.length i).bind fun j=>l[j]?)=some d):∃ v,atI z i=some v/\RV Γ φ H d v:=by
 cases hj:jL l.length i with
 | none=>rw[hj]at e;cases e
 | some j =>
  rw[hj]at e
  obtain⟨v,e1,e2⟩:=h.get (show l[j]?=some d from e)
  refine⟨v,?_,e2⟩
  unfold atI
  have:ixN z.length i=some j:=by rw[h.length];exact hj
  rw[this];exact e1
theorem aE5 {l:List i9}{i:Int}{d:i9}(e:((jL l.length i).bind fun j=>l[j]?)=some d):d∈l:=by
 cases hj:jL l.length i with
 | none=>rw[hj]at e;cases e
 | some j=>rw[hj]at e;exact bv (show l[j]?=some d from e)
theorem bR9 (hK:X.K=Γ.K)(hu:X.A.units+1<cLine):IxR X (rOp Γ DV.ixM):=by
 intro F G J s σ H x y v u Q I rx ry h hs
 obtain⟨φ,st,a,b,d,a1,R,ha,hb,na,nb,z,q⟩:=h
 unfold DV.ixM at z
 cases a with
 | tup l =>
  cases b with
  | int i =>
   simp only at z
   split at z
   ·rename_i d' e
    cases z
    obtain⟨p,xs,rfl,h1,d1⟩:=ha.tupE
    have Y:=hb.intE;subst Y
    obtain⟨w,e1,e2⟩:=aV5 d1 e
    unfold je at na
    exact bj6 hK F G J s σ H _ _ v u Q I rx ry ⟨p,xs,i,w,rfl,rfl,h1,e1,q.here R (ad3.mp na _ (aE5 e)) e2⟩ hs
   ·exact fb z
  | _=>exact fb z
 | str l =>
  cases b with
  | int i =>
   simp only at z
   split at z
   ·rename_i c e
    cases z
    have hl:=ha.strL
    have ex:=ha.strE;have Y:=hb.intE;subst ex;subst Y
    exact ix_str F G J s σ H _ _ v u Q I rx ry ⟨⟨l.toArray⟩,i,c,rfl,rfl,by show l.toArray.size<=_;rw[ao];exact aj hl zB,e,q.here R rfl (RV.strI (by simp;decide))⟩ hs
   ·exact fb z
  | _=>exact fb z
 | ref r =>
  have ex:=ha.refE;subst ex
  simp only at z
  cases hsr:st[r]? with
  | none=>rw[hsr]at z;cases z
  | some o =>
   rw[hsr]at z
   cases o with
   | lst l =>
    cases b with
    | int i =>
     simp only at z
     split at z
     ·rename_i d' e
      cases z
      have Y:=hb.intE;subst Y
      obtain⟨xs,e1,d1⟩:=R.addr hsr
      obtain⟨w,e2,e3⟩:=aV5 d1 e
      have wf:=R.wf _ _ hsr
      unfold jf at wf
      exact aH7 hK F G J s σ H _ _ v u Q I rx ry ⟨φ r,xs,i,w,rfl,rfl,SqL.of e1,e2,q.here R (ad3.mp wf _ (aE5 e)) e3⟩ hs
     ·exact fb z
    | _=>exact fb z
   | ro l =>
    cases b with
    | int i =>
     simp only at z
     split at z
     ·rename_i d' e
      cases z
      have Y:=hb.intE;subst Y
      obtain⟨xs,e1,d1⟩:=R.obj _ _ hsr
      obtain⟨w,e2,e3⟩:=aV5 d1 e
      have wf:=R.wf _ _ hsr
      unfold jf at wf
      exact aH7 hK F G J s σ H _ _ v u Q I rx ry ⟨φ r,xs,i,w,rfl,rfl,e1.1,e2,q.here R (ad3.mp wf _ (aE5 e)) e3⟩ hs
     ·exact fb z
    | _=>exact fb z
   | dic l =>
    simp only at z
    split at z
    case isFalse=>exact fb z
    rename_i N
    obtain⟨k,hk⟩:=am8 N
    obtain⟨kvs,e1,d1⟩:=R.obj r _ hsr
    have Y:=ay8 hk hb;subst Y
    cases rx
    rcases d1.val keyOf_inj hk with⟨q1,_⟩|⟨e,v',q1,q2,q3,q4⟩
    ·rw[q1]at z;cases z
    ·rw[q1]at z
     cases z
     have wf:=R.wf _ _ hsr
     unfold jf at wf
     rw[ag]at wf
     have g:aA3 H (φ r) (kV k) (some v'):=by rw[<-q2];exact aA3.k e1
     exact ic (ap0 I g) dY.lookup (az8 hu I g ry fun w' s' I' Z=>⟨v',H,I',Z,q.here R (ad3.mp wf.2 _ q4) q3⟩) hs
   | dit l =>
    simp only at z
    split at z
    case isFalse=>exact fb z
    rename_i N
    obtain⟨k,hk⟩:=ao0 N
    obtain⟨kvs,e1,d1⟩:=R.obj r _ hsr
    obtain⟨kb,Y,a0⟩:=aB6 hk hb;subst Y
    cases rx
    rcases d1.val keyT_inj hk with⟨q1,_⟩|⟨e,v',q1,q2,q3,q4⟩
    ·rw[q1]at z;cases z
    ·rw[q1]at z
     cases z
     have wf:=R.wf _ _ hsr
     unfold jf at wf
     rw[ag]at wf
     have g:aA3 H (φ r) (.ref kb) (some v'):=by rw[<-q2];exact aA3.t e1 a0
     exact ic (ap0 I g) dY.lookup (az8 hu I g ry fun w' s' I' Z=>⟨v',H,I',Z,q.here R (ad3.mp wf.2 _ q4) q3⟩) hs
   | ins c l=>cases b<;>cases z
 | _=>cases b<;>cases z
theorem aO6 (n d:Nat)(i:Int):HT.sIx n d (some i)=jG n i:=by
 show(if i<0 then(i+(n:Int)).toNat else min i.toNat n)=_
 unfold jG
 by_cases h:i<0
 ·rw[if_pos h,if_neg (by omega)]
 ·rw[if_neg h,if_pos (by omega)]
theorem bg1 {φ:Nat->Addr}{H:Hp}{l:List i9}{G:List V}(h:RVL Γ φ H l G)(F z:Option Int):RVL Γ φ H (jy l F z) (aJ5 G F z):=by
 unfold jy aJ5
 have e1:HT.sIx G.length 0 F=jI l.length F:=by
  cases F with
  | none=>rfl
  | some i=>rw[aO6,h.length];rfl
 have e2:HT.sIx G.length G.length z=j1 l.length z:=by
  cases z with
  | none=>exact h.length
  | some i=>rw[aO6,h.length];rfl
 rw[e1,e2]
 exact(h.drop _).take _
theorem aJ1 {α:Type}{l:List α}{z h:Option Int}:∀ d∈jy l z h,d∈l:=fun d hd=>fL (dv hd)
theorem aX5 {α:Type}(l:List α)(h z:Option Int):(jy l h z).length<=l.length:=by
 unfold jy
 rw[bK,cJ]
 omega
theorem bP2 (z F:Option Int)(n:Nat):bp z F 1 n=(bB (j1 n F - jI n z)).map (jI n z+·):=by
 rw[<-sliceRange_one]
 unfold bp
 have cl:∀ i:Int,max 0 (min (if i<0 then i+(n:Int)else i) (n:Int))=((jG n i:Nat):Int):=fun i=>by
  unfold jG
  by_cases h:i<0
  ·rw[if_pos h,if_neg (by omega)];omega
  ·rw[if_neg h,if_pos (by omega)];omega
 simp only[show((1:Int) > 0)=True by simp,if_true]
 cases z<;>cases F<;>simp only[cl,jI,j1]<;>rfl
theorem aF3 {l:List Nat}:∀(a k:Nat),a+k<=l.length->((bB k).map (a+·)).filterMap (fun x=>l.toArray[x]?)=(l.drop a).take k
 | a,0,_=>by simp
 | a,k+1,h=>by
  rw[List.range_succ,cy,List.filterMap_append,aF3 a k (by omega)]
  have hk:a+k<l.length:=by omega
  rw[List.take_add_one,List.getElem?_drop]
  simp[hk]
theorem aR0 (l:List Nat)(z h:Option Int):dC ⟨l.toArray⟩ z h=⟨(jy l z h).toArray⟩:=by
 unfold dC
 have hn:(⟨l.toArray⟩:Str).length=l.length:=by show l.toArray.size=_;simp
 rw[hn,bP2]
 have hb:j1 l.length h<=l.length:=by
  cases h with
  | none=>exact ai _
  | some i=>show jG l.length i<=_;unfold jG;split<;>omega
 have ha:jI l.length z<=l.length:=by
  cases z with
  | none=>exact c0 _
  | some i=>show jG l.length i<=_;unfold jG;split<;>omega
 unfold jy
 generalize j1 l.length h=b at *
 generalize jI l.length z=a at *
 by_cases hc:((1:Int)==1&&((bB (b - a)).map (a+·)).length==l.length)=true
 ·rw[if_pos hc]
  have:b - a=l.length:=by simpa using hc
  have h0:a=0\/l.length=0:=by omega
  rcases h0 with h0|h0
  ·subst h0
   rw[this];simp
  ·have:l=[]:=ci.mp h0
   subst this;simp
 ·rw[if_neg hc]
  by_cases hab:a<=b
  ·have e:=aF3 (l:=l) a (b - a) (by omega)
   show(⟨(fI (fun x=>l.toArray[x]?) _).toArray⟩:Str)=_
   rw[e]
  ·rw[show b - a=0 by omega];simp
def rSl (Γ:Gm):V->Option Int->Option Int->Hp->VK->Prop:=fun x lo hi H Q=>∃ φ s a d s',Rp Γ φ H s/\RV Γ φ H a x/\a.bnd s.length=true/\j2 a lo hi s=.ok d s'/\aj4 Γ φ s H d s' Q
theorem bB3 (hK:X.K=Γ.K):SlR X (rSl Γ):=by
 intro F s σ H x v vl vu J N sl Q I rx hs Y pu h
 obtain⟨φ,st,a,d,a0,R,ha,Z,G,q⟩:=h
 unfold j2 at G
 cases a with
 | tup l =>
  cases G
  obtain⟨p,xs,⟨rfl,z1⟩,h1,d1⟩:=ha.tupZ
  unfold je at Z
  refine bp4 hK F s σ H _ v vl vu J N sl Q I rx hs Y pu ⟨p,xs,rfl,h1,fun t H' e ht hn=>?_⟩
  obtain⟨g,r'⟩:=R.same e
  have d2:=bg1 (RVL.mono g _ _ Z d1) J N
  refine q _ _ _ g (ai _) (by unfold je;exact av0 Z aJ1) (RV.tupC ht (fun z=>?_) d2) r'
  rcases hn with hn|⟨rfl,ex⟩
  ·exact hn
  ·rw[ex]
   refine e _ _ (z1 ?_)
   have hl:(jy l J N).length=l.length:=by rw[<-d2.length,ex,d1.length]
   rwa [aP8 hl]at z
 | str l =>
  cases G
  have hl:=ha.strL
  have ex:=ha.strE;subst ex
  refine bI1 F s σ H _ v vl vu J N sl Q I rx hs Y pu ⟨_,rfl,by show l.toArray.size<=_;rw[ao];exact aj hl zB,?_⟩
  rw[aR0]
  exact q.here R rfl (RV.strI (aj (aX5 l J N) hl))
 | ref r =>
  have ex:=ha.refE;subst ex
  simp only at G
  cases hsr:st[r]? with
  | none=>rw[hsr]at G;cases G
  | some o =>
   rw[hsr]at G
   cases o with
   | lst l =>
    obtain⟨rfl,rfl⟩:=zP G
    obtain⟨xs,e1,d1⟩:=R.addr hsr
    have wf:=R.wf _ _ hsr
    unfold jf at wf
    exact aY4 hK F s σ H _ v vl vu J N sl Q I rx hs Y pu ⟨φ r,xs,rfl,SqL.of e1,fun p hp=>q.alloc R (bg1 d1 J N) (av0 wf aJ1) hp⟩
   | _=>exact fb G
 | _=>exact fb G
variable {Γ:Gm} {X:Cx}
def rCl (Γ:Gm)(f:List i9->i8->jc i9):List V->Hp->VK->Prop:=fun xs H Q=>∃ φ s l d s',Rp Γ φ H s/\RVL Γ φ H l xs/\ja s.length l=true/\f l s=.ok d s'/\aj4 Γ φ s H d s' Q
theorem RVL.one {φ:Nat->Addr}{H:Hp}{d:i9}{z:List V}(h:RVL Γ φ H [d] z):∃ x,z=[x]/\RV Γ φ H d x:=by
 obtain⟨x,r,rfl,F,G⟩:=h.uncons
 rw[G.unnil];exact⟨x,rfl,F⟩
noncomputable def biN:jC->Option (String×Nat)
 | .len=>some ("len",1)|.abs=>some ("abs",1)|.min2=>some ("min",2)|.max2=>some ("max",2)|_=>none
theorem zL:∀ {l:List i9} {is:List Int},jO l=some is->l=is.map DV.D.int
 | [],is,h=>by unfold jO at h;cases h;rfl
 | d::l,is,h=>by
  cases d with
  | int i =>
   have h:(jO l).map (i::·)=some is:=h
   cases e:jO l with
   | none=>rw[e]at h;cases h
   | some m=>rw[e]at h;cases h;rw[zL e];rfl
  | _=>cases h
theorem ao9:∀ {l:List i9} {is:List Bool},jR l=some is->l=is.map DV.D.bl
 | [],is,h=>by unfold jR at h;cases h;rfl
 | d::l,is,h=>by
  cases d with
  | bl i =>
   have h:(jR l).map (i::·)=some is:=h
   cases e:jR l with
   | none=>rw[e]at h;cases h
   | some m=>rw[e]at h;cases h;rw[ao9 e];rfl
  | _=>cases h
theorem RVL.ints {φ:Nat->Addr}{H:Hp}:∀ {is:List Int} {z:List V},RVL Γ φ H (is.map DV.D.int) z->z=is.map V.int
 | [],_,h=>h.unnil
 | i::is,_,h=>by
  obtain⟨x,r,rfl,F,G⟩:=RVL.uncons h
  rw[F.intE,RVL.ints G];rfl
theorem RVL.bls {φ:Nat->Addr}{H:Hp}:∀ {is:List Bool} {z:List V},RVL Γ φ H (is.map DV.D.bl) z->z=is.map V.bl
 | [],_,h=>h.unnil
 | i::is,_,h=>by
  obtain⟨x,r,rfl,F,G⟩:=RVL.uncons h
  rw[F.blE,RVL.bls G];rfl
theorem aP0 {f:i9->jQ i9}{l:List i9}{s s':i8}{d:i9}(h:kh f l s=.ok d s'):∃ a,l=[a]/\f a s=.ok d s':=by
 match l,h with
 | [a],h=>exact⟨a,rfl,h⟩
 | [],h=>exact fb h
 | _::_::_,h=>exact fb h
theorem aY0 (J:X.K=Γ.K)(hc:X.calm=true){b:jC}{N:String}{k:Nat}(hn:biN b=some (N,k)):ai1 X (.builtin N) (rCl Γ (kj b)):=by
 intro z s σ H xs us Q I r h
 obtain⟨φ,st,l,d,G,R,hl,nl,F,q⟩:=h
 cases b with
 | len =>
  cases hn
  have F:kh DV.bo9 l st=.ok d G:=F
  obtain⟨a,rfl,hg⟩:=aP0 F
  clear F
  obtain⟨x,rfl,hx⟩:=hl.one
  unfold DV.bo9 at hg
  cases a with
  | tup l =>
   cases hg
   obtain⟨p,ys,rfl,Y,d1⟩:=hx.tupE
   refine ao7 J z s σ H _ us Q I r ⟨p,ys,rfl,.inr Y,?_⟩
   rw[d1.length];exact q.here R rfl RV.intI
  | str l =>
   cases hg
   have Z:=hx.strL
   have e:=hx.strE;subst e
   refine ay6 z s σ H _ us Q I r ⟨_,rfl,by show l.toArray.size<=_;rw[ao];exact aj Z zB,?_⟩
   show Q (.int ((l.toArray.size:Nat):Int)) H
   rw[ao]
   exact q.here R rfl RV.intI
  | ref n =>
   have e:=hx.refE;subst e
   simp only at hg
   cases hs:st[n]? with
   | none=>rw[hs]at hg;cases hg
   | some o =>
    rw[hs]at hg
    cases o with
    | lst l =>
     cases hg
     obtain⟨ys,e1,d1⟩:=R.addr hs
     refine ao7 J z s σ H _ us Q I r ⟨φ n,ys,rfl,.inl (SqL.of e1),?_⟩
     rw[d1.length];exact q.here R rfl RV.intI
    | ro l =>
     cases hg
     obtain⟨ys,e1,d1⟩:=R.obj _ _ hs
     refine ao7 J z s σ H _ us Q I r ⟨φ n,ys,rfl,.inl e1.1,?_⟩
     rw[d1.length];exact q.here R rfl RV.intI
    | dic l=>exact fb hg
    | dit l=>exact fb hg
    | ins c l=>exact fb hg
  | _=>exact fb hg
 | abs =>
  cases hn
  have F:(match jO l with|some [i]=>.ok (.int (if i<0 then -i else i)) st|_=>.bad:jc i9)=.ok d G:=F
  split at F
  ·rename_i i e
   cases F
   have:=zL e;subst this
   have:=RVL.ints hl;subst this
   exact ba2 z s σ H _ us Q I r ⟨i,rfl,q.here R rfl RV.intI⟩
  ·exact fb F
 | min2 =>
  cases hn
  have F:(match jO l with|some [a,b]=>.ok (.int (if b<a then b else a)) st|_=>.bad:jc i9)=.ok d G:=F
  split at F
  ·rename_i a b e
   cases F
   have:=zL e;subst this
   have:=RVL.ints hl;subst this
   exact aT4 hc z s σ H _ us Q I r ⟨_,_,rfl,q.here R rfl RV.intI⟩
  ·exact fb F
 | max2 =>
  cases hn
  have F:(match jO l with|some [a,b]=>.ok (.int (if b > a then b else a)) st|_=>.bad:jc i9)=.ok d G:=F
  split at F
  ·rename_i a b e
   cases F
   have:=zL e;subst this
   have:=RVL.ints hl;subst this
   exact aS3 hc z s σ H _ us Q I r ⟨_,_,rfl,q.here R rfl RV.intI⟩
  ·exact fb F
 | _=>cases hn
theorem bB2:ai1 X (.type "int") (rCl Γ (kj .int)):=by
 intro z s σ H N us Q I r h
 obtain⟨φ,st,l,d,G,R,hl,J,F,q⟩:=h
 have F:(match jR l with|some [b]=>.ok (.int (if b then 1 else 0)) st|_=>.bad:jc i9)=.ok d G:=F
 split at F
 ·rename_i b e
  cases F
  have:=ao9 e;subst this
  have:=RVL.bls hl;subst this
  exact aV7 z s σ H _ us Q I r (.inr ⟨b,rfl,q.here R rfl RV.intI⟩)
 ·exact fb F
noncomputable def aq5:Nat->String
 | 1 => "int" | 2 => "bool" | 3 => "str" | 4 => "tuple" | _ => "list"
theorem bk0 {K:ac}(k:Nat)(hk:1<=k/\k<=5):bQ K (.type "NoneType") (.type (aq5 k))=some false/\bQ K (.type "bool") (.type (aq5 k))=some (k==1||k==2) /\
  bQ K (.type "int") (.type (aq5 k))=some (k==1)/\bQ K (.type "str") (.type (aq5 k))=some (k==3)/\bQ K (.type "tuple") (.type (aq5 k))=some (k==4)/\bQ K (.type "list") (.type (aq5 k))=some (k==5):=by
 obtain⟨F,z⟩:=hk
 rcases(by omega:k=1\/k=2\/k=3\/k=4\/k=5)with h|h|h|h|h<;>subst h<;>refine⟨?_,?_,?_,?_,?_,?_⟩<;>with_unfolding_all rfl
theorem aK8 {F:List (Addr×Obj)}{σ:St}{H:Hp}{s:ae}{A:aR}{E:Value->ae->Prop}{Q:Value->ae->Prop}{c:Value}{b:Bool}{a:Addr}{N:List V}(I:Inv X F σ H s)(J:SqT X.K H a N)(e:bQ X.K (.type "tuple") c=some b)
  (h:∀ tk,Q (.bool b) { s with toks:=tk }):wpAny (model X.prog X.w) A (call (.builtin "isinstance") [.ref a,c]) Q E s:=by
 obtain⟨its,_,⟨o,g1,G,_⟩,_⟩:=I.tuple J
 exact bz gj I.kIn ⟨o,g1,G⟩ e (fun z=>nomatch z) h
theorem bG5 (Y:X.K=Γ.K){k:Nat}(hk:1<=k/\k<=5):ai1 X (.builtin "isinstance") (fun J H Q=>∃ x,J=[x,.ty (aq5 k)]/\rCl Γ (kh (kn k)) [x] H Q):=by
 intro F s σ H J us Q I r h
 obtain⟨x,rfl,φ,st,l,d,z,R,hl,nl,N,q⟩:=h
 obtain⟨a,rfl,hg⟩:=aP0 N
 clear N
 obtain⟨u,w',rfl,r1,r2⟩:=bj5 r
 cases r2
 obtain⟨x',e',hx⟩:=hl.one
 cases e'
 obtain⟨k0,k1,k2,k3,Z,k5⟩:=bk0 (K:=X.K) k hk
 unfold kn at hg
 cases a with
 | non=>cases hg;have e:=hx.nonE;subst e;exact qd I r1 .non k0 fun tk=>⟨.bl _,H,I.tok _,rfl,q.here R rfl RV.blI⟩
 | bl b=>cases hg;have e:=hx.blE;subst e;exact qd I r1 (.bl b) k1 fun tk=>⟨.bl _,H,I.tok _,rfl,q.here R rfl RV.blI⟩
 | int b=>cases hg;have e:=hx.intE;subst e;exact qd I r1 (.int b) k2 fun tk=>⟨.bl _,H,I.tok _,rfl,q.here R rfl RV.blI⟩
 | str b=>cases hg;have e:=hx.strE;subst e;exact qd I r1 (.str _) k3 fun tk=>⟨.bl _,H,I.tok _,rfl,q.here R rfl RV.blI⟩
 | tup l =>
  cases hg
  obtain⟨p,ys,rfl,G,d1⟩:=hx.tupE
  cases r1
  rw[<-Y]at G
  exact aK8 I G Z fun tk=>⟨.bl _,H,I.tok _,rfl,q.here R rfl RV.blI⟩
 | ref n =>
  have e:=hx.refE;subst e
  have hg:(match st[n]? with|some (.lst _)=>.ok (.bl (k==5)) st|_=>.bad:jc i9)=.ok d z:=hg
  cases hs:st[n]? with
  | none=>rw[hs]at hg;cases hg
  | some o =>
   rw[hs]at hg
   cases o with
   | lst l =>
    cases hg
    obtain⟨ys,e1,d1⟩:=R.addr hs
    exact qd I r1 (.lst e1) k5 fun tk=>⟨.bl _,H,I.tok _,rfl,q.here R rfl RV.blI⟩
   | _=>exact fb hg
 | _=>exact fb hg
variable {X:Cx}
theorem br2 {bs:List Bool}{its:List Value}(r:Vals (bs.map V.bl) its){i:Nat}{v:Value}(h:its[i]?=some v):∃ z,bs[i]?=some z/\v=Value.bool z:=by
 induction bs generalizing its i with
 | nil=>rw[cL]at r;cases r;simp at h
 | cons b bs ih =>
  rw[aY]at r
  cases r with
  | cons r1 r2 =>
   cases i with
   | zero =>
    cases r1
    have:_=v:=av h
    exact⟨b,rfl,this.symm⟩
   | succ i=>exact ih r2 h
theorem aN3 {bs:List Bool}:(bB bs.length).all (fun i=>bs.getD i false)=bs.all id:=by
 rw[fu,aQ,aQ]
 constructor
 ·intro h b hb
  obtain⟨i,z,e⟩:=cI.mp hb
  have:=h i (cc.mpr z)
  rw[be,am z]at this
  rw[<-e];exact this
 ·intro h i z
  have z:=cc.mp z
  rw[be,am z]
  exact h _ (eO z)
theorem aR3 {K:ac}(hc:X.calm=true)(hK:X.K=K):ai1 X (.builtin "all") (fun Z H Q=>∃(a:Addr) (bs:List Bool),Z=[.ref a]/\SqL K H a (bs.map V.bl)/\Q (.bl (bs.all id)) H):=by
 subst hK
 intro N s σ H Z us Q I r h
 obtain⟨a,bs,rfl,hS,q⟩:=h
 obtain⟨u,rfl,ru⟩:=am7 r
 cases ru
 obtain⟨its,Y,G,hz⟩:=I.list hS
 have hl:=Y.length
 rw[aK]at hl
 refine call_all_walk (cC G.isList ?_)
 have J:a<s.heap.objs.size:=by obtain⟨o,_,e,_⟩:=G;exact aC e
 have W:=io (prog:=X.prog) (w:=X.w) (A:=X.A.in1) (I.ok.hd hc) s.heap.objs.size a (ay J) its.toArray
 refine⟨_,_,_,_,_,_,fun i=>bs.getD i false,rfl,W,⟨⟨_,aZ _ rfl,rfl,rfl⟩,?_⟩,fun i v s' Q' E' F hQ=>?_,fun h' tk k=>?_⟩
 ·obtain⟨o,e,r⟩:=G.isList
  exact⟨o,ar _ e,r⟩
 ·obtain⟨z,e1,e2⟩:=br2 Y (i:=i) (v:=v) (by have F:its.toArray[i]?=some v:=F;rw[cA]at F;exact F)
  subst e2
  refine b8 ?_
  have:bs.getD i false=z:=by rw[be,e1];rfl
  rw[<-this];exact hQ
 ·have es:its.toArray.size=bs.length:=by rw[ao];omega
  rw[es,aN3]
  refine⟨.bl (bs.all id),H,I.kept (h':=h') (t':=tk) fun b o q=>k b o ?_ (ar _ q),rfl,q⟩
  intro z
  have z':b=s.heap.objs.size:=by simpa using z
  exact absurd (aC q) (by rw[z'];exact bt _)
noncomputable def sgV (x:List Nat):List V:=x.map fun c=>.str ⟨#[c]⟩
theorem bt1 {vs:List V}{z:List Value}(hl:vs.length=z.length)(h:∀(i:Nat) (x:V) (u:Value),vs[i]?=some x->z[i]?=some u->RelV x u):Vals vs z:=by
 induction vs generalizing z with
 | nil=>cases z with
  | nil=>exact .nil
  | cons _ _=>cases hl
 | cons v vs ih=>cases z with
  | nil=>cases hl
  | cons a z=>exact .cons (h 0 v a rfl rfl) (ih (by simpa using hl) fun i x u e1 e2=>h (i+1) x u e1 e2)
theorem as2 {x:List Nat}{z:Array Value}(h:ItemsOf (SignAt ⟨x.toArray⟩) z x.length):Vals (sgV x) z.toList:=by
 have hl:(sgV x).length=z.toList.length:=by unfold sgV;rw[aK];simpa using h.1.symm
 refine bt1 hl fun i v u e1 e2=>?_
 obtain⟨c,t,F,G⟩:=h.2 i u (by rw[<-fz];exact e2)
 unfold sgV at e1
 rw[aU]at e1
 have F:x[i]?=some c:=by simpa using F
 rw[F]at e1
 cases e1
 exact⟨t,G⟩
theorem aB1 (hc:X.calm=true):ai1 X (.type "tuple") (fun N H Q=>∃ x:List Nat,N=[.str ⟨x.toArray⟩]/\x.length<=jg/\∀ l,H l=none->Q (.ref l) (upd H l (.tup (sgV x)))):=by
 intro z s σ H N us Q I r h
 obtain⟨x,rfl,hl,q⟩:=h
 obtain⟨u,rfl,rx⟩:=am7 r
 obtain⟨t,rfl⟩:=rx
 have hz:(sgV x).length<=aD:=by unfold sgV;rw[aK];exact aj hl zB
 refine call_tuple_str (I.ok.hd hc) _ t (fun h' tk F kp G=>?_) (by show x.toArray.size<=_;rw[ao];exact aj hl zB)
 have G:ItemsOf (SignAt ⟨x.toArray⟩) F x.length:=by simpa using G
 have Y:=as2 G
 have J:Inv X z σ H { s with heap:=h',toks:=tk }:=I.kept (t':=tk) kp
 have Z:Inv X z σ (upd H h'.objs.size (.tup (sgV x))) { s with heap:=h'.push { cls:=.type "tuple",data:=.seq F },toks:=tk } :=
  J.laid (t':=tk) (fun b o e=>ar _ e) (ai _) (show ah8 X.prog X.w _ _ _ (.tup (sgV x))from⟨hz,F.toList,Y,gM _ _⟩)
 exact⟨.ref h'.objs.size,_,Z,rfl,q _ (J.hok.fresh (ai _))⟩
theorem aL4 (hc:X.calm=true):ai1 X (.type "list") (fun J H Q=>∃ x:List Nat,J=[.str ⟨x.toArray⟩]/\x.length<=jg/\∀ l,H l=none->Q (.ref l) (upd H l (.lst (sgV x)))):=by
 intro G s σ H J us Q I r h
 obtain⟨x,rfl,hl,q⟩:=h
 obtain⟨u,rfl,Z⟩:=am7 r
 obtain⟨t,rfl⟩:=Z
 have hz:(sgV x).length<=aD:=by unfold sgV;rw[aK];exact aj hl zB
 refine call_list_str (I.ok.hd hc) _ t (fun h' tk z N kp e F=>?_) (by show x.toArray.size<=_;rw[ao];exact aj hl zB)
 have F:ItemsOf (SignAt ⟨x.toArray⟩) z x.length:=by simpa using F
 have Y:=as2 F
 exact⟨.ref s.heap.objs.size,_,I.laid (t':=tk) kp (ai _) (show ah8 X.prog X.w _ h' _ (.lst (sgV x))from⟨hz,z.toList,N,Y,e⟩),rfl,q _ (I.hok.fresh (ai _))⟩
section
variable {Γ:Gm} {φ φ':Nat->Addr} {H H' H1 H2 H3:Hp} {clos:List (Str×Addr)} {s s':i8}
theorem zA (hc:Cells clos H){a:Addr}{u:HO}(e:H a=some u)(h:∀ o,u≠.frz o (.own a)):isC clos a≠true:=fun z=>by
 obtain⟨o,v,q,_⟩:=hc.at z
 rw[e]at q;cases q;exact h o rfl
theorem SqT.dropC {K:ac}{a:Addr}{F:List V}(hc:Cells clos H)(h:SqT K H a F):SqT K (ah9 clos H) a F:=by
 rcases h with(h|⟨o,h⟩)|h
 ·exact .inl (.inl (by rw[ah9.ne (zA hc h (fun _ z=>by cases z))];exact h))
 ·exact .inl (.inr ⟨o,by rw[ah9.ne (zA hc h (fun _ z=>by cases z))];exact h⟩)
 ·exact .inr h
theorem SqL.dropC {K:ac}{a:Addr}{F:List V}(hc:Cells clos H)(h:SqL K H a F):SqL K (ah9 clos H) a F:=by
 rcases h with(h|⟨o,h⟩)|h
 ·exact .inl (.inl (by rw[ah9.ne (zA hc h (fun _ z=>by cases z))];exact h))
 ·exact .inl (.inr ⟨o,by rw[ah9.ne (zA hc h (fun _ z=>by cases z))];exact h⟩)
 ·exact .inr h
theorem SqF.dropC {K:ac}{a:Addr}{G:List V}(hc:Cells clos H)(h:SqF K H a G):SqF K (ah9 clos H) a G:=by
 refine⟨SqL.dropC hc h.1,fun F k=>?_⟩
 have hk:Kp H (fun b=>if isC clos b=true then H b else F b):=fun b o e f=>by
  by_cases z:isC clos b=true
  ·show(if isC clos b=true then H b else F b)=_;rw[if_pos z];exact e
  ·show(if isC clos b=true then H b else F b)=_
   rw[if_neg z]
   exact k b o (by rw[ah9.ne z];exact e) f
 have q:=h.2 _ hk
 have at_:∀ u,(if isC clos a=true then H a else F a)=some u->(∀ o,u≠.frz o (.own a))->F a=some u:=fun u e J=>by
  by_cases z:isC clos a=true
  ·rw[if_pos z]at e
   exact absurd z (zA hc e J)
  ·rw[if_neg z]at e;exact e
 rcases q with(q|⟨o,q⟩)|q
 ·exact .inl (.inl (at_ _ q (fun _ z=>by cases z)))
 ·exact .inl (.inr ⟨o,at_ _ q (fun _ z=>by cases z)⟩)
 ·exact .inr q
mutual
theorem RV.dropC (hc:Cells clos H):∀(d:i9) (v:V),d.ncl=true->RV Γ φ H d v->RV Γ φ (ah9 clos H) d v
 | .non,_,_,h=>by unfold RV at h ⊢;exact h
 | .bl _,_,_,h=>by unfold RV at h ⊢;exact h
 | .int _,_,_,h=>by unfold RV at h ⊢;exact h
 | .str _,_,_,h=>by unfold RV at h ⊢;exact h
 | .tup l,_,n,h=>by
  unfold RV at h ⊢
  unfold ko at n
  obtain⟨a,F,e,q,r⟩:=h
  exact⟨a,F,e,⟨SqT.dropC hc q.1,fun z=>by rw[ah9.ne (zA hc (q.2 z) (fun _ z=>by cases z))];exact q.2 z⟩,RVL.dropC hc l F n r⟩
 | .ref k,_,_,h=>by unfold RV at h ⊢;exact h
 | .fn _,_,_,h=>by unfold RV at h ⊢;exact h
 | .clo id cs,_,n,h=>by unfold ko at n;cases n
theorem RVL.dropC (hc:Cells clos H):∀(l:List i9) (z:List V),jM l=true->RVL Γ φ H l z->RVL Γ φ (ah9 clos H) l z
 | [],_,_,h=>by unfold RVL at h ⊢;exact h
 | d::l,_,n,h=>by
  unfold jM at n
  rw[ag]at n
  obtain⟨x,r,e,F,G⟩:=h.uncons
  subst e
  exact .cons (RV.dropC hc d x n.1 F) (RVL.dropC hc l r n.2 G)
end
theorem RVD.dropC {κ:Type}{z:i9->Option κ}(hc:Cells clos H):∀(l:List (i9×i9)) (kvs:List (κ×V)),jM (l.map (·.2))=true->RVD z Γ φ H l kvs->RVD z Γ φ (ah9 clos H) l kvs
 | [],_,_,h=>h
 | (d,e)::l,_,n,h=>by
  obtain⟨k,v,r,e1,e2,F,G⟩:=h
  rw[aY]at n
  unfold jM at n
  rw[ag]at n
  exact⟨k,v,r,e1,e2,RV.dropC hc e v n.1 F,RVD.dropC hc l r n.2 G⟩
theorem RO.dropC {a:Addr}{o:jz}(hc:Cells clos H)(h:RO Γ φ H a o)(n:o.ncl=true):RO Γ φ (ah9 clos H) a o:=by
 cases o with
 | lst l =>
  obtain⟨F,e,r⟩:=h
  exact⟨F,by rw[ah9.ne (zA hc e (fun _ z=>by cases z))];exact e,RVL.dropC hc l F n r⟩
 | ro l =>
  obtain⟨F,e,r⟩:=h
  exact⟨F,SqF.dropC hc e,RVL.dropC hc l F n r⟩
 | dic l =>
  obtain⟨F,e,r⟩:=h
  exact⟨F,by rw[ah9.ne (zA hc e (fun _ z=>by cases z))];exact e,RVD.dropC hc l F n r⟩
 | dit l =>
  obtain⟨F,e,r⟩:=h
  exact⟨F,by rw[ah9.ne (zA hc e (fun _ z=>by cases z))];exact e,RVD.dropC hc l F n r⟩
 | ins _ _=>exact h.elim
theorem TabsH.dropC {T:List (Addr×Str)}(hc:Cells clos H)(h:TabsH T H):TabsH T (ah9 clos H):=fun y hy=>by
 obtain⟨ps,e,t,c⟩:=h y hy
 refine⟨ps,by rw[ah9.ne (zA hc e (fun _ z=>by cases z))];exact e,t,fun pos F q=>?_⟩
 obtain⟨G,e1,e2⟩:=c pos F q
 exact⟨G,e1,by rw[ah9.ne (zA hc e2 (fun _ z=>by unfold ay7 at z;cases z))];exact e2⟩
theorem Rp.dropC (hc:Cells clos H)(r:Rp Γ φ H s)(n:s.all DV.O.ncl=true):Rp Γ φ (ah9 clos H) s :=
 ⟨r.inj,fun i o e=>RO.dropC hc (r.obj i o e) (aQ.mp n o (bv e)),r.wf,TabsH.dropC hc r.tab⟩
theorem aR4 (h:∀ b,isC clos b=true->H' b=none):aj9 H' (Put clos H H'):=fun b o e=>by
 rw[Put.ne (fun z=>by rw[h b z]at e;cases e)];exact e
theorem Gr.put (hc:Cells clos H)(F:∀ b,isC clos b=true->H' b=none)(Z:∀ b o,Γ.K.lookup b=some o->H b=none)(R':Rp Γ φ' H' s')(g:Gr φ s (ah9 clos H) φ' s' H'):Gr φ s H φ' s' (Put clos H H'):=by
 refine⟨⟨g.w.map,fun b o e f=>?_⟩,g.le,fun i Y J=>?_,g.kd,fun b e=>?_,fun b o e nt no=>?_⟩
 ·by_cases z:isC clos b=true
  ·rw[Put.cell z];exact e
  ·rw[Put.ne z];exact g.w.kp b o (by rw[ah9.ne z];exact e) f
 ·have hd:=g.new i Y J
  by_cases z:isC clos (φ' i)=true
  ·have hg:=F _ z
   obtain⟨o,N⟩:∃ o,s'[i]?=some o:=⟨s'[i],am J⟩
   have h:=R'.obj i o N
   cases o with
   | lst l=>obtain⟨G,e,_⟩:=h;rw[hg]at e;cases e
   | ro l =>
    obtain⟨G,e,_⟩:=h
    rcases e.1 with(e|⟨_,e⟩)|⟨ob,its,n,e,_⟩
    ·rw[hg]at e;cases e
    ·rw[hg]at e;cases e
    ·exact Z _ _ e
   | dic l=>obtain⟨G,e,_⟩:=h;rw[hg]at e;cases e
   | dit l=>obtain⟨G,e,_⟩:=h;rw[hg]at e;cases e
   | ins _ _=>exact h.elim
  ·rw[ah9.ne z]at hd;exact hd
 ·by_cases z:isC clos b=true
  ·rw[Put.cell z];exact e
  ·rw[Put.ne z];exact g.st b (by rw[ah9.ne z];exact e)
 ·by_cases z:isC clos b=true
  ·rw[Put.cell z];exact e
  ·rw[Put.ne z];exact g.fr b o (by rw[ah9.ne z];exact e) nt no
theorem bj9 {P:aG}{w:World}{K:ac}{mg:Str->Option Value}{base:Heap}{k:Nat}{f:Addr}{N ps fr:List Str}{name qual:Str}{params:bP}{body:List Stmt}{scope:Scope}{h:List (Str×Addr)}{cap:List V}{sp:Sp}
  (S:LamScope N ps fr scope) (len:∀ vs H Q E,sp vs H Q E->vs.length=ps.length) (a4:cap.length=fr.length)
  (Y:∀(a1 pm:Value) (c':Addr) (Z:Value) (us:List Value),us.length=ps.length->c6 (d6 name qual params body scope h .none .none a1 pm none (.ref c') Z) ⟨us,[]⟩=pure (ps.zip us))
  (a0:∀(A:aR) (F:List Env) (s:ae) (H:Hp) (cd:Value) (vs:List V) (Q:VK),Room k (A.deeper (cq qual scope s.heap.objs.size f cd (aI (s.heap.objs.size+1) scope.names h)))->aq7 H f name qual params body scope fr cap h->(∀ b o,K.lookup b=some o->H b=none)->sp vs H Q E0 ->
   ∃ t,PSs (aB8 P w K mg base N qual scope f cd h A F s H) body t/\t { nx:=fun _ H'=>(∀ b,isC h b=true->H' b=none)->Q .non (Put h H H'),rt:=fun v H'=>(∀ b,isC h b=true->H' b=none)->Q v (Put h H H') } (vs.map some++cap.map some) (ah9 h H)) :
  ClOk P w K mg base (k+1) (fun H=>aq7 H f name qual params body scope fr cap h) f sp:=by
 refine⟨fun A F s H us vs Q hr G hR r a3=>?_⟩
 have hl:=len _ _ _ _ a3
 obtain⟨a1,pm,c',Z,h1,h2,h3,h4,h5,h6⟩:=id hR
 have a5:s.heap.NoLimit:=G.mod.nolimit.keeps fun b o e=>(G.bs b o e).1
 refine fw hr.depth (au0 G.hok h1) rfl S.co S.gen rfl (aw3 G.hok h2) ?_
 rw[Y a1 pm c' Z us (by rw[<-r.length];exact hl)]
 refine aF (ar9 S.kind (fun y hy=>?_) fun env he s1 x=>?_)
 ·rcases S.par y.1 (cQ (show(y.1,y.2)∈ps.zip us from hy)).1 with q|q
  ·exact .inl q
  ·exact .inr ⟨q,zG q⟩
 ·subst he
  refine⟨a5.keeps x.toInCall.keep,codeAny_func ?_⟩
  obtain⟨t,ht,hq⟩:=a0 A F s H (.ref c') vs Q (hr.deeper _) hR (fun b o e=>(G.bs b o (G.mod.kin b o e)).2) a3
  have I:=aQ0 S hr.hd G hl a4 r h3 h4 h5 h6 x
  refine bw (ht [] s1 _ _ _ I hq) (fun fl s' hs=>?_) fun e s' hs=>hs.elim
  have fin:∀ {σ':St} {H':Hp} {v:V} {u:Value},Inv (aB8 P w K mg base N qual scope f (.ref c') h A F s H) [] σ' H' s'->RelV v u->((∀ b,isC h b=true->H' b=none)->Q v (Put h H H'))->CE F P w H s Q u s':=fun {σ' H' v u} J rv q=>by
   obtain⟨un,a6⟩:=aS4 G.hok h3 G.frf J.base J.hok
   have a2:∀ b,isC h b=true->H' b=none:=fun b y=>by
    obtain⟨o,v,z,_⟩:=h3.at y
    exact(show Un (frs F) [] (ah9 h H) H' s.heap s'.heap from J.base).free b o (G.hok b _ z).1 (ah9.cell y) (by simp)
   exact⟨v,_,J.os,J.bare,un,a6,rv,q a2⟩
  cases fl with
  | ret u =>
   obtain⟨v,σ',H',J,rv,q⟩:=hs
   exact fin J rv q
  | next =>
   obtain⟨σ',H',J,q⟩:=hs
   exact fin (v:=V.non) (u:=Value.none) J rfl q
  | brk =>
   obtain⟨_,_,_,q⟩:=hs
   exact bH q
  | cont =>
   obtain⟨_,_,_,q⟩:=hs
   exact bH q
theorem bn0 {P:aG}{w:World}{K:ac}{mg:Str->Option Value}{base:Heap}{k:Nat}{f:Addr}{N ps fr:List Str}{qual:Str}{params:bP}{body:Expr}{scope:Scope}{h:List (Str×Addr)}{cap:List V}{sp:Sp}
  (S:LamScope N ps fr scope) (len:∀ vs H Q E,sp vs H Q E->vs.length=ps.length) (a3:cap.length=fr.length)
  (Y:∀(pm:Value) (c':Addr) (Z:Value) (us:List Value),us.length=ps.length->c6 (cH "<lambda>" qual params body scope h pm (.ref c') Z) ⟨us,[]⟩=pure (ps.zip us))
  (a0:∀(A:aR) (F:List Env) (s:ae) (H:Hp) (cd:Value) (vs:List V) (Q:VK),Room k (A.deeper (cq qual scope s.heap.objs.size f cd (aI (s.heap.objs.size+1) scope.names h)))->aC1 H f qual params body scope fr cap h->(∀ b o,K.lookup b=some o->H b=none)->sp vs H Q E0 ->
   ∃ t,PE (aB8 P w K mg base N qual scope f cd h A F s H) body t/\t (vs.map some++cap.map some) (ah9 h H) fun v H'=>(∀ b,isC h b=true->H' b=none)->Q v (Put h H H')) :
  ClOk P w K mg base (k+1) (fun H=>aC1 H f qual params body scope fr cap h) f sp:=by
 refine⟨fun A F s H us vs Q hr G hR r a2=>?_⟩
 have hl:=len _ _ _ _ a2
 obtain⟨pm,c',Z,h1,h2,h3,h4,h5,h6⟩:=id hR
 have a4:s.heap.NoLimit:=G.mod.nolimit.keeps fun b o e=>(G.bs b o e).1
 refine PySem.W.kla_callFunE hr.depth (au0 G.hok h1) rfl S.co S.gen rfl (aw3 G.hok h2) ?_
 rw[Y pm c' Z us (by rw[<-r.length];exact hl)]
 refine aF (ar9 S.kind (fun y hy=>?_) fun env he s1 x=>?_)
 ·rcases S.par y.1 (cQ (show(y.1,y.2)∈ps.zip us from hy)).1 with q|q
  ·exact .inl q
  ·exact .inr ⟨q,zG q⟩
 ·subst he
  refine⟨a4.keeps x.toInCall.keep,PySem.W.kla_codeExpr ?_⟩
  obtain⟨t,ht,hq⟩:=a0 A F s H (.ref c') vs Q (hr.deeper _) hR (fun b o e=>(G.bs b o (G.mod.kin b o e)).2) a2
  have I:=aQ0 S hr.hd G hl a3 r h3 h4 h5 h6 x
  refine bw (ht [] s1 _ _ _ I hq) (fun u s' hs=>?_) fun e s' hs=>hs.elim
  obtain⟨v,H',J,rv,q⟩:=hs
  obtain⟨un,a5⟩:=aS4 G.hok h3 G.frf J.base J.hok
  have a1:∀ b,isC h b=true->H' b=none:=fun b y=>by
   obtain⟨o,v,z,_⟩:=h3.at y
   exact(show Un (frs F) [] (ah9 h H) H' s.heap s'.heap from J.base).free b o (G.hok b _ z).1 (ah9.cell y) (by simp)
  exact⟨v,_,J.os,J.bare,un,a5,rv,q a1⟩
theorem Cells.kp {H H':Hp}(h:Cells clos H)(k:Kp H H'):Cells clos H':=fun x c e=>by
 obtain⟨o,v,q,d⟩:=h x c e
 exact⟨o,v,k _ _ q rfl,d⟩
noncomputable def PVp (Γ : Gm) (cells : List (Str × Addr)) (N : List Str) (σ : St) (φ : Nat -> Addr) (H : Hp) (d : DV.D) (v : V) : Prop := RV Γ φ H d v \/ ∃ id cs, d = .clo id cs /\ ∃ f J, v = .ref f /\ Γ.lg id J /\ ax0 H f J (aq6 cells J.scope.names []) /\
      cs.length = J.fr.length /\ (∀ x, J.scope.names.lookup x = some .free -> ∃ c, cells.lookup x = some c) /\
      ∃ cap, RVL Γ φ H cs cap /\ ∀(i : Nat) (x : Str) (v : V), J.fr[i]? = some x -> cap[i]? = some v -> J.scope.names.lookup x = some .free /\ ∃ j : Nat, N[j]? = some x /\ σ[j]? = some (some v)
inductive PVL (Γ:Gm)(cells:List (Str×Addr))(N:List Str)(σ:St)(φ:Nat->Addr)(H:Hp):List i9->List V->Prop where
 | nil:PVL Γ cells N σ φ H [] []
 | cons {d v l vs} (a:PVp Γ cells N σ φ H d v) (b:PVL Γ cells N σ φ H l vs):PVL Γ cells N σ φ H (d::l) (v::vs)
theorem PVp.mono {cells:List (Str×Addr)}{N:List Str}{σ:St}{φ φ':Nat->Addr}{s s':i8}{H H':Hp}(g:Gr φ s H φ' s' H'){d:i9}{v:V}(b:d.bnd s.length=true)(h:PVp Γ cells N σ φ H d v):PVp Γ cells N σ φ' H' d v:=by
 rcases h with h|⟨id,cs,rfl,h⟩
 ·exact .inl (RV.mono g _ _ b h)
 ·obtain⟨f,J,e,Z,h2,z,Y,cap,F,G⟩:=h
  unfold je at b
  exact .inr ⟨id,cs,rfl,f,J,e,Z,h2.kp g.w.kp,z,Y,cap,RVL.mono g cs cap b F,G⟩
end
variable {Γ:Gm} {X:Cx}
def TEv (Γ:Gm)(m:jb->i8->jc i9):TE:=fun σ H Q=>∃ φ ρ s d s',RE Γ φ H s.length ρ σ/\Rp Γ φ H s/\m ρ s=.ok d s'/\aj4 Γ φ s H d s' Q
def bB9 (Γ:Gm)(φ:Nat->Addr)(s:i8)(H:Hp)(l:List i9)(s':i8)(Q:List V->Hp->Prop):Prop :=
 ∀ vs φ' H',Gr φ s H φ' s' H'->s.length<=s'.length->ja s'.length l=true->RVL Γ φ' H' l vs->Rp Γ φ' H' s'->Q vs H'
def TAv (Γ:Gm)(m:jb->i8->jc (List i9)):TA:=fun σ H Q=>∃ φ ρ s l s',RE Γ φ H s.length ρ σ/\Rp Γ φ H s/\m ρ s=.ok l s'/\bB9 Γ φ s H l s' Q
def aG9 (Γ:Gm)(φ:Nat->Addr)(s:i8)(H:Hp)(b:Bool)(s':i8)(Q:Bool->Hp->Prop):Prop :=
 ∀ φ' H',Gr φ s H φ' s' H'->s.length<=s'.length->Rp Γ φ' H' s'->Q b H'
def TTv (Γ:Gm)(m:jb->i8->jc i9):TT:=fun σ H Q=>∃ φ ρ s b s',RE Γ φ H s.length ρ σ/\Rp Γ φ H s/\m ρ s=.ok (.bl b) s'/\aG9 Γ φ s H b s' Q
theorem PE.imp {e:Expr}{t t':TE}(h:PE X e t)(i:∀ σ H Q,t' σ H Q->t σ H Q):PE X e t':=fun z s σ H Q I q=>h z s σ H Q I (i σ H Q q)
theorem PT.imp {e:Expr}{t t':TT}(h:PT X e t)(i:∀ σ H Q,t' σ H Q->t σ H Q):PT X e t':=fun z s σ H Q I q=>h z s σ H Q I (i σ H Q q)
theorem PA.imp {e:List Expr}{t t':TA}(h:PA X e t)(i:∀ σ H Q,t' σ H Q->t σ H Q):PA X e t':=fun pos z s σ H Q I q=>h pos z s σ H Q I (i σ H Q q)
theorem aG9.trans {φ φ1:Nat->Addr}{s s1 s':i8}{H z:Hp}{b:Bool}{Q:Bool->Hp->Prop}(h:aG9 Γ φ s H b s' Q)(g:Gr φ s H φ1 s1 z)(l:s.length<=s1.length):aG9 Γ φ1 s1 z b s' Q :=
 fun φ' H' g' F p=>h φ' H' (g.trans g' l) (aj l F) p
theorem bF9 (i:Nat){σ:St}{H:Hp}{Q:VK}(h:TEv Γ (fun ρ s=>DV.aU0 ρ i s) σ H Q):bV0 i σ H Q:=by
 obtain⟨φ,ρ,s,d,s',E,R,z,q⟩:=h
 simp only[DV.aU0]at z
 split at z
 ·rename_i d' e
  cases z
  obtain⟨b,v,e1,e2⟩:=E.val i _ e
  exact⟨v,e1,q.here R b e2⟩
 ·exact fb z
theorem ax3 {c:i9}{v:V}(hb:∀ n,c.bnd n=true)(hv:∀ φ H,RV Γ φ H c v){σ:St}{H:Hp}{Q:VK}(h:TEv Γ (fun ρ s=>.ok c s) σ H Q):tC v σ H Q:=by
 obtain⟨φ,ρ,s,d,s',E,R,z,q⟩:=h
 cases z
 exact q.here R (hb _) (hv _ _)
theorem be1 {Y G:jb->i8->jc i9}{f:i9->i9->i8->jc i9}{σ:St}{H:Hp}{Q:VK}(h:TEv Γ (fun ρ s=>(Y ρ s).bind fun x s=>(G ρ s).bind fun y s=>f x y s) σ H Q):tOp (rOp Γ f) (TEv Γ Y) (TEv Γ G) σ H Q:=by
 obtain⟨φ,ρ,s,d,s',E,R,z,q⟩:=h
 obtain⟨x,s1,e1,z⟩:=aa0 z
 obtain⟨y,s2,e2,z⟩:=aa0 z
 refine⟨φ,ρ,s,x,s1,E,R,e1,fun Z φ1 H1 g1 l1 F r1 R1=>?_⟩
 refine⟨φ1,ρ,s1,y,s2,E.mono g1 l1,R1,e2,fun v2 φ2 H2 N J b2 r2 R2=>?_⟩
 exact⟨φ2,s2,x,y,d,s',R2,RV.mono N x Z F r1,r2,zg J x F,b2,z,q.trans (g1.trans N l1) (aj l1 J)⟩
theorem bN3 {m:jb->i8->jc i9}{f:i9->i8->jc i9}{r:V->Hp->VK->Prop}{σ:St}{H:Hp}{Q:VK}(h:TEv Γ (fun ρ s=>(m ρ s).bind fun x s=>f x s) σ H Q)
  (N:∀ φ s x d s' v H',Rp Γ φ H' s->RV Γ φ H' x v->x.bnd s.length=true->f x s=.ok d s'->aj4 Γ φ s H' d s' Q->r v H' Q):tUn r (TEv Γ m) σ H Q:=by
 obtain⟨φ,ρ,s,d,s',E,R,z,q⟩:=h
 obtain⟨x,s1,e1,z⟩:=aa0 z
 exact⟨φ,ρ,s,x,s1,E,R,e1,fun G φ1 J g1 l1 F r1 R1=>N φ1 s1 x d s' G J R1 r1 F z (q.trans g1 l1)⟩
theorem zy {α:Type}{r:jc i9}{f:Bool->i8->jc α}{a:α}{t:i8}(h:jk r f=.ok a t):∃ b s,r=.ok (.bl b) s/\f b s=.ok a t:=by
 unfold jk at h
 obtain⟨d,s,e,h⟩:=aa0 h
 cases d with
 | bl b=>exact⟨b,s,e,h⟩
 | _=>exact fb h
theorem bi9 {m:jb->i8->jc i9}{σ:St}{H:Hp}{Q:Bool->Hp->Prop}(h:TTv Γ m σ H Q):tB (TEv Γ m) σ H Q:=by
 obtain⟨φ,ρ,s,b,s',E,R,z,q⟩:=h
 refine⟨φ,ρ,s,.bl b,s',E,R,z,fun v φ' H' g l G r F=>?_⟩
 exact⟨b,r.blE,q φ' H' g l F⟩
theorem aO2 {m:jb->i8->jc i9}{σ:St}{H:Hp}{Q:Bool->Hp->Prop}(h:TTv Γ m σ H Q):bB4 (TEv Γ m) σ H Q:=bi9 h
theorem bB0 {m:jb->i8->jc i9}{σ:St}{H:Hp}{Q:Bool->Hp->Prop}(h:TTv Γ (fun ρ s=>jk (m ρ s) fun b s=>.ok (.bl (!b)) s) σ H Q):bT9 (TTv Γ m) σ H Q:=by
 obtain⟨φ,ρ,s,b,s',E,R,z,q⟩:=h
 obtain⟨c,s1,e1,z⟩:=zy z
 cases z
 exact⟨φ,ρ,s,c,_,E,R,e1,q⟩
theorem bi3 {F G:jb->i8->jc i9}{σ:St}{H:Hp}{Q:Bool->Hp->Prop}(h:TTv Γ (fun ρ s=>jk (F ρ s) fun c s=>if c then jk (G ρ s) fun c s=>.ok (.bl c) s else .ok (.bl false) s) σ H Q):bV5 (TTv Γ F) (TTv Γ G) σ H Q:=by
 obtain⟨φ,ρ,s,b,s',E,R,z,q⟩:=h
 obtain⟨c,s1,e1,z⟩:=zy z
 refine⟨φ,ρ,s,c,s1,E,R,e1,fun φ1 J g1 l1 R1=>?_⟩
 cases c with
 | true =>
  rw[if_pos rfl]at z ⊢
  obtain⟨N,s2,e2,z⟩:=zy z
  cases z
  exact⟨φ1,ρ,s1,_,_,E.mono g1 l1,R1,e2,q.trans g1 l1⟩
 | false =>
  rw[if_neg aS]at z ⊢
  cases z
  exact q φ1 J g1 l1 R1
theorem bD3 {F G:jb->i8->jc i9}{σ:St}{H:Hp}{Q:Bool->Hp->Prop}(h:TTv Γ (fun ρ s=>jk (F ρ s) fun c s=>if c then .ok (.bl true) s else jk (G ρ s) fun c s=>.ok (.bl c) s) σ H Q):tOr (TTv Γ F) (TTv Γ G) σ H Q:=by
 obtain⟨φ,ρ,s,b,s',E,R,z,q⟩:=h
 obtain⟨c,s1,e1,z⟩:=zy z
 refine⟨φ,ρ,s,c,s1,E,R,e1,fun φ1 J g1 l1 R1=>?_⟩
 cases c with
 | true =>
  rw[if_pos rfl]at z ⊢
  cases z
  exact q φ1 J g1 l1 R1
 | false =>
  rw[if_neg aS]at z ⊢
  obtain⟨N,s2,e2,z⟩:=zy z
  cases z
  exact⟨φ1,ρ,s1,_,_,E.mono g1 l1,R1,e2,q.trans g1 l1⟩
theorem bG3 {m:jb->i8->jc i9}{σ:St}{H:Hp}{Q:VK}(h:TEv Γ (fun ρ s=>jk (m ρ s) fun b s=>.ok (.bl (!b)) s) σ H Q):by6 (TEv Γ m) σ H Q:=by
 obtain⟨φ,ρ,s,d,s',E,R,z,q⟩:=h
 obtain⟨c,s1,e1,z⟩:=zy z
 cases z
 exact⟨φ,ρ,s,.bl c,_,E,R,e1,fun v φ1 F g l b r R1=>⟨c,r.blE,q _ φ1 F g l rfl RV.blI R1⟩⟩
theorem bg6 {F G:jb->i8->jc i9}{σ:St}{H:Hp}{Q:VK}(h:TEv Γ (fun ρ s=>jk (F ρ s) fun c s=>if c then jk (G ρ s) fun c s=>.ok (.bl c) s else .ok (.bl false) s) σ H Q):bv6 (TEv Γ F) (TEv Γ G) σ H Q:=by
 obtain⟨φ,ρ,s,d,s',E,R,z,q⟩:=h
 obtain⟨c,s1,e1,z⟩:=zy z
 refine⟨φ,ρ,s,.bl c,s1,E,R,e1,fun v φ1 J g1 l1 N r1 R1=>⟨c,r1.blE,?_⟩⟩
 cases c with
 | true =>
  rw[if_pos rfl]at z ⊢
  obtain⟨c,s2,e2,z⟩:=zy z
  cases z
  exact⟨φ1,ρ,s1,.bl c,_,E.mono g1 l1,R1,e2,q.trans g1 l1⟩
 | false =>
  rw[if_neg aS]at z ⊢
  cases z
  exact q _ φ1 J g1 l1 rfl RV.blI R1
theorem bw0 {F G:jb->i8->jc i9}{σ:St}{H:Hp}{Q:VK}(h:TEv Γ (fun ρ s=>jk (F ρ s) fun c s=>if c then .ok (.bl true) s else jk (G ρ s) fun c s=>.ok (.bl c) s) σ H Q):bT3 (TEv Γ F) (TEv Γ G) σ H Q:=by
 obtain⟨φ,ρ,s,d,s',E,R,z,q⟩:=h
 obtain⟨c,s1,e1,z⟩:=zy z
 refine⟨φ,ρ,s,.bl c,s1,E,R,e1,fun v φ1 J g1 l1 N r1 R1=>⟨c,r1.blE,?_⟩⟩
 cases c with
 | true =>
  rw[if_pos rfl]at z ⊢
  cases z
  exact q _ φ1 J g1 l1 rfl RV.blI R1
 | false =>
  rw[if_neg aS]at z ⊢
  obtain⟨c,s2,e2,z⟩:=zy z
  cases z
  exact⟨φ1,ρ,s1,.bl c,_,E.mono g1 l1,R1,e2,q.trans g1 l1⟩
theorem bJ4 {mc F G:jb->i8->jc i9}{σ:St}{H:Hp}{Q:VK}(h:TEv Γ (fun ρ s=>jk (mc ρ s) fun k s=>if k then F ρ s else G ρ s) σ H Q):tIf (TTv Γ mc) (TEv Γ F) (TEv Γ G) σ H Q:=by
 obtain⟨φ,ρ,s,d,s',E,R,z,q⟩:=h
 obtain⟨c,s1,e1,z⟩:=zy z
 refine⟨φ,ρ,s,c,s1,E,R,e1,fun φ1 J g1 l1 R1=>?_⟩
 cases c with
 | true =>
  rw[if_pos rfl]at z ⊢
  exact⟨φ1,ρ,s1,d,s',E.mono g1 l1,R1,z,q.trans g1 l1⟩
 | false =>
  rw[if_neg aS]at z ⊢
  exact⟨φ1,ρ,s1,d,s',E.mono g1 l1,R1,z,q.trans g1 l1⟩
theorem aF8 {σ:St}{H:Hp}{Q:List V->Hp->Prop}(h:TAv Γ (fun ρ s=>.ok [] s) σ H Q):bq3 σ H Q:=by
 obtain⟨φ,ρ,s,d,s',E,R,z,q⟩:=h
 cases z
 exact q [] φ H (Gr.refl _ _ _) (ai _) rfl .nil R
theorem bn5 {m:jb->i8->jc i9}{Y:jb->i8->jc (List i9)}{σ:St}{H:Hp}{Q:List V->Hp->Prop}(h:TAv Γ (fun ρ s=>(m ρ s).bind fun d s=>(Y ρ s).bind fun l s=>.ok (d::l) s) σ H Q):aK3 (TEv Γ m) (TAv Γ Y) σ H Q:=by
 obtain⟨φ,ρ,s,l,s',E,R,z,q⟩:=h
 obtain⟨x,s1,e1,z⟩:=aa0 z
 obtain⟨y,s2,e2,z⟩:=aa0 z
 cases z
 refine⟨φ,ρ,s,x,s1,E,R,e1,fun G φ1 H1 g1 l1 F r1 R1=>?_⟩
 refine⟨φ1,ρ,s1,y,_,E.mono g1 l1,R1,e2,fun v2 φ2 H2 N J Z r2 R2=>?_⟩
 refine q (G::v2) φ2 H2 (g1.trans N l1) (aj l1 J) ?_ (.cons (RV.mono N x G F r1) r2) R2
 unfold ja
 rw[zg J x F,Z];rfl
theorem aA7 {F:jb->i8->jc (List i9)}{f:List i9->i8->jc i9}{σ:St}{H:Hp}{Q:VK}(h:TEv Γ (fun ρ s=>(F ρ s).bind fun l s=>f l s) σ H Q):tCB (rCl Γ f) (TAv Γ F) σ H Q:=by
 obtain⟨φ,ρ,s,d,s',E,R,z,q⟩:=h
 obtain⟨l,s1,e1,z⟩:=aa0 z
 exact⟨φ,ρ,s,l,s1,E,R,e1,fun vs φ1 J g1 l1 G r1 R1=>⟨φ1,s1,l,d,s',R1,r1,G,z,q.trans g1 l1⟩⟩
theorem bx5 {m:jb->i8->jc i9}{ml mh:jb->i8->jc i9}{σ:St}{H:Hp}{Q:VK} :
  (TEv Γ (fun ρ s=>(m ρ s).bind fun x s=>(ml ρ s).bind fun y s=>match y with|.int i=>j2 x (some i) none s|_=>.bad) σ H Q->tSl (rSl Γ) (TEv Γ m) (aT1 (TEv Γ ml)) aB2 σ H Q) /\
  (TEv Γ (fun ρ s=>(m ρ s).bind fun x s=>(mh ρ s).bind fun y s=>match y with|.int i=>j2 x none (some i) s|_=>.bad) σ H Q->tSl (rSl Γ) (TEv Γ m) aB2 (aT1 (TEv Γ mh)) σ H Q) /\
  (TEv Γ (fun ρ s=>(m ρ s).bind fun x s=>(ml ρ s).bind fun y s=>match y with|.int i=>(mh ρ s).bind (fun z s=>match z with|.int j=>j2 x (some i) (some j) s|_=>.bad)|_=>.bad) σ H Q->tSl (rSl Γ) (TEv Γ m) (aT1 (TEv Γ ml)) (aT1 (TEv Γ mh)) σ H Q):=by
 refine⟨fun h=>?_,fun h=>?_,fun h=>?_⟩
 ·obtain⟨φ,ρ,s,d,s',E,R,F,q⟩:=h
  obtain⟨x,s1,e1,F⟩:=aa0 F
  obtain⟨y,s2,e2,F⟩:=aa0 F
  refine⟨φ,ρ,s,x,s1,E,R,e1,fun Y φ1 H1 g1 l1 N r1 R1=>?_⟩
  refine⟨φ1,ρ,s1,y,s2,E.mono g1 l1,R1,e2,fun v2 φ2 H2 J G b2 Z R2=>?_⟩
  cases y with
  | int i=>exact⟨i,Z.intE,φ2,s2,x,d,s',R2,RV.mono J x Y N r1,zg G x N,F,q.trans (g1.trans J l1) (aj l1 G)⟩
  | _=>exact fb F
 ·obtain⟨φ,ρ,s,d,s',E,R,F,q⟩:=h
  obtain⟨x,s1,e1,F⟩:=aa0 F
  obtain⟨y,s2,e2,F⟩:=aa0 F
  refine⟨φ,ρ,s,x,s1,E,R,e1,fun Y φ1 H1 g1 l1 N r1 R1=>?_⟩
  refine⟨φ1,ρ,s1,y,s2,E.mono g1 l1,R1,e2,fun v2 φ2 H2 J G b2 Z R2=>?_⟩
  cases y with
  | int i=>exact⟨i,Z.intE,φ2,s2,x,d,s',R2,RV.mono J x Y N r1,zg G x N,F,q.trans (g1.trans J l1) (aj l1 G)⟩
  | _=>exact fb F
 ·obtain⟨φ,ρ,s,d,s',E,R,F,q⟩:=h
  obtain⟨x,s1,e1,F⟩:=aa0 F
  obtain⟨y,s2,e2,F⟩:=aa0 F
  refine⟨φ,ρ,s,x,s1,E,R,e1,fun Y φ1 H1 g1 l1 N r1 R1=>?_⟩
  refine⟨φ1,ρ,s1,y,s2,E.mono g1 l1,R1,e2,fun v2 φ2 H2 J G b2 Z R2=>?_⟩
  cases y with
  | int i =>
   obtain⟨z,s3,e3,F⟩:=aa0 F
   refine⟨i,Z.intE,φ2,ρ,s2,z,s3,E.mono (g1.trans J l1) (aj l1 G),R2,e3,fun v3 φ3 H3 g3 l3 b3 r3 R3=>?_⟩
   cases z with
   | int j=>exact⟨j,r3.intE,φ3,s3,x,d,s',R3,RV.mono (J.trans g3 G) x Y N r1,zg (aj G l3) x N,F,q.trans ((g1.trans J l1).trans g3 (aj l1 G)) (aj (aj l1 G) l3)⟩
   | _=>exact fb F
  | _=>exact fb F
variable {Γ:Gm} {X:Cx}
def as1 (Γ:Gm)(J:It)(φ0:Nat->Addr)(H0:Hp)(s0:i8)(q:jY):Prop :=
 ∀ φ H s,Gr φ0 s0 H0 φ s H->s0.length<=s.length->Rp Γ φ H s->jH s0 s q.src=true->∀ i:Nat,
  (i<q.its.length->J.go i H/\∀ x H',J.yld i H x H'->aj9 H H'/\∀ d,q.its[i]?=some d->RV Γ φ H' d x)/\(q.its.length<=i->J.stop i H)
def TIv (Γ:Gm)(m:jb->i8->jc jY):TI:=fun σ H R=>∃ φ ρ s q s',RE Γ φ H s.length ρ σ/\Rp Γ φ H s/\m ρ s=.ok q s' /\
 ∀ J φ' H',Gr φ s H φ' s' H'->s.length<=s'.length->ja s'.length q.its=true->Rp Γ φ' H' s'->as1 Γ J φ' H' s' q->R J H'
theorem PI.imp {tg e:Expr}{t t':TI}(h:PI X tg e t)(i:∀ σ H R,t' σ H R->t σ H R):PI X tg e t':=fun z s σ H R I q=>h z s σ H R I (i σ H R q)
theorem PI.or {tg e:Expr}{t t':TI}(h:PI X tg e t)(h':PI X tg e t'):PI X tg e (fun σ H R=>t σ H R\/t' σ H R):=fun z s σ H R I q=>q.elim (h z s σ H R I) (h' z s σ H R I)
theorem bd9 {φ0:Nat->Addr}{H0:Hp}{s0:i8}{a:Addr}{z:List V}{l:List i9}(h:SqT Γ.K H0 a z)(hl:RVL Γ φ0 H0 l z)(hb:ja s0.length l=true):as1 Γ (Itt Γ.K a) φ0 H0 s0 ⟨l,[]⟩:=by
 intro φ H s g _ R _ i
 have h':=g.w.kp.sqT h
 have F:=RVL.mono g l z hb hl
 refine⟨fun hlt=>⟨⟨z,z[i]'(by rw[F.length];exact hlt),h',am _⟩,fun x H' y=>?_⟩,fun G=>⟨z,h',by rw[F.length];exact G⟩⟩
 obtain⟨e,y⟩:=y
 subst e
 refine⟨aj9.refl _,fun d hd=>?_⟩
 obtain⟨v,e1,e2⟩:=F.get hd
 rw[y z h']at e1;cases e1
 exact e2
theorem bs1 {φ0:Nat->Addr}{H0:Hp}{s0:i8}{a:Addr}{z:List V}{l:List i9}(h:SqF Γ.K H0 a z)(hl:RVL Γ φ0 H0 l z)(hb:ja s0.length l=true):as1 Γ (Itl Γ.K a) φ0 H0 s0 ⟨l,[]⟩:=by
 intro φ H s g _ R _ i
 have h':=h.2 _ g.w.kp
 have F:=RVL.mono g l z hb hl
 refine⟨fun hlt=>⟨⟨z,z[i]'(by rw[F.length];exact hlt),h',am _⟩,fun x H' y=>?_⟩,fun G=>⟨z,h',by rw[F.length];exact G⟩⟩
 obtain⟨e,y⟩:=y
 subst e
 refine⟨aj9.refl _,fun d hd=>?_⟩
 obtain⟨v,e1,e2⟩:=F.get hd
 rw[y z h']at e1;cases e1
 exact e2
theorem ba1 {φ0:Nat->Addr}{H0:Hp}{s0:i8}{r:Nat}{l:List i9}(N:s0[r]?=some (.lst l)):as1 Γ (Itl Γ.K (φ0 r)) φ0 H0 s0 ⟨l,[r]⟩:=by
 intro φ H s g _ R G i
 have z:r<s0.length:=(af.mp N).1
 have hs:s[r]?=some (.lst l):=by
  unfold jH at G
  simp only[dq,List.all_nil,iD,decide_eq_true_eq]at G
  rw[G];exact N
 obtain⟨F,e,h⟩:=R.addr hs
 rw[g.w.map r z]at e
 have h':SqL Γ.K H (φ0 r) F:=SqL.of e
 refine⟨fun hlt=>⟨⟨F,F[i]'(by rw[h.length];exact hlt),h',am _⟩,fun x H' y=>?_⟩,fun J=>⟨F,h',by rw[h.length];exact J⟩⟩
 obtain⟨e,y⟩:=y
 subst e
 refine⟨aj9.refl _,fun d hd=>?_⟩
 obtain⟨v,e1,e2⟩:=h.get hd
 rw[y F h']at e1;cases e1
 exact e2
theorem aY6 {φ0:Nat->Addr}{H0:Hp}{s0:i8}{l:List Nat}:as1 Γ (Its ⟨l.toArray⟩) φ0 H0 s0 ⟨l.map fun c=>.str [c],[]⟩:=by
 intro φ H s g _ R _ i
 have hsz:(⟨l.toArray⟩:Str).cps.size=l.length:=by simp
 refine⟨fun hlt=>?_,fun h=>?_⟩
 ·simp only[aK]at hlt
  refine⟨show i<(⟨l.toArray⟩:Str).cps.size by rw[hsz];exact hlt,fun x H' y=>?_⟩
  obtain⟨e,c,hc,rfl⟩:=y
  subst e
  refine⟨aj9.refl _,fun d hd=>?_⟩
  have z:l[i]?=some c:=by simpa using hc
  rw[aU,z]at hd
  cases hd
  exact RV.strI (by simp;decide)
 ·simp only[aK]at h
  show(⟨l.toArray⟩:Str).cps.size<=i
  rw[hsz];exact h
theorem be2 {φ0:Nat->Addr}{H0:Hp}{s0:i8}{a b:Int}:as1 Γ (Itr a (b - a).toNat) φ0 H0 s0 ⟨jS a b,[]⟩:=by
 intro φ H s g _ R _ i
 have hn:(jS a b).length=(b - a).toNat:=by simp[jS]
 refine⟨fun hlt=>⟨show i<(b - a).toNat by rw[<-hn];exact hlt,fun x H' y=>?_⟩,fun h=>show(b - a).toNat<=i by rw[<-hn];exact h⟩
 obtain⟨e,rfl⟩:=y
 subst e
 refine⟨aj9.refl _,fun d hd=>?_⟩
 simp only[jS]at hd hlt
 rw[aU,fX (by simpa using hlt)]at hd
 cases hd
 exact RV.intI
theorem bk6 {m:jb->i8->jc i9}{σ:St}{H:Hp}{R:It->Hp->Prop}(h:TIv Γ (fun ρ s=>(m ρ s).bind fun x s=>match x with|.int i=>if -kq<=i/\i<kq then .ok ⟨jS 0 i,[]⟩ s else .bad|_=>.bad) σ H R) :
  bH1 (aK3 (TEv Γ m) bq3) σ H R:=by
 obtain⟨φ,ρ,s,q,s',E,P,z,k⟩:=h
 obtain⟨x,s1,e1,z⟩:=aa0 z
 refine⟨φ,ρ,s,x,s1,E,P,e1,fun v φ1 G g l b r J=>?_⟩
 cases x with
 | int i =>
  simp only at z
  split at z
  ·rename_i F
   cases z
   have hw:kq=2^62:=by decide
   rw[hw]at F
   refine⟨i,by rw[r.intE],F.1,F.2,k _ φ1 G g l ?_ J ?_⟩
   ·refine ad3.mpr fun d hd=>?_
    simp only[jS,bq]at hd
    obtain⟨_,_,rfl⟩:=hd
    rfl
   ·have:=be2 (Γ:=Γ) (φ0:=φ1) (H0:=G) (s0:=s') (a:=0) (b:=i)
    rwa [Int.sub_zero]at this
  ·exact fb z
 | _=>exact fb z
theorem bE4 {m:jb->i8->jc i9}{σ:St}{H:Hp}{R:It->Hp->Prop}(h:TIv Γ (fun ρ s=>(m ρ s).bind fun d s=>DV.aR6 d s) σ H R) :
  bS1 Γ.K (TEv Γ m) σ H R\/bl5 Γ.K (TEv Γ m) σ H R\/bU6 (TEv Γ m) σ H R:=by
 obtain⟨φ,ρ,s,q,s',E,P,z,k⟩:=h
 obtain⟨x,s1,e1,z⟩:=aa0 z
 unfold DV.aR6 at z
 cases x with
 | tup l =>
  cases z
  refine .inl ⟨φ,ρ,s,_,_,E,P,e1,fun v φ1 G g l b r F=>?_⟩
  obtain⟨a,J,rfl,Z,d1⟩:=r.tupE
  unfold je at b
  exact⟨a,rfl,⟨J,Z⟩,k _ φ1 G g l b F (bd9 Z d1 b)⟩
 | str l =>
  cases z
  refine .inr (.inr ⟨φ,ρ,s,_,_,E,P,e1,fun v φ1 G g N b r F=>?_⟩)
  refine⟨_,r.strE,k _ φ1 G g N ?_ F aY6⟩
  refine ad3.mpr fun d hd=>?_
  simp only[bq]at hd
  obtain⟨_,_,rfl⟩:=hd
  rfl
 | ref r =>
  simp only at z
  cases hs:s1[r]? with
  | none=>rw[hs]at z;cases z
  | some o =>
   rw[hs]at z
   cases o with
   | lst l =>
    cases z
    refine .inr (.inl ⟨φ,ρ,s,_,_,E,P,e1,fun v φ1 G g N b Y F=>?_⟩)
    have e:=Y.refE;subst e
    obtain⟨J,e2,d1⟩:=F.addr hs
    have wf:=F.wf _ _ hs
    unfold jf at wf
    exact⟨φ1 r,rfl,⟨J,SqL.of e2⟩,k _ φ1 G g N wf F (ba1 hs)⟩
   | ro l =>
    cases z
    refine .inr (.inl ⟨φ,ρ,s,_,_,E,P,e1,fun v φ1 G g N b Y F=>?_⟩)
    have e:=Y.refE;subst e
    obtain⟨J,e2,d1⟩:=F.obj _ _ hs
    have wf:=F.wf _ _ hs
    unfold jf at wf
    exact⟨φ1 r,rfl,⟨J,e2.1⟩,k _ φ1 G g N wf F (bs1 e2 d1 wf)⟩
   | dic l=>exact fb z
   | dit l=>exact fb z
   | ins c l=>exact fb z
 | _=>exact fb z
variable {Γ:Gm} {X:Cx}
noncomputable def bL0:List Nat->TGs
 | []=>bU9
 | i::is=>bx0 (az0 i) (bL0 is)
noncomputable def gOf (K:ac):jD->TG
 | .one i=>az0 i
 | .tup is=>bM4 K is.length (bL0 is)
theorem bi7 {φ:Nat->Addr}{H:Hp}{n:Nat}{ρ ρ':jb}{σ:St}{i:Nat}{d:i9}{v:V}(E:RE Γ φ H n ρ σ)(r:RV Γ φ H d v)(b:d.bnd n=true)(h:jT ρ i d=some ρ'):RE Γ φ H n ρ' (σ.set i (some v)):=by
 unfold jT at h
 split at h
 ·rename_i z
  cases h
  refine⟨by rw[bF,bF];exact E.len,fun j e hj=>?_⟩
  by_cases hij:j=i
  ·subst hij
   rw[a8 z]at hj
   cases hj
   exact⟨b,v,by rw[a8 (by rw[<-E.len];exact z)],r⟩
  ·rw[aL (cP hij)]at hj
   obtain⟨G,w,J,F⟩:=E.val j e hj
   exact⟨G,w,by rw[aL (cP hij)];exact J,F⟩
 ·cases h
theorem bD8 {φ:Nat->Addr}{H:Hp}{n:Nat}{Q:St->Hp->Prop}:∀(is:List Nat) (l:List i9) (z:List V) (ρ ρ':jb) (σ:St),RE Γ φ H n ρ σ->RVL Γ φ H l z->ja n l=true->j3 ρ is l=some ρ'->(∀ σ',RE Γ φ H n ρ' σ'->Q σ' H)->bL0 is z σ H Q
 | [],[],z,ρ,ρ',σ,E,r,_,h,k=>by
  cases h
  exact⟨r.unnil,k σ E⟩
 | [],d::l,_,_,_,_,_,_,_,h,_=>by cases h
 | i::is,[],_,_,_,_,_,_,_,h,_=>by cases h
 | i::is,d::l,z,ρ,ρ',σ,E,r,b,h,k=>by
  have h:(jT ρ i d).bind (fun ρ=>j3 ρ is l)=some ρ':=h
  obtain⟨x,F,rfl,G,J⟩:=r.uncons
  unfold ja at b
  rw[ag]at b
  cases e:jT ρ i d with
  | none=>rw[e]at h;cases h
  | some ρ1 =>
   rw[e]at h
   exact⟨x,F,rfl,bD8 is l F ρ1 ρ' _ (bi7 E G b.1 e) J b.2 h k⟩
theorem aT3 {l:List i9}:∀ {is:List Nat} {ρ ρ':jb},j3 ρ is l=some ρ'->is.length=l.length:=by
 induction l with
 | nil=>intro is ρ ρ' h;cases is with
  | nil=>rfl
  | cons i is=>cases h
 | cons d l ih=>intro is ρ ρ' h;cases is with
  | nil=>cases h
  | cons i is =>
   have h:(jT ρ i d).bind (fun ρ=>j3 ρ is l)=some ρ':=h
   cases e:jT ρ i d with
   | none=>rw[e]at h;cases h
   | some ρ1=>rw[e]at h;rw[aV,aV,ih h]
theorem bt0 {φ:Nat->Addr}{H:Hp}{n:Nat}{Q:St->Hp->Prop}{tg:jD}{d:i9}{v:V}{ρ ρ':jb}{σ:St}(E:RE Γ φ H n ρ σ)(r:RV Γ φ H d v)(b:d.bnd n=true)(h:jx ρ tg d=some ρ')(k:∀ σ',RE Γ φ H n ρ' σ'->Q σ' H):gOf Γ.K tg v σ H Q:=by
 cases tg with
 | one i=>exact k _ (bi7 E r b h)
 | tup is =>
  cases d with
  | tup l =>
   have h:j3 ρ is l=some ρ':=h
   obtain⟨a,z,rfl,F,d1⟩:=r.tupE
   unfold je at b
   exact⟨a,z,rfl,F,by rw[d1.length,aT3 h],bD8 is l z ρ ρ' σ E d1 b h k⟩
  | _=>cases h
def Off (φ:Nat->Addr)(s:i8)(b:Addr):Prop:=∀(i:Nat) (ob:jz),s[i]?=some ob->isMut ob=true->φ i≠b
theorem Off.mono {φ φ':Nat->Addr}{s s':i8}{H H':Hp}{b:Addr}{o:HO}(h:Off φ s b)(g:Gr φ s H φ' s' H')(hb:H b=some o):Off φ' s' b:=fun i ob e m z=>by
 by_cases G:i<s.length
 ·obtain⟨F,J⟩:∃ F,s[i]?=some F:=⟨s[i],am G⟩
  exact h i F J (g.mu i F ob J e m) (by rw[<-g.w.map i G];exact z)
 ·have:=g.new i (by omega) (af.mp e).1
  rw[z,hb]at this;cases this
theorem Off.new {φ:Nat->Addr}{s:i8}{H:Hp}{b:Addr}(r:Rp Γ φ H s)(h:H b=none):Off φ s b:=fun i ob e m z=>by
 obtain⟨u,F,_⟩:=(r.obj i ob e).there m
 rw[z,h]at F;cases F
theorem Rp.foreign {φ:Nat->Addr}{s:i8}{H:Hp}{b:Addr}{ys h:List V}(r:Rp Γ φ H s)(hb:H b=some (.lst ys))(ho:Off φ s b):Rp Γ φ (upd H b (.lst h)) s:=by
 have g:Gw φ s.length H φ (upd H b (.lst h)):=⟨fun _ _=>rfl,(Kp.refl H).put hb rfl⟩
 exact⟨r.inj,fun i o e=>(r.obj i o e).mono g (r.wf i o e) fun m u z=>by rw[zl (ho i o e m)];exact z,r.wf,r.tab.put hb⟩
theorem Gr.foreign {φ φ':Nat->Addr}{s s':i8}{H H':Hp}{b:Addr}{ys z:List V}(g:Gr φ s H φ' s' H')(h0:H b=none)(hb:H' b=some (.lst ys)):Gr φ s H φ' s' (upd H' b (.lst z)):=by
 have ne:∀ c o,H c=some o->c≠b:=fun c o e=>zr e h0
 refine⟨⟨g.w.map,fun c o e f=>?_⟩,g.le,g.new,g.kd,fun c hc=>?_,fun c o e h no=>?_⟩
 ·rw[zl (ne c o e)];exact g.w.kp c o e f
 ·unfold upd;split
  ·simp
  ·exact g.st c hc
 ·rw[zl (ne c o e)];exact g.fr c o e h no
def bG0 (Γ:Gm)(φ:Nat->Addr)(s:i8)(H:Hp)(l:List i9)(s':i8)(Q:VK):Prop :=
 ∀ p ys φ' H',Gr φ s H φ' s' H'->s.length<=s'.length->ja s'.length l=true->H' p=some (.lst ys)->H p=none->Off φ' s' p->RVL Γ φ' H' l ys->Rp Γ φ' H' s'->Q (.ref p) H'
def TFv (Γ:Gm)(m:jb->i8->jc (List i9)):TE:=fun σ H Q=>∃ φ ρ s l s',RE Γ φ H s.length ρ σ/\Rp Γ φ H s/\m ρ s=.ok l s'/\bG0 Γ φ s H l s' Q
theorem aR5 {m:jb->i8->jc (List i9)}{σ:St}{H:Hp}{Q:VK}(h:TEv Γ (fun ρ s=>(m ρ s).bind fun l s=>jJ (.lst l) s) σ H Q):TFv Γ m σ H Q:=by
 obtain⟨φ,ρ,s,d,s',E,R,Y,q⟩:=h
 obtain⟨l,s1,e1,Y⟩:=aa0 Y
 obtain⟨rfl,rfl⟩:=zP Y
 refine⟨φ,ρ,s,l,s1,E,R,e1,fun p ys φ' H' g hl hb hp h0 ho r J=>?_⟩
 have gw:Gw φ' s1.length H' (fun i=>if i=s1.length then p else φ' i) H':=⟨fun i z=>if_neg (ay z),Kp.refl _⟩
 have key:∀(i:Nat) (F:jz),(s1++[DV.O.lst l])[i]?=some F->(i<s1.length/\s1[i]?=some F)\/(i=s1.length/\F=.lst l):=fun i F e=>by
  rcases d8 i s1.length with h|h|h
  ·rw[aJ h]at e;exact .inl ⟨h,e⟩
  ·subst h;simp at e;exact .inr ⟨rfl,e.symm⟩
  ·rw[cB (by simp;omega)]at e;cases e
 have G:Gr φ s H (fun i=>if i=s1.length then p else φ' i) (s1++[.lst l]) H':=by
  refine⟨⟨fun i z=>by show(if i=s1.length then p else φ' i)=_;rw[if_neg (by omega)];exact g.w.map i z,g.w.kp⟩,by simp;omega,fun i h1 h2=>?_,fun i o F e e'=>?_,g.st,g.fr⟩
  ·by_cases z:i=s1.length
   ·show H (if i=s1.length then p else φ' i)=none
    rw[if_pos z];exact h0
   ·show H (if i=s1.length then p else φ' i)=none
    rw[if_neg z];exact g.new i h1 (by simp at h2;omega)
  ·rcases key i F e' with⟨_,e2⟩|⟨z,_⟩
   ·exact g.kd i o F e e2
   ·have:=(af.mp e).1;omega
 have P:Rp Γ (fun i=>if i=s1.length then p else φ' i) H' (s1++[.lst l]):=by
  refine⟨fun i j oi Z N ej mi mj e=>?_,fun i o e=>?_,fun i o e=>?_,J.tab⟩
  ·rcases key i oi N with⟨z,N⟩|⟨z,_⟩<;>rcases key j Z ej with⟨hj,ej⟩|⟨hj,_⟩
   ·rw[if_neg (ay z),if_neg (ay hj)]at e
    exact J.inj i j oi Z N ej mi mj e
   ·rw[if_neg (ay z),if_pos hj]at e
    exact absurd e (ho i oi N mi)
   ·rw[if_neg (ay hj),if_pos z]at e
    exact absurd e.symm (ho j Z ej mj)
   ·rw[z,hj]
  ·rcases key i o e with⟨z,e⟩|⟨z,rfl⟩
   ·show RO Γ _ _ (if i=s1.length then p else φ' i) o
    rw[if_neg (ay z)]
    exact(J.obj i o e).mono gw (J.wf i o e) fun _ u hu=>hu
   ·show RO Γ _ _ (if i=s1.length then p else φ' i) _
    rw[if_pos z]
    exact⟨ys,hp,RVL.monoW gw l ys hb r⟩
  ·rw[aA,aX]
   rcases key i o e with⟨_,e⟩|⟨_,rfl⟩
   ·exact zN (dt _) _ (J.wf i o e)
   ·exact zN (dt _) _ (by unfold jf;exact hb)
 exact q (.ref p) _ H' G (by simp;omega) (by unfold je;simp) (by unfold RV;simp) P
theorem bI0 {φ:Nat->Addr}{H:Hp}{n:Nat}{ρ:jb}{σ:St}(E:RE Γ φ H n ρ σ)(h:List (Option Nat)):RE Γ φ H n (jN ρ h) (ay3 h σ):=by
 refine⟨by unfold jN ay3;simp,fun i d e=>?_⟩
 unfold jN at e
 rw[aU]at e
 cases q:h[i]? with
 | none=>rw[q]at e;cases e
 | some o =>
  rw[q]at e
  cases o with
  | none=>cases e
  | some j =>
   have e':(ρ[j]?).join=some d:=av e
   have ej:ρ[j]?=some (some d):=by
    cases q2:ρ[j]? with
    | none=>rw[q2]at e';cases e'
    | some o2=>rw[q2]at e';exact congrArg some e'
   obtain⟨b,v,z,F⟩:=E.val j d ej
   refine⟨b,v,?_,F⟩
   unfold ay3
   rw[aU,q]
   show some ((σ[j]?).join)=_
   rw[z];rfl
theorem aU7 {mI:jb->i8->jc jY}{mc me:jb->i8->jc i9}{tg:jD}{N:List (Option Nat)}{σ:St}{H:Hp}{Q:VK}
  (h:TFv Γ (fun ρ s=>(mI ρ s).bind fun q s0=>if q.its.length<=jg then jU (fun s=>jH s0 s q.src) (fun d ρ s=>match jx ρ tg d with
   | some ρ=>jk (mc ρ s) fun k s=>if k then(me ρ s).bind fun v s=>.ok (some v,ρ) s else .ok (none,ρ) s
   | none=>.bad) q.its (jN ρ N) s0 else .bad) σ H Q):tComp N (TIv Γ mI) (gOf Γ.K tg) (TTv Γ mc) (TEv Γ me) σ H Q:=by
 obtain⟨φ,ρ,s,l,s',E,R,hm,k⟩:=h
 obtain⟨q,s0,e1,hm⟩:=aa0 hm
 split at hm
 case isFalse=>exact fb hm
 rename_i b4
 refine⟨φ,ρ,s,q,s0,E,R,e1,fun J φ1 H1 g1 l1 b1 R1 wk D hD=>?_⟩
 have h0:H D=none:=by
  cases e:H D with
  | none=>rfl
  | some o=>exact absurd hD (g1.st D (by rw[e];simp))
 refine⟨fun i m σ' H'=>∃ φ' ρ' t F ys rest,Gr φ1 s0 H1 φ' t H'/\Rp Γ φ' H' t/\RE Γ φ' H' t.length ρ' σ'/\H' D=some (.lst ys)/\Off φ' t D/\RVL Γ φ' H' F ys/\ja t.length F=true/\F.length<=i/\i<=q.its.length/\m=q.its.length - i /\
  jU (fun s=>jH s0 s q.src) (fun d ρ s=>match jx ρ tg d with
   | some ρ=>jk (mc ρ s) fun k s=>if k then(me ρ s).bind fun v s=>.ok (some v,ρ) s else .ok (none,ρ) s
   | none=>.bad) (q.its.drop i) ρ' t=.ok rest s'/\l=F++rest,⟨q.its.length,?_⟩,?_⟩
 ·obtain⟨g2,R2⟩:=R1.same (H':=upd H1 D (.lst [])) ((aj9.refl H1).new hD)
  exact⟨φ1,jN ρ N,s0,[],[],l,g2,R2,bI0 ((E.mono g1 l1).mono g2 (ai _)) N,zt,Off.new R1 hD,.nil,rfl,ai _,c0 _,by simp,by rw[fK];exact hm,rfl⟩
 ·rintro i m σ' H' ⟨φ',ρ',t,F,ys,rest,g,R',E',hy,a2,ra,ba,b6,c1,rfl,hc,hl⟩
  have G:=g.le
  rcases iO i q.its.length with hlt|hge
  ·have hd:q.its[i]?=some q.its[i]:=am hlt
   rw[dZ hlt]at hc
   unfold jU at hc
   split at hc
   case isFalse=>exact fb hc
   rename_i a3
   obtain⟨b3,b0⟩:=(wk φ' H' t g G R' a3 i).1 hlt
   refine .inr ⟨b3,_,fun σ2 H2 n=>⟨q.its.length - (i+1),by omega,n⟩,fun x H2 b2=>?_⟩
   obtain⟨sm,rv⟩:=b0 x H2 b2
   obtain⟨g2,R2⟩:=R'.same sm
   have rd:=rv _ hd
   have bd:(q.its[i]).bnd t.length=true:=zg G _ (al0 b1 hd)
   obtain⟨p,t3,hs,hc⟩:=aa0 hc
   obtain⟨r2,t4,a4,hc⟩:=aa0 hc
   cases hb:jx ρ' tg q.its[i]with
   | none=>rw[hb]at hs;cases hs
   | some ρ3 =>
    rw[hb]at hs
    refine bt0 (E'.mono g2 (ai _)) rd bd hb fun σ3 E3=>?_
    obtain⟨c,t1,ec,hs⟩:=zy hs
    refine⟨φ',ρ3,t,c,t1,E3,R2,ec,fun φ2 H4 g4 l4 R4=>?_⟩
    have a5:H2 D=some (.lst ys):=sm _ _ hy
    have a1:H4 D=some (.lst ys):=g4.fr D _ a5 (by nofun) a2
    have Y:Off φ2 t1 D:=a2.mono g4 a5
    have G4:=(g.trans g2 G).trans g4 G
    cases c with
    | true =>
     rw[if_pos rfl]at hs
     refine iteT ?_
     obtain⟨v,t2,ev,hs⟩:=aa0 hs
     cases hs
     refine⟨φ2,ρ3,t1,v,t3,E3.mono g4 l4,R4,ev,fun w φ3 H5 g5 l5 b5 r5 R5=>?_⟩
     have Z:H5 D=some (.lst ys):=g5.fr D _ a1 (by nofun) Y
     have a0:Off φ3 t3 D:=Y.mono g5 a1
     refine⟨ys,Z,?_,?_⟩
     ·rw[ra.length]
      have:=zB
      omega
     ·have gw:Gw φ3 t3.length H5 φ3 (upd H5 D (.lst (ys++[w]))):=⟨fun _ _=>rfl,(Kp.refl H5).put Z rfl⟩
      have G5:=G4.trans g5 (aj G l4)
      have GG:=g2.trans (g4.trans g5 l4) (ai _)
      have a6:RVL Γ φ3 H5 F ys:=RVL.mono GG _ _ ba ra
      have bb:ja t3.length (F++[v])=true:=zD (ad6 GG.le _ ba) (by unfold ja;rw[b5];rfl)
      refine⟨φ3,ρ3,t3,F++[v],ys++[w],r2,G5.foreign hD Z,R5.foreign Z a0,?_,zt,a0,RVL.monoW gw _ _ bb (a6.append (.cons r5 .nil)),bb,by simp;omega,hlt,rfl,?_,?_⟩
      ·have E5:=(E3.mono g4 l4).mono g5 l5
       exact⟨E5.len,fun j e hj=>by
        obtain⟨h1,z,h2,h3⟩:=E5.val j e hj
        exact⟨h1,z,h2,RV.monoW gw _ _ h1 h3⟩⟩
      ·cases hc;exact a4
      ·cases hc;rw[hl];simp
    | false =>
     rw[if_neg aS]at hs
     refine bY5 ?_
     cases hs
     have GG:=g2.trans g4 (ai _)
     exact⟨φ2,ρ3,t3,F,ys,r2,G4,R4,E3.mono g4 l4,a1,Y,RVL.mono GG _ _ ba ra,ad6 l4 _ ba,by omega,hlt,rfl,by cases hc;exact a4,by cases hc;exact hl⟩
  ·have hi:i=q.its.length:=by omega
   rw[fj hge]at hc
   unfold jU at hc
   split at hc
   case isFalse=>exact fb hc
   rename_i a3
   cases hc
   refine .inl ⟨(wk φ' H' s' g G R' a3 i).2 hge,?_⟩
   rw[bf]at hl
   subst hl
   exact k D ys φ' H' (g1.trans g l1) (aj l1 G) ba hy h0 a2 ra R'
variable {Γ:Gm} {X:Cx}
noncomputable def bT7 (Γ:Gm)(φ:Nat->Addr)(H:Hp)(n:Nat)(D:Ends):jE->Prop
 | .next ρ=>∀ σ,RE Γ φ H n ρ σ->D.nx σ H
 | .ret d=>∀ v,d.bnd n=true->RV Γ φ H d v->D.rt v H
 | .cont ρ=>∀ σ,RE Γ φ H n ρ σ->D.ct σ H
 | .brk ρ=>∀ σ,RE Γ φ H n ρ σ->D.bk σ H
def an5 (Γ:Gm)(φ:Nat->Addr)(s:i8)(H:Hp)(c:jE)(s':i8)(D:Ends):Prop :=
 ∀ φ' H',Gr φ s H φ' s' H'->s.length<=s'.length->Rp Γ φ' H' s'->bT7 Γ φ' H' s'.length D c
def TSv (Γ:Gm)(m:jb->i8->jc jE):TS:=fun D σ H=>∃ φ ρ s c s',RE Γ φ H s.length ρ σ/\Rp Γ φ H s/\m ρ s=.ok c s'/\an5 Γ φ s H c s' D
theorem PS.imp {e:Stmt}{t t':TS}(h:PS X e t)(i:∀ D σ H,t' D σ H->t D σ H):PS X e t':=fun z s σ H Q I q=>h z s σ H Q I (i Q σ H q)
theorem PSs.imp {e:List Stmt}{t t':TS}(h:PSs X e t)(i:∀ D σ H,t' D σ H->t D σ H):PSs X e t':=fun z s σ H Q I q=>h z s σ H Q I (i Q σ H q)
theorem an5.trans {φ φ1:Nat->Addr}{s s1 s':i8}{H z:Hp}{c:jE}{D:Ends}(h:an5 Γ φ s H c s' D)(g:Gr φ s H φ1 s1 z)(l:s.length<=s1.length):an5 Γ φ1 s1 z c s' D :=
 fun φ' H' g' F p=>h φ' H' (g.trans g' l) (aj l F) p
theorem an5.here {φ:Nat->Addr}{s:i8}{H:Hp}{c:jE}{D:Ends}(h:an5 Γ φ s H c s D)(p:Rp Γ φ H s):bT7 Γ φ H s.length D c:=h φ H (Gr.refl φ s H) (ai _) p
variable {D:Ends} {σ:St} {H:Hp}
theorem bl3 {m:jb->i8->jc jE}(z:∀ ρ s,m ρ s=.ok (.next ρ) s)(h:TSv Γ m D σ H):by5 D σ H:=by
 obtain⟨φ,ρ,s,c,s',E,R,e,q⟩:=h
 rw[z]at e;cases e
 exact q.here R σ E
theorem bH8 {m:jb->i8->jc i9}(h:TSv Γ (fun ρ s=>(m ρ s).bind fun d s=>.ok (.ret d) s) D σ H):bW6 (TEv Γ m) D σ H:=by
 obtain⟨φ,ρ,s,c,s',E,R,e,q⟩:=h
 obtain⟨x,s1,e1,e⟩:=aa0 e
 cases e
 exact⟨φ,ρ,s,x,_,E,R,e1,fun v φ1 F g1 l1 z r1 R1=>q φ1 F g1 l1 R1 v z r1⟩
theorem bm1 {m:jb->i8->jc i9}(h:TSv Γ (fun ρ s=>(m ρ s).bind fun _ s=>.ok (.next ρ) s) D σ H):bI6 (TEv Γ m) D σ H:=by
 obtain⟨φ,ρ,s,c,s',E,R,e,q⟩:=h
 obtain⟨x,s1,e1,e⟩:=aa0 e
 cases e
 exact⟨φ,ρ,s,x,_,E,R,e1,fun v φ1 z g1 l1 F r1 R1=>q φ1 z g1 l1 R1 σ (E.mono g1 l1)⟩
theorem aV2 {m:jb->i8->jc i9}{tg:jD}(h:TSv Γ (fun ρ s=>(m ρ s).bind fun d s=>match jx ρ tg d with|some ρ=>.ok (.next ρ) s|none=>.bad) D σ H):bc4 (TEv Γ m) (gOf Γ.K tg) D σ H:=by
 obtain⟨φ,ρ,s,c,s',E,R,e,q⟩:=h
 obtain⟨x,s1,e1,e⟩:=aa0 e
 refine⟨φ,ρ,s,x,s1,E,R,e1,fun v φ1 G g1 l1 z r1 R1=>?_⟩
 cases hb:jx ρ tg x with
 | none=>rw[hb]at e;cases e
 | some ρ1 =>
  rw[hb]at e
  cases e
  exact bt0 (E.mono g1 l1) r1 z hb fun σ' F=>q φ1 G g1 l1 R1 σ' F
theorem bc0 {m:jb->i8->jc (List i9)}(h:TSv Γ (fun ρ s=>((m ρ s).bind fun l s=>jJ (.lst l) s).bind fun d s=>match jx ρ tg d with|some ρ=>.ok (.next ρ) s|none=>.bad) D σ H):bc4 (TFv Γ m) (gOf Γ.K tg) D σ H :=
 aR5 (aV2 h)
def bx9 (Γ:Gm):bK0:=fun o i v H Q=>∃ φ s x y d s',Rp Γ φ H s/\RV Γ φ H x o/\RV Γ φ H y i/\RV Γ φ H d v/\x.bnd s.length=true/\y.bnd s.length=true/\d.bnd s.length=true/\DV.setIx x y d s=.ok () s' /\
 ∀ φ' H',Gr φ s H φ' s' H'->s.length<=s'.length->Rp Γ φ' H' s'->Q H'
theorem aX4 {me mo Y:jb->i8->jc i9}(h:TSv Γ (fun ρ s=>(me ρ s).bind fun d s=>(mo ρ s).bind fun x s=>(Y ρ s).bind fun y s=>(DV.setIx x y d s).bind fun _ s=>.ok (.next ρ) s) D σ H) :
  bc4 (TEv Γ me) (bV1 (TEv Γ mo) (TEv Γ Y) (bx9 Γ)) D σ H:=by
 obtain⟨φ,ρ,s,c,s',E,R,e,q⟩:=h
 obtain⟨d,s1,e1,e⟩:=aa0 e
 obtain⟨x,s2,e2,e⟩:=aa0 e
 obtain⟨y,s3,e3,e⟩:=aa0 e
 obtain⟨u,s4,e4,e⟩:=aa0 e
 cases e
 refine⟨φ,ρ,s,d,s1,E,R,e1,fun v1 φ1 H1 g1 l1 N r1 R1=>?_⟩
 refine⟨φ1,ρ,s1,x,s2,E.mono g1 l1,R1,e2,fun v2 φ2 H2 g2 z b2 r2 R2=>?_⟩
 have J:=g1.trans g2 l1
 have L2:=aj l1 z
 refine⟨φ2,ρ,s2,y,s3,E.mono J L2,R2,e3,fun v3 φ3 H3 G F b3 r3 R3=>?_⟩
 refine⟨φ3,s3,x,y,d,_,R3,RV.mono G x v2 b2 r2,r3,RV.mono (g2.trans G z) d v1 N r1,zg F x b2,b3,zg (aj z F) d N,e4,fun φ4 H4 g4 l4 R4=>?_⟩
 have Z:=J.trans G L2
 have L3:=aj L2 F
 exact q φ4 H4 (Z.trans g4 L3) (aj L3 l4) R4 σ (E.mono (Z.trans g4 L3) (aj L3 l4))
theorem bJ0 (hu:X.A.units+1<cLine):bS4 X (bx9 Γ):=by
 intro Y sh σ H o i v ov iv u Q I ro ri rv h
 obtain⟨φ,s,x,y,d,s',R,rx,ry,rd,bx,N,bd,F,q⟩:=h
 cases x with
 | ref r =>
  have F:(match s[r]? with
   | some (.lst l)=>(match y with
    | .int i=>(match jL l.length i with|some j=>DV.R.ok () (s.set r (.lst (l.set j d)))|none=>.bad)
    | _=>.bad)
   | some (.dic l)=>if y.key&&decide (l.length<jg)then .ok () (s.set r (.dic (jm y d l)))else .bad
   | some (.dit l)=>if y.keyT&&decide (l.length<jg)then .ok () (s.set r (.dit (jm y d l)))else .bad
   | _=>.bad)=.ok () s':=F
  cases e:s[r]? with
  | none=>rw[e]at F;cases F
  | some ob =>
   rw[e]at F
   cases ob with
   | lst l =>
    cases y with
    | int k =>
     have F:(match jL l.length k with|some j=>DV.R.ok () (s.set r (.lst (l.set j d)))|none=>.bad)=.ok () s':=F
     cases ej:jL l.length k with
     | none=>rw[ej]at F;cases F
     | some j =>
      rw[ej]at F
      cases F
      obtain⟨xs,Z,G⟩:=R.addr e
      have hb:ja s.length (l.set j d)=true:=ad3.mpr fun z hz=>by
       rcases List.mem_or_eq_of_mem_set hz with h|h
       ·exact ad3.mp (by have:=R.wf r _ e;unfold jf at this;exact this) z h
       ·subst h;exact bd
      refine bb2 Y sh σ H o i v ov iv u Q I ro ri rv ⟨φ r,xs,k,j,rx.refE,ry.intE,Z,?_,?_⟩
      ·rw[G.length];exact ej
      ·obtain⟨g,R'⟩:=R.set (o:=.lst (l.set j d)) (u:=.lst (xs.set j v)) e rfl hb fun H' g e=>⟨_,e,RVL.monoW g _ _ hb (G.set j rd)⟩
       exact q _ _ g (by simp) R'
    | _=>exact fb F
   | dic l =>
    have F:(if y.key&&decide (l.length<jg)then DV.R.ok () (s.set r (.dic (jm y d l)))else .bad)=.ok () s':=F
    split at F
    case isFalse=>exact fb F
    rename_i hc
    cases F
    rw[ag]at hc
    obtain⟨k,hk⟩:=am8 hc.1
    have hlt:=of_decide_eq_true hc.2
    obtain⟨kvs,Z,G⟩:=R.obj r _ e
    have ex:=rx.refE;subst ex
    cases ro
    have ey:=ay8 hk ry;subst ey
    have hb:(DV.O.dic (jm y d l)).bnd s.length=true:=aF0 (R.wf r _ e) N bd
    have J:ja s.length ((jm y d l).map (·.2))=true:=by
     unfold jf at hb
     rw[ag]at hb
     exact hb.2
    obtain⟨g,R'⟩:=R.set (o:=.dic (jm y d l)) (u:=.dK (at1 kvs k v)) e rfl hb fun H' g e=>⟨_,e,RVD.monoW g _ _ J (G.put keyOf_inj hk rd)⟩
    exact ay5 hu I (br9.k Z (by rw[G.length];exact ax hlt zB)) ri rv fun s4 I4=>⟨_,I4,q _ _ g (by simp) R'⟩
   | dit l =>
    have F:(if y.keyT&&decide (l.length<jg)then DV.R.ok () (s.set r (.dit (jm y d l)))else .bad)=.ok () s':=F
    split at F
    case isFalse=>exact fb F
    rename_i hc
    cases F
    rw[ag]at hc
    obtain⟨k,hk⟩:=ao0 hc.1
    have hlt:=of_decide_eq_true hc.2
    obtain⟨kvs,Z,G⟩:=R.obj r _ e
    have ex:=rx.refE;subst ex
    cases ro
    obtain⟨kb,ey,a0⟩:=aB6 hk ry;subst ey
    have hb:(DV.O.dit (jm y d l)).bnd s.length=true:=bb5 (R.wf r _ e) N bd
    have J:ja s.length ((jm y d l).map (·.2))=true:=by
     unfold jf at hb
     rw[ag]at hb
     exact hb.2
    obtain⟨g,R'⟩:=R.set (o:=.dit (jm y d l)) (u:=.dT (at1 kvs k v)) e rfl hb fun H' g e=>⟨_,e,RVD.monoW g _ _ J (G.put keyT_inj hk rd)⟩
    exact ay5 hu I (br9.t Z a0 (by rw[G.length];exact ax hlt zB)) ri rv fun s4 I4=>⟨_,I4,q _ _ g (by simp) R'⟩
   | _=>exact fb F
 | _=>exact fb F
theorem bN1 {mc:jb->i8->jc i9}{F G:jb->i8->jc jE}(h:TSv Γ (fun ρ s=>jk (mc ρ s) fun k s=>if k then F ρ s else G ρ s) D σ H):bT4 (TTv Γ mc) (TSv Γ F) (TSv Γ G) D σ H:=by
 obtain⟨φ,ρ,s,d,s',E,R,z,q⟩:=h
 obtain⟨c,s1,e1,z⟩:=zy z
 refine⟨φ,ρ,s,c,s1,E,R,e1,fun φ1 J g1 l1 R1=>?_⟩
 cases c with
 | true =>
  rw[if_pos rfl]at z ⊢
  exact⟨φ1,ρ,s1,d,s',E.mono g1 l1,R1,z,q.trans g1 l1⟩
 | false =>
  rw[if_neg aS]at z ⊢
  exact⟨φ1,ρ,s1,d,s',E.mono g1 l1,R1,z,q.trans g1 l1⟩
theorem bF1 {G J:jb->i8->jc jE}(h:TSv Γ (fun ρ s=>(G ρ s).bind fun c s=>match c with|.next ρ=>J ρ s|c=>.ok c s) D σ H):bV4 (TSv Γ G) (TSv Γ J) D σ H:=by
 obtain⟨φ,ρ,s,c,s',E,R,z,q⟩:=h
 obtain⟨N,s1,e1,z⟩:=aa0 z
 refine⟨φ,ρ,s,N,s1,E,R,e1,fun φ1 F g1 l1 R1=>?_⟩
 cases N with
 | next ρ1=>exact fun σ1 Y=>⟨φ1,ρ1,s1,c,s',Y,R1,z,q.trans g1 l1⟩
 | ret d=>cases z;exact q φ1 F g1 l1 R1
 | cont ρ=>cases z;exact q φ1 F g1 l1 R1
 | brk ρ=>cases z;exact q φ1 F g1 l1 R1
theorem ba6 {mc:jb->i8->jc i9}{J:jb->i8->jc jE}(h:TSv Γ (DV.whl mc J) D σ H):bi6 (TTv Γ mc) (TSv Γ J) D σ H:=by
 obtain⟨φ,ρ,s,c,s',E,R,z,q⟩:=h
 unfold DV.whl at z
 split at z
 case isFalse=>exact fb z
 rename_i hn
 generalize hn.choose=n at z
 refine⟨fun n σ H=>∃ φ ρ s,RE Γ φ H s.length ρ σ/\Rp Γ φ H s/\DV.qr mc J n ρ s=.ok c s'/\an5 Γ φ s H c s' D,⟨n,φ,ρ,s,E,R,z,q⟩,?_⟩
 clear E R z q hn
 rintro n σ H ⟨φ,ρ,s,E,R,z,q⟩
 cases n with
 | zero=>exact fb z
 | succ n =>
  unfold DV.qr at z
  obtain⟨b,s1,e1,z⟩:=zy z
  refine⟨φ,ρ,s,b,s1,E,R,e1,fun φ1 H1 g1 l1 R1=>?_⟩
  cases b with
  | false =>
   rw[if_neg aS]at z ⊢
   cases z
   exact q φ1 H1 g1 l1 R1 σ (E.mono g1 l1)
  | true =>
   rw[if_pos rfl]at z ⊢
   obtain⟨N,s2,e2,z⟩:=aa0 z
   refine⟨_,fun σ' H' w=>⟨n,cg n,w⟩,φ1,ρ,s1,N,s2,E.mono g1 l1,R1,e2,fun φ2 Y g2 Z R2=>?_⟩
   have G:=g1.trans g2 l1
   have L:=aj l1 Z
   cases N with
   | next ρ1=>exact fun σ1 F=>⟨φ2,ρ1,s2,F,R2,z,q.trans G L⟩
   | cont ρ1=>exact fun σ1 F=>⟨φ2,ρ1,s2,F,R2,z,q.trans G L⟩
   | ret d=>cases z;exact q φ2 Y G L R2
   | brk ρ=>cases z;exact q φ2 Y G L R2
theorem by3 {mI : DV.Env -> DV.Sto -> DV.R DV.Sq} {mb : DV.Env -> DV.Sto -> DV.R DV.Ct} {tg : DV.Tg} (h : TSv Γ (fun ρ s => (mI ρ s).bind fun q s0 => DV.aw5 (fun s => DV.chk s0 s q.src) (fun d ρ s => match DV.aj0 ρ tg d with
      | some ρ => mb ρ s
      | none => .bad) q.its ρ s0) D σ H) : bU7 (TIv Γ mI) (gOf Γ.K tg) (TSv Γ mb) D σ H := by
  obtain⟨φ, ρ, s, c, s', E, R, hm, k⟩ := h
  obtain⟨q, s0, e1, hm⟩ := aa0 hm
  refine⟨φ, ρ, s, q, s0, E, R, e1, fun J φ1 H1 g1 l1 b1 R1 wk => ?_⟩
  refine⟨fun i m σ' H' => ∃ φ' ρ' t, Gr φ1 s0 H1 φ' t H' /\ Rp Γ φ' H' t /\ RE Γ φ' H' t.length ρ' σ' /\ i <= q.its.length /\ m = q.its.length - i /\
    ki (fun s => jH s0 s q.src) (fun d ρ s => match jx ρ tg d with
      | some ρ => mb ρ s
      | none => .bad) (q.its.drop i) ρ' t = .ok c s', ⟨q.its.length, ?_⟩, ?_⟩
  · exact⟨φ1, ρ, s0, Gr.refl _ _ _, R1, E.mono g1 l1, c0 _, by simp, by rw[fK]; exact hm⟩
  · rintro i m σ' H' ⟨φ', ρ', t, g, R', E', hil, rfl, hc⟩
    have hle := g.le
    rcases iO i q.its.length with hlt|hge
    · have hd : q.its[i]? = some q.its[i] := am hlt
      rw[dZ hlt]at hc
      unfold ki at hc
      split at hc
      case isFalse => exact fb hc
      rename_i hck
      obtain⟨hgo, hy2⟩ := (wk φ' H' t g hle R' hck i).1 hlt
      refine .inr ⟨hgo, _, fun σ2 H2 n => ⟨q.its.length - (i + 1), by omega, n⟩, fun x H2 hyl => ?_⟩
      obtain⟨sm, rv⟩ := hy2 x H2 hyl
      obtain⟨g2, R2⟩ := R'.same sm
      have rd := rv _ hd
      have bd : (q.its[i]).bnd t.length = true := zg hle _ (al0 b1 hd)
      obtain⟨c1, t3, hs, hc⟩ := aa0 hc
      cases hb : jx ρ' tg q.its[i]with
      | none => rw[hb]at hs; cases hs
      | some ρ3 =>
        rw[hb]at hs
        refine bt0 (E'.mono g2 (ai _)) rd bd hb fun σ3 E3 => ?_
        refine⟨φ', ρ3, t, c1, t3, E3, R2, hs, fun φ2 H4 g4 l4 R4 => ?_⟩
        have G4 := (g.trans g2 hle).trans g4 hle
        have L4 := aj hle l4
        have GG := g1.trans G4 l1
        cases c1 with
        | next ρ1 => exact fun σ1 E1 => ⟨φ2, ρ1, t3, G4, R4, E1, hlt, rfl, hc⟩
        | cont ρ1 => exact fun σ1 E1 => ⟨φ2, ρ1, t3, G4, R4, E1, hlt, rfl, hc⟩
        | ret d => cases hc; exact k φ2 H4 GG (aj l1 L4) R4
        | brk ρ => cases hc; exact k φ2 H4 GG (aj l1 L4) R4
    · rw[fj hge]at hc
      unfold ki at hc
      split at hc
      case isFalse => exact fb hc
      rename_i hck
      cases hc
      exact .inl ⟨(wk φ' H' s' g hle R' hck i).2 hge, k φ' H' (g1.trans g l1) (aj l1 hle) R' σ' E'⟩
structure Ck where
 N:List Str
 sc:Scope
 lk:String->List Nat->Expr->Bool
noncomputable abbrev ck0 (N:List Str)(sc:Scope):Ck:=⟨N,sc,fun _ _ _=>false⟩
noncomputable def Ck.vis (c:Ck)(x:Str):Bool:=match c.sc.names.lookup x with|some .local=>true|some .cell=>true|some .free=>true|_=>false
noncomputable def Ck.loc (c:Ck)(x:Str):Bool:=match c.sc.names.lookup x with|some .local=>true|some .cell=>true|_=>false
noncomputable def Ck.gl (c:Ck)(x:Str):Bool:=(match c.sc.names.lookup x with|some .globalImplicit=>true|_=>false)&&!(x==("__debug__":Str))&&!decide (x=("__name__":Str))
noncomputable def Ck.var (c:Ck)(i:Nat)(x:Str):Bool:=decide (c.N[i]?=some x)&&c.vis x&&!(x==("__debug__":Str))&&!(x==("__classdict__":Str))
noncomputable def shp:Expr->Bool
 | .Starred ..=>false
 | .Set ..=>false
 | .SetComp ..=>false
 | .DictComp ..=>false
 | .GeneratorExp ..=>false
 | .Slice ..=>false
 | .NamedExpr ..=>false
 | _=>true
noncomputable def ay0:Expr->Bool
 | .ListComp ..=>false
 | .SetComp ..=>false
 | .DictComp ..=>false
 | _=>true
noncomputable def bF5:Expr->Bool
 | .Tuple ..=>false
 | _=>true
noncomputable def bM9:Expr->Bool
 | .Call _ [] [] _=>false
 | _=>true
noncomputable def mC:DV.Cn->Const->Bool
 | .non,.none=>true
 | .bl b,.bool c=>b==c
 | .int i,.int j=>decide (i=j)
 | .str x,.str y=>decide (y=⟨x.toArray⟩)&&decide (x.length<=1000)
 | _,_=>false
noncomputable def bJ9 (ck:Ck):List Nat->List Expr->Bool
 | [],[]=>true
 | i::is,.Name x _::es=>decide (ck.N[i]?=some x)&&ck.loc x&&bJ9 ck is es
 | _,_=>false
noncomputable def mTg (ck:Ck):jD->Expr->Bool
 | .one i,.Name x _=>decide (ck.N[i]?=some x)&&ck.loc x
 | .tup is,.Tuple es _ _=>bJ9 ck is es
 | _,_=>false
noncomputable def tgN:Expr->List Str
 | .Name x _=>[x]
 | .Tuple es _ _=>es.filterMap fun e=>match e with|.Name x _=>some x|_=>none
 | _=>[]
structure ItT where
 x:Str
 y:Str
 ob:Expr
 sc:Scope
 p1:Pos
 p2:Pos
 p3:Pos
 p4:Pos
 p5:Pos
 p6:Pos
 p7:Pos
 k1:Nat
 k2:Nat
 ap:Pos
 cp:Pos
 pos:Pos
noncomputable def ItT.tg (q:ItT):Expr:=.Tuple [.Name q.x q.p5,.Name q.y q.p6] q.k2 q.p7
noncomputable def ItT.it (q:ItT):Expr:=.Call (.Attribute q.ob "items" q.ap) [] [] q.cp
noncomputable def ItT.text (q:ItT):Expr:=.ListComp (.BinOp (.Name q.x q.p1) .Add (.Tuple [.Name q.y q.p2] q.k1 q.p3) q.p4) [⟨q.tg,q.it,[],0⟩] q.sc q.pos
noncomputable def ckC (ck:Ck)(tgt:Expr)(caps:List (Option Nat))(scope:Scope):Ck:=⟨tgN tgt++(caps.filterMap id).map fun j=>ck.N.getD j "",scope,fun _ _ _=>false⟩
noncomputable def aL5 (ck:Ck)(tg:jD)(tgt iter:Expr)(caps:List (Option Nat))(scope:Scope):Bool :=
 zH (ckC ck tgt caps scope).N caps scope ck.N ck.sc&&decide ((ckC ck tgt caps scope).N.Nodup)&&mTg (ckC ck tgt caps scope) tg tgt&&shp iter
noncomputable def biT:jC->Option Str
 | .len=>some "len" | .abs=>some "abs" | .min2=>some "min" | .max2=>some "max" | .int=>some "int" | _=>none
noncomputable def biK:jC->Option (Nat×Str)
 | .isInt=>some (1, "int")|.isBool=>some (2, "bool")|.isStr=>some (3, "str")|.isTup=>some (4, "tuple")|.isList=>some (5, "list")|_=>none
noncomputable def mkT:j6->Option Str
 | .tuple=>some "tuple" | .list=>some "list" | _=>none
noncomputable def mkF:j6->Option Str
 | .all=>some "all" | .sum=>some "sum" | .min=>some "min" | _=>none
noncomputable def mtT:j7->Option (Str×Nat)
 | .append=>some ("append",1)|.pop=>some ("pop",0)|_=>none
noncomputable def bJ7 (ck:Ck)(b:jC)(x:Str)(xs:List Expr)(m1 m2:Bool):Bool:=match biK b with
 | some p=>(match xs with|[_,.Name y _]=>decide (x=("isinstance":Str))&&ck.gl x&&decide (y=p.2)&&ck.gl y&&m2|_=>false)
 | none=>(match xs with|_::_=>decide (biT b=some x)&&ck.gl x&&m1|[]=>false)
noncomputable def lamArgs:bP->Option (List Str)
 | ⟨[],args,none,[],[],none,[]⟩=>some (args.map (·.arg))
 | _=>none
mutual
noncomputable def mE (ck:Ck):jV->Expr->Bool
 | .var i,E=>match E with|.Name x _=>ck.var i x|_=>false
 | .cst c,E=>match E with|.Constant v _ _=>mC c v|_=>false
 | .glob g,E=>match E with|.Name x _=>decide (x=(g:Str))&&ck.gl x|_=>false
 | .bin op a b,E=>match E with|.BinOp l o r _=>decide (o=bR1 op)&&mE ck a l&&mE ck b r|_=>false
 | .neg a,E=>match E with|.UnaryOp .USub l _=>mE ck a l|_=>false
 | .not a,E=>match E with|.UnaryOp .Not l _=>mE ck a l|_=>false
 | .cmp op a b,E=>match E with|.Compare l [o] [r] _=>decide (o=bu2 op)&&mE ck a l&&mE ck b r|_=>false
 | .chain _ _ _ _ _,_=>false
 | .isN _,_=>false
 | .notN _,_=>false
 | .isB _ _,_=>false
 | .notB _ _,_=>false
 | .and a b,E=>match E with
  | .BoolOp .And [l,r] _=>mE ck a l&&mE ck b r
  | .BoolOp .And (l::m::r::es) p=>mE ck a l&&mE ck b (.BoolOp .And (m::r::es) p)
  | _=>false
 | .or a b,E=>match E with
  | .BoolOp .Or [l,r] _=>mE ck a l&&mE ck b r
  | .BoolOp .Or (l::m::r::es) p=>mE ck a l&&mE ck b (.BoolOp .Or (m::r::es) p)
  | _=>false
 | .ite c a b,E=>match E with|.IfExp t l r _=>mE ck c t&&mE ck a l&&mE ck b r|_=>false
 | .tup es,E=>match E with|.Tuple xs _ _=>mEs ck es xs&&decide (xs.length<=1000)|_=>false
 | .lst es,E=>match E with|.List xs _=>mEs ck es xs&&decide (xs.length<=1000)|_=>false
 | .dic ks vs,E=>match E with|.Dict a b _=>(match a,b with|[],[]=>mEs ck ks []&&mEs ck vs []|[some x],[y]=>mEs ck ks [x]&&mEs ck vs [y]|_,_=>false)|_=>false
 | .slL a lo,E=>match E with|.Subscript o (.Slice (some l) none none _) _=>mE ck a o&&mE ck lo l|_=>false
 | .slU a hi,E=>match E with|.Subscript o (.Slice none (some h) none _) _=>mE ck a o&&mE ck hi h|_=>false
 | .slLU _ _ _,_=>false
 | .rev _,_=>false
 | .fstr es,E=>match E with|.JoinedStr vs _=>decide (2<=vs.length)&&mFs ck es vs|_=>false
 | .inC e c,E=>match E with|.Compare l [.In] [.Name x _] _=>decide (x=(c:Str))&&ck.gl x&&mE ck e l|_=>false
 | .getC c e,E=>match E with|.Subscript (.Name x _) i _=>decide (x=(c:Str))&&ck.gl x&&mE ck e i&&shp i|_=>false
 | .bitl _,_=>false
 | .lrng _,_=>false
 | .dicT,_=>false
 | .get2 _ _ _,_=>false
 | .ix a b,E=>match E with|.Subscript o i _=>mE ck a o&&mE ck b i|_=>false
 | .call f as,E=>match E with|.Call (.Name x _) xs [] _=>decide (x=(f:Str))&&ck.gl x&&mAs ck as xs|_=>false
 | .callC _ _,_=>false
 | .callV _ _,_=>false
 | .bi b es,E=>match E with|.Call (.Name x _) xs [] _=>bJ7 ck b x xs (mEs ck es xs) (mEs ck es (xs.take 1))|_=>false
 | .mk k l,E=>match E with
  | .Call (.Name x _) [a] [] _=>ck.gl x&&shp a&&((decide (mkT k=some x)&&mL ck 2 l a)||(decide (mkF k=some x)&&mL ck 1 l a))
  | .ListComp e gs sc p=>decide (k=.list)&&mL ck 0 l (.ListComp e gs sc p)
  | _=>false
 | .mkD _ _ _,_=>false
 | .meth m o es,E=>match E with
  | .Call (.Attribute ob x ap) xs [] cp=>decide (mtT m=some (x,xs.length))&&bM9 ob&&(ap.endLine==cp.line)&&mE ck o ob&&mEs ck es xs
  | _=>false
 | .ext _ _,_=>false
 | .extS _ _,_=>false
 | .mks _ _,_=>false
 | .mkDs _ _ _,_=>false
 | .minK _ _ _,_=>false
 | .join _ _,_=>false
noncomputable def mEs (ck:Ck):ju->List Expr->Bool
 | .nil,xs=>match xs with|[]=>true|_=>false
 | .cons e es,xs=>match xs with|x::xs=>mE ck e x&&shp x&&mEs ck es xs|_=>false
noncomputable def mFs (ck:Ck):ju->List Expr->Bool
 | .nil,xs=>match xs with|[]=>true|_=>false
 | .cons e es,xs=>match xs with
  | .FormattedValue v c none _::xs=>decide (c=-1)&&mE ck e v&&mFs ck es xs
  | .Constant v j p::xs=>mE ck e (.Constant v j p)&&mFs ck es xs
  | _=>false
noncomputable def mAs (ck:Ck):j8->List Expr->Bool
 | .nil,xs=>match xs with|[]=>true|_=>false
 | .ex e es,xs=>match xs with|x::xs=>mE ck e x&&shp x&&mAs ck es xs|_=>false
 | .lam _ _ _,_=>false
 | .fn _ _,_=>false
noncomputable def bT6 (ck:Ck):j8->List Expr->Bool
 | .nil,xs=>match xs with|[]=>true|_=>false
 | .ex e es,xs=>match xs with|x::xs=>mE ck e x&&shp x&&bT6 ck es xs|_=>false
 | .lam _ _ _,_=>false
 | .fn _ _,_=>false
noncomputable def mI (ck:Ck)(tgt:Expr):DV.I->Expr->Bool
 | .rng1 a,E=>match E with|.Call (.Name x _) [l] [] _=>decide (x=("range":Str))&&ck.gl x&&mE ck a l&&shp l|_=>false
 | .rng2 _ _,_=>false
 | .seq e,x=>mE ck e x&&shp x
 | .rng3 _ _ _,_=>false
 | .enum (.seq _),_=>false
 | .zip (.seq _) (.seq _),_=>false
 | .enum _,_=>false
 | .zip _ _,_=>false
 | .items _,_=>false
noncomputable def mL (ck:Ck)(k:Nat):DV.L->Expr->Bool
 | .comp tg it e caps,E=>match E with|.ListComp elt [⟨tgt,iter,[],z⟩] scope _=>decide (z=0)&&aL5 ck tg tgt iter caps scope&&mI ck tgt it iter&&mE (ckC ck tgt caps scope) e elt|_=>false
 | .compIf tg it c e caps,E=>match E with|.ListComp elt [⟨tgt,iter,[i],z⟩] scope _=>decide (z=0)&&aL5 ck tg tgt iter caps scope&&mI ck tgt it iter&&mE (ckC ck tgt caps scope) c i&&mE (ckC ck tgt caps scope) e elt|_=>false
 | .disp es,E=>match E with|.List xs _=>decide (1<=k)&&mEs ck es xs&&decide (xs.length<=1000)|_=>false
 | .seq e,x=>decide (k=2)&&mE ck e x
 | .itm _,_=>false
end
theorem ff {p:Prop}(h:false=true):p:=Bool.noConfusion h
mutual
noncomputable def mS (ck:Ck):DV.S->Stmt->Bool
 | .asg tg e,S=>match S with
  | .Assign [t] v _=>mTg ck tg t&&mE ck e v&&(match tg with|.one _=>true|.tup _=>bF5 v&&ay0 v)
  | _=>false
 | .setIx o i e,S=>match S with|.Assign [.Subscript ob ix _] v _=>mE ck o ob&&mE ck i ix&&mE ck e v&&ay0 v|_=>false
 | .aug _ _,_=>false
 | .ex e,S=>match S with|.Expr v _=>mE ck e v&&ay0 v|_=>false
 | .ret e,S=>match S with|.Return (some v) _=>mE ck e v|_=>false
 | .retN,_=>false
 | .ite c a b,S=>match S with|.If t l r _=>mE ck c t&&mSs ck a l&&mSs ck b r|_=>false
 | .whl c b,S=>match S with|.While t l [] _=>mE ck c t&&mSs ck b l|_=>false
 | .for_ tg it b,S=>match S with|.For tgt iter l [] _=>mTg ck tg tgt&&mI ck tgt it iter&&mSs ck b l|_=>false
 | .pass,_=>false
 | .cont,_=>false
 | .brk,_=>false
 | .raise,_=>true
 | .und _,_=>false
noncomputable def mSs (ck:Ck):DV.Ss->List Stmt->Bool
 | .nil,xs=>match xs with|[]=>true|_=>false
 | .cons s ss,xs=>match xs with|x::xs=>(mS ck s x&&mSs ck ss xs)|_=>false
end
theorem aI4 {z:Ck}{e:jV}{E:Expr}(h:mE z e E=true):shp E=true:=by
 cases E<;>first|rfl|(exfalso;cases e<;>exact ff h)
theorem bB7 {F:Ck}{z:Expr}{e:DV.I}{E:Expr}(h:mI F z e E=true):shp E=true:=by
 cases e with
 | seq e=>have h:(mE F e E&&shp E)=true:=h;rw[ag]at h;exact h.2
 | enum a=>cases E<;>first|rfl|(exfalso;cases a<;>exact ff h)
 | zip a b=>cases E<;>first|rfl|(exfalso;cases a<;>first|exact ff h|(cases b<;>exact ff h))
 | _=>cases E<;>first|rfl|exact ff h
theorem zf {e:Expr}{es:List Expr}{env:Env}(h:shp e=true):bu (e::es) env=(false,eval e env)::bu es env:=by
 cases e<;>first|rfl|cases h
theorem zM {env:Env}{pos:Pos}:∀ {es:List Expr},(∀ e∈es,shp e=true)->(dz pos (bu es env)).any (·.1)=false/\(dz pos (bu es env)).all (fun x=>!x.1)=true
 | [],_=>⟨rfl,rfl⟩
 | e::es,h=>by
  have G:=zf (es:=es) (env:=env) (h e (az ..))
  obtain⟨F,z⟩:=zM (env:=env) (pos:=pos) (es:=es) fun x hx=>h x (aw _ hx)
  rw[G]
  unfold dz at F z ⊢
  simp only[aY,eG,dq,F,z]
  exact⟨rfl,rfl⟩
theorem aE7 {e:Expr}{env:Env}(h:shp e=true)(x:Value):cD e env x=pure x:=by
 cases e<;>first|rfl|cases h
theorem al5 {e:Expr}{op:CmpOp}(h:shp e=true):f7 op e=false:=by
 cases e<;>first|rfl|cases h
theorem au4 {e:Expr}{t:Option Expr}{l:Nat}{env:Env}(h:ay0 e=true):dL e t l env=pure false:=by
 cases e<;>first|rfl|cases h
theorem aO7 {e:Expr}{f:Str}{env:Env}(h:bM9 e=true):eC e f env (eval e env)=eval e env:=by
 cases e with
 | Call g a k p =>
  cases g with
  | Name x p' =>
   cases a with
   | nil=>cases k with
    | nil=>cases h
    | cons _ _=>rfl
   | cons _ _=>rfl
  | _=>rfl
 | _=>rfl
theorem aL3 {es:List Expr}{k:Nat}{p:Pos}{e:Expr}{env:Env}(h:bF5 e=true):f6 [.Tuple es k p] e env=pure none:=by
 cases e<;>first|rfl|cases h
theorem aK1 {o i:Expr}{p:Pos}{e:Expr}{env:Env}:f6 [.Subscript o i p] e env=pure none:=by
 cases e<;>rfl
theorem ar7 {e:Expr}(h:shp e=true):aQ1 e:=by
 intro o i
 cases e<;>first|rfl|cases h
def spV (Γ:Gm)(c:List i9->i8->jc i9):Sp:=fun vs H Q _=>rCl Γ c vs H Q
noncomputable def bNames:List Str:=["len", "abs", "min", "max", "int", "isinstance", "bool", "str", "tuple", "list", "range", "sum", "all", "any", "sorted", "zip", "enumerate", "ord"]
def spL (Γ:Gm)(c:List i9->List i9->i8->jc i9)(cap:List V):Sp:=fun vs H Q _=>∃ φ s cs l d s',Rp Γ φ H s/\RVL Γ φ H l vs/\RVL Γ φ H cs cap/\ja s.length l=true/\ja s.length cs=true/\c cs l s=.ok d s'/\aj4 Γ φ s H d s' Q
noncomputable def LamI.own (J:LamI):Str:=match J.nm with|none => "<lambda>" | some p=>p.1
noncomputable def lamText (J:LamI)(params:bP)(body:Expr)(scope:Scope)(pos:Pos):Expr:=match J.nm with
 | none=>.Lambda params body scope pos
 | some p=>.NamedExpr (.Name p.1 p.2) (.Lambda params body scope pos) pos
structure LamHere (Γ:Gm)(X:Cx)(N:List Str)(id:String)(caps:List Nat)(params:bP)(body:Expr)(scope:Scope)(c P:Addr)(J:LamI):Prop where
 code:X.env.code=.ref c
 hd:bW X.base c P
 bm:BM X.mg X.base
 ck:lamCheck scope X.env.scope=true
 df:defaultsOf params X.env=([],[])
 lg:Γ.lg id J
 q:J.qual=X.env.qual++J.own
 p:J.params=params
 b:J.body=body
 s:J.scope=scope
 len:J.fr.length=caps.length
 at_:∀(i j:Nat) (x:Str),caps[i]?=some j->J.fr[i]?=some x->N[j]?=some x
 fr:∀ x∈J.fr,scope.names.lookup x=some .free
 cl:∀ x,scope.names.lookup x=some .free->∃ c,X.env.cells.lookup x=some c
 tab:(P,J.qual)∈Γ.T
 nd:(Γ.T.map (·.1)).Nodup
 fn:∀ x,X.fn x=true
 kd:∀ x c,X.env.cells.lookup x=some c->X.env.kindOf x=some .cell\/X.env.kindOf x=some .free
 gs:LamScope (J.ps++J.fr) J.ps J.fr J.scope
 gp:lamArgs J.params=some J.ps
 gb:∀(clos:List (Str×Addr)) (pm:Value) (c':Addr) (ctv:Value) (us:List Value),us.length=J.ps.length->c6 (cH "<lambda>" J.qual J.params J.body J.scope clos pm (.ref c') ctv) ⟨us,[]⟩=pure (J.ps.zip us)
noncomputable def strD (kvs:List (List Nat×List Nat)):List (PyData×PyData):=kvs.map fun p=>(.str ⟨p.1.toArray⟩,.str ⟨p.2.toArray⟩)
structure CG (Γ:Gm)(F:jn)(n:Nat)(X:Cx)(ck:Ck):Prop where
 K:X.K=Γ.K
 N:X.N=ck.N
 nd:ck.N.Nodup
 xe:X.xe=fun _ _=>False
 calm:X.calm=true
 deep:jl+1<=n
 room:Room n X.A
 sc:∀ x k,ck.sc.names.lookup x=some k->X.env.scope.names.lookup x=some k\/(k=.free/\X.env.scope.names.lookup x=some .cell)
 fn:∀ x,ck.sc.names.lookup x=some .cell->X.fn x=true
 bi:∀ x∈bNames,X.mg x=none
 call:∀ f:String,(∀ l s,F.call f l s=.bad)\/∃ a fd ps,FnOk X.prog X.w X.K X.mg X.base CX0 n a fd ps (spV Γ (F.call f))/\X.mg (f:Str)=some (.ref a)/\bV X.K (.ref a)=true/\Binds X.K fd ps []
 con:∀ x d,F.con x=some d->∃ v u,X.mg (x:Str)=some u/\RelV v u/\(∀ m,d.bnd m=true)/\∀ φ H,RV Γ φ H d v
 lam:∀ id caps E,ck.lk id caps E=true->∃ c P params body scope pos J,E=lamText J params body scope pos/\LamHere Γ X ck.N id caps params body scope c P J
 cl:∀(id:String) (J:LamI) (f:Addr) (cap:List V) (clos:List (Str×Addr)),Γ.lg id J->cap.length=J.fr.length->ClOk X.prog X.w X.K X.mg X.base n (fun H=>CloAt H f J cap clos) f (spL Γ (F.lam id) cap)
 fa:∀(f:String) (a:Addr),Γ.fa f=some a->X.mg (f:Str)=some (.ref a)/\∃ oc od fd sl,X.K.lookup a=some ⟨oc,od,.func fd,sl⟩
 fk:DV.FK F
 cdc:∀ c kvs,F.cdc c=some kvs->∃ a,X.mg (c:Str)=some (.ref a)/\∀ h:Heap,X.K.In h->iP X.prog X.w h a (strD kvs)
section
variable {Γ:Gm} {F:jn} {n:Nat} {X:Cx} {ck:Ck}
theorem CG.vis (G:CG Γ F n X ck){x:Str}(h:ck.vis x=true):Vis X.env.scope x:=by
 unfold Ck.vis at h
 split at h
 ·rename_i e;rcases G.sc _ _ e with z|⟨z,_⟩
  ·exact .inl z
  ·cases z
 ·rename_i e;rcases G.sc _ _ e with z|⟨z,_⟩
  ·exact .inr (.inl z)
  ·cases z
 ·rename_i e;rcases G.sc _ _ e with z|⟨_,z⟩
  ·exact .inr (.inr z)
  ·exact .inr (.inl z)
 ·cases h
theorem CG.loc (G:CG Γ F n X ck){x:Str}(h:ck.loc x=true):Loc X.env.scope x/\(X.fn x=true\/X.env.scope.names.lookup x=some .local):=by
 unfold Ck.loc at h
 split at h
 ·rename_i e;rcases G.sc _ _ e with z|⟨z,_⟩
  ·exact⟨.inl z,.inr z⟩
  ·cases z
 ·rename_i e;rcases G.sc _ _ e with z|⟨z,_⟩
  ·exact⟨.inr z,.inl (G.fn _ e)⟩
  ·cases z
 ·cases h
theorem CG.gl (G:CG Γ F n X ck){x:Str}(h:ck.gl x=true):Gl X x/\(x==("__debug__":Str))=false/\x ≠ "__name__":=by
 unfold Ck.gl at h
 simp only[ag,d9]at h
 obtain⟨⟨J,Y⟩,N⟩:=h
 refine⟨?_,Y,of_decide_eq_false N⟩
 split at J
 ·rename_i e;rcases G.sc _ _ e with z|⟨z,_⟩
  ·exact z
  ·cases z
 ·cases J
theorem bf4 (G:CG Γ F n X ck):∀ {is:List Nat} {es:List Expr},bJ9 ck is es=true->PGs X es (bL0 is)/\(bU es X.env).length=is.length/\(bU es X.env).findIdx? (·.1)=none
 | [],[],_=>⟨bj8,rfl,rfl⟩
 | [],_::_,h=>by cases h
 | i::is,[],h=>by cases h
 | i::is,e::es,h=>by
  cases e with
  | Name x p =>
   unfold bJ9 at h
   simp only[ag,decide_eq_true_eq]at h
   obtain⟨⟨J,Z⟩,Y⟩:=h
   obtain⟨l1,z⟩:=G.loc Z
   obtain⟨a,b,c⟩:=bf4 G Y
   have hs:bU (.Name x p::es) X.env=(false,eS (.Name x p) X.env)::bU es X.env:=rfl
   refine⟨bb1 (aT7 (by rw[G.N];exact G.nd) (by rw[G.N];exact J) l1 z) a (by rw[hs];rfl),by rw[hs,aV,aV,b],?_⟩
   rw[hs,List.findIdx?_cons]
   simp[c]
  | _=>cases h
theorem bo8 (G:CG Γ F n X ck){tg:jD}{e:Expr}(h:mTg ck tg e=true):PG X e (gOf Γ.K tg):=by
 unfold mTg at h
 split at h
 ·simp only[ag,decide_eq_true_eq]at h
  obtain⟨l1,z⟩:=G.loc h.2
  exact aT7 (by rw[G.N];exact G.nd) (by rw[G.N];exact h.1) l1 z
 ·obtain⟨a,b,c⟩:=bf4 G h
  exact bo7 G.K G.calm a b c
 ·cases h
theorem CG.comp (G:CG Γ F n X ck){tg:jD}{Y iter:Expr}{J:List (Option Nat)}{scope:Scope}(h:aL5 ck tg Y iter J scope=true) :
  zH (ckC ck Y J scope).N J scope X.N X.env.scope=true/\shp iter=true /\
  ∀(C:Addr) (cells:List (Str×Addr)) (s:ae) (H:Hp) (ex:List Addr),CG Γ F n (zw X (ckC ck Y J scope).N scope C cells s H ex) (ckC ck Y J scope)/\PG (zw X (ckC ck Y J scope).N scope C cells s H ex) Y (gOf Γ.K tg):=by
 unfold aL5 at h
 simp only[ag,decide_eq_true_eq]at h
 obtain⟨⟨⟨Z,h2⟩,h3⟩,h4⟩:=h
 refine⟨?_,h4,fun C cells s H ex=>?_⟩
 ·rw[G.N]
  unfold zH at Z ⊢
  simp only[ag]at Z ⊢
  obtain⟨⟨⟨⟨⟨a1,a2⟩,a3⟩,a4⟩,a5⟩,a6⟩:=Z
  refine⟨⟨⟨⟨⟨a1,?_⟩,a3⟩,a4⟩,a5⟩,a6⟩
  rw[aQ]at a2 ⊢
  intro y hy
  have:=a2 y hy
  rw[bh]at this ⊢
  rcases this with q|q
  ·exact .inl q
  ·right
   rw[bh]at q ⊢
   rcases q with q|q
   ·rcases G.sc _ _ (eq_of_beq q)with z|⟨z,_⟩
    ·left;rw[z];exact beq_self_eq_true _
    ·cases z
   ·rcases G.sc _ _ (eq_of_beq q)with z|⟨_,z⟩
    ·right;rw[z];exact beq_self_eq_true _
    ·left;rw[z];exact beq_self_eq_true _
 ·have G':CG Γ F n (zw X (ckC ck Y J scope).N scope C cells s H ex) (ckC ck Y J scope):=by
   refine⟨G.K,rfl,h2,rfl,G.calm,G.deep,G.room,fun x k e=>?_,fun x e=>?_,G.bi,G.call,G.con,fun _ _ _ h=>(by cases h),G.cl,G.fa,G.fk,G.cdc⟩
   ·have q:=zU (env:=X.env) e
    have q':(dm scope X.env).names.lookup x=some (if(k==NameKind.free&&X.env.scope.kind==.function&&X.env.kindOf x==some .cell)then NameKind.cell else k):=q
    show(dm scope X.env).names.lookup x=some k\/_
    rw[q']
    split
    ·rename_i hc
     simp only[ag]at hc
     exact .inr ⟨eq_of_beq hc.1.1,rfl⟩
    ·exact .inl rfl
   ·show(scope.names.lookup x==some .cell)=true
    rw[show scope.names.lookup x=some .cell from e];rfl
  exact⟨G',bo8 G' h3⟩
end
section
variable {Γ:Gm} {F:jn} {n:Nat} {X:Cx} {ck:Ck} {σ:St} {H:Hp} {Q:VK}
theorem TEv.eq {m m':jb->i8->jc i9}(e:∀ ρ s,m ρ s=m' ρ s)(q:TEv Γ m σ H Q):TEv Γ m' σ H Q:=by
 have:m=m':=funext fun ρ=>funext fun s=>e ρ s
 subst this;exact q
theorem TTv.eq {m m':jb->i8->jc i9}{Q:Bool->Hp->Prop}(e:∀ ρ s,m ρ s=m' ρ s)(q:TTv Γ m σ H Q):TTv Γ m' σ H Q:=by
 have:m=m':=funext fun ρ=>funext fun s=>e ρ s
 subst this;exact q
theorem TAv.eq {m m':jb->i8->jc (List i9)}{Q:List V->Hp->Prop}(e:∀ ρ s,m ρ s=m' ρ s)(q:TAv Γ m σ H Q):TAv Γ m' σ H Q:=by
 have:m=m':=funext fun ρ=>funext fun s=>e ρ s
 subst this;exact q
theorem TFv.eq {m m':jb->i8->jc (List i9)}(e:∀ ρ s,m ρ s=m' ρ s)(q:TFv Γ m σ H Q):TFv Γ m' σ H Q:=by
 have:m=m':=funext fun ρ=>funext fun s=>e ρ s
 subst this;exact q
theorem TIv.eq {m m':jb->i8->jc jY}{R:It->Hp->Prop}(e:∀ ρ s,m ρ s=m' ρ s)(q:TIv Γ m σ H R):TIv Γ m' σ H R:=by
 have:m=m':=funext fun ρ=>funext fun s=>e ρ s
 subst this;exact q
theorem TSv.eq {m m':jb->i8->jc jE}{D:Ends}(e:∀ ρ s,m ρ s=m' ρ s)(q:TSv Γ m D σ H):TSv Γ m' D σ H:=by
 have:m=m':=funext fun ρ=>funext fun s=>e ρ s
 subst this;exact q
def EvT (Γ:Gm)(X:Cx)(E:Expr)(m:jb->i8->jc i9):Prop:=PE X E (TEv Γ m)/\PT X E (TTv Γ m)
theorem EvT.val {E:Expr}{m:jb->i8->jc i9}(h:PE X E (TEv Γ m))(he:∀ z,cT E X.env z=(do let v <- z;standAt E.pos;hG [v] (truthy v)):=by intro _;rfl):EvT Γ X E m :=
 ⟨h,(bw6 h he).imp fun σ H Q q=>bi9 q⟩
theorem be4 {c a b:Expr}{pos:Pos}{J tb Y:TT}(hc:PT X c J)(ha:PT X a tb)(hb:PT X b Y):PT X (.IfExp c a b pos) (fun σ H Q=>J σ H fun k F=>if k=true then tb σ F Q else Y σ F Q):=by
 intro z s σ H Q I h
 have e:cT (.IfExp c a b pos) X.env (eval (.IfExp c a b pos) X.env)=(do if <- cT c X.env (eval c X.env)then cT a X.env (eval a X.env)else cT b X.env (eval b X.env)):=by rw[cT]
 rw[e]
 refine ak (thn (hc z s σ H _ I h) fun k s1 ⟨F,G,N⟩=>?_)
 cases k with
 | true=>exact ha z s1 σ F Q G N
 | false=>exact hb z s1 σ F Q G N
theorem bA8 {mc G J:jb->i8->jc i9}{Q:Bool->Hp->Prop}(h:TTv Γ (fun ρ s=>jk (mc ρ s) fun k s=>if k then G ρ s else J ρ s) σ H Q):TTv Γ mc σ H fun k F=>if k=true then TTv Γ G σ F Q else TTv Γ J σ F Q:=by
 obtain⟨φ,ρ,s,d,s',E,R,z,q⟩:=h
 obtain⟨c,s1,e1,z⟩:=zy z
 refine⟨φ,ρ,s,c,s1,E,R,e1,fun φ1 F g1 l1 R1=>?_⟩
 cases c with
 | true =>
  rw[if_pos rfl]at z ⊢
  exact⟨φ1,ρ,s1,d,s',E.mono g1 l1,R1,z,q.trans g1 l1⟩
 | false =>
  rw[if_neg aS]at z ⊢
  exact⟨φ1,ρ,s1,d,s',E.mono g1 l1,R1,z,q.trans g1 l1⟩
section
variable {a b c:jV} {l r t:Expr} {pos:Pos}
theorem bs0 (G:CG Γ F n X ck)(op:km)(ha:EvT Γ X l (jd F a))(hb:EvT Γ X r (jd F b)):EvT Γ X (.BinOp l (bR1 op) r pos) (jd F (.bin op a b)) :=
 .val ((bO2 (bJ1 G.K op) ha.1 hb.1).imp fun σ H Q q=>be1 (TEv.eq (fun ρ s=>rfl) q))
theorem bq8 (ha:EvT Γ X l (jd F a)):EvT Γ X (.UnaryOp .USub l pos) (jd F (.neg a)) :=
 .val ((bR2 bv1 ha.1).imp fun σ H Q q=>bN3 (f:=fun x s=>match x with|.int i=>.ok (.int (-i)) s|_=>.bad) (TEv.eq (fun ρ s=>rfl) q) fun φ s x d s' v H' R r z h k=>by
  cases x with
  | int i =>
   cases h
   exact⟨i,r.intE,k.here R rfl RV.intI⟩
  | _=>cases h)
theorem bq0 (ha:EvT Γ X l (jd F a)):EvT Γ X (.UnaryOp .Not l pos) (jd F (.not a)) :=
 ⟨(bw5 ha.1).imp fun σ H Q q=>bG3 (TEv.eq (fun ρ s=>rfl) q),(bC0 ha.2).imp fun σ H Q q=>bB0 (TTv.eq (fun ρ s=>rfl) q)⟩
theorem bo0 (G:CG Γ F n X ck)(op:ka)(hs:shp r=true)(ha:EvT Γ X l (jd F a))(hb:EvT Γ X r (jd F b)):EvT Γ X (.Compare l [bu2 op] [r] pos) (jd F (.cmp op a b)):=by
 have ho:=bz3 (Γ:=Γ) G.K (G.room.mono G.deep) op
 refine⟨(aP9 ho ha.1 hb.1 (al5 hs)).imp fun σ H Q q=>be1 (TEv.eq (fun ρ s=>rfl) q),(aU1 ho ha.1 hb.1 (al5 hs)).imp fun σ H Q q=>?_⟩
 have q:=aO2 q
 exact be1 (TEv.eq (fun ρ s=>rfl) q)
theorem aM9 {op:BoolOp}{es:List Expr}{t:TT}(h:PT X (.BoolOp op es pos) t):PW X (.BoolOp op es pos) t:=by
 intro F z s σ H Q I q
 have:=h z s σ H Q I q
 have e:∀ w,cT (.BoolOp op es pos) X.env w=allTrue op es X.env:=fun w=>by rw[cT]
 rw[e]at this ⊢
 exact this
theorem bn6 (ha:EvT Γ X l (jd F a))(hb:EvT Γ X r (jd F b)):EvT Γ X (.BoolOp .And [l,r] pos) (jd F (.and a b)) :=
 ⟨(bf3 ha.1 (bh3 hb.1)).imp fun σ H Q q=>bg6 (TEv.eq (fun ρ s=>rfl) q),(bi2 ha.2 (bm3 hb.2)).pt.imp fun σ H Q q=>bi3 (TTv.eq (fun ρ s=>rfl) q)⟩
theorem br3 {es:List Expr}(ha:EvT Γ X l (jd F a))(hb:EvT Γ X (.BoolOp .And (r::es) pos) (jd F b)):EvT Γ X (.BoolOp .And (l::r::es) pos) (jd F (.and a b)) :=
 ⟨(bf3 ha.1 hb.1).imp fun σ H Q q=>bg6 (TEv.eq (fun ρ s=>rfl) q),(bi2 ha.2 (aM9 hb.2)).pt.imp fun σ H Q q=>bi3 (TTv.eq (fun ρ s=>rfl) q)⟩
theorem bG7 (ha:EvT Γ X l (jd F a))(hb:EvT Γ X r (jd F b)):EvT Γ X (.BoolOp .Or [l,r] pos) (jd F (.or a b)) :=
 ⟨(bF7 ha.1 (bh3 hb.1)).imp fun σ H Q q=>bw0 (TEv.eq (fun ρ s=>rfl) q),(bA2 ha.2 (bz2 hb.2)).pt.imp fun σ H Q q=>bD3 (TTv.eq (fun ρ s=>rfl) q)⟩
theorem bG4 {es:List Expr}(ha:EvT Γ X l (jd F a))(hb:EvT Γ X (.BoolOp .Or (r::es) pos) (jd F b)):EvT Γ X (.BoolOp .Or (l::r::es) pos) (jd F (.or a b)) :=
 ⟨(bF7 ha.1 hb.1).imp fun σ H Q q=>bw0 (TEv.eq (fun ρ s=>rfl) q),(bA2 ha.2 (aM9 hb.2)).pt.imp fun σ H Q q=>bD3 (TTv.eq (fun ρ s=>rfl) q)⟩
theorem bn2 (hc:EvT Γ X t (jd F c))(ha:EvT Γ X l (jd F a))(hb:EvT Γ X r (jd F b)):EvT Γ X (.IfExp t l r pos) (jd F (.ite c a b)) :=
 ⟨(aY5 hc.2 ha.1 hb.1).imp fun σ H Q q=>bJ4 (TEv.eq (fun ρ s=>rfl) q),(be4 hc.2 ha.2 hb.2).imp fun σ H Q q=>bA8 (TTv.eq (fun ρ s=>rfl) q)⟩
theorem bx4 (G:CG Γ F n X ck)(hs:shp r=true)(ha:EvT Γ X l (jd F a))(hb:EvT Γ X r (jd F b)):EvT Γ X (.Subscript l r pos) (jd F (.ix a b)) :=
 .val ((bL8 (bR9 G.K (aK6 G.room)) ha.1 hb.1 (ar7 hs)).imp fun σ H Q q=>be1 (TEv.eq (fun ρ s=>rfl) q))
theorem bm5 {h:Pos}(G:CG Γ F n X ck)(ha:EvT Γ X l (jd F a))(hb:EvT Γ X r (jd F b)):EvT Γ X (.Subscript l (.Slice (some r) none none h) pos) (jd F (.slL a b)) :=
 .val ((aJ0 (bB3 G.K) ha.1 (aN1 hb.1) aQ9).imp fun σ H Q q=>(bx5 (mh:=jd F b)).1 (TEv.eq (fun ρ s=>rfl) q))
theorem ev_slU' {h:Pos}(G:CG Γ F n X ck)(ha:EvT Γ X l (jd F a))(hb:EvT Γ X r (jd F b)):EvT Γ X (.Subscript l (.Slice none (some r) none h) pos) (jd F (.slU a b)) :=
 .val ((aJ0 (bB3 G.K) ha.1 aQ9 (aN1 hb.1)).imp fun σ H Q q=>(bx5 (ml:=jd F b)).2.1 (TEv.eq (fun ρ s=>rfl) q))
end
end
section
variable {Γ:Gm} {F:jn} {n:Nat} {X:Cx} {ck:Ck} {σ:St} {H:Hp} {Q:VK}
theorem au9:∀ {es:ju} {ρ:jb} {s s':i8} {l:List i9} {z:List Expr} {G:Ck},jA F es ρ s=.ok l s'->mEs G es z=true->l.length=z.length
 | .nil,ρ,s,s',l,z,G,h,m=>by
  cases h
  cases z with
  | nil=>rfl
  | cons _ _=>rw[mEs]at m<;>first|cases m|(intros;simp_all)
 | .cons e es,ρ,s,s',l,z,G,h,m=>by
  obtain⟨d,s1,e1,h⟩:=aa0 h
  obtain⟨r,s2,e2,h⟩:=aa0 h
  cases h
  cases z with
  | nil=>rw[mEs]at m<;>first|cases m|(intros;simp_all)
  | cons x z =>
   rw[mEs,ag]at m
   rw[aV,aV,au9 e2 m.2]
theorem aE2:∀ {es:ju} {z:List Expr},mEs ck es z=true->∀ x∈z,shp x=true
 | .nil,[],_,x,hx=>by cases hx
 | .nil,_::_,m,_,_=>by rw[mEs]at m<;>first|cases m|(intros;simp_all)
 | .cons e es,[],m,x,hx=>by cases hx
 | .cons e es,y::z,m,x,hx=>by
  rw[mEs,ag,ag]at m
  rcases aN.mp hx with h|h
  ·rw[h];exact m.1.2
  ·exact aE2 m.2 x h
theorem aW1:∀ {es:j8} {z:List Expr},mAs ck es z=true->∀ x∈z,shp x=true
 | .nil,[],_,x,hx=>by cases hx
 | .nil,_::_,m,_,_=>by rw[mAs]at m<;>first|cases m|(intros;simp_all)
 | .ex e es,[],m,x,hx=>by cases hx
 | .lam _ _ _,_,m,_,_=>by rw[mAs]at m<;>first|cases m|(intros;simp_all)
 | .fn _ _,_,m,_,_=>by rw[mAs]at m<;>first|cases m|(intros;simp_all)
 | .ex e es,y::z,m,x,hx=>by
  rw[mAs,ag,ag]at m
  rcases aN.mp hx with h|h
  ·rw[h];exact m.1.2
  ·exact aW1 m.2 x h
theorem aG3 {e:jV}{x:Expr}{h:List Expr}{z:jb->i8->jc (List i9)}(hs:shp x=true)(G:PE X x (TEv Γ (jd F e)))(J:PA X h (TAv Γ z)) :
  PA X (x::h) (TAv Γ (fun ρ s=>(jd F e ρ s).bind fun d s=>(z ρ s).bind fun l s=>.ok (d::l) s)) :=
 (qa G J (zf hs)).imp fun σ H Q q=>bn5 q
theorem aI0 {k:Nat}(h:k<=1000):k<=aD:=by rw[d3];omega
theorem bp8 {es:ju}{z:List Expr}{k:Nat}{pos:Pos}(m:mEs ck es z=true)(hz:z.length<=1000)(h:PA X z (TAv Γ (jA F es))):EvT Γ X (.Tuple z k pos) (jd F (.tup es)) :=
 .val ((bC3 h).imp fun σ H Q q=>tv_tup' hz m q)
where
 tv_tup' {es:ju} {z:List Expr} {σ:St} {H:Hp} {Q:VK} (hz:z.length<=1000) (m:mEs ck es z=true) (q:TEv Γ (jd F (.tup es)) σ H Q):bV8 (TAv Γ (jA F es)) σ H Q:=by
  obtain⟨φ,ρ,s,d,s',E,R,G,q⟩:=q
  obtain⟨l,s1,e1,G⟩:=aa0 G
  cases G
  refine⟨φ,ρ,s,l,_,E,R,e1,fun vs φ1 Y g1 l1 J r1 R1=>⟨by rw[r1.length,au9 e1 m];exact aI0 hz,fun p N=>?_⟩⟩
  exact(q.trans g1 l1).tup R1 r1 J N
theorem bp3 {es:ju}{z:List Expr}{pos:Pos}(m:mEs ck es z=true)(hz:z.length<=1000)(h:PA X z (TAv Γ (jA F es))):EvT Γ X (.List z pos) (jd F (.lst es)):=by
 refine .val ((bg5 h).imp fun σ H Q q=>?_)
 obtain⟨φ,ρ,s,d,s',E,R,G,q⟩:=q
 obtain⟨l,s1,e1,G⟩:=aa0 G
 obtain⟨rfl,rfl⟩:=zP G
 refine⟨φ,ρ,s,l,_,E,R,e1,fun vs φ1 Y g1 l1 J r1 R1=>⟨by rw[r1.length,au9 e1 m];exact aI0 hz,fun p N=>?_⟩⟩
 exact(q.trans g1 l1).alloc R1 r1 J N
theorem bb3 {f:String}{z:j8}{J:List Expr}{p pos:Pos}(G:CG Γ F n X ck)(hg:ck.gl (f:Str)=true)(m:mAs ck z J=true)(h:PA X J (TAv Γ (j4 F z))):EvT Γ X (.Call (.Name (f:Str) p) J [] pos) (jd F (.call f z)):=by
 refine .val ?_
 obtain⟨g1,g2,g3⟩:=G.gl hg
 rcases G.call f with hbad|⟨a,fd,ps,Z,N,hk,hb⟩
 ·intro a0 s σ H Q I q
  obtain⟨φ,ρ,s,d,s',E,R,Y,q⟩:=q
  obtain⟨l,s1,e1,Y⟩:=aa0 Y
  rw[hbad]at Y
  cases Y
 have key:∀ σ H Q,TEv Γ (jd F (.call f z)) σ H Q->aM2 (spV Γ (F.call f)) [] E0 (TAv Γ (j4 F z)) σ H Q:=fun σ H Q q=>by
  have:=aA7 (TEv.eq (m':=fun ρ s=>(j4 F z ρ s).bind fun l s=>F.call f l s) (fun ρ s=>rfl) q)
  unfold tCB at this
  unfold aM2 spV
  simpa only[bf]using this
 cases J with
 | nil =>
  have h0:PE X (.Call (.Name (f:Str) p) [] [] pos) (aM2 (spV Γ (F.call f)) [] E0 bq3):=bb8 Z G.room g1 N hk hb .nil bH0 g2
  cases z with
  | nil =>
   refine h0.imp fun σ H Q q=>?_
   have q1:=key σ H Q q
   unfold aM2 at q1 ⊢
   exact aF8 (TAv.eq (fun ρ s=>rfl) q1)
  | _=>rw[mAs]at m<;>first|cases m|(intros;simp_all)
 | cons x J =>
  have hs:=aW1 m
  exact(bo2 Z G.room g1 N hk hb .nil bH0 h g2 (zf (hs x (az ..))) (zM fun e he=>hs e (aw _ he)).1).imp key
def BiC (Γ:Gm)(X:Cx)(b:jC)(x:Str):Prop:=(∃ id,a7 x=some (.builtin id)/\ai1 X (.builtin id) (rCl Γ (kj b)))\/∃ T,a7 x=some (.type T)/\ai1 X (.type T) (rCl Γ (kj b))
theorem bC9 (G:CG Γ F n X ck){b:jC}{x:Str}(h:biT b=some x):x∈bNames/\BiC Γ X b x:=by
 cases b<;>first|cases h|skip
 ·exact⟨by decide,.inl ⟨_,bL9,aY0 G.K G.calm (k:=1) rfl⟩⟩
 ·exact⟨by decide,.inl ⟨_,bP4,aY0 G.K G.calm (k:=1) rfl⟩⟩
 ·exact⟨by decide,.inr ⟨_,bv2,bB2⟩⟩
 ·exact⟨by decide,.inl ⟨_,bz7,aY0 G.K G.calm (k:=2) rfl⟩⟩
 ·exact⟨by decide,.inl ⟨_,bN4,aY0 G.K G.calm (k:=2) rfl⟩⟩
theorem bv7 {b:jC}{es:ju}{x:Str}{y:Expr}{z:List Expr}{p pos:Pos}(G:CG Γ F n X ck)(hb:biT b=some x)(hg:ck.gl x=true)(m:mEs ck es (y::z)=true)(h:PA X (y::z) (TAv Γ (jA F es))) :
  EvT Γ X (.Call (.Name x p) (y::z) [] pos) (jd F (.bi b es)):=by
 refine .val ?_
 obtain⟨g1,Z,g3⟩:=G.gl hg
 obtain⟨Y,hc⟩:=bC9 G hb
 have hs:=aE2 m
 have s1:=zf (es:=z) (env:=X.env) (hs y (az ..))
 have s2:=(zM (env:=X.env) (pos:=pos) fun e he=>hs e (aw _ he)).1
 rcases hc with⟨id,J,N⟩|⟨T,J,N⟩
 ·exact(av1 N g1 (G.bi _ Y) J h g3 Z s1 s2).imp fun σ H Q q=>aA7 (TEv.eq (fun ρ s=>rfl) q)
 ·exact(ap7 N g1 (G.bi _ Y) J h g3 Z s1 s2).imp fun σ H Q q=>aA7 (TEv.eq (fun ρ s=>rfl) q)
theorem bC2 {b:jC}{k:Nat}{t:Str}(h:biK b=some (k,t)):(1<=k/\k<=5)/\t∈bNames/\a7 t=some (.type (aq5 k))/\kj b=kh (kn k):=by
 cases b<;>cases h
 ·exact⟨by omega,by decide,bv2,rfl⟩
 ·exact⟨by omega,by decide,bA7,rfl⟩
 ·exact⟨by omega,by decide,bP8,rfl⟩
 ·exact⟨by omega,by decide,aQ6,rfl⟩
 ·exact⟨by omega,by decide,bi0,rfl⟩
noncomputable def PEs (Γ:Gm)(F:jn)(X:Cx):ju->List Expr->Prop
 | .nil,[]=>True
 | .cons e es,x::xs=>(shp x=true/\EvT Γ X x (jd F e))/\PEs Γ F X es xs
 | _,_=>False
theorem as3:∀ {es:ju} {z:List Expr},PEs Γ F X es z->PA X z (TAv Γ (jA F es))
 | .nil,[],_=>am4.imp fun σ H Q q=>aF8 (TAv.eq (fun ρ s=>rfl) q)
 | .nil,_::_,h=>h.elim
 | .cons _ _,[],h=>h.elim
 | .cons e es,x::z,h=>(aG3 h.1.1 h.1.2.1 (as3 h.2)).imp fun σ H Q q=>TAv.eq (fun ρ s=>rfl) q
theorem bt4 {b:jC}{es:ju}{k:Nat}{t:Str}{a:Expr}{p N pos:Pos}(G:CG Γ F n X ck)(hb:biK b=some (k,t))(hg:ck.gl "isinstance"=true)(Y:ck.gl t=true)(h:PEs Γ F X es [a]) :
  EvT Γ X (.Call (.Name "isinstance" p) [a,.Name t N] [] pos) (jd F (.bi b es)):=by
 refine .val ?_
 obtain⟨g1,g2,g3⟩:=G.gl hg
 obtain⟨t1,t2,t3⟩:=G.gl Y
 obtain⟨hk,z,hv,J⟩:=bC2 hb
 have Z:PE X (.Name t N) (tC (.ty (aq5 k))):=bs9 t1 (G.bi _ z) hv rfl t3 t2
 cases es with
 | nil=>exact h.elim
 | cons e es =>
  cases es with
  | cons _ _=>exact h.2.elim
  | nil =>
   obtain⟨⟨hs,ha,_⟩,_⟩:=h
   have hA:PA X [a,.Name t N] (aK3 (TEv Γ (jd F e)) (aK3 (tC (.ty (aq5 k))) bq3)):=qa ha (qa Z am4 (zf rfl)) (zf hs)
   refine(av1 (bG5 G.K hk) g1 (G.bi _ (by decide)) az4 hA g3 g2 (zf hs) (zM fun e he=>by rw[bD.mp he];rfl).1).imp fun σ H Q q=>?_
   obtain⟨φ,ρ,s,d,s',E,R,z,q⟩:=q
   obtain⟨l,s1,e1,z⟩:=aa0 z
   obtain⟨x,s2,e2,e1⟩:=aa0 e1
   obtain⟨l2,s3,e3,e1⟩:=aa0 e1
   cases e3
   cases e1
   rw[J]at z
   refine⟨φ,ρ,s,x,_,E,R,e2,fun v φ1 H1 g1 l1 b1 r1 R1=>?_⟩
   exact⟨v,rfl,φ1,_,[x],d,s',R1,.cons r1 .nil,by unfold ja;rw[b1];rfl,z,q.trans g1 l1⟩
end
section
variable {Γ:Gm} {F:jn} {n:Nat} {X:Cx} {ck:Ck} {σ:St} {H:Hp}
def TAp (Γ:Gm)(cells:List (Str×Addr))(N:List Str)(m:jb->i8->jc (List i9)):TA:=fun σ H Q=>∃ φ ρ s l s',RE Γ φ H s.length ρ σ/\Rp Γ φ H s/\m ρ s=.ok l s' /\
 ∀ vs φ' H',Gr φ s H φ' s' H'->s.length<=s'.length->ja s'.length l=true->PVL Γ cells N σ φ' H' l vs->Rp Γ φ' H' s'->Q vs H'
theorem TAp.eq {cells:List (Str×Addr)}{N:List Str}{m m':jb->i8->jc (List i9)}{Q:List V->Hp->Prop}(e:∀ ρ s,m ρ s=m' ρ s)(q:TAp Γ cells N m σ H Q):TAp Γ cells N m' σ H Q:=by
 obtain⟨φ,ρ,s,l,s',E,R,h,q⟩:=q
 exact⟨φ,ρ,s,l,s',E,R,by rw[<-e];exact h,q⟩
theorem bk4 {cells:List (Str×Addr)}{N:List Str}{Q:List V->Hp->Prop}(h:TAp Γ cells N (fun ρ s=>.ok [] s) σ H Q):bq3 σ H Q:=by
 obtain⟨φ,ρ,s,l,s',E,R,z,q⟩:=h
 cases z
 exact q [] φ H (Gr.refl _ _ _) (ai _) rfl .nil R
theorem bC4 {cells:List (Str×Addr)}{N:List Str}{m:jb->i8->jc i9}{Y:jb->i8->jc (List i9)}{Q:List V->Hp->Prop}(h:TAp Γ cells N (fun ρ s=>(m ρ s).bind fun d s=>(Y ρ s).bind fun l s=>.ok (d::l) s) σ H Q):aK3 (TEv Γ m) (TAp Γ cells N Y) σ H Q:=by
 obtain⟨φ,ρ,s,l,s',E,R,z,q⟩:=h
 obtain⟨x,s1,e1,z⟩:=aa0 z
 obtain⟨y,s2,e2,z⟩:=aa0 z
 cases z
 refine⟨φ,ρ,s,x,s1,E,R,e1,fun v φ1 H1 g1 l1 F r1 R1=>?_⟩
 refine⟨φ1,ρ,s1,y,s',E.mono g1 l1,R1,e2,fun vs φ2 H2 J G Z r2 R2=>?_⟩
 exact q (v::vs) φ2 H2 (g1.trans J l1) (aj l1 G) (by unfold ja;rw[zg G x F,Z];rfl) (.cons (PVp.mono J F (.inl r1)) r2) R2
end
section
variable {Γ:Gm} {F:jn} {n:Nat} {X:Cx} {ck:Ck} {σ:St} {H:Hp} {Q:VK}
def bX6 (K:ac)(H:Hp)(v:V)(ys:List V)(z:Bool):Prop:=(∃ a,v=.ref a/\(SqL K H a ys\/(SqT K H a ys/\(z=true->H a=some (.tup ys)))))\/∃ x:List Nat,v=.str ⟨x.toArray⟩/\x.length<=jg/\ys=sgV x
def TLv (Γ:Gm)(m:jb->i8->jc (List i9)):TE:=fun σ H Q=>∃ φ ρ s l s',RE Γ φ H s.length ρ σ/\Rp Γ φ H s/\m ρ s=.ok l s' /\
 ∀ v ys φ' H',Gr φ s H φ' s' H'->s.length<=s'.length->ja s'.length l=true->bX6 Γ.K H' v ys (jj l)->RVL Γ φ' H' l ys->Rp Γ φ' H' s'->Q v H'
theorem aI5 {m:jb->i8->jc (List i9)}(h:TLv Γ m σ H Q):TFv Γ m σ H Q:=by
 obtain⟨φ,ρ,s,l,s',E,R,G,q⟩:=h
 exact⟨φ,ρ,s,l,s',E,R,G,fun p ys φ' H' g hl hb F h0 ho r z=>q (.ref p) ys φ' H' g hl hb (.inl ⟨p,rfl,.inl (SqL.of F)⟩) r z⟩
theorem aA1 {φ:Nat->Addr}:∀ x:List Nat,RVL Γ φ H (x.map fun c=>.str [c]) (sgV x)
 | []=>.nil
 | c::x=>.cons (RV.strI (by unfold jg;simp)) (aA1 x)
theorem at2 {k:Nat}:∀ x:List Nat,ja k (x.map fun c=>.str [c])=true
 | []=>rfl
 | c::x=>by rw[aY];unfold ja;rw[at2 x];rfl
theorem bv8 {m:jb->i8->jc i9}(h:TLv Γ (fun ρ s=>(m ρ s).bind fun d s=>DV.bI2 d s) σ H Q):TEv Γ m σ H Q:=by
 obtain⟨φ,ρ,s,l,s',E,R,z,q⟩:=h
 obtain⟨d,s1,e1,z⟩:=aa0 z
 refine⟨φ,ρ,s,d,s1,E,R,e1,fun v φ1 N g1 l1 Y r1 R1=>?_⟩
 cases d with
 | tup l' =>
  cases z
  obtain⟨a,F,⟨rfl,z1⟩,G,J⟩:=r1.tupZ
  unfold je at Y
  exact q _ F φ1 N g1 l1 Y (.inl ⟨a,rfl,.inr ⟨G,z1⟩⟩) J R1
 | str x =>
  cases z
  exact q v (sgV x) φ1 N g1 l1 (at2 x) (.inr ⟨x,r1.strE,r1.strL,rfl⟩) (aA1 x) R1
 | ref k =>
  have z:(match s1[k]? with
   | some (.lst l)=>DV.R.ok l s1
   | some (.ro l)=>.ok l s1
   | _=>.bad)=.ok l s':=z
  rw[r1.refE]
  cases e:s1[k]? with
  | none=>rw[e]at z;exact fb z
  | some ob =>
   rw[e]at z
   cases ob with
   | lst l' =>
    cases z
    obtain⟨F,G,J⟩:=R1.addr e
    have:=R1.wf k _ e
    unfold jf at this
    exact q _ F φ1 N g1 l1 this (.inl ⟨_,rfl,.inl (SqL.of G)⟩) J R1
   | ro l' =>
    cases z
    obtain⟨F,G,J⟩:=R1.obj k _ e
    have:=R1.wf k _ e
    unfold jf at this
    exact q _ F φ1 N g1 l1 this (.inl ⟨_,rfl,.inl G.1⟩) J R1
   | _=>exact fb z
 | _=>exact fb z
theorem TLv.eq {m m':jb->i8->jc (List i9)}(e:∀ ρ s,m ρ s=m' ρ s)(q:TLv Γ m σ H Q):TLv Γ m' σ H Q:=by
 have:m=m':=funext fun ρ=>funext fun s=>e ρ s
 subst this;exact q
theorem aK5 {m:jb->i8->jc (List i9)}{a:Expr}{p pos:Pos}(G:CG Γ F n X ck)(hg:ck.gl "tuple"=true)(hs:shp a=true)(h:PE X a (TLv Γ m)) :
  PE X (.Call (.Name "tuple" p) [a] [] pos) (TEv Γ (fun ρ s=>(m ρ s).bind fun l s=>jW .tuple l s)):=by
 obtain⟨g1,Y,g3⟩:=G.gl hg
 refine(ap7 ((aE0 G.K).or (aB1 G.calm)) g1 (G.bi _ (by decide)) aQ6 (qa h am4 (zf hs)) g3 Y (zf hs) rfl).imp fun σ H Q q=>?_
 obtain⟨φ,ρ,s,d,s',E,R,J,q⟩:=q
 obtain⟨l,s1,e1,J⟩:=aa0 J
 cases J
 refine⟨φ,ρ,s,l,_,E,R,e1,fun v ys φ1 Z g1 l1 z hq r1 R1=>?_⟩
 rcases hq with⟨a,rfl,hq|hq⟩|⟨x,rfl,hx,rfl⟩
 ·exact .inl ⟨a,ys,rfl,.inl ⟨hq,fun p N=>(q.trans g1 l1).tup R1 r1 z N⟩⟩
 ·exact .inl ⟨a,ys,rfl,.inr ⟨hq.1,q _ φ1 Z g1 l1 (by unfold je;exact z) (RV.tupC hq.1 hq.2 r1) R1⟩⟩
 ·exact .inr ⟨x,rfl,hx,fun p N=>(q.trans g1 l1).tup R1 r1 z N⟩
theorem aS8 {m:jb->i8->jc (List i9)}{a:Expr}{p pos:Pos}(G:CG Γ F n X ck)(hg:ck.gl "list"=true)(hs:shp a=true)(h:PE X a (TLv Γ m)) :
  PE X (.Call (.Name "list" p) [a] [] pos) (TEv Γ (fun ρ s=>(m ρ s).bind fun l s=>jW .list l s)):=by
 obtain⟨g1,Y,Z⟩:=G.gl hg
 refine(ap7 ((aK0 G.K).or (aL4 G.calm)) g1 (G.bi _ (by decide)) bi0 (qa h am4 (zf hs)) Z Y (zf hs) rfl).imp fun σ H Q q=>?_
 obtain⟨φ,ρ,s,d,s',E,R,z,q⟩:=q
 obtain⟨l,s1,e1,z⟩:=aa0 z
 obtain⟨rfl,rfl⟩:=zP z
 refine⟨φ,ρ,s,l,_,E,R,e1,fun v ys φ1 H1 g1 l1 N hq r1 R1=>?_⟩
 rcases hq with⟨a,rfl,hq⟩|⟨x,rfl,hx,rfl⟩
 ·exact .inl ⟨a,ys,rfl,hq.imp id (·.1),fun p J=>(q.trans g1 l1).alloc R1 r1 N J⟩
 ·exact .inr ⟨x,rfl,hx,fun p J=>(q.trans g1 l1).alloc R1 r1 N J⟩
theorem bD7 {m:jb->i8->jc (List i9)}{k:j6}{x:Str}{a:Expr}{p pos:Pos}(G:CG Γ F n X ck)(hk:mkT k=some x)(hg:ck.gl x=true)(hs:shp a=true)(h:PE X a (TLv Γ m)) :
  PE X (.Call (.Name x p) [a] [] pos) (TEv Γ (fun ρ s=>(m ρ s).bind fun l s=>jW k l s)):=by
 cases k<;>cases hk
 ·exact aK5 G hg hs h
 ·exact aS8 G hg hs h
def FrC (Γ:Gm)(X:Cx)(x:Str)(k:j6):Prop:=∃ id r,a7 x=some (.builtin id)/\x∈bNames/\ai1 X (.builtin id) r/\∀ φ H s l ys p d s' Q,Rp Γ φ H s->RVL Γ φ H l ys->H p=some (.lst ys)->jW k l s=.ok d s'->aj4 Γ φ s H d s' Q->r [.ref p] H Q
theorem bl2 {is:List Int}(h:DV.bx6 is=true):iC is:=by
 unfold DV.bx6 at h
 rw[ag]at h
 have G:=of_decide_eq_true h.2
 have F:∀ i∈is,-1000000000<=i/\i<=1000000000:=fun i z=>of_decide_eq_true (aQ.mp h.1 i z)
 have hs:∀ l:List Int,(∀ i∈l,-1000000000<=i/\i<=1000000000)->-(1000000000*(l.length:Int))<=l.sum/\l.sum<=1000000000*(l.length:Int):=by
  intro l
  induction l with
  | nil=>intro _;simp
  | cons a l ih =>
   intro hl
   have:=ih fun i z=>hl i (aw _ z)
   have:=hl a (az ..)
   rw[ga,aV]
   push_cast
   omega
 intro j hj
 have hg:is.getD j 0=is[j]:=by rw[be,am hj];rfl
 have a:=F _ (eO hj)
 have b:=hs (is.take (j+1)) fun i z=>F i (dv z)
 have c:(is.take (j+1)).length<=1000000:=aj (List.length_take_le _ _) (by omega)
 rw[hg]
 unfold InLong
 omega
theorem aH3:∀(l:List Int) (a:Int),(l.foldl min a=a\/l.foldl min a∈l)/\l.foldl min a<=a/\∀ y∈l,l.foldl min a<=y
 | [],a=>⟨.inl rfl,gU _,fun y hy=>by cases hy⟩
 | b::l,a=>by
  obtain⟨F,J,G⟩:=aH3 l (min a b)
  rw[cR]
  refine⟨?_,by omega,fun y hy=>?_⟩
  ·rcases F with h|h
   ·rw[h]
    rcases Int.le_total a b with z|z
    ·left;omega
    ·right;rw[show min a b=b by omega];exact az ..
   ·exact .inr (aw _ h)
  ·rcases aN.mp hy with z|z
   ·rw[z];omega
   ·exact G y z
theorem bd6 {l:List Int}{m:Int}(h:kr l=some m):m∈l/\∀ y∈l,m<=y:=by
 cases l with
 | nil=>cases h
 | cons a l =>
  cases h
  obtain⟨F,J,G⟩:=aH3 l a
  refine⟨?_,fun y hy=>?_⟩
  ·rcases F with h|h
   ·rw[h];exact az ..
   ·exact aw _ h
  ·rcases aN.mp hy with z|z
   ·rw[z];exact J
   ·exact G y z
theorem bq1 (G:CG Γ F n X ck){k:j6}{x:Str}(hk:mkF k=some x):FrC Γ X x k:=by
 cases k<;>cases hk
 ·refine⟨_,_,bO0,by decide,aR3 G.calm G.K,fun φ H s l ys p d s' Q R r N h q=>?_⟩
  unfold jW at h
  dsimp only at h
  cases e:jR l with
  | none=>rw[e]at h;exact fb h
  | some bs =>
   rw[e]at h
   cases h
   have:=ao9 e
   subst this
   exact⟨p,bs,rfl,SqL.of (by rw[<-r.bls];exact N),q.here R rfl RV.blI⟩
 ·refine⟨_,_,bO9,by decide,aS1 G.calm G.K,fun φ H s l ys p d s' Q R r N h q=>?_⟩
  unfold jW at h
  dsimp only at h
  cases e:jO l with
  | none=>rw[e]at h;exact fb h
  | some is =>
   rw[e]at h
   dsimp only at h
   split at h
   ·rename_i Y
    cases h
    have:=zL e
    subst this
    exact⟨p,is,rfl,SqL.of (by rw[<-r.ints];exact N),bl2 Y,q.here R rfl RV.intI⟩
   ·exact fb h
 ·refine⟨_,_,bz7,by decide,aV8 G.calm G.K,fun φ H s l ys p d s' Q R r N h q=>?_⟩
  unfold jW at h
  dsimp only at h
  cases e:jO l with
  | none=>rw[e]at h;exact fb h
  | some is =>
   rw[e]at h
   have h:(match kr is with|some m=>DV.R.ok (DV.D.int m) s|none=>.bad)=.ok d s':=h
   cases e2:kr is with
   | none=>rw[e2]at h;exact fb h
   | some mm =>
    rw[e2]at h
    cases h
    have:=zL e
    subst this
    refine⟨p,is,rfl,SqL.of (by rw[<-r.ints];exact N),(fun(z:is=[])=>by rw[z]at e2;cases e2),fun m h J=>?_⟩
    obtain⟨a,b⟩:=bd6 e2
    have:m=mm:=Int.le_antisymm (J mm a) (b m h)
    rw[this]
    exact q.here R rfl RV.intI
theorem bA6 {m:jb->i8->jc (List i9)}{k:j6}{x:Str}{a:Expr}{p pos:Pos}(G:CG Γ F n X ck)(hk:mkF k=some x)(hg:ck.gl x=true)(hs:shp a=true)(h:PE X a (TFv Γ m)) :
  PE X (.Call (.Name x p) [a] [] pos) (TEv Γ (fun ρ s=>(m ρ s).bind fun l s=>jW k l s)):=by
 obtain⟨g1,J,g3⟩:=G.gl hg
 obtain⟨id,r,hb,hx,hc,Y⟩:=bq1 (Γ:=Γ) G hk
 refine(av1 hc g1 (G.bi _ hx) hb (qa h am4 (zf hs)) g3 J (zf hs) rfl).imp fun σ H Q q=>?_
 obtain⟨φ,ρ,s,d,s',E,R,z,q⟩:=q
 obtain⟨l,s1,e1,z⟩:=aa0 z
 exact⟨φ,ρ,s,l,_,E,R,e1,fun p ys φ1 N g1 l1 b1 Z h0 ho r1 R1=>Y φ1 N s1 l ys p d s' Q R1 r1 Z z (q.trans g1 l1)⟩
theorem aZ4 {φ φ':Nat->Addr}{s s':i8}{H':Hp}{r:Nat}{l:List i9}(R:Rp Γ φ H s)(g:Gr φ s H φ' s' H')(hb:r<s.length)(e:s'[r]?=some (.lst l)):tyV Γ.K "list" (.ref (φ r)) H:=by
 obtain⟨h,z⟩:∃ h,s[r]?=some h:=⟨s[r],am hb⟩
 have J:=g.mu r h _ z e rfl
 have ho:=R.obj r h z
 cases h with
 | lst l0 =>
  obtain⟨F,G,_⟩:=ho
  exact .inl ⟨rfl,F,SqL.of G⟩
 | ro _=>cases J
 | dic _=>have:=g.kd r _ _ z e;cases this
 | dit _=>have:=g.kd r _ _ z e;cases this
 | ins _ _=>exact ho.elim
def mtR (Γ:Gm)(m:j7):V->List V->Hp->VK->Prop:=fun x vs H Q=>∃ φ s a l d s',Rp Γ φ H s/\RV Γ φ H a x/\RVL Γ φ H l vs/\a.bnd s.length=true/\ja s.length l=true/\j5 m a l s=.ok d s'/\aj4 Γ φ s H d s' Q
theorem bA4:jg<aD:=by rw[d3];decide
theorem au6 {m:j7}{x:Str}{k:Nat}(G:mtT m=some (x,k)){a:i9}{l:List i9}{s s':i8}{d:i9}(h:j5 m a l s=.ok d s'):∃ r l0,a=.ref r/\s[r]?=some (.lst l0):=by
 have go:∀ {r:Nat} {f:List i9->jc i9},(match s[r]? with|some (.lst l)=>f l|_=>.bad)=.ok d s'->∃ l0,s[r]?=some (.lst l0):=fun {r f} h=>by
  cases e:s[r]? with
  | none=>rw[e]at h;exact fb h
  | some ob =>
   cases ob with
   | lst l0=>exact⟨l0,rfl⟩
   | _=>rw[e]at h;exact fb h
 cases a with
 | ref r =>
  have z:∀ {f:List i9->jc i9},(match s[r]? with|some (.lst l)=>f l|_=>.bad)=.ok d s'->∃ F l0,DV.D.ref r=.ref F/\s[F]?=some (.lst l0):=fun h=>by obtain⟨l0,e⟩:=go h;exact⟨_,l0,rfl,e⟩
  cases m with
  | append=>match l with
   | [d]=>exact z h
   | []=>exact fb h
   | _::_::_=>exact fb h
  | pop=>match l with
   | []=>exact z h
   | _::_=>exact fb h
  | reverse=>match l with
   | []=>exact z h
   | _::_=>exact fb h
  | clear=>match l with
   | []=>exact z h
   | _::_=>exact fb h
  | index=>match l with
   | [d]=>exact z h
   | []=>exact fb h
   | _::_::_=>exact fb h
  | _=>exact fb h
 | _=>cases m<;>exact fb h
theorem ba9:MtR X "list.append" (mtR Γ .append):=by
 intro G sh σ H x vs v us Q I rx Y h
 obtain⟨φ,s,a,l,d,s',R,ra,rl,ba,bl,F,q⟩:=h
 obtain⟨r,l0,rfl,e⟩:=au6 (m:=.append) rfl F
 cases l with
 | nil=>exact fb F
 | cons y t =>
  cases t with
  | cons _ _=>exact fb F
  | nil =>
   simp only[j5,e]at F
   split at F
   case isFalse=>exact fb F
   rename_i hlt
   cases F
   obtain⟨z,rfl,Z⟩:=rl.one
   obtain⟨xs,h1,N⟩:=R.addr e
   have J:ja s.length l0=true:=by have:=R.wf r _ e;unfold jf at this;exact this
   refine ax8 G sh σ H x [z] v us Q I rx Y ⟨φ r,xs,z,ra.refE,rfl,h1,by rw[N.length];have:=bA4;omega,?_⟩
   exact q.put R e (N.append (.cons Z .nil)) (zD J bl) rfl RV.nonI
theorem bP0:MtR X "list.pop" (mtR Γ .pop):=by
 intro F sh σ H x vs v us Q I rx rv h
 obtain⟨φ,s,a,l,d,s',R,ra,rl,ba,bl,z,q⟩:=h
 obtain⟨r,l0,rfl,e⟩:=au6 (m:=.pop) rfl z
 cases l with
 | cons _ _=>exact fb z
 | nil =>
  simp only[j5,e]at z
  cases eg:l0.getLast? with
  | none=>rw[eg]at z;exact fb z
  | some y =>
   rw[eg]at z
   cases z
   have hv:=rl.unnil
   subst hv
   obtain⟨Y,h1,J⟩:=R.addr e
   have G:ja s.length l0=true:=by have:=R.wf r _ e;unfold jf at this;exact this
   rw[List.getLast?_eq_getElem?]at eg
   obtain⟨w,hw,N⟩:=J.get eg
   rw[<-J.length]at hw
   refine bv5 F sh σ H x [] v us Q I rx rv ⟨φ r,Y,w,ra.refE,rfl,h1,hw,?_⟩
   have Z:RVL Γ φ H l0.dropLast Y.dropLast:=by
    rw[fA,fA,J.length]
    exact J.take _
   exact q.put R e Z (av0 G fun d hd=>List.dropLast_subset _ hd) (al0 G eg) N
structure MtOk (Γ:Gm)(X:Cx)(m:j7)(x:Str):Prop where
 ex:∃ id,PySem.Slot "list" x id/\iK (.builtin id)=pure (.type "method_descriptor")/\MtR X id (mtR Γ m)
theorem bz0 (G:X.K=Γ.K)(z:Room (jl+1) X.A){m:j7}{x:Str}{k:Nat}(h:mtT m=some (x,k)):MtOk Γ X m x:=by
 cases m<;>cases h
 ·exact⟨_,fy,PySem.F.type_list_append,ba9⟩
 ·exact⟨_,gm,PySem.F.type_list_pop,bP0⟩
theorem aY2 {m:j7}{o:jV}{es:ju}{ob:Expr}{J:List Expr}{x:Str}{ap cp:Pos}(G:CG Γ F n X ck)(hm:mtT m=some (x,J.length))(hab:bM9 ob=true)(hl:(ap.endLine==cp.line)=true)(ho:PE X ob (TEv Γ (jd F o)))
  (a1:mEs ck es J=true) (h:PEs Γ F X es J):EvT Γ X (.Call (.Attribute ob x ap) J [] cp) (jd F (.meth m o es)):=by
 refine .val ?_
 obtain⟨id,slot,a0,hr⟩:=(bz0 (Γ:=Γ) (X:=X) G.K (G.room.mono G.deep) hm).ex
 have hs:=aE2 a1
 have key:∀ σ H Q,TEv Γ (jd F (.meth m o es)) σ H Q->tBM Γ.K "list" (mtR Γ m) (TEv Γ (jd F o)) (TAv Γ (jA F es)) σ H Q:=fun σ H Q q=>by
  obtain⟨φ,ρ,s,d,s',E,R,z,q⟩:=q
  obtain⟨a,s1,e1,z⟩:=aa0 z
  obtain⟨l,s2,e2,z⟩:=aa0 z
  refine⟨φ,ρ,s,a,s1,E,R,e1,fun v φ1 H1 g1 l1 N r1 R1=>?_⟩
  obtain⟨r,l0,rfl,er⟩:=au6 hm z
  rw[r1.refE]
  have hk:∀ φ2 H2,Gr φ1 s1 H1 φ2 s2 H2->tyV Γ.K "list" (.ref (φ1 r)) H1:=fun φ2 H2 g2=>aZ4 R1 g2 (by unfold je at N;exact of_decide_eq_true N) er
  have Y:TAv Γ (jA F es) σ H1 fun J H2=>mtR Γ m (.ref (φ1 r)) J H2 Q:=by
   refine⟨φ1,ρ,s1,l,s2,E.mono g1 l1,R1,e2,fun vs φ2 H2 g2 l2 b2 r2 R2=>?_⟩
   refine⟨φ2,s2,.ref r,l,d,s',R2,?_,r2,zg l2 _ N,b2,z,q.trans (g1.trans g2 l1) (aj l1 l2)⟩
   have:=RV.mono g2 _ _ N r1
   rw[r1.refE]at this
   exact this
  refine⟨?_,Y⟩
  have hlt:r<s1.length:=by unfold je at N;exact of_decide_eq_true N
  obtain⟨o0,e0⟩:∃ o0,s1[r]?=some o0:=⟨s1[r],am hlt⟩
  have Z:=R1.obj r o0 e0
  cases o0 with
  | lst l0 =>
   obtain⟨J,h1,_⟩:=Z
   exact .inl ⟨rfl,J,SqL.of h1⟩
  | ro l0 =>
   obtain⟨J,h1,_⟩:=Z
   exact .inl ⟨rfl,J,h1.1⟩
  | dic _ =>
   obtain⟨o',eo,ek⟩:=DV.ak1 G.fk es ρ s1 _ _ e2 r _ e0
   rw[er]at eo;cases eo;cases ek
  | dit _ =>
   obtain⟨o',eo,ek⟩:=DV.ak1 G.fk es ρ s1 _ _ e2 r _ e0
   rw[er]at eo;cases eo;cases ek
  | ins _ _=>exact Z.elim
 cases J with
 | nil =>
  have p0:PE X (.Call (.Attribute ob x ap) [] [] cp) (bW5 X.K "list" (mtR Γ m) (TEv Γ (jd F o))):=bD2 eP slot a0 hr ho (aO7 hab) hl
  rw[G.K]at p0
  refine p0.imp fun σ H Q q=>?_
  cases es with
  | cons _ _=>exact h.elim
  | nil =>
   obtain⟨φ,ρ,s,d,s',E,R,z,k⟩:=key σ H Q q
   refine⟨φ,ρ,s,d,s',E,R,z,fun v φ1 H1 g1 l1 N r1 R1=>?_⟩
   obtain⟨h1,h2⟩:=k v φ1 H1 g1 l1 N r1 R1
   exact⟨h1,aF8 (TAv.eq (fun ρ s=>rfl) h2)⟩
 | cons y ys =>
  refine(by0 G.K eP slot a0 hr ho (as3 h) (aO7 hab) ?_ hl (zf (hs y (az ..))) (zM fun e he=>hs e (aw _ he)).1).imp key
  rw[(zM hs).2]
  have:(y::ys).length<=1:=by
   unfold mtT at hm
   split at hm<;>first|(have:=av hm;have:=congrArg Prod.snd this;simp at this;simp;omega)|cases hm
  simp only[gd,cx,iQ]
  show(true&&decide ((y::ys).length+0+0<30))=true
  rw[gd]
  exact decide_eq_true (by omega)
end
section
variable {Γ:Gm} {F:jn} {n:Nat} {X:Cx} {ck:Ck} {σ:St} {H:Hp} {Q:VK}
theorem PIf.imp {e:List Expr}{t t':TT}(h:PIf X e t)(i:∀ σ H Q,t' σ H Q->t σ H Q):PIf X e t':=fun z s σ H Q I q=>h z s σ H Q I (i σ H Q q)
structure CompF (Γ:Gm)(X:Cx)(m:jb->i8->jc (List i9))(E:Expr):Prop where
 ex:∃ elt tgt iter ifs scope pos N' caps wi g tc te,E=.ListComp elt [⟨tgt,iter,ifs,0⟩] scope pos/\zH N' caps scope X.N X.env.scope=true/\PI X tgt iter wi /\
  (∀(C:Addr) (cells:List (Str×Addr)) (s:ae) (H:Hp) (ex:List Addr),PG (zw X N' scope C cells s H ex) tgt g/\PIf (zw X N' scope C cells s H ex) ifs tc/\PE (zw X N' scope C cells s H ex) elt te) /\
  (∀ x,cD iter X.env x=pure x)/\∀ σ H Q,TFv Γ m σ H Q->tComp caps wi g tc te σ H Q
theorem CompF.pe {m:jb->i8->jc (List i9)}{E:Expr}(h:CompF Γ X m E)(hc:X.calm=true):PE X E (TFv Γ m):=by
 obtain⟨Y,G,iter,a0,scope,pos,N',z,wi,g,tc,te,rfl,Z,h2,J,F,N⟩:=h.ex
 exact(aU2 N' z Z h2 hc J F).imp N
theorem bt8 {tg:jD}{mI:jb->i8->jc jY}{mc Y:jb->i8->jc i9}{h:List (Option Nat)}{J z iter i:Expr}{scope:Scope}{pos:Pos}(G:CG Γ F n X ck)(hm:aL5 ck tg z iter h scope=true)
  (hi:PI X z iter (TIv Γ mI)) (hc:∀ C cells s H ex,PT (zw X (ckC ck z h scope).N scope C cells s H ex) i (TTv Γ mc)) (he:∀ C cells s H ex,PE (zw X (ckC ck z h scope).N scope C cells s H ex) J (TEv Γ Y)) :
  CompF Γ X (fun ρ s=>(mI ρ s).bind fun q s0=>if q.its.length<=jg then jU (fun s=>jH s0 s q.src) (fun d ρ s=>match jx ρ tg d with
   | some ρ=>jk (mc ρ s) fun k s=>if k then(Y ρ s).bind fun v s=>.ok (some v,ρ) s else .ok (none,ρ) s
   | none=>.bad) q.its (jN ρ h) s0 else .bad) (.ListComp J [⟨z,iter,[i],0⟩] scope pos):=by
 obtain⟨Z,c2,c3⟩:=G.comp hm
 exact⟨J,z,iter,[i],scope,pos,_,h,_,_,_,_,rfl,Z,hi,fun C cells s H ex=>⟨(c3 C cells s H ex).2,bt6 (hc C cells s H ex),he C cells s H ex⟩,aE7 c2,fun σ H Q q=>aU7 q⟩
theorem ba5 {tg:jD}{mI:jb->i8->jc jY}{Z:jb->i8->jc i9}{h:List (Option Nat)}{J z iter:Expr}{scope:Scope}{pos:Pos}(G:CG Γ F n X ck)(Y:aL5 ck tg z iter h scope=true)
  (hi:PI X z iter (TIv Γ mI)) (he:∀ C cells s H ex,PE (zw X (ckC ck z h scope).N scope C cells s H ex) J (TEv Γ Z)) :
  CompF Γ X (fun ρ s=>(mI ρ s).bind fun q s0=>if q.its.length<=jg then jU (fun s=>jH s0 s q.src) (fun d ρ s=>match jx ρ tg d with
   | some ρ=>(Z ρ s).bind fun v s=>.ok (some v,ρ) s
   | none=>.bad) q.its (jN ρ h) s0 else .bad) (.ListComp J [⟨z,iter,[],0⟩] scope pos):=by
 obtain⟨c1,c2,c3⟩:=G.comp Y
 refine⟨J,z,iter,[],scope,pos,_,h,_,_,TTv Γ (fun ρ s=>.ok (.bl true) s),_,rfl,c1,hi,fun C cells s H ex=>⟨(c3 C cells s H ex).2,bq4.imp fun σ H Q q=>?_,he C cells s H ex⟩,aE7 c2,fun σ H Q q=>aU7 (TFv.eq (fun ρ s=>?_) q)⟩
 ·obtain⟨φ,ρ,s,b,s',E,R,Y,q⟩:=q
  cases Y
  exact q φ H (Gr.refl _ _ _) (ai _) R
 ·congr 1
theorem bl9 {tg:Expr}{e:jV}{E:Expr}(G:CG Γ F n X ck)(h:PE X E (TEv Γ (jd F e))):PI X tg E (TIv Γ (kt F (.seq e))):=by
 refine(PI.or (bk5 G.K h) (PI.or (bb9 G.K h) (bv0 h))).imp fun σ H R q=>bE4 (TIv.eq (fun ρ s=>rfl) q)
theorem aX8 {tg:Expr}{a:jV}{l:Expr}{p pos:Pos}(G:CG Γ F n X ck)(hg:ck.gl "range"=true)(hs:shp l=true)(h:PE X l (TEv Γ (jd F a))):PI X tg (.Call (.Name "range" p) [l] [] pos) (TIv Γ (kt F (.rng1 a))) :=
 (aQ3 (G.gl hg).1 (G.bi _ (by decide)) (qa h am4 (zf hs)) (zf hs)).imp fun σ H R q=>bk6 (TIv.eq (fun ρ s=>rfl) q)
theorem bA5 (h:TEv Γ (fun ρ s=>jJ (.dic []) s) σ H Q):bg2 σ H Q:=by
 obtain⟨φ,ρ,s,d,s',E,R,G,q⟩:=h
 obtain⟨rfl,rfl⟩:=zP G
 intro p z
 obtain⟨g,F⟩:=R.new (o:=.dic []) (u:=.dK []) z rfl fun φ' H' g e=>⟨[],e,rfl⟩
 exact q (.ref p) _ _ g (by simp) (by unfold je;simp) (by unfold RV;simp) F
theorem bI8 {mk mv:jb->i8->jc i9}(h:TEv Γ (fun ρ s=>(mk ρ (s++[.dic []])).bind fun kd s1=>(mv ρ s1).bind fun G s2=>if kd.key=true/\s2[s.length]?=some (.dic [])then .ok (.ref s.length) (s2.set s.length (.dic [(kd,G)]))else .bad) σ H Q):bv3 [(TEv Γ mk,TEv Γ mv)] σ H Q:=by
 obtain⟨φ,ρ,s,d,s',E,R,z,q⟩:=h
 obtain⟨kd,s1,e1,z⟩:=aa0 z
 obtain⟨G,s2,e2,z⟩:=aa0 z
 split at z
 case isFalse=>exact fb z
 rename_i hc
 cases z
 intro p hp
 obtain⟨g0,R0⟩:=R.new (o:=.dic []) (u:=.dK []) hp rfl fun φ' H' g e=>⟨[],e,rfl⟩
 have l0:s.length<=(s++[DV.O.dic []]).length:=by simp
 refine⟨_,ρ,s++[DV.O.dic []],kd,s1,E.mono g0 l0,R0,e1,fun v1 φ1 H1 g1 l1 Z r1 R1=>?_⟩
 refine⟨φ1,ρ,s1,G,s2,(E.mono g0 l0).mono g1 l1,R1,e2,fun Y φ2 H2 N J b2 r2 R2=>?_⟩
 have F:φ2 s.length=p:=by
  rw[N.w.map s.length (ax (by simp) l1),g1.w.map s.length (by simp)];simp
 obtain⟨k,hk⟩:=am8 hc.1
 have ek:=ay8 hk (RV.mono N kd v1 Z r1)
 obtain⟨kvs,z1,z2⟩:=R2.obj s.length _ hc.2
 have z2:kvs=[]:=z2
 subst z2
 rw[F]at z1
 refine⟨z1,[(k,Y)],by rw[ek];rfl,by simp,?_⟩
 have hb:(DV.O.dic [(kd,G)]).bnd s2.length=true:=by
  unfold jf
  simp only[aY,cL,ja,iD,ag]
  exact⟨zg J _ Z,b2⟩
 obtain⟨g3,R3⟩:=R2.set (o:=.dic [(kd,G)]) (u:=.dK [(k,Y)]) hc.2 rfl hb fun H' g e=>⟨_,e,k,Y,[],rfl,hk,RV.monoW g _ _ b2 r2,rfl⟩
 rw[F]at g3 R3
 have L:s.length<=s2.length:=aj l0 (aj l1 J)
 have lt:s.length<s2.length:=ax (by simp) (aj l1 J)
 exact q (.ref p) _ _ (((g0.trans g1 l0).trans N (aj l0 l1)).trans g3 L) (by rw[bF];exact L) (by unfold je;rw[bF];exact decide_eq_true lt) (by unfold RV;rw[F]) R3
theorem aZ6 (a b:Str):same (.str a) (.str b)=decide (a=b):=by
 show(a==b)=_
 by_cases h:a=b
 ·subst h;simp
 ·rw[decide_eq_false h];simp[h]
theorem qo (w:List Nat):∀ kvs:List (List Nat×List Nat),lookup (.str ⟨w.toArray⟩) (strD kvs)=(kvs.lookup w).map fun v=>.str ⟨v.toArray⟩
 | []=>rfl
 | (k,v)::kvs=>by
  show(if same (.str ⟨k.toArray⟩) (.str ⟨w.toArray⟩)=true then some (PyData.str ⟨v.toArray⟩)else lookup (.str ⟨w.toArray⟩) (strD kvs))=_
  rw[aZ6,qo w kvs,aP]
  by_cases h:w=k
  ·subst h;simp
  ·have z:¬(⟨k.toArray⟩:Str)=⟨w.toArray⟩:=fun e=>h (by have:=congrArg eR (i4 e);simpa using this.symm)
   rw[decide_eq_false z,beq_false_of_ne h]
   rfl
theorem aZ1 {v:Value}{x:Str}(h:PyProof.V.Flat v (.str x)):∃ t,v=.str x t:=by
 have:=h default
 cases this
 exact⟨_,rfl⟩
section
variable {c:String} {kvs:List (List Nat×List Nat)} {a:Addr}
def bW0 (kvs:List (List Nat×List Nat))(a:Addr):R2:=fun x y H Q=>∃ w:List Nat,x=.str ⟨w.toArray⟩/\y=.ref a/\Q (.bl (kvs.lookup w).isSome) H
theorem bE0 (hT:∀ h:Heap,X.K.In h->iP X.prog X.w h a (strD kvs)):OpR X (cz .In) (bW0 kvs a):=by
 intro z s σ H x y v u Q I F G h
 obtain⟨w,rfl,rfl,q⟩:=h
 obtain⟨t,rfl⟩:=(show ∃ t,v=Value.str ⟨w.toArray⟩ t from F)
 cases(show u=Value.ref a from G)
 refine in_strTab (hT _ I.kIn) ?_
 refine⟨.bl (kvs.lookup w).isSome,H,I.tok _,?_,q⟩
 show Value.bool _=Value.bool _
 rw[qo]
 cases kvs.lookup w<;>rfl
theorem bf7 {e:jV}{σ:St}{H:Hp}{Q:VK}(ec:F.cdc c=some kvs)(h:TEv Γ (jd F (.inC e c)) σ H Q):tOp (bW0 kvs a) (TEv Γ (jd F e)) (tC (.ref a)) σ H Q:=by
 obtain⟨φ,ρ,s,d,s',E,R,z,q⟩:=h
 obtain⟨x,s1,e1,z⟩:=aa0 z
 refine⟨φ,ρ,s,x,s1,E,R,e1,fun J φ1 N g1 l1 G r1 R1=>?_⟩
 unfold DV.aW9 at z
 rw[ec]at z
 cases x with
 | str w =>
  cases z
  rw[r1.strE]
  exact⟨w,rfl,rfl,(q.trans g1 l1).here R1 rfl RV.blI⟩
 | _=>cases z
theorem bp5 {e:jV}{l:Expr}{p pos:Pos}(G:CG Γ F n X ck)(hg:ck.gl (c:Str)=true)(he:PE X l (TEv Γ (jd F e))):EvT Γ X (.Compare l [.In] [.Name (c:Str) p] pos) (jd F (.inC e c)):=by
 obtain⟨g1,J,N⟩:=G.gl hg
 cases ec:F.cdc c with
 | none =>
  have no:∀ {ρ:jb} {s s':i8} {d:i9},jd F (.inC e c) ρ s≠.ok d s':=fun {ρ s s' d} h=>by
   obtain⟨x,s1,e1,h⟩:=aa0 h
   unfold DV.aW9 at h
   rw[ec]at h
   cases h
  exact⟨fun z s σ H Q I q=>by obtain⟨_,_,_,_,_,_,_,h,_⟩:=q;exact absurd h no,fun z s σ H Q I q=>by obtain⟨_,_,_,_,_,_,_,h,_⟩:=q;exact absurd h no⟩
 | some kvs =>
  obtain⟨a,ha,hT⟩:=G.cdc c kvs ec
  have ho:=bE0 (X:=X) hT
  have hb:PE X (.Name (c:Str) p) (tC (.ref a)):=aB7 g1 ha rfl J
  refine⟨(aP9 ho he hb (al5 rfl)).imp fun σ H Q q=>bf7 ec q,(aU1 ho he hb (al5 rfl)).imp fun σ H Q q=>?_⟩
  exact bf7 ec (aO2 q)
theorem aY9 {e:jV}{l:Expr}{p pos:Pos}(G:CG Γ F n X ck)(hg:ck.gl (c:Str)=true)(hs:shp l=true)(he:PE X l (TEv Γ (jd F e))):EvT Γ X (.Subscript (.Name (c:Str) p) l pos) (jd F (.getC c e)):=by
 obtain⟨g1,g2,g3⟩:=G.gl hg
 refine .val fun J s σ H Q I q=>?_
 obtain⟨φ,ρ,s0,d,s',E,R,h,q⟩:=q
 obtain⟨x,s1,e1,h⟩:=aa0 h
 unfold DV.aJ2 at h
 cases ec:F.cdc c with
 | none=>rw[ec]at h;cases h
 | some kvs =>
  rw[ec]at h
  obtain⟨a,ha,hT⟩:=G.cdc c kvs ec
  have hb:PE X (.Name (c:Str) p) (tC (.ref a)):=aB7 g1 ha rfl g2
  cases x with
  | str w =>
   change(match kvs.lookup w with|some v=>if v.length<=jg then DV.R.ok (DV.D.str v) s1 else .bad|none=>.bad)=_ at h
   cases ek:kvs.lookup w with
   | none=>rw[ek]at h;cases h
   | some z =>
    rw[ek]at h
    have h:(if z.length<=jg then DV.R.ok (DV.D.str z) s1 else .bad)=DV.R.ok d s':=h
    split at h
    case isFalse=>cases h
    rename_i hz
    cases h
    have key:tOp (fun x y N Z=>x=.ref a/\y=.str ⟨w.toArray⟩/\Z (.str ⟨z.toArray⟩) N) (tC (.ref a)) (TEv Γ (jd F e)) σ H Q:=by
     refine⟨φ,ρ,s0,_,_,E,R,e1,fun v1 φ1 N g1 l1 b1 r1 R1=>⟨rfl,r1.strE,?_⟩⟩
     exact(q.trans g1 l1).here R1 rfl (RV.strI hz)
    refine ib (bK4 hb he I key fun v u s2 x y H2 Y rx ry q2=>?_)
    obtain⟨rfl,rfl,q3⟩:=q2
    cases(show v=Value.ref a from rx)
    obtain⟨t,rfl⟩:=(show ∃ t,u=Value.str ⟨w.toArray⟩ t from ry)
    refine item_strTab (hT _ Y.kIn) (by rw[qo,ek];rfl) (fun v hv=>?_) (ar7 hs _ _) (by intro r;rfl)
    obtain⟨t',rfl⟩:=aZ1 hv
    exact⟨.str ⟨z.toArray⟩,H2,Y.tok _,⟨_,rfl⟩,q3⟩
  | _=>cases h
end
end
section
variable {Γ:Gm} {F:jn} {n:Nat} {X:Cx} {ck:Ck}
end
section
variable {Γ:Gm} {F:jn} {n:Nat} {X:Cx} {ck:Ck}
def TJv (Γ:Gm)(m:jb->i8->jc (List i9))(out:List Nat):TE:=fun σ H Q=>∃ φ ρ s l s' ws,RE Γ φ H s.length ρ σ/\Rp Γ φ H s/\m ρ s=.ok l s'/\jX l=some ws/\(out++ws.flatten).length<=jg /\
 ∀ φ' H',Gr φ s H φ' s' H'->s.length<=s'.length->Rp Γ φ' H' s'->Q (.str ⟨(out++ws.flatten).toArray⟩) H'
def PF (Γ:Gm)(X:Cx)(vs:List Expr)(m:jb->i8->jc (List i9)):Prop :=
 ∀(out:List Nat) (pins:List (Addr×Obj)) (s:ae) (σ:St) (H:Hp) (Q:VK),Inv X pins σ H s->TJv Γ m out σ H Q->wpAny (model X.prog X.w) X.A (joinParts ⟨out.toArray⟩ (evalEach vs X.env)) (EP X pins σ Q) X.xe s
theorem PF.eq {vs:List Expr}{m m':jb->i8->jc (List i9)}(e:∀ ρ s,m ρ s=m' ρ s)(h:PF Γ X vs m):PF Γ X vs m':=fun out z s σ H Q I q=>by
 obtain⟨φ,ρ,s0,l,s',ws,E,R,F,q⟩:=q
 exact h out z s σ H Q I ⟨φ,ρ,s0,l,s',ws,E,R,by rw[e];exact F,q⟩
theorem aD2 (w:List Nat):(⟨w.toArray⟩:Str).length=w.length:=by simp[Str.length]
theorem bI5:PF Γ X [] (fun _ s=>.ok [] s):=fun out h s σ H Q I q=>by
 obtain⟨φ,ρ,s0,l,s',ws,E,R,z,hw,hl,q⟩:=q
 cases z
 cases hw
 rw[List.flatten_nil,bf]at q hl
 exact joinParts_nilE (joinParts_nil ⟨.str ⟨out.toArray⟩,H,I.tok _,⟨_,rfl⟩,q φ H (Gr.refl _ _ _) (ai _) R⟩ (by rw[aD2];exact aj hl zB))
theorem aN6 {d:i9}{l:List i9}{ws:List (List Nat)}(h:jX (d::l)=some ws):∃ w z,d=.str w/\jX l=some z/\ws=w::z:=by
 cases d with
 | str w =>
  have h:(jX l).map (w::·)=some ws:=h
  cases e:jX l with
  | none=>rw[e]at h;cases h
  | some z=>rw[e]at h;cases h;exact⟨w,z,rfl,rfl,rfl⟩
 | _=>cases h
theorem aP6 {v:Expr}{vs:List Expr}{m1:jb->i8->jc i9}{m2:jb->i8->jc (List i9)}(h2:PF Γ X vs m2)
  (h1:∀(h:List (Addr×Obj)) (s:ae) (σ:St) (H:Hp) (w:List Nat) (Q:VK),w.length<=jg->Inv X h σ H s->TEv Γ m1 σ H (fun x z=>x=.str ⟨w.toArray⟩/\Q x z) ->
   wpAny (model X.prog X.w) X.A (eval v X.env) (fun u s1=>∃ t z,u=.str ⟨w.toArray⟩ t/\Inv X h σ z s1/\Q (.str ⟨w.toArray⟩) z) X.xe s) :
  PF Γ X (v::vs) (fun ρ s=>(m1 ρ s).bind fun d s=>(m2 ρ s).bind fun l s=>.ok (d::l) s):=fun out h s σ H Q I q=>by
 obtain⟨φ,ρ,s0,l,s',ws,E,R,J,hw,hl,q⟩:=q
 obtain⟨d,s1,e1,J⟩:=aa0 J
 obtain⟨Z,s2,e2,J⟩:=aa0 J
 cases J
 obtain⟨w,a0,rfl,Y,rfl⟩:=aN6 hw
 rw[b9,<-bj]at hl q
 have F:(out++w).length<=jg:=by rw[aA]at hl;omega
 have G:w.length<=jg:=by rw[aA]at F;omega
 refine joinParts_consE (joinParts_cons (bw (h1 h s σ H w (fun x z=>∃ φ1,Gr φ s0 H φ1 s1 z/\s0.length<=s1.length/\Rp Γ φ1 z s1) G I ⟨φ,ρ,s0,.str w,s1,E,R,e1,fun v φ1 z g1 l1 b1 r1 R1=>⟨r1.strE,φ1,g1,l1,R1⟩⟩) (fun u N hu=>?_) fun _ _ x=>x))
 obtain⟨t,z,rfl,I1,φ1,g1,l1,R1⟩:=hu
 show(_++_:Str).length<=aD/\_
 rw[aV1]
 refine⟨by rw[aD2];exact aj F zB,h2 (out++w) h N σ z Q I1 ⟨φ1,ρ,s1,Z,s',a0,E.mono g1 l1,R1,e2,Y,hl,fun φ2 H2 g2 Z R2=>q φ2 H2 (g1.trans g2 l1) (aj l1 Z) R2⟩⟩
theorem bf6 {v:Expr}{F:jb->i8->jc i9}(hv:PE X v (TEv Γ F))(h:List (Addr×Obj))(s:ae)(σ:St)(H:Hp)(w:List Nat)(Q:VK)(I:Inv X h σ H s)(q:TEv Γ F σ H (fun x z=>x=.str ⟨w.toArray⟩/\Q x z)) :
  wpAny (model X.prog X.w) X.A (eval v X.env) (fun u s1=>∃ t z,u=.str ⟨w.toArray⟩ t/\Inv X h σ z s1/\Q (.str ⟨w.toArray⟩) z) X.xe s :=
 bw (hv h s σ H _ I q) (fun u s1 Y=>by
  obtain⟨x,z,G,J,ex,N⟩:=Y
  subst ex
  obtain⟨t,rfl⟩:=(show ∃ t,u=Value.str ⟨w.toArray⟩ t from J)
  exact⟨t,z,rfl,G,N⟩) fun _ _ x=>x
theorem bD9 {v:Expr}{p:Pos}{vs:List Expr}{F:jb->i8->jc i9}{z:jb->i8->jc (List i9)}(hv:PE X v (TEv Γ F))(Z:PF Γ X vs z) :
  PF Γ X (.FormattedValue v (-1) none p::vs) (fun ρ s=>(F ρ s).bind fun d s=>(z ρ s).bind fun l s=>.ok (d::l) s) :=
 aP6 Z fun h s σ H w Q hw I q=>FormattedValue_plain (bw (bf6 hv h s σ H w Q I q) (fun u s1 N=>by
  obtain⟨t,Y,rfl,G,J⟩:=N
  exact formatField_str (fun t' tk=>⟨t',Y,rfl,G.tok tk,J⟩) (by rw[aD2];exact aj hw zB)) fun _ _ x=>x)
theorem bH3 {v:Expr}{vs:List Expr}{z:jb->i8->jc i9}{F:jb->i8->jc (List i9)}(hv:PE X v (TEv Γ z))(G:PF Γ X vs F) :
  PF Γ X (v::vs) (fun ρ s=>(z ρ s).bind fun d s=>(F ρ s).bind fun l s=>.ok (d::l) s) :=
 aP6 G fun h s σ H w Q hw I q=>bf6 hv h s σ H w Q I q
theorem be3 {es:ju}{vs:List Expr}{p:Pos}(J:2<=vs.length)(h:PF Γ X vs (jA F es)):EvT Γ X (.JoinedStr vs p) (jd F (.fstr es)):=by
 refine .val fun G s σ H Q I q=>?_
 match vs,J,h with
 | v1::v2::rest,_,h =>
  obtain⟨φ,ρ,s0,d,s',E,R,z,q⟩:=q
  obtain⟨l,s1,e1,z⟩:=aa0 z
  unfold DV.aW6 at z
  cases ew:jX l with
  | none=>rw[ew]at z;exact fb z
  | some ws =>
   rw[ew]at z
   have z:(if ws.flatten.length<=jg then DV.R.ok (DV.D.str ws.flatten) s1 else .bad)=DV.R.ok d s':=z
   split at z
   case isFalse=>exact fb z
   rename_i hl
   cases z
   refine JoinedStr_many (h [] G s σ H Q I ⟨φ,ρ,s0,l,_,ws,E,R,e1,ew,hl,fun φ' H' g N Y=>?_⟩)
   exact q _ φ' H' g N rfl (RV.strI hl) Y
end
section
variable {Γ:Gm} {F:jn} {n:Nat}
theorem bx1 {X:Cx}{c:DV.Cn}{v:Const}{k:Nat}{pos:Pos}(h:mC c v=true):EvT Γ X (.Constant v k pos) (jd F (.cst c)):=by
 refine .val ?_
 unfold mC at h
 split at h
 ·exact bH2.imp fun σ H Q q=>ax3 (c:=.non) (fun _=>rfl) (fun _ _=>RV.nonI) (TEv.eq (fun ρ s=>rfl) q)
 ·rename_i b c
  have e:=eq_of_beq h
  subst e
  exact bM1.imp fun σ H Q q=>ax3 (c:=.bl b) (fun _=>rfl) (fun _ _=>RV.blI) (TEv.eq (fun ρ s=>rfl) q)
 ·rename_i i j
  have e:=of_decide_eq_true h
  subst e
  exact bG2.imp fun σ H Q q=>ax3 (c:=.int i) (fun _=>rfl) (fun _ _=>RV.intI) (TEv.eq (fun ρ s=>rfl) q)
 ·rename_i x y
  rw[ag]at h
  have e:=of_decide_eq_true h.1
  have e2:=of_decide_eq_true h.2
  subst e
  exact by7.imp fun σ H Q q=>ax3 (c:=.str x) (fun _=>rfl) (fun _ _=>RV.strI (by unfold jg;omega)) (TEv.eq (fun ρ s=>rfl) q)
 ·cases h
theorem bm8 {X:Cx}{ck:Ck}{es:ju}{z:List Expr}{pos:Pos}(m:mEs ck es z=true)(hz:z.length<=1000)(h:PA X z (TAv Γ (jA F es))):PE X (.List z pos) (TFv Γ (DV.evL F (.disp es))):=by
 refine(bg5 h).imp fun σ H Q q=>?_
 obtain⟨φ,ρ,s,l,s',E,R,N,q⟩:=q
 refine⟨φ,ρ,s,l,s',E,R,N,fun vs φ1 Z g1 l1 J r1 R1=>⟨by rw[r1.length,au9 N m];exact aI0 hz,fun p G=>?_⟩⟩
 obtain⟨Y,R2⟩:=R1.same (H':=upd Z p (.lst vs)) ((aj9.refl Z).new G)
 refine q p vs φ1 _ (g1.trans Y l1) l1 J zt ?_ (Off.new R1 G) (RVL.mono Y _ _ J r1) R2
 cases e:H p with
 | none=>rfl
 | some o=>exact absurd G (g1.st p (by rw[e];simp))
theorem CompF.eq {X:Cx}{m m':jb->i8->jc (List i9)}{E:Expr}(c:CompF Γ X m E)(e:∀ ρ s,m' ρ s=m ρ s):CompF Γ X m' E:=by
 have:m'=m:=funext fun ρ=>funext fun s=>e ρ s
 subst this;exact c
theorem zm {a b:Bool}(h:(a&&b)=true):a=true/\b=true:=by rw[ag]at h;exact h
theorem bk9 {X:Cx}{N:Ck}{g:String}{p:Pos}(G:CG Γ F n X N)(h:N.gl (g:Str)=true):EvT Γ X (.Name (g:Str) p) (jd F (.glob g)):=by
 refine .val ?_
 obtain⟨g1,g2,g3⟩:=G.gl h
 cases e:F.con g with
 | none =>
  intro J s σ H Q I q
  obtain⟨φ,ρ,s,d,s',E,R,z,q⟩:=q
  have z:(match F.con g with|some d=>DV.R.ok d s|none=>.bad)=.ok d s':=z
  rw[e]at z
  cases z
 | some d =>
  obtain⟨v,u,h1,h2,Z,Y⟩:=G.con g d e
  exact(aB7 g1 h1 h2 g2).imp fun σ H Q q=>ax3 (c:=d) Z Y (TEv.eq (fun ρ s=>by show(match F.con g with|some d=>DV.R.ok d s|none=>.bad)=DV.R.ok d s;rw[e]) q)
theorem bC1 {X:Cx}{z:Ck}{i:Nat}{x:Str}{p:Pos}(G:CG Γ F n X z)(h:z.var i x=true):EvT Γ X (.Name x p) (jd F (.var i)):=by
 refine .val ?_
 unfold Ck.var at h
 obtain⟨h,Y⟩:=zm h
 obtain⟨h,Z⟩:=zm h
 obtain⟨J,h2⟩:=zm h
 have e1:(x==("__debug__":Str))=false:=by simpa using Z
 have e2:(x==("__classdict__":Str))=false:=by simpa using Y
 exact(bE8 (by rw[G.N];exact of_decide_eq_true J) (G.vis h2) e1 e2).imp fun σ H Q q=>bF9 i (TEv.eq (fun ρ s=>rfl) q)
theorem aF7 {X:Cx}{E:Expr}{m:jb->i8->jc i9}(h:∀ ρ s,m ρ s=.bad):EvT Γ X E m:=by
 refine⟨fun z s σ H Q I q=>?_,fun z s σ H Q I q=>?_⟩
 ·obtain⟨φ,ρ,s,d,s',E,R,F,q⟩:=q
  rw[h]at F;exact fb F
 ·obtain⟨φ,ρ,s,d,s',E,R,F,q⟩:=q
  rw[h]at F;exact fb F
inductive LK (Γ:Gm)(X:Cx)(m:jb->i8->jc (List i9))(E:Expr)(k:Nat):Prop where
 | c (h:CompF Γ X m E):LK Γ X m E k
 | f (hk:1<=k) (h:PE X E (TFv Γ m)):LK Γ X m E k
 | s (hk:k=2) (h:PE X E (TLv Γ m)):LK Γ X m E k
theorem bB5 {X:Cx}{m:jb->i8->jc (List i9)}{E:Expr}(h:LK Γ X m E 0):CompF Γ X m E:=by
 cases h with
 | c h=>exact h
 | f hk h=>omega
 | s hk h=>omega
theorem bR3 {X:Cx}{z:Ck}{m:jb->i8->jc (List i9)}{E:Expr}(G:CG Γ F n X z)(h:LK Γ X m E 1):PE X E (TFv Γ m):=by
 cases h with
 | c h=>exact h.pe G.calm
 | f hk h=>exact h
 | s hk h=>omega
theorem bM0 {X:Cx}{z:Ck}{m:jb->i8->jc (List i9)}{E:Expr}(G:CG Γ F n X z)(h:LK Γ X m E 2):PE X E (TLv Γ m):=by
 cases h with
 | c h=>exact(h.pe G.calm).imp fun σ H Q q=>aI5 q
 | f hk h=>exact h.imp fun σ H Q q=>aI5 q
 | s hk h=>exact h
theorem biOk_inv {z:Ck}{b:jC}{x:Str}{F:List Expr}{es:ju}(h:bJ7 z b x F (mEs z es F) (mEs z es (F.take 1))=true) :
  (∃ k t a y Y,biK b=some (k,t)/\F=[a,.Name y Y]/\x=("isinstance":Str)/\y=t/\z.gl x=true/\z.gl y=true/\mEs z es [a]=true)\/∃ a ys,F=a::ys/\biT b=some x/\z.gl x=true/\mEs z es (a::ys)=true:=by
 unfold bJ7 at h
 cases hk:biK b with
 | none =>
  rw[hk]at h
  cases F with
  | nil=>exact ff h
  | cons a ys =>
   obtain⟨h,J⟩:=zm h
   obtain⟨G,N⟩:=zm h
   exact .inr ⟨a,ys,rfl,of_decide_eq_true G,N,J⟩
 | some p =>
  rw[hk]at h
  cases F with
  | nil=>exact ff h
  | cons a ys=>cases ys with
   | nil=>exact ff h
   | cons b ys=>cases b with
    | Name y Y=>cases ys with
     | nil =>
      obtain⟨h,h5⟩:=zm h
      obtain⟨h,Z⟩:=zm h
      obtain⟨h,J⟩:=zm h
      obtain⟨G,N⟩:=zm h
      exact .inl ⟨p.1,p.2,a,y,Y,rfl,rfl,of_decide_eq_true G,of_decide_eq_true J,N,Z,h5⟩
     | cons _ _=>exact ff h
    | _=>exact ff h
mutual
theorem sE:∀(e:jV) (E:Expr) (X:Cx) (z:Ck),CG Γ F n X z->mE z e E=true->EvT Γ X E (jd F e)
 | .var i,E,X,z,G,h=>by
  cases E with
  | Name x p =>
   exact bC1 G h
  | _=>exact ff h
 | .cst c,E,X,z,G,h=>by
  cases E with
  | Constant v k p =>
   exact bx1 h
  | _=>exact ff h
 | .glob g,E,X,z,G,h=>by
  cases E with
  | Name x p =>
   obtain⟨N,J⟩:=zm h
   have e:=of_decide_eq_true N
   subst e
   exact bk9 G J
  | _=>exact ff h
 | .bin op a b,E,X,z,G,h=>by
  cases E with
  | BinOp l o r pE =>
   obtain⟨h,Y⟩:=zm h
   obtain⟨N,J⟩:=zm h
   have e:=of_decide_eq_true N
   subst e
   exact bs0 G op (sE a _ X z G J) (sE b _ X z G Y)
  | _=>exact ff h
 | .neg a,E,X,z,G,h=>by
  cases E with
  | UnaryOp o l p =>
   cases o with
   | USub =>
    exact bq8 (sE a _ X z G h)
   | _=>exact ff h
  | _=>exact ff h
 | .not a,E,X,z,G,h=>by
  cases E with
  | UnaryOp o l p =>
   cases o with
   | Not =>
    exact bq0 (sE a _ X z G h)
   | _=>exact ff h
  | _=>exact ff h
 | .cmp op a b,E,X,z,G,h=>by
  cases E with
  | Compare l os rs pE =>
   cases os with
   | cons o os_0 =>
    cases os_0 with
    | nil =>
     cases rs with
     | cons r rs_0 =>
      cases rs_0 with
      | nil =>
       obtain⟨h,Y⟩:=zm h
       obtain⟨N,J⟩:=zm h
       have e:=of_decide_eq_true N
       subst e
       exact bo0 G op (aI4 Y) (sE a _ X z G J) (sE b _ X z G Y)
      | _=>exact ff h
     | _=>exact ff h
    | _=>exact ff h
   | _=>exact ff h
  | _=>exact ff h
 | .chain _ _ _ _ _,E,X,z,G,h=>ff h
 | .isN _,E,X,z,G,h=>ff h
 | .notN _,E,X,z,G,h=>ff h
 | .isB _ _,E,X,z,G,h=>ff h
 | .notB _ _,E,X,z,G,h=>ff h
 | .and a b,E,X,z,G,h=>by
  cases E with
  | BoolOp op vs p=>cases op with
   | And =>
    cases vs with
    | nil=>exact ff h
    | cons l vs=>cases vs with
     | nil=>exact ff h
     | cons r vs=>cases vs with
      | nil =>
       obtain⟨N,J⟩:=zm h
       exact bn6 (sE a _ X z G N) (sE b _ X z G J)
      | cons r2 vs =>
       obtain⟨N,J⟩:=zm h
       exact br3 (sE a _ X z G N) (sE b _ X z G J)
   | _=>exact ff h
  | _=>exact ff h
 | .or a b,E,X,z,G,h=>by
  cases E with
  | BoolOp op vs p=>cases op with
   | Or =>
    cases vs with
    | nil=>exact ff h
    | cons l vs=>cases vs with
     | nil=>exact ff h
     | cons r vs=>cases vs with
      | nil =>
       obtain⟨N,J⟩:=zm h
       exact bG7 (sE a _ X z G N) (sE b _ X z G J)
      | cons r2 vs =>
       obtain⟨N,J⟩:=zm h
       exact bG4 (sE a _ X z G N) (sE b _ X z G J)
   | _=>exact ff h
  | _=>exact ff h
 | .ite c a b,E,X,z,G,h=>by
  cases E with
  | IfExp tE l r pE =>
   obtain⟨h,Y⟩:=zm h
   obtain⟨N,J⟩:=zm h
   exact bn2 (sE c _ X z G N) (sE a _ X z G J) (sE b _ X z G Y)
  | _=>exact ff h
 | .tup es,E,X,z,G,h=>by
  cases E with
  | Tuple xs k p =>
   obtain⟨N,J⟩:=zm h
   exact bp8 N (of_decide_eq_true J) (as3 (sEs es _ X z G N))
  | _=>exact ff h
 | .lst es,E,X,z,G,h=>by
  cases E with
  | List xs p =>
   obtain⟨N,J⟩:=zm h
   exact bp3 N (of_decide_eq_true J) (as3 (sEs es _ X z G N))
  | _=>exact ff h
 | .dic .nil .nil,E,X,z,G,h=>by
  cases E with
  | Dict a b p=>cases a with
   | nil=>cases b with
    | nil=>exact .val (be9.imp fun σ H Q q=>bA5 (TEv.eq (fun ρ s=>rfl) q))
    | _=>exact ff h
   | cons x a=>cases x with
    | none=>exact ff h
    | some x=>cases a with
     | nil=>cases b with
      | nil=>exact ff h
      | cons y b=>cases b with
       | nil=>exact ff h
       | _=>exact ff h
     | _=>exact ff h
  | _=>exact ff h
 | .dic (.cons k .nil) (.cons v .nil),E,X,z,G,h=>by
  cases E with
  | Dict a b p=>cases a with
   | nil=>cases b with
    | nil=>exact ff h
    | _=>exact ff h
   | cons x a=>cases x with
    | none=>exact ff h
    | some x=>cases a with
     | nil=>cases b with
      | nil=>exact ff h
      | cons y b=>cases b with
       | nil =>
        obtain⟨N,J⟩:=zm h
        obtain⟨N,_⟩:=zm N
        obtain⟨N,_⟩:=zm N
        obtain⟨J,_⟩:=zm J
        obtain⟨J,_⟩:=zm J
        exact .val ((bt9 (aY1 (sE k _ X z G N).1 (sE v _ X z G J).1 bj7) rfl rfl (by nofun) (by show 1<=15;decide)).imp fun σ H Q q=>bI8 (TEv.eq (fun ρ s=>rfl) q))
       | _=>exact ff h
     | _=>exact ff h
  | _=>exact ff h
 | .dic .nil (.cons _ _),E,X,z,G,h=>aF7 fun _ _=>rfl
 | .dic (.cons _ .nil) .nil,E,X,z,G,h=>aF7 fun _ _=>rfl
 | .dic (.cons _ .nil) (.cons _ (.cons _ _)),E,X,z,G,h=>aF7 fun _ _=>rfl
 | .dic (.cons _ (.cons _ _)) _,E,X,z,G,h=>aF7 fun _ _=>rfl
 | .bitl _,E,X,z,G,h=>ff h
 | .fstr es,E,X,z,G,h=>by
  cases E with
  | JoinedStr vs p =>
   obtain⟨N,J⟩:=zm h
   exact be3 (of_decide_eq_true N) (sFs es _ X z G J)
  | _=>exact ff h
 | .inC e c,E,X,z,G,h=>by
  cases E with
  | Compare l os rs p =>
   cases os with
   | cons o os1 =>
    cases o with
    | In =>
     cases os1 with
     | nil =>
      cases rs with
      | cons r rs1 =>
       cases r with
       | Name x px =>
        cases rs1 with
        | nil =>
         obtain⟨h,Y⟩:=zm h
         obtain⟨N,J⟩:=zm h
         have e1:=of_decide_eq_true N
         subst e1
         exact bp5 G J (sE e _ X z G Y).1
        | _=>exact ff h
       | _=>exact ff h
      | _=>exact ff h
     | _=>exact ff h
    | _=>exact ff h
   | _=>exact ff h
  | _=>exact ff h
 | .getC c e,E,X,z,G,h=>by
  cases E with
  | Subscript o i p =>
   cases o with
   | Name x px =>
    obtain⟨h,Z⟩:=zm h
    obtain⟨h,Y⟩:=zm h
    obtain⟨N,J⟩:=zm h
    have e1:=of_decide_eq_true N
    subst e1
    exact aY9 G J Z (sE e _ X z G Y).1
   | _=>exact ff h
  | _=>exact ff h
 | .lrng _,E,X,z,G,h=>ff h
 | .dicT,E,X,z,G,h=>ff h
 | .get2 _ _ _,E,X,z,G,h=>ff h
 | .ix a b,E,X,z,G,h=>by
  cases E with
  | Subscript o i p =>
   obtain⟨N,J⟩:=zm h
   exact bx4 G (aI4 J) (sE a _ X z G N) (sE b _ X z G J)
  | _=>exact ff h
 | .slL a lo,E,X,z,G,h=>by
  cases E with
  | Subscript o i p =>
   cases i with
   | Slice lo hi st p2 =>
    cases lo with
    | some l =>
     cases hi with
     | none =>
      cases st with
      | none =>
       obtain⟨N,J⟩:=zm h
       exact bm5 G (sE a _ X z G N) (sE lo _ X z G J)
      | _=>exact ff h
     | _=>exact ff h
    | _=>exact ff h
   | _=>exact ff h
  | _=>exact ff h
 | .slU a hi,E,X,z,G,h=>by
  cases E with
  | Subscript o i p =>
   cases i with
   | Slice lo hi st p2 =>
    cases lo with
    | none =>
     cases hi with
     | some l =>
      cases st with
      | none =>
       obtain⟨N,J⟩:=zm h
       exact ev_slU' G (sE a _ X z G N) (sE hi _ X z G J)
      | _=>exact ff h
     | _=>exact ff h
    | _=>exact ff h
   | _=>exact ff h
  | _=>exact ff h
 | .slLU _ _ _,E,X,z,G,h=>ff h
 | .rev _,E,X,z,G,h=>ff h
 | .call f as,E,X,z,G,h=>by
  cases E with
  | Call fE xs kw p =>
   cases fE with
   | Name x pN =>
    cases kw with
    | nil =>
     obtain⟨h,Y⟩:=zm h
     obtain⟨N,J⟩:=zm h
     have e:=of_decide_eq_true N
     subst e
     exact bb3 G J Y (sAs as _ X z G Y)
    | _=>exact ff h
   | _=>exact ff h
  | _=>exact ff h
 | .callC _ _,E,X,z,G,h=>ff h
 | .callV _ _,E,X,z,G,h=>ff h
 | .bi b es,E,X,z,G,h=>by
  cases E with
  | Call fE xs kw p =>
   cases fE with
   | Name x pN =>
    cases kw with
    | nil =>
     have h:bJ7 z b x xs (mEs z es xs) (mEs z es (xs.take 1))=true:=h
     rcases biOk_inv h with⟨k,t,a,y,py,hk,rfl,rfl,rfl,J,Z,h5⟩|⟨a,ys,rfl,N,J,Y⟩
     ·exact bt4 G hk J Z (sEs es _ X z G h5)
     ·exact bv7 G N J Y (as3 (sEs es _ X z G Y))
    | _=>exact ff h
   | _=>exact ff h
  | _=>exact ff h
 | .mk k l,E,X,z,G,h=>by
  cases E with
  | ListComp e gs sc p =>
   obtain⟨N,J⟩:=zm h
   have e:=of_decide_eq_true N
   subst e
   exact .val (((bB5 (sL l _ X z G 0 J)).pe G.calm).imp fun σ H Q q=>aR5 (TEv.eq (fun ρ s=>rfl) q))
  | Call fE xs kw p =>
   cases fE with
   | Name x pN =>
    cases xs with
    | cons a xs_0 =>
     cases xs_0 with
     | nil =>
      cases kw with
      | nil =>
       obtain⟨h,Z⟩:=zm h
       obtain⟨J,Y⟩:=zm h
       rw[bh]at Z
       rcases Z with Z|Z
       ·obtain⟨h5,h6⟩:=zm Z
        exact .val ((bD7 G (of_decide_eq_true h5) J Y (bM0 G (sL l _ X z G 2 h6))).imp fun σ H Q q=>TEv.eq (fun ρ s=>rfl) q)
       ·obtain⟨h5,h6⟩:=zm Z
        exact .val ((bA6 G (of_decide_eq_true h5) J Y (bR3 G (sL l _ X z G 1 h6))).imp fun σ H Q q=>TEv.eq (fun ρ s=>rfl) q)
      | _=>exact ff h
     | _=>exact ff h
    | _=>exact ff h
   | _=>exact ff h
  | _=>exact ff h
 | .mks _ _,E,X,z,G,h=>ff h
 | .mkDs _ _ _,E,X,z,G,h=>ff h
 | .minK _ _ _,E,X,z,G,h=>ff h
 | .mkD _ _ _,E,X,z,G,h=>ff h
 | .meth m o es,E,X,z,G,h=>by
  cases E with
  | Call fE xs kw p =>
   cases fE with
   | Attribute ob x ap =>
    cases kw with
    | nil =>
     obtain⟨h,h5⟩:=zm h
     obtain⟨h,Z⟩:=zm h
     obtain⟨h,Y⟩:=zm h
     obtain⟨N,J⟩:=zm h
     exact aY2 G (of_decide_eq_true N) J Y (sE o _ X z G Z).1 h5 (sEs es _ X z G h5)
    | _=>exact ff h
   | _=>exact ff h
  | _=>exact ff h
 | .ext _ _,E,X,z,G,h=>ff h
 | .extS _ _,E,X,z,G,h=>ff h
 | .join _ _,E,X,z,G,h=>ff h
theorem sEs:∀(es:ju) (z:List Expr) (X:Cx) (J:Ck),CG Γ F n X J->mEs J es z=true->PEs Γ F X es z
 | .nil,z,X,J,G,h=>by
  cases z with
  | nil =>
   exact trivial
  | _=>exact ff h
 | .cons e es,z,X,J,G,h=>by
  cases z with
  | cons x z =>
   obtain⟨h,Y⟩:=zm h
   obtain⟨N,Z⟩:=zm h
   exact⟨⟨Z,sE e _ X J G N⟩,sEs es _ X J G Y⟩
  | _=>exact ff h
theorem sFs:∀(es:ju) (J:List Expr) (X:Cx) (z:Ck),CG Γ F n X z->mFs z es J=true->PF Γ X J (jA F es)
 | .nil,J,X,z,G,h=>by
  cases J with
  | nil=>exact bI5.eq fun _ _=>rfl
  | _=>exact ff h
 | .cons e es,J,X,z,G,h=>by
  cases J with
  | cons x J =>
   cases x with
   | FormattedValue v c sp p =>
    cases sp with
    | none =>
     obtain⟨h,Z⟩:=zm h
     obtain⟨N,Y⟩:=zm h
     have e1:=of_decide_eq_true N
     subst e1
     exact(bD9 (sE e _ X z G Y).1 (sFs es _ X z G Z)).eq fun _ _=>rfl
    | _=>exact ff h
   | Constant v j p =>
    obtain⟨N,Y⟩:=zm h
    exact(bH3 (sE e _ X z G N).1 (sFs es _ X z G Y)).eq fun _ _=>rfl
   | _=>exact ff h
  | _=>exact ff h
theorem sAs:∀(es:j8) (z:List Expr) (X:Cx) (J:Ck),CG Γ F n X J->mAs J es z=true->PA X z (TAv Γ (j4 F es))
 | .nil,z,X,J,G,h=>by
  cases z with
  | nil =>
   exact am4.imp fun σ H Q q=>aF8 (TAv.eq (fun ρ s=>rfl) q)
  | _=>exact ff h
 | .ex e es,z,X,J,G,h=>by
  cases z with
  | cons x z =>
   obtain⟨h,Y⟩:=zm h
   obtain⟨N,Z⟩:=zm h
   exact(aG3 Z (sE e _ X J G N).1 (sAs es _ X J G Y)).imp fun σ H Q q=>TAv.eq (fun ρ s=>rfl) q
  | _=>exact ff h
 | .lam _ _ _,z,X,J,G,h=>ff h
 | .fn _ _,z,X,J,G,h=>ff h
theorem bY3:∀(es:j8) (z:List Expr) (X:Cx) (J:Ck),CG Γ F n X J->bT6 J es z=true->PA X z (TAp Γ X.env.cells X.N (j4 F es))
 | .nil,z,X,J,G,h=>by
  cases z with
  | nil =>
   exact am4.imp fun σ H Q q=>bk4 (TAp.eq (fun ρ s=>rfl) q)
  | _=>exact ff h
 | .ex e es,z,X,J,G,h=>by
  cases z with
  | cons x z =>
   obtain⟨h,Z⟩:=zm h
   obtain⟨Y,h2⟩:=zm h
   exact(qa (sE e _ X J G Y).1 (bY3 es _ X J G Z) (zf h2)).imp fun σ H Q q=>bC4 (TAp.eq (fun ρ s=>rfl) q)
  | _=>exact ff h
 | .lam id caps es,z,X,J,G,h=>ff h
 | .fn _ _,z,X,J,G,h=>ff h
theorem sI:∀(i:DV.I) (E tg:Expr) (X:Cx) (z:Ck),CG Γ F n X z->mI z tg i E=true->PI X tg E (TIv Γ (kt F i))
 | .seq e,E,tg,X,z,G,h=>by
  obtain⟨J,N⟩:=zm h
  exact bl9 G (sE e _ X z G J).1
 | .rng1 a,E,tg,X,z,G,h=>by
  cases E with
  | Call fE xs kw p =>
   cases fE with
   | Name x pN =>
    cases xs with
    | cons l xs_0 =>
     cases xs_0 with
     | nil =>
      cases kw with
      | nil =>
       obtain⟨h,Y⟩:=zm h
       obtain⟨h,Z⟩:=zm h
       obtain⟨J,N⟩:=zm h
       have e:=of_decide_eq_true J
       subst e
       exact aX8 G N Y (sE a _ X z G Z).1
      | _=>exact ff h
     | _=>exact ff h
    | _=>exact ff h
   | _=>exact ff h
  | _=>exact ff h
 | .rng2 _ _,E,tg,X,z,G,h=>ff h
 | .rng3 _ _ _,E,tg,X,z,G,h=>ff h
 | .enum (.seq _),E,tg,X,z,G,h=>ff h
 | .enum (.rng1 _),E,tg,X,z,G,h=>ff h
 | .enum (.rng2 _ _),E,tg,X,z,G,h=>ff h
 | .enum (.rng3 _ _ _),E,tg,X,z,G,h=>ff h
 | .enum (.enum _),E,tg,X,z,G,h=>ff h
 | .enum (.zip _ _),E,tg,X,z,G,h=>ff h
 | .enum (.items _),E,tg,X,z,G,h=>ff h
 | .zip (.seq _) (.seq _),E,tg,X,z,G,h=>ff h
 | .zip (.seq _) (.rng1 _),E,tg,X,z,G,h=>ff h
 | .zip (.seq _) (.rng2 _ _),E,tg,X,z,G,h=>ff h
 | .zip (.seq _) (.rng3 _ _ _),E,tg,X,z,G,h=>ff h
 | .zip (.seq _) (.enum _),E,tg,X,z,G,h=>ff h
 | .zip (.seq _) (.zip _ _),E,tg,X,z,G,h=>ff h
 | .zip (.seq _) (.items _),E,tg,X,z,G,h=>ff h
 | .zip (.rng1 _) _,E,tg,X,z,G,h=>ff h
 | .zip (.rng2 _ _) _,E,tg,X,z,G,h=>ff h
 | .zip (.rng3 _ _ _) _,E,tg,X,z,G,h=>ff h
 | .zip (.enum _) _,E,tg,X,z,G,h=>ff h
 | .zip (.zip _ _) _,E,tg,X,z,G,h=>ff h
 | .zip (.items _) _,E,tg,X,z,G,h=>ff h
 | .items _,E,tg,X,z,G,h=>ff h
theorem sL:∀(l:DV.L) (E:Expr) (X:Cx) (J:Ck),CG Γ F n X J->∀ k,mL J k l E=true->LK Γ X (DV.evL F l) E k
 | .comp tg it e caps,E,X,J,G,k,h=>by
  cases E with
  | ListComp elt gs scope p =>
   cases gs with
   | cons g gs1 =>
    cases g with
    | mk tgt iter ifs z =>
     cases ifs with
     | nil =>
      cases gs1 with
      | nil =>
       obtain⟨h,h3⟩:=zm h
       obtain⟨h,Y⟩:=zm h
       obtain⟨h0,N⟩:=zm h
       have Z:=of_decide_eq_true h0
       subst Z
       have c:=ba5 (pos:=p) G N (sI it _ _ X J G Y) fun C cells s H ex=>(sE e _ _ _ ((G.comp N).2.2 C cells s H ex).1 h3).1
       exact .c (c.eq fun ρ s=>rfl)
      | _=>exact ff h
     | _=>exact ff h
   | _=>exact ff h
  | _=>exact ff h
 | .compIf tg it i e caps,E,X,J,G,k,h=>by
  cases E with
  | ListComp elt gs scope p =>
   cases gs with
   | cons g gs1 =>
    cases g with
    | mk tgt iter ifs z =>
     cases ifs with
     | cons i1 ifs1 =>
      cases ifs1 with
      | nil =>
       cases gs1 with
       | nil =>
        obtain⟨h,h4⟩:=zm h
        obtain⟨h,h3⟩:=zm h
        obtain⟨h,Y⟩:=zm h
        obtain⟨h0,N⟩:=zm h
        have Z:=of_decide_eq_true h0
        subst Z
        have c:=bt8 (pos:=p) G N (sI it _ _ X J G Y) (fun C cells s H ex=>(sE i _ _ _ ((G.comp N).2.2 C cells s H ex).1 h3).2) fun C cells s H ex=>(sE e _ _ _ ((G.comp N).2.2 C cells s H ex).1 h4).1
        exact .c (c.eq fun ρ s=>rfl)
       | _=>exact ff h
      | _=>exact ff h
     | _=>exact ff h
   | _=>exact ff h
  | _=>exact ff h
 | .disp es,E,X,J,G,k,h=>by
  cases E with
  | List xs p =>
   obtain⟨h,Y⟩:=zm h
   obtain⟨h0,N⟩:=zm h
   exact .f (of_decide_eq_true h0) (bm8 N (of_decide_eq_true Y) (as3 (sEs es _ X J G N)))
  | _=>exact ff h
 | .seq e,E,X,J,G,k,h=>by
  obtain⟨h0,N⟩:=zm h
  exact .s (of_decide_eq_true h0) ((sE e _ X J G N).1.imp fun σ H Q q=>bv8 (TLv.eq (fun ρ s=>rfl) q))
 | .itm _,E,X,J,G,k,h=>ff h
end
end
section
variable {Γ:Gm} {F:jn} {n:Nat}
theorem bb4 {X:Cx}{ck:Ck}{m:jb->i8->jc (List i9)}{E:Expr}{x:Str}{i:Nat}{px pos:Pos}(G:CG Γ F n X ck)(c:CompF Γ X m E)(hi:ck.N[i]?=some x)(hl:ck.loc x=true) :
  PS X (.Assign [.Name x px] E pos) (bc4 (TFv Γ m) (az0 i)):=by
 obtain⟨Y,J,iter,a0,scope,p2,N',h,wi,g,tc,te,rfl,h1,h2,h3,h4,h5⟩:=c.ex
 obtain⟨l1,l2⟩:=G.loc hl
 have nd:X.N.Nodup:=by rw[G.N];exact G.nd
 have a1:X.N[i]?=some x:=by rw[G.N];exact hi
 generalize hb:((X.env.blockKind==.function&&X.env.kindOf x==some .local&&px.line==(Expr.ListComp Y [⟨J,iter,a0,0⟩] scope p2).pos.line&&!(scope.names.any fun(n,k)=>n==x&&(k==.local||k==.cell))))=b
 have Z:dL (.ListComp Y [⟨J,iter,a0,0⟩] scope p2) (some (.Name x px)) pos.line X.env=pure b:=by rw[<-hb];rfl
 have imp:∀ D σ H,bc4 (TFv Γ m) (az0 i) D σ H->bc4 (tComp h wi g tc te) (az0 i) D σ H:=fun D σ H q=>h5 _ _ _ q
 cases b with
 | true =>
  have z:X.env.scope.names.lookup x=some .local:=by
   simp only[ag]at hb
   exact eq_of_beq hb.1.1.2
  exact(aL2 N' h nd a1 z h1 h2 G.calm h3 h4 Z).imp imp
 | false=>exact(bh8 nd a1 l1 (aU2 N' h h1 h2 G.calm h3 h4) Z l2).imp imp
theorem bn4 {X:Cx}{z:Ck}{e:jV}{v:Expr}{x:Str}{i:Nat}{px pos:Pos}(G:CG Γ F n X z)(Y:z.N[i]?=some x)(hl:z.loc x=true)(h:mE z e v=true) :
  PS X (.Assign [.Name x px] v pos) (TSv Γ (DV.ex F (.asg (.one i) e))):=by
 obtain⟨l1,Z⟩:=G.loc hl
 have nd:X.N.Nodup:=by rw[G.N];exact G.nd
 have J:X.N[i]?=some x:=by rw[G.N];exact Y
 by_cases hc:ay0 v=true
 ·exact(bh8 nd J l1 (sE e v X z G h).1 (au4 hc) Z).imp fun D σ H q=>aV2 (tg:=.one i) (TSv.eq (fun ρ s=>rfl) q)
 ·have hs:=aI4 h
  cases v with
  | ListComp elt gs sc p =>
   cases e with
   | mk k l =>
    obtain⟨h1,h2⟩:=zm h
    have e:=of_decide_eq_true h1
    subst e
    exact(bb4 G (bB5 (sL l _ X z G 0 h2)) Y hl).imp fun D σ H q=>bc0 (tg:=.one i) (TSv.eq (fun ρ s=>rfl) q)
   | _=>exact ff h
  | SetComp _ _ _ _=>cases hs
  | DictComp _ _ _ _ _=>cases hs
  | _=>exact absurd rfl hc
mutual
theorem sS:∀(st:DV.S) (S:Stmt) (X:Cx) (z:Ck),CG Γ F n X z->mS z st S=true->PS X S (TSv Γ (DV.ex F st))
 | .asg tg e,S,X,z,G,h=>by
  cases S with
  | Assign ts v p =>
   cases ts with
   | cons t ts1 =>
    cases ts1 with
    | nil =>
     obtain⟨h,Y⟩:=zm h
     obtain⟨N,J⟩:=zm h
     cases tg with
     | one i =>
      have h:=N
      cases t with
      | Name x px =>
       obtain⟨a1,Z⟩:=zm h
       exact bn4 G (of_decide_eq_true a1) Z J
      | _=>exact ff h
     | tup is =>
      obtain⟨a1,Z⟩:=zm Y
      have h:=N
      cases t with
      | Tuple te tk tp=>exact(bh6 (sE e _ X z G J).1 (bo8 G N) (show dL v (some (.Tuple te tk tp)) p.line X.env=pure false from au4 Z) (aL3 a1) rfl).imp fun D σ H q=>aV2 (TSv.eq (fun ρ s=>rfl) q)
      | _=>exact ff h
    | _=>exact ff h
   | _=>exact ff h
  | _=>exact ff h
 | .setIx o i e,S,X,z,G,h=>by
  cases S with
  | Assign ts v p2 =>
   cases ts with
   | cons tt ts1 =>
    cases tt with
    | Subscript ob ix p1 =>
     cases ts1 with
     | nil =>
      obtain⟨h,h4⟩:=zm h
      obtain⟨h,Y⟩:=zm h
      obtain⟨N,J⟩:=zm h
      have a0:=aI4 J
      refine(bh6 (sE e _ X z G Y).1 (bI9 (sE o _ X z G N).1 (sE i _ X z G J).1 (bJ0 (aK6 G.room)) ?_) (show dL v (some (.Subscript ob ix p1)) p2.line X.env=pure false from au4 h4) aK1 ?_).imp fun D σ H q=>aX4 (TSv.eq (fun ρ s=>rfl) q)
      ·intro w
       cases ix<;>first|rfl|cases a0
      ·rfl
     | _=>exact ff h
    | _=>exact ff h
   | _=>exact ff h
  | _=>exact ff h
 | .aug _ _,S,X,z,G,h=>ff h
 | .ex e,S,X,z,G,h=>by
  cases S with
  | Expr v p =>
   obtain⟨N,J⟩:=zm h
   exact(bn8 (sE e _ X z G N).1 (au4 J)).imp fun D σ H q=>bm1 (TSv.eq (fun ρ s=>rfl) q)
  | _=>exact ff h
 | .ret e,S,X,z,G,h=>by
  cases S with
  | Return vo p =>
   cases vo with
   | some v =>
    exact(bh4 (sE e _ X z G h).1).imp fun D σ H q=>bH8 (TSv.eq (fun ρ s=>rfl) q)
   | _=>exact ff h
  | _=>exact ff h
 | .retN,S,X,z,G,h=>ff h
 | .ite c a b,S,X,z,G,h=>by
  cases S with
  | If t l r p =>
   obtain⟨h,Y⟩:=zm h
   obtain⟨N,J⟩:=zm h
   exact(bQ6 (sE c _ X z G N).2 (sSs a _ X z G J) (sSs b _ X z G Y)).imp fun D σ H q=>bN1 (TSv.eq (fun ρ s=>rfl) q)
  | _=>exact ff h
 | .whl c b,S,X,z,G,h=>by
  cases S with
  | While t l o p =>
   cases o with
   | nil =>
    obtain⟨N,J⟩:=zm h
    exact(aZ0 (by rw[G.xe];exact g9) (sE c _ X z G N).2 (sSs b _ X z G J)).imp fun D σ H q=>ba6 (TSv.eq (fun ρ s=>rfl) q)
   | _=>exact ff h
  | _=>exact ff h
 | .for_ tg it b,S,X,z,G,h=>by
  cases S with
  | For tgt iter l o p =>
   cases o with
   | nil =>
    obtain⟨h,Y⟩:=zm h
    obtain⟨N,J⟩:=zm h
    exact(bJ5 (by rw[G.xe];exact g9) G.calm (sI it _ _ X z G J) (bo8 G N) (sSs b _ X z G Y) (aE7 (bB7 J))).imp fun D σ H q=>by3 (TSv.eq (fun ρ s=>rfl) q)
   | _=>exact ff h
  | _=>exact ff h
 | .pass,S,X,z,G,h=>ff h
 | .cont,S,X,z,G,h=>ff h
 | .brk,S,X,z,G,h=>ff h
 | .und _,S,X,z,G,h=>ff h
 | .raise,S,X,z,G,h=>aX7.imp fun D σ H q=>by
  obtain⟨φ,ρ,s,c,s',E,R,hm,q⟩:=q
  cases hm
theorem sSs:∀(st:DV.Ss) (S:List Stmt) (X:Cx) (z:Ck),CG Γ F n X z->mSs z st S=true->PSs X S (TSv Γ (DV.exs F st))
 | .nil,S,X,z,G,h=>by
  cases S with
  | nil =>
   exact aS2.imp fun D σ H q=>bl3 (m:=DV.exs F .nil) (fun ρ s=>rfl) q
  | _=>exact ff h
 | .cons s ss,S,X,z,G,h=>by
  cases S with
  | cons x xs =>
   obtain⟨J,N⟩:=zm h
   exact(aH9 (sS s _ X z G J) (sSs ss _ X z G N)).imp fun D σ H q=>bF1 (TSv.eq (fun ρ s=>rfl) q)
  | _=>exact ff h
end
end
noncomputable def bT2 (ck:Ck):List String->List Expr->Bool
 | [],xs=>match xs with|[]=>true|_=>false
 | c::cs,xs=>match xs with|.Name x _::es=>decide (x=(c:Str))&&ck.gl x&&bT2 ck cs es|_=>false
noncomputable def mHT (ck:Ck)(n:Str):DV.HT->Expr->Bool
 | .isi cs,E=>match E with|.Call (.Name g _) [.Name x _,.Tuple es _ _] [] _=>decide (g=("isinstance":Str))&&ck.gl g&&decide (x=n)&&bT2 ck cs es&&decide (cs.length<=1000)|_=>false
 | .one c,E=>match E with|.Call (.Name g _) [.Name x _,.Name d _] [] _=>decide (g=("isinstance":Str))&&ck.gl g&&decide (x=n)&&decide (d=(c:Str))&&ck.gl d|_=>false
 | .not t,E=>match E with|.UnaryOp .Not e _=>mHT ck n t e|_=>false
 | .or a b,E=>match E with|.BoolOp .Or [x,y] _=>mHT ck n a x&&mHT ck n b y|_=>false
noncomputable def mHd (ck:Ck)(n:Str):DV.Hd->List Stmt->Bool
 | .ret t,S=>match S with|[.Return (some e) _]=>mHT ck n t e|_=>false
 | .iff t b h,S=>match S with|.If e [.Return (some (.Constant (.bool b') _ _)) _] [] _::rest=>mHT ck n t e&&decide (b'=b)&&mHd ck n h rest|_=>false
section
variable {Γ:Gm} {F:jn} {n:Nat} {X:Cx} {ck:Ck} {a C:Addr} {oe:Obj}
end
noncomputable def mX (ck:Ck):DV.XB->List Stmt->Bool
 | .no,_=>true
 | .rais c,S=>match S with|.Raise (some (.Call (.Name x _) [.Constant (.str _) _ _] [] _)) none _::_=>decide (x=(c:Str))&&ck.gl x|_=>false
 | .call f as,S=>match S with
  | .Return (some (.Call (.Name x _) (e::es) [] _)) _::_=>decide (x=(f:Str))&&ck.gl x&&mAs ck as (e::es)
  | .Expr (.Call (.Name x _) (e::es) [] _) _::_=>decide (x=(f:Str))&&ck.gl x&&mAs ck as (e::es)
  | _=>false
 | .iteT c a r,S=>match S with|.If t l [] _::rest=>mE ck c t&&mX ck a l&&mX ck r rest|_=>false
 | .seq s b,S=>match S with|x::rest=>mS ck s x&&mX ck b rest|_=>false
noncomputable def noR:DV.XB->Bool
 | .rais _=>false
 | .iteT _ a r=>noR a&&noR r
 | .seq _ b=>noR b
 | _=>true
def aV6 (Γ:Gm)(mg:Str->Option Value)(φ:Nat->Addr)(s:i8)(H:Hp)(c:String)(s':i8)(E:XK):Prop :=
 ∀ φ' H' a C,Gr φ s H φ' s' H'->s.length<=s'.length->Rp Γ φ' H' s'->mg (c:Str)=some (.ref C)->E (.ref a) (some C) H'
theorem aV6.trans {Γ:Gm}{F:Str->Option Value}{φ φ1:Nat->Addr}{s s1 s':i8}{H z:Hp}{c:String}{E:XK}(h:aV6 Γ F φ s H c s' E)(g:Gr φ s H φ1 s1 z)(l:s.length<=s1.length):aV6 Γ F φ1 s1 z c s' E :=
 fun φ' H' a C g' G p m=>h φ' H' a C (g.trans g' l) (aj l G) p m
theorem PA.nox {X:Cx}{e:List Expr}{t:TA}(h:PA X.nox e t):PA X e t:=fun pos F s σ H Q I hw =>
 bw (h pos F s σ H Q (I.wish _) hw) (fun _ _ ⟨v,H',G,r,q⟩=>⟨v,H',G.unwish,r,q⟩) fun _ _ z=>bH z
theorem PS.nox {X:Cx}{st:Stmt}{t:TS}(h:PS X.nox st t):PS X st t:=fun F s σ H D I hw =>
 bw (h F s σ H D (I.wish _) hw) (fun _ _ q=>q.unwish) fun _ _ z=>bH z
section
variable {Γ:Gm} {F:jn} {n:Nat} {X:Cx} {ck:Ck} {a C:Addr} {oe:Obj}
end
section
variable {Γ:Gm}
theorem aC3 {φ φ1:Nat->Addr}{H F:Hp}{s s1:i8}(R:Rp Γ φ H s)(g:Gr φ s H φ1 s1 F)(ho:ku s s1=true){i:Nat}{o:jz}(z:i<s.length)(e:s1[i]?=some o):o.bnd s.length=true:=by
 unfold ku at ho
 have:=aQ.mp ho i (cc.mpr z)
 rw[e,bh]at this
 rcases this with h|h
 ·exact R.wf i o (of_decide_eq_true h).symm
 ·exact h
theorem z4 {s1:i8}{k i:Nat}{o:jz}(e:(s1.take k)[i]?=some o):i<k/\s1[i]?=some o:=by
 rw[gv]at e
 split at e
 ·exact⟨‹_›,e⟩
 ·cases e
theorem aJ8 {φ φ1:Nat->Addr}{H h:Hp}{s s1:i8}(R:Rp Γ φ H s)(g:Gr φ s H φ1 s1 h)(R1:Rp Γ φ1 h s1)(ho:ku s s1=true):Gr φ s H φ1 (s1.take s.length) h/\Rp Γ φ1 h (s1.take s.length):=by
 have hl:(s1.take s.length).length=s.length:=by rw[bK];have:=g.le;omega
 refine⟨⟨g.w,by rw[hl];exact ai _,fun i J G=>by rw[hl]at G;omega,fun i o F e e'=>g.kd i o F e (z4 e').2,g.st,g.fr⟩,fun i j o F e e' m m' z=>R1.inj i j o F (z4 e).2 (z4 e').2 m m' z,fun i o e=>R1.obj i o (z4 e).2,fun i o e=>?_,R1.tab⟩
 rw[hl]
 exact aC3 R g ho (z4 e).1 (z4 e).2
theorem au8 {φ φ1:Nat->Addr}{H G:Hp}{s s1 s':i8}{v0 d:i9}{v:V}(R:Rp Γ φ H s)(g:Gr φ s H φ1 s1 G)(R1:Rp Γ φ1 G s1)(hb:v0.bnd s1.length=true)(r:RV Γ φ1 G v0 v)(h:DV.zu s v0 s1=.ok d s') :
  ∃ φ',Gr φ s H φ' s' G/\s.length<=s'.length/\d.bnd s'.length=true/\RV Γ φ' G d v/\Rp Γ φ' G s':=by
 have all:d=v0->s'=s1->∃ φ',Gr φ s H φ' s' G/\s.length<=s'.length/\d.bnd s'.length=true/\RV Γ φ' G d v/\Rp Γ φ' G s':=fun e1 e2=>by
  subst e1;subst e2
  exact⟨φ1,g,g.le,hb,r,R1⟩
 unfold DV.zu at h
 split at h
 case isFalse=>cases h;exact all rfl rfl
 rename_i ho
 obtain⟨gt,Rt⟩:=aJ8 R g R1 ho
 have hl:(s1.take s.length).length=s.length:=by rw[bK];have:=g.le;omega
 have tk:d=v0->s'=s1.take s.length->v0.bnd s.length=true->∃ φ',Gr φ s H φ' s' G/\s.length<=s'.length/\d.bnd s'.length=true/\RV Γ φ' G d v/\Rp Γ φ' G s':=fun e1 e2 b=>by
  subst e1;subst e2
  exact⟨φ1,gt,by rw[hl];exact ai _,by rw[hl];exact b,r,Rt⟩
 split at h
 ·rename_i k
  split at h
  ·cases h
   exact tk rfl rfl (by unfold je;exact decide_eq_true ‹_›)
  ·rename_i hk
   split at h
   ·rename_i o Y
    split at h
    ·rename_i N
     cases h
     have gw:Gw φ1 s.length G (fun i=>if i=s.length then φ1 k else φ1 i) G:=⟨fun i z=>if_neg (ay z),Kp.refl _⟩
     have key:∀(i:Nat) (J:jz),(s1.take s.length++[o])[i]?=some J->(i<s.length/\s1[i]?=some J)\/(i=s.length/\J=o):=fun i J e=>by
      rcases d8 i s.length with h|h|h
      ·rw[aJ (by rw[hl];exact h)]at e;exact .inl (z4 e)
      ·subst h
       rw[br (by rw[hl];exact ai _),hl,Nat.sub_self]at e
       exact .inr ⟨rfl,(av e).symm⟩
      ·rw[cB (by rw[aA,hl];simp;omega)]at e;cases e
     have F:(s1.take s.length++[o]).length=s.length+1:=by rw[aA,hl];rfl
     refine⟨fun i=>if i=s.length then φ1 k else φ1 i,⟨⟨fun i z=>?_,g.w.kp⟩,by rw[F];omega,fun i h1 h2=>?_,fun i oo J e e'=>?_,g.st,g.fr⟩,by rw[F];omega,by unfold je;rw[F];exact decide_eq_true (cg _),?_,⟨fun i j oi oj a0 a1 Z mj e=>?_,fun i J e=>?_,fun i J e=>?_,R1.tab⟩⟩
     ·show(if i=s.length then φ1 k else φ1 i)=φ i
      rw[if_neg (ay z)];exact g.w.map i z
     ·rw[F]at h2
      show H (if i=s.length then φ1 k else φ1 i)=none
      rw[if_pos (by omega)]
      exact g.new k (by omega) (af.mp Y).1
     ·rcases key i J e' with⟨_,e2⟩|⟨z,_⟩
      ·exact g.kd i oo J e e2
      ·have:=(af.mp e).1;omega
     ·rw[r.refE]
      unfold RV
      show V.ref (φ1 k)=V.ref (if s.length=s.length then φ1 k else φ1 s.length)
      rw[if_pos rfl]
     ·rcases key i oi a0 with⟨z,ei⟩|⟨z,zi⟩<;>rcases key j oj a1 with⟨hj,ej⟩|⟨hj,zj⟩
      ·rw[if_neg (ay z),if_neg (ay hj)]at e
       exact R1.inj i j oi oj ei ej Z mj e
      ·rw[if_neg (ay z),if_pos hj]at e
       subst zj
       have:=R1.inj i k oi _ ei Y Z mj e
       omega
      ·rw[if_neg (ay hj),if_pos z]at e
       subst zi
       have:=R1.inj k j _ oj Y ej Z mj e
       omega
      ·rw[z,hj]
     ·rcases key i J e with⟨z,e⟩|⟨z,rfl⟩
      ·show RO Γ _ _ (if i=s.length then φ1 k else φ1 i) J
       rw[if_neg (ay z)]
       exact(R1.obj i J e).mono gw (aC3 R g ho z e) fun _ u hu=>hu
      ·show RO Γ _ _ (if i=s.length then φ1 k else φ1 i) J
       rw[if_pos z]
       exact(R1.obj k _ Y).mono gw N fun _ u hu=>hu
     ·rw[F]
      rcases key i J e with⟨z,e⟩|⟨_,rfl⟩
      ·exact zN (dt _) _ (aC3 R g ho z e)
      ·exact zN (dt _) _ N
    ·cases h;exact all rfl rfl
   ·exact fb h
 ·split at h
  ·cases h;exact tk rfl rfl ‹_›
  ·cases h;exact all rfl rfl
structure LamGood (J:LamI)(L:jZ):Prop where
 sc:LamScope (J.ps++J.fr) J.ps J.fr J.scope
 ps:J.ps.length=L.ps
 fr:J.fr.length=L.cs
 m:mE (ck0 (J.ps++J.fr) J.scope) L.body J.body=true
 pa:lamArgs J.params=some J.ps
 bind:∀(clos:List (Str×Addr)) (doc pm:Value) (c':Addr) (ctv:Value) (us:List Value),us.length=J.ps.length->c6 (cH "<lambda>" J.qual J.params J.body J.scope clos pm (.ref c') ctv) ⟨us,[]⟩=pure (J.ps.zip us) /\
  ∀(nm:Str) (rp:Pos),c6 (d6 nm J.qual J.params [.Return (some J.body) rp] J.scope clos .none .none doc pm none (.ref c') ctv) ⟨us,[]⟩=pure (J.ps.zip us)
structure LkAt (Γ:Gm)(cds:List (Addr×Addr))(f:Str)(sc:Scope)(N:List Str)(fd:bJ)(id:String)(caps:List Nat)(params:bP)(body:Expr)(scope:Scope)(c P:Addr)(J:LamI):Prop where
 code:fd.code=.ref c
 cd:(c,P)∈cds
 ck:lamCheck scope sc=true
 fre:∀ x,scope.names.lookup x=some .free->sc.names.lookup x=some .cell
 cel:∀ y∈sc.names,y.2=.cell->sc.names.lookup y.1=some .cell
 df:∀ env,defaultsOf params env=([],[])
 lg:Γ.lg id J
 q:J.qual=f ++ ".<locals>."++J.own
 p:J.params=params
 b:J.body=body
 s:J.scope=scope
 len:J.fr.length=caps.length
 at_:∀(i j:Nat) (x:Str),caps[i]?=some j->J.fr[i]?=some x->N[j]?=some x
 fr:∀ x∈J.fr,scope.names.lookup x=some .free
 tab:(P,J.qual)∈Γ.T
def bE2 (Γ:Gm)(cds:List (Addr×Addr))(f:Str)(sc:Scope)(N:List Str)(fd:bJ)(lk:String->List Nat->Expr->Bool):Prop :=
 ∀ id caps E,lk id caps E=true->∃ c P params body scope pos J,E=lamText J params body scope pos/\LkAt Γ cds f sc N fd id caps params body scope c P J
def GoodB (Γ:Gm)(cds:List (Addr×Addr))(mg:Str->Option Value)(f:String)(pc vc:Nat)(m:Ck->List Stmt->Bool):Prop:=∃ st N ps a fd lk,DefAt Γ.K mg (f:Str) st ps a fd/\FnScope N ps (defScope st)/\ps.length=pc/\N.length=pc+vc/\m ⟨N,defScope st,lk⟩ (zz st)=true/\bE2 Γ cds (f:Str) (defScope st) N fd lk
def Good (Γ:Gm)(cds:List (Addr×Addr))(mg:Str->Option Value)(f:String)(d:j0):Prop:=GoodB Γ cds mg f d.ps d.vs fun ck S=>mSs ck d.body S
noncomputable def mT (ck:Ck)(d:DV.Tf)(S:List Stmt):Bool:=match S with
 | st::rest=>(match st with|.Try tb hs [] [] _=>(match hs with|[eh]=>(match eh with|.ExceptHandler (some en) (some nm) hb _=>(match en,hb with|.Name x _,b::su=>mSs ck d.body tb&&(mX ck d.xb tb&&(noR d.xb&&(decide (x=(d.c:Str))&&(ck.gl x&&(decide (ck.N[d.i]?=some nm)&&((ck.sc.names.lookup nm==some .local)&&(!(nm==("__debug__":Str))&&(!(nm==("__classdict__":Str))&&(mHd ck nm d.h (b::su)&&mSs ck d.tl rest)))))))))|_,_=>false)|_=>false)|_=>false)|_=>false)
 | _=>false
structure PrOk (Γ:Gm)(cds:List (Addr×Addr))(P:jp)(mg:Str->Option Value)(w:World):Prop where
 df:∀ f d,P.df f=some d->Good Γ cds mg f d
 con:∀ x d,P.con x=some d->∃ v u,mg (x:Str)=some u/\RelV v u/\(∀ m,d.bnd m=true)/\∀ φ H,RV Γ φ H d v
 bi:∀ x∈bNames,mg x=none
 fa:∀(f:String) (a:Addr),Γ.fa f=some a->mg (f:Str)=some (.ref a)/\∃ oc od fd sl,Γ.K.lookup a=some ⟨oc,od,.func fd,sl⟩
 lg:∀ id J,Γ.lg id J->∃ L,P.lm id=some L/\LamGood J L
 nd:(Γ.T.map (·.1)).Nodup
 xf:∀ f d,P.xf f=some d->GoodB Γ cds mg f d.ps d.vs fun ck S=>mX ck d.body S
 tf:∀ f d,P.tf f=some d->GoodB Γ cds mg f d.ps d.vs fun ck S=>mT ck d S
 xc:∀ c:String,P.xc c=true->∃ C,mg (c:Str)=some (.ref C)/\ExcCls Γ.K C/\excI Γ.K C=true
 xt:∀ c:String,P.xt c=true->∃ C,mg (c:Str)=some (.ref C)
 xs:∀(c d:String) (C D:Addr),P.xc c=true->P.xt d=true->mg (c:Str)=some (.ref C)->mg (d:Str)=some (.ref D)->bQ Γ.K (.ref C) (.ref D)=some (DV.subC c d)
 cdc:∀(c:String) kvs,P.cdc c=some kvs->∃ a,mg (c:Str)=some (.ref a)/\∀(prog:aG) (h:Heap),Γ.K.In h->iP prog w h a (strD kvs)
noncomputable def aH8 (Γ : Gm) (prog : Program) (w : World) (mg : Str -> Option Value) (base : Heap) (F : DV.Fns) (n : Nat) : Prop := (∀ f : String, (∀ l s, F.call f l s = .bad) \/
      ∃ a fd ps, FnOk prog w Γ.K mg base CX0 n a fd ps (spV Γ (F.call f)) /\ mg (f : Str) = some (.ref a) /\ bV Γ.K (.ref a) = true /\ Binds Γ.K fd ps []) /\
  ∀(id : String) (J : LamI) (f : Addr) (cap : List V) (clos : List (Str × Addr)), Γ.lg id J -> cap.length = J.fr.length -> ClOk prog w Γ.K mg base n (fun H => CloAt H f J cap clos) f (spL Γ (F.lam id) cap)
theorem aY7 {φ:Nat->Addr}{H:Hp}{n k:Nat}{N:List Str}{l:List i9}{vs:List V}(r:RVL Γ φ H l vs)(b:ja n l=true)(hN:N.length=l.length+k):RE Γ φ H n (l.map some++aq k none) (al9 N vs):=by
 have hl:=r.length
 refine⟨?_,fun i d e=>?_⟩
 ·unfold al9;simp[hl,hN]
 ·by_cases hi:i<l.length
  ·rw[aJ (by simpa using hi),aU]at e
   have e':l[i]?=some d:=by
    rw[am hi]at e ⊢
    exact av e
   obtain⟨v,e1,e2⟩:=r.get e'
   refine⟨al0 b e',v,?_,e2⟩
   unfold al9
   rw[aJ (by rw[aK,hl];exact hi),aU,e1];rfl
  ·rw[br (by simpa using gO hi)]at e
   rw[eI]at e
   split at e<;>cases e
theorem bf8 {z:List (Addr×Addr)}{P:jp}{prog:aG}{w:World}{F:Str->Option Value}(J:PrOk Γ z P F w)(n:Nat):∀(c:String) kvs,(ji P n).cdc c=some kvs->∃ a,F (c:Str)=some (.ref a)/\∀ h:Heap,Γ.K.In h->iP prog w h a (strD kvs):=by
 have:(ji P n).cdc=P.cdc:=by cases n<;>rfl
 rw[this]
 intro c kvs e
 obtain⟨a,G,N⟩:=J.cdc c kvs e
 exact⟨a,G,N prog⟩
theorem bA3 {Y:List (Addr×Addr)}{P:jp}{prog:aG}{w:World}{mg:Str->Option Value}{base:Heap}(hP:PrOk Γ Y P mg w)(hb:∀ y∈Y,bW base y.1 y.2/\BM mg base)(n:Nat)(F:aH8 Γ prog w mg base (ji P n) (n+31))
  {f:String} {st:Stmt} {N ps:List Str} {a:Addr} {fd:bJ} {lk:String->List Nat->Expr->Bool} (hS:FnScope N ps (defScope st)) (hL:bE2 Γ Y (f:Str) (defScope st) N fd lk) (G:Value) (hcd:∀ id h E,lk id h E=true->fd.code=G) (A:aR) (Z:List Env) (sh:ae) (H:Hp) (E:XK) (hr:Room (n+31) (A.deeper (dQ (f:Str) (defScope st) sh.heap.objs.size a G))) :
  CG Γ (ji P n) (n+31) (ba7 CX0 prog w Γ.K mg base N (f:Str) (defScope st) a G A Z sh H E).nox ⟨N,defScope st,lk⟩:=by
 refine⟨rfl,rfl,hS.nd,rfl,rfl,?_,hr,fun x k e=>.inl e,fun _ _=>rfl,hP.bi,F.1,?_,fun id h E' a0=>?_,F.2,hP.fa,DV.ak0 P n,bf8 hP n⟩
 ·show jl+1<=n+31
  unfold jl;omega
 ·have:(ji P n).con=P.con:=by cases n<;>rfl
  rw[this];exact hP.con
 ·obtain⟨c,Pa,params,body,scope,pos,J,eE,L⟩:=hL id h E' a0
  obtain⟨a4,a3⟩:=hb _ L.cd
  obtain⟨L',_,lg⟩:=hP.lg id J L.lg
  refine⟨c,Pa,params,body,scope,pos,J,eE,⟨?_,a4,a3,L.ck,L.df _,L.lg,L.q,L.p,L.b,L.s,L.len,L.at_,L.fr,fun x hx=>?_,L.tab,hP.nd,fun _=>rfl,fun x c hx=>?_,lg.sc,lg.pa,fun a1 pm c' a2 us a5=>(lg.bind a1 .none pm c' a2 us a5).1⟩⟩
  ·show G=.ref c
   rw[<-hcd id h E' a0];exact L.code
  ·exact zG (L.fre x hx)
  ·rcases zq (aB hx)with z|z
   ·exact .inl (L.cel (x,.cell) z rfl)
   ·exact absurd z (by simp)
theorem bv9 {a0:List (Addr×Addr)}{P:jp}{prog:aG}{w:World}{mg:Str->Option Value}{base:Heap}(hP:PrOk Γ a0 P mg w)(hb:∀ y∈a0,bW base y.1 y.2/\BM mg base)(n:Nat)(a1:aH8 Γ prog w mg base (ji P n) (n+31))
  {f:String} {d:j0} (e:P.df f=some d) {st:Stmt} {N ps:List Str} {a:Addr} {fd:bJ} {lk:String->List Nat->Expr->Bool} (hD:DefAt Γ.K mg (f:Str) st ps a fd) (hS:FnScope N ps (defScope st)) (h1:ps.length=d.ps) (h2:N.length=d.ps+d.vs) (hm:mSs ⟨N,defScope st,lk⟩ d.body (zz st)=true) (hL:bE2 Γ a0 (f:Str) (defScope st) N fd lk) :
  FnOk prog w Γ.K mg base CX0 (n+1+31) a fd ps (spV Γ ((ji P (n+1)).call f)):=by
 have Z:∀ vs H Q E,spV Γ ((ji P (n+1)).call f) vs H Q E->vs.length=ps.length:=fun vs H Q E q=>by
  obtain⟨φ,s,l,d',s',R,r,b,hc,k⟩:=q
  simp only[ji,e]at hc
  split at hc
  ·rw[r.length,h1];assumption
  ·exact fb hc
 have body:∀(Y:Value),(∀ id z E,lk id z E=true->fd.code=Y)->∀(A:aR) (F:List Env) (sh:ae) (H:Hp) (vs:List V) (Q:VK) (E:XK),Room (n+31) (A.deeper (dQ (f:Str) (defScope st) sh.heap.objs.size a Y))->spV Γ ((ji P (n+1)).call f) vs H Q E ->
   ∃ t,PSs (ba7 CX0 prog w Γ.K mg base N (f:Str) (defScope st) a Y A F sh H E).nox (zz st) t/\t { nx:=fun _ H'=>Q .non H',rt:=Q } (al9 N vs) H:=by
  intro Y hcd A F sh H vs Q E hr q
  have G:=bA3 hP hb n a1 hS hL (a:=a) Y hcd A F sh H E hr
  refine⟨_,sSs d.body (zz st) _ ⟨N,defScope st,lk⟩ G hm,?_⟩
  obtain⟨φ,s,l,d',s',R,r,b,hc,k⟩:=q
  simp only[ji,e]at hc
  split at hc
  case isFalse=>exact fb hc
  rename_i Z
  obtain⟨c,s1,e1,hc⟩:=aa0 hc
  refine⟨φ,l.map some++aq d.vs none,s,c,s1,aY7 r b (by rw[h2,Z]),R,e1,fun φ1 H1 g1 l1 R1=>?_⟩
  cases c with
  | ret v0 =>
   intro v hb rv
   obtain⟨φ',g',l',b',r',R'⟩:=au8 R g1 R1 hb rv hc
   exact k v φ' H1 g' l' b' r' R'
  | next ρ =>
   intro σ' _
   obtain⟨φ',g',l',b',r',R'⟩:=au8 (v0:=.non) R g1 R1 rfl RV.nonI hc
   exact k .non φ' H1 g' l' b' r' R'
  | cont ρ=>exact fb hc
  | brk ρ=>exact fb hc
 by_cases hl:∃ id z E,lk id z E=true
 ·obtain⟨id,z,E,a2⟩:=hl
  obtain⟨c,Pa,params,a3,scope,pos,J,eE,L⟩:=hL id z E a2
  exact hD.fn.okC L.code hS Z (body _ fun _ _ _ _=>L.code)
 ·exact hD.fn.ok hS Z (fun Y=>body Y fun id z E h=>absurd ⟨id,z,E,h⟩ hl)
theorem bt5 {b3:List (Addr×Addr)}{P:jp}{prog:aG}{w:World}{mg:Str->Option Value}{base:Heap}(hP:PrOk Γ b3 P mg w)(n:Nat)(Z:aH8 Γ prog w mg base (ji P n) (n+31))
  (id:String) (J:LamI) (f:Addr) (cap:List V) (F:List (Str×Addr)) (b6:Γ.lg id J) (a2:cap.length=J.fr.length) :
  ClOk prog w Γ.K mg base (n+1+31) (fun H=>CloAt H f J cap F) f (spL Γ ((ji P (n+1)).lam id) cap):=by
 obtain⟨L,eL,LG⟩:=hP.lg id J b6
 have a0:∀ vs H Q E,spL Γ ((ji P (n+1)).lam id) cap vs H Q E->vs.length=J.ps.length:=fun vs H Q E q=>by
  obtain⟨φ,s,cs,l,d,s',R,r,rc,b,bc,hc,k⟩:=q
  simp only[ji,eL]at hc
  split at hc
  ·rename_i hh;rw[r.length,LG.ps];exact hh.1
  ·exact fb hc
 have a3:∀(A:aR) (N:List Env) (sh:ae) (H:Hp) (cd:Value) (vs:List V) (Q:VK),Room (n+31) (A.deeper (cq J.qual J.scope sh.heap.objs.size f cd (aI (sh.heap.objs.size+1) J.scope.names F)))->Cells F H->(∀ b o,Γ.K.lookup b=some o->H b=none)->spL Γ ((ji P (n+1)).lam id) cap vs H Q E0 ->
   ∃ t,PE (aB8 prog w Γ.K mg base (J.ps++J.fr) J.qual J.scope f cd F A N sh H) J.body t/\t (vs.map some++cap.map some) (ah9 F H) fun v H'=>(∀ b,isC F b=true->H' b=none)->Q v (Put F H H'):=by
  intro A N sh H cd vs Q hr z hK q
  have G:CG Γ (ji P n) (n+31) (aB8 prog w Γ.K mg base (J.ps++J.fr) J.qual J.scope f cd F A N sh H) (ck0 (J.ps++J.fr) J.scope):=by
   refine⟨rfl,rfl,LG.sc.nd,rfl,rfl,?_,hr,fun x k e=>.inl e,fun x e=>?_,hP.bi,Z.1,?_,fun _ _ _ h=>(by cases h),Z.2,hP.fa,DV.ak0 P n,bf8 hP n⟩
   ·show jl+1<=n+31
    unfold jl;omega
   ·show(J.scope.names.lookup x==some .cell)=true
    rw[show J.scope.names.lookup x=some .cell from e];rfl
   ·have:(ji P n).con=P.con:=by cases n<;>rfl
    rw[this];exact hP.con
  refine⟨_,(sE L.body J.body _ (ck0 (J.ps++J.fr) J.scope) G LG.m).1,?_⟩
  obtain⟨φ,s,cs,l,d,s',R,r,rc,b,bc,hc,k⟩:=q
  simp only[ji,eL]at hc
  split at hc
  case isFalse=>exact fb hc
  rename_i hh
  obtain⟨h1,h2,h3⟩:=hh
  rw[ag,ag]at h3
  obtain⟨⟨b5,b4⟩,b2⟩:=h3
  obtain⟨v0,s1,e1,hc⟩:=aa0 hc
  have RD:Rp Γ φ (ah9 F H) s:=R.dropC z b2
  have b0:RVL Γ φ (ah9 F H) (l++cs) (vs++cap):=(RVL.dropC z l vs b5 r).append (RVL.dropC z cs cap b4 rc)
  refine⟨φ,l.map some++cs.map some,s,v0,s1,⟨by simp[r.length,rc.length],fun i x ei=>?_⟩,RD,e1,fun v φ1 H1 g1 l1 b1 r1 R1 a1=>?_⟩
  ·rw[<-cy,aU]at ei
   have a6:(l++cs)[i]?=some x:=by
    cases q:(l++cs)[i]? with
    | none=>rw[q]at ei;cases ei
    | some y=>rw[q]at ei;cases ei;rfl
   obtain⟨u,e3,e4⟩:=b0.get a6
   refine⟨al0 (zD b bc) a6,u,?_,e4⟩
   rw[<-cy,aU,e3];rfl
  ·obtain⟨φ',g',l',b',r',R'⟩:=au8 RD g1 R1 b1 r1 hc
   have gp:=Gr.put z a1 hK R' g'
   obtain⟨gs,Rs⟩:=R'.same (aR4 (H:=H) a1)
   exact k v φ' _ gp l' b' (RV.mono gs d v b' r') Rs
 unfold CloAt
 cases q:J.nm with
 | none=>exact bn0 LG.sc a0 a2 (fun pm c' Y us a4=>(LG.bind F .none pm c' Y us a4).1) (fun A N sh H cd vs Q hr hat hK q=>by
   obtain⟨pm,c',Y,_,_,z,_⟩:=hat
   exact a3 A N sh H cd vs Q hr z hK q)
 | some p=>exact bj9 LG.sc a0 a2 (fun a5 pm c' Y us a4=>(LG.bind F a5 pm c' Y us a4).2 _ _) (fun A N sh H cd vs Q hr hat hK q=>by
   obtain⟨a5,pm,c',Y,_,_,z,_⟩:=hat
   obtain⟨t,h1,h2⟩:=a3 A N sh H cd vs Q hr z hK q
   exact⟨_,aH9 (bh4 h1) aS2,h2⟩)
theorem aH1 {z:List (Addr×Addr)}{P:jp}{prog:aG}{w:World}{mg:Str->Option Value}{base:Heap}(F:PrOk Γ z P mg w)(hb:∀ y∈z,bW base y.1 y.2/\BM mg base)(ht:∀ f,P.tf f=none):∀ n:Nat,aH8 Γ prog w mg base (ji P n) (n+31)
 | 0=>⟨fun f=>.inl fun l s=>rfl,fun id J f cap h _ _=>⟨fun A Y s H us vs Q _ _ _ _ q=>by
   obtain⟨φ,s,cs,l,d,s',R,r,rc,b,bc,hc,k⟩:=q
   cases hc⟩⟩
 | n+1=>by
  have ih:=aH1 (prog:=prog) (w:=w) (base:=base) F hb ht n
  refine⟨fun f=>?_,fun id J f cap h G Z=>bt5 F n ih id J f cap h G Z⟩
  cases e:P.df f with
  | none=>exact .inl fun l s=>by simp only[ji,e,ht f]
  | some d =>
   obtain⟨st,N,ps,a,fd,lk,hD,hS,G,Z,hm,hL⟩:=F.df f d e
   exact .inr ⟨a,fd,ps,bv9 F hb n ih e hD hS G Z hm hL,hD.mg,hD.fn.kp,hD.bi⟩
def spT (Γ:Gm):Sp:=fun vs H Q _=>∃(a:Addr) (ns:List Int),vs=[.ref a]/\SqF Γ.K H a (ns.map V.int)/\ns.length<=63/\TabsH Γ.T H/\∀ H',Q (.bl true) H'
theorem aF4 {φ:Nat->Addr}{H:Hp}:∀ ns:List Int,RVL Γ φ H (ns.map DV.D.int) (ns.map V.int)
 | []=>.nil
 | n::ns=>.cons RV.intI (aF4 ns)
theorem ax7 {m:Nat}:∀ ns:List Int,ja m (ns.map DV.D.int)=true
 | []=>rfl
 | n::ns=>by rw[aY];unfold ja;rw[ax7 ns];rfl
theorem bz5 {P:jp}{k:Nat}(h:∀ ns:List Int,ns.length<=63->∃ s',(ji P k).call "law" [.ref 0] [.ro (ns.map DV.D.int)]=.ok (.bl true) s')(vs:List V)(H:Hp)(Q:VK)(E:XK)(q:spT Γ vs H Q E):spV Γ ((ji P k).call "law") vs H Q E:=by
 obtain⟨a,ns,rfl,F,hl,hT,z⟩:=q
 obtain⟨s',hs⟩:=h ns hl
 refine⟨fun _=>a,[.ro (ns.map DV.D.int)],[.ref 0],.bl true,s',⟨fun i j o G e e' m m' _=>?_,fun i o e=>?_,fun i o e=>?_,hT⟩,.cons RV.refI .nil,?_,hs,fun v φ' H' g l b r R=>?_⟩
 ·cases i with
  | zero=>cases e;cases m
  | succ i=>cases e
 ·cases i with
  | zero=>cases e;exact⟨_,F,aF4 ns⟩
  | succ i=>cases e
 ·cases i with
  | zero=>cases e;unfold jf;exact ax7 ns
  | succ i=>cases e
 ·unfold ja je ja;rfl
 ·rw[r.blE];exact z H'
theorem aF6 {z:List (Addr×Addr)}{F:Str->Option Value}:∀ {tbl:List (String×j0)},(∀ p∈tbl,Good Γ z F p.1 p.2)->∀ f d,tbl.lookup f=some d->Good Γ z F f d
 | [],_,f,d,h=>by cases h
 | (g,e)::tbl,H,f,d,h=>by
  rw[aP]at h
  cases q:f==g with
  | true =>
   rw[q]at h
   cases h
   rw[eq_of_beq q]
   exact H (g,_) (az ..)
  | false =>
   rw[q]at h
   exact aF6 (fun p G=>H p (aw _ G)) f d h
def ba3 (Γ:Gm)(mg:Str->Option Value)(x:String)(d:i9):Prop:=∃ v u,mg (x:Str)=some u/\RelV v u/\(∀ m,d.bnd m=true)/\∀ φ H,RV Γ φ H d v
theorem aN8 {z:Str->Option Value}:∀ {tbl:List (String×i9)},(∀ p∈tbl,ba3 Γ z p.1 p.2)->∀ f d,tbl.lookup f=some d->ba3 Γ z f d
 | [],_,f,d,h=>by cases h
 | (g,e)::tbl,H,f,d,h=>by
  rw[aP]at h
  cases q:f==g with
  | true =>
   rw[q]at h
   cases h
   rw[eq_of_beq q]
   exact H (g,_) (az ..)
  | false =>
   rw[q]at h
   exact aN8 (fun p F=>H p (aw _ F)) f d h
theorem aR8 {z:Str->Option Value}{x:String}{i:Int}{t:Tok}(h:z (x:Str)=some (.int i t)):ba3 Γ z x (.int i):=⟨.int i,_,h,⟨t,rfl⟩,fun _=>rfl,fun _ _=>RV.intI⟩
inductive ConV (Γ:Gm):i9->Value->Prop where
 | int (i:Int) (t:Tok):ConV Γ (.int i) (.int i t)
 | str (x:List Nat) (t:Tok) (h:x.length<=1000):ConV Γ (.str x) (.str ⟨x.toArray⟩ t)
inductive ConL (Γ:Gm):List i9->List Value->Prop where
 | nil:ConL Γ [] []
 | cons {d v l vs} (a:ConV Γ d v) (b:ConL Γ l vs):ConL Γ (d::l) (v::vs)
theorem bj4 {Z:Str->Option Value}{x:String}{a:Addr}{o:Obj}{its:List Value}{n:Nat}{l:List i9}(h:Z (x:Str)=some (.ref a))(hk:Γ.K.lookup a=some o)(hc:o.cls=.type "tuple")(hd:o.data=.seq its.toArray n)(hz:its.length<=1000)
  (hl:ConL Γ l its) (Y:jj l=false:=by rfl):ba3 Γ Z x (.tup l):=by
 have key:∃ F,Vals F its/\(∀ m,ja m l=true)/\∀ φ H,RVL Γ φ H l F:=by
  clear hd hz Y
  induction hl with
  | nil=>exact⟨[],.nil,fun _=>rfl,fun _ _=>.nil⟩
  | cons a b ih =>
   obtain⟨F,G,N,J⟩:=ih
   cases a with
   | int i t=>exact⟨.int i::F,.cons ⟨t,rfl⟩ G,fun m=>by unfold ja;rw[N];rfl,fun φ H=>.cons RV.intI (J φ H)⟩
   | str x t h=>exact⟨.str ⟨x.toArray⟩::F,.cons ⟨t,rfl⟩ G,fun m=>by unfold ja;rw[N];rfl,fun φ H=>.cons (RV.strI (by unfold jg;omega)) (J φ H)⟩
 obtain⟨F,G,N,J⟩:=key
 refine⟨.ref a,_,h,rfl,fun m=>by unfold je;exact N m,fun φ H=>RV.tupC (.inr ⟨o,its.toArray,n,hk,hc,hd,?_,G⟩) (fun z=>by rw[Y]at z;cases z) (J φ H)⟩
 rw[ao];exact aI0 hz
end
theorem aM7 {P:aG}{w:World}{K:ac}{mg mb:Str->Option Value}{k:Nat}{fa a:Addr}{fd:bJ}{x:Str}{sp:Sp}{G:ae}{vs:List Value}{ns:List Int}{tabs:List (Addr×Addr)}
  (KX:K.In G.heap) (a6:G.heap.Ns bo mg) (hb:G.heap.Ns eQ mb) (f1:∀ x:Str,x ≠ "__name__"->mb x=a7 x) (c2:G.heap.NoLimit) (hg:G.gens=#[]) (c3:BM mg G.heap) (hT:ir tabs G.heap) (d2:iu K=true)
  (ha:G.heap.get? a=some { cls:=.type "list",data:=.seq vs.toArray }) (hi:hV vs ns) (hl:ns.length<=aD) (hr:Room k fQ)
  (F:∀ base:Heap,K.In base->base.Ns bo mg->BM mg base->(∀ q∈tabs,bW base q.1 q.2)->FnOk P w K mg base CX0 k fa fd [x] sp) (a3:∀(s:ae) (u:Value),hJ s fd ⟨[u],[]⟩ [(x,u)])
  (c4:∀ H:Hp,(∀ q∈tabs,H q.2=some (.tbl #[]))->SqL K H a (ns.map V.int)->(∀ u,H a=some u->(∃ o xs,u=.frz o (.lst xs))\/∃ ps,u=.tbl ps)->sp [.ref a] H (fun v _=>v=.bl true) E0) :
  fP (model P w) fQ (.call (.ref fa) ⟨[.ref a],[]⟩) (fun r s'=>r=.ok (.ret (.bool true))/\OldK G.heap s'.heap/\s'.os=G.os/\dG s'.gens) G:=by
 have rv:=av8 hi
 have a5:=hi.length
 have J:∀ b,b∈tabs.map (·.2)->G.heap.get? b=some (fM #[]):=fun b h=>by
  obtain⟨q,hq,rfl⟩:=bq.mp h
  exact(hT q hq).2
 have a0:∀ H:Hp,(∀ b u,H b=some u->(b=a/\∃ o xs,u=.frz o (.lst xs))\/(b∈tabs.map (·.2)/\u=.tbl #[]))->(∀ q∈tabs,H q.2=some (.tbl #[]))->SqL K H a (ns.map V.int)->HOk P w H G.heap->(H a≠none->K.lookup a=none) ->
   fP (model P w) fQ (.call (.ref fa) ⟨[.ref a],[]⟩) (fun r s'=>r=.ok (.ret (.bool true))/\OldK G.heap s'.heap/\s'.os=G.os/\dG s'.gens) G:=by
  intro H hO e4 hS hok hK
  have un:∀ b o,G.heap.get? b=some o->o.cls≠.type "list"->(∀ vs,o.data≠.fields vs)->H b=none:=fun b o e n1 n2=>by
   cases q:H b with
   | none=>rfl
   | some u =>
    rcases hO b u q with⟨z,_⟩|⟨z,_⟩
    ·rw[z,ha]at e;cases e;exact absurd rfl n1
    ·rw[J b z]at e;cases e;exact absurd rfl (n2 #[])
  have Y:∀ {b:Addr} {m:Str->Option Value},G.heap.Ns b m->(aW8 G.heap H).Ns b m:=fun {b m} ⟨o,es,ep,e,d,r⟩=>by
   refine⟨o,es,ep,an4 e ?_,d,r⟩
   cases q:H b with
   | none=>rfl
   | some u =>
    rcases hO b u q with⟨z,_⟩|⟨z,_⟩
    ·rw[z,ha]at e;cases e;cases d
    ·rw[J b z]at e;cases e;cases d
  have c1:K.In (aW8 G.heap H):=fun b o e=>an4 (KX b o e) (by
   cases q:H b with
   | none=>rfl
   | some u =>
    rcases hO b u q with⟨z,_⟩|⟨z,_⟩
    ·subst z
     rw[hK (by rw[q];simp)]at e;cases e
    ·have e2:=KX b o e
     rw[J b z]at e2
     have h2:=aQ.mp d2 (b,o) (PySem.W.mem_of_lookupK e)
     have e3:o=fM #[]:=(av e2).symm
     subst e3
     exact absurd (show false=true from h2) aS)
  have hM:Mod K mg (aW8 G.heap H):=⟨c1,Y a6,⟨mb,Y hb,f1⟩,let⟨mc,h1,h2⟩:=c2;⟨mc,Y h1,h2⟩⟩
  have e5:BM mg (aW8 G.heap H):=by
   obtain⟨bm,ob,b1,b2,b3,b4,b5,b6⟩:=c3
   exact⟨bm,ob,b1,b2,an4 b3 (un bm ob b3 (by rw[b4];nofun) (by rw[b6];nofun)),b4,b5,b6⟩
  have f0:∀ q∈tabs,bW (aW8 G.heap H) q.1 q.2:=fun q hq=>by
   obtain⟨o,d1,b0,tf,a4,tg,f2,text,tt,e1,r1,r2⟩:=(hT q hq).1
   refine⟨o,d1,b0,tf,a4,tg,f2,text,tt,an4 e1 ?_,r1,r2⟩
   cases q2:H q.1 with
   | none=>rfl
   | some u =>
    rcases hO _ u q2 with⟨z,_⟩|⟨z,_⟩
    ·rw[z,ha]at e1;cases e1;exact absurd r1 (by simp)
    ·rw[J _ z]at e1;cases e1;exact absurd r1 (by simp)
  have e0:Env0 P w K mg (aW8 G.heap H) fQ [] G H:=⟨rfl,hM,fun b o e=>bs3 e,Nat.le_of_eq (aS5 _ _),trivial,fun b hb=>absurd (show b∈([]:List Addr)from hb) (by simp),hok,.of_eq hg⟩
  refine gD ((F _ c1 (Y a6) e5 f0).run fQ [] G H ⟨[.ref a],[]⟩ [.ref a] [.ref a] _ _ hr e0 (a3 G (.ref a)) (.cons rfl .nil) (c4 H e4 hS (fun u e=>(hO a u e).elim (fun z=>.inl z.2) (fun z=>.inr ⟨_,z.2⟩)))) fun r s' h=>?_
  cases r with
  | error e=>exact bH h
  | ok fl =>
   cases fl with
   | next=>exact bH h
   | brk=>exact bH h
   | cont=>exact bH h
   | ret u =>
    obtain⟨v,H',os,bare,a2,Z,r',q⟩:=h
    have q':v=.bl true:=q
    subst q'
    obtain rfl:u=Value.bool true:=r'
    have key:∀ b o,G.heap.get? b=some o->asItWas G.heap s'.heap b o/\∃ o',s'.heap.get? b=some o':=fun b o e=>by
     cases q:H b with
     | none =>
      have z:=a2.keep b o e q (by intro z;exact absurd (show b∈([]:List Addr)from z) (by simp)) (by simp)
      exact⟨.inl z,o,z⟩
     | some u =>
      rcases hO b u q with⟨_,ob,xs,z⟩|⟨z,z2⟩
      ·subst z
       have z2:=a2.frzs b ob _ q
       obtain⟨e1,_⟩:=hok b _ q
       obtain⟨e2,_⟩:=Z b _ z2
       rw[e]at e1;cases e1
       exact⟨.inl e2,_,e2⟩
      ·subst z2
       obtain⟨a1,z3⟩:=a2.tbls b _ q
       have g:s'.heap.get? b=some { cls:=.none,data:=.fields (#[]++a1) }:=Z b _ z3
       have e1:=J b z
       rw[e]at e1;cases e1
       obtain⟨p,hp,ep⟩:=bq.mp z
       refine⟨.inr (.inl ⟨?_,rfl,#[],a1,rfl,g⟩),_,g⟩
       have t:=((hT p hp).1.tab (hT p hp).2).isCodeTable
       rw[ep]at t
       exact t
    exact⟨rfl,⟨fun b o e=>(key b o e).1,fun b o e=>(key b o e).2⟩,os,bare⟩
 have tbl:∀ b,b∈tabs.map (·.2)->b≠a:=fun b h z=>by
  have e:=J b h
  rw[z,ha]at e;cases e
 cases hk:K.lookup a with
 | some o =>
  have e:=KX a o hk
  rw[ha]at e
  cases e
  refine a0 (fun b=>if b∈tabs.map (·.2)then some (.tbl #[])else none) (fun b u z=>?_) (fun q hq=>if_pos (bI hq)) (.inr ⟨_,vs.toArray,_,hk,rfl,rfl,rfl,by rw[ao,a5];exact hl,by simpa using rv⟩) (fun b u z=>?_) fun z=>?_
  ·by_cases hb:b∈tabs.map (·.2)
   ·have N:=(if_pos hb).symm.trans z
    cases N
    exact .inr ⟨hb,rfl⟩
   ·have N:=(if_neg hb).symm.trans z
    cases N
  ·by_cases hb:b∈tabs.map (·.2)
   ·have N:=(if_pos hb).symm.trans z
    cases N
    exact J b hb
   ·have N:=(if_neg hb).symm.trans z
    cases N
  ·exact absurd (if_neg fun y=>tbl a y rfl) z
 | none =>
  refine a0 (fun b=>if b=a then some (.frz { cls:=.type "list",data:=.seq vs.toArray } (.lst (ns.map V.int)))else if b∈tabs.map (·.2)then some (.tbl #[])else none) (fun b u z=>?_) (fun q hq=>?_) (.inl (.inr ⟨{ cls:=.type "list",data:=.seq vs.toArray },if_pos rfl⟩)) (fun b u z=>?_) fun _=>hk
  ·by_cases hb:b=a
   ·have N:=(if_pos hb).symm.trans z
    cases N
    exact .inl ⟨hb,_,_,rfl⟩
   ·have N:=(if_neg hb).symm.trans z
    by_cases hc:b∈tabs.map (·.2)
    ·rw[if_pos hc]at N;cases N;exact .inr ⟨hc,rfl⟩
    ·rw[if_neg hc]at N;cases N
  ·have hm:q.2∈tabs.map (·.2):=bI hq
   show(if _ then _ else if _ then _ else _)=_
   rw[if_neg (tbl _ hm),if_pos hm]
  ·by_cases hb:b=a
   ·have N:=(if_pos hb).symm.trans z
    cases N
    subst hb
    exact⟨ha,by rw[aK];exact hl,vs,_,rv,ha⟩
   ·have N:=(if_neg hb).symm.trans z
    by_cases hc:b∈tabs.map (·.2)
    ·rw[if_pos hc]at N;cases N;exact J b hc
    ·rw[if_neg hc]at N;cases N
theorem aS0 {ts:List Addr}{l:hC}{n k:Nat}{q:aG}{a0:List Str}{XP:(Str->Option Value)->Heap->Prop}{YP:World->Heap->Prop}{d:DefRec}{K:Params->ac}{sp:ac->Sp}{x:Str}(names:List Str)
  (hn:l.most=some n) (a6:n<=aD) (b0:d.params.defaults=[]) (hr:Room k fQ)
  (hY:∀(w:World) (h:Heap),YP w h->(K w.params).In h/\∀ P∈ts,h.get? P=some (fM #[])) (a1:∀ w:World,bC6 (K w.params) names ts=true) (a4:∀ w:World,iu (K w.params)=true)
  (F:∀(w:World) (N:Str->Option Value) (fa:Addr) (h:Heap),(K w.params).In h->h.Ns bo N->N d.name=some (.ref fa) ->
   ∃ fd:bJ,(∀(s:ae) (u:Value),hJ s fd ⟨[u],[]⟩ [(x,u)]) /\
    ∀ base:Heap,(K w.params).In base->base.Ns bo N->BM N base->br4 (K w.params) names base->FnOk l.prog w (K w.params) N base CX0 k fa fd [x] (sp (K w.params)))
  (a5:∀(K:ac) (H:Hp) (a:Addr) (ns:List Int),ns.length<=n->br8 K names H->SqL K H a (ns.map V.int)->(∀ u,H a=some u->(∃ o xs,u=.frz o (.lst xs))\/∃ ps,u=.tbl ps)->sp K [.ref a] H (fun v _=>v=.bl true) E0) :
  PySem.W.WalkO q a0 XP YP l.row.toRowW d [] (fun f vs=>iZ f vs):=by
 refine Att.attach_call hn b0 fun w s₀ s₁ N mb fa o pm cd b2 a vs ns G Y ho hd hcd b1 a2 Z J hg=>?_
 obtain⟨KX,a3⟩:=hY w _ Y
 obtain⟨fd,hb,hF⟩:=F w N fa _ KX G.T.g b1
 have hT:ir ((aw0 (K w.params) names).map (·.2)) s₁.heap:=fun p hp=>by
  obtain⟨y,hy,rfl⟩:=bq.mp hp
  obtain⟨h1,h2⟩:=as0.mp hy
  have z:=aQ.mp (a1 w) y.1 h1
  rw[h2]at z
  have z':(gQ (K w.params) y.2.1 y.2.2&&ts.contains y.2.2)=true:=z
  rw[ag]at z'
  exact⟨PySem.W.codeHd_of_K KX z'.1,a3 _ (by simpa using z'.2)⟩
 have hm:∀ x∈names,∀ c P,a9 (K w.params) x=some (c,P)->(c,P)∈(aw0 (K w.params) names).map (·.2):=fun x hx c P e=>bq.mpr ⟨(x,c,P),as0.mpr ⟨hx,e⟩,rfl⟩
 refine aM7 (tabs:=(aw0 (K w.params) names).map (·.2)) KX G.T.g G.T.b G.T.builtins G.T.nolimit hg ?_ hT (a4 w) a2 Z (aj J a6) hr (fun base k1 k2 k3 k4=>hF base k1 k2 k3 fun x hx c P e=>k4 _ (hm x hx c P e)) hb fun H hO hS hF=>a5 (K w.params) H a ns J (fun x hx c P e=>hO _ (hm x hx c P e)) hS hF
 obtain⟨bm,ob,h1,h2,h3,h4,h5,h6⟩:=G.T.bmain
 exact⟨bm,ob,h1,h2,h3,h4,h5,h6⟩
def spB (names:List Str)(K:ac):Sp:=fun vs H Q _=>∃(a:Addr) (ns:List Int),vs=[.ref a]/\SqF K H a (ns.map V.int)/\ns.length<=63/\br8 K names H/\∀ H',Q (.bl true) H'
theorem bw8 {names:List Str}{K:ac}{H:Hp}{a:Addr}{ns:List Int}(hl:ns.length<=63)(N:br8 K names H)(F:SqL K H a (ns.map V.int))(G:∀ u,H a=some u->(∃ o J,u=.frz o (.lst J))\/∃ ps,u=.tbl ps):spB names K [.ref a] H (fun v _=>v=.bl true) E0:=by
 refine⟨a,ns,rfl,⟨F,fun H' k=>?_⟩,hl,N,fun _=>rfl⟩
 rcases F with(h|⟨o,h⟩)|h
 ·rcases G _ h with⟨_,_,z⟩|⟨_,z⟩<;>cases z
 ·exact .inl (.inr ⟨o,k _ _ h rfl⟩)
 ·exact .inr h
def bY1 (P:jp):String->LamI->Prop:=fun id J=>∃ L,P.lm id=some L/\LamGood J L
noncomputable def sfx (x:Str):Str:=if x = "letter_table" then "least_fee" else "<lambda>"
noncomputable def bl1 (names:List Str)(K:ac):List (Addr×Str):=names.map fun x=>(((a9 K x).getD (0,0)).2,x ++ ".<locals>."++sfx x)
noncomputable def bp9 (names:List Str)(K:ac):List (Addr×Addr):=names.map fun x=>(a9 K x).getD (0,0)
noncomputable def bS3 (K:ac)(f:String):Option Addr:=match cr K bo (f:Str)with
 | some (some (.ref a))=>(match K.lookup a with
  | some ⟨_,_,.func _,_⟩=>some a
  | _=>none)
 | _=>none
theorem aI9 {K:ac}{f:String}{a:Addr}(h:bS3 K f=some a):cr K bo (f:Str)=some (some (.ref a))/\∃ oc od z sl,K.lookup a=some ⟨oc,od,.func z,sl⟩:=by
 unfold bS3 at h
 split at h
 ·rename_i F e
  split at h
  ·rename_i oc od z sl e2
   cases h
   exact⟨e,_,_,_,_,e2⟩
  ·cases h
 ·cases h
noncomputable abbrev aW7 (names:List Str)(P:jp)(K:ac):Gm:=⟨K,bS3 K,bY1 P,bl1 names K⟩
theorem bP7 {names:List Str}{P:jp}{K:ac}{h:Heap}{z:Str->Option Value}(X:K.In h)(G:h.Ns bo z):∀(f:String) (a:Addr),(aW7 names P K).fa f=some a->z (f:Str)=some (.ref a)/\∃ oc od F sl,(aW7 names P K).K.lookup a=some ⟨oc,od,.func F,sl⟩:=fun f a e=>⟨bT X G (aI9 e).1,(aI9 e).2⟩
theorem bc7 {names:List Str}{P:jp}{K:ac}(J:∀ x∈names,(a9 K x).isSome=true){vs:List V}{H:Hp}{Q:VK}{E:XK}(q:spB names K vs H Q E):spT (aW7 names P K) vs H Q E:=by
 obtain⟨a,ns,e,F,hl,G,z⟩:=q
 refine⟨a,ns,e,F,hl,TabsH.init fun p h=>?_,z⟩
 simp only[bl1,fm]at h
 obtain⟨x,hx,rfl⟩:=bq.mp h
 exact G x hx _ _ (au3 (J x hx))
theorem bh2 {names:List Str}{K:ac}{h:Str->Option Value}{base:Heap}(z:∀ x∈names,(a9 K x).isSome=true)(bm:BM h base)(hc:br4 K names base):∀ y∈bp9 names K,bW base y.1 y.2/\BM h base:=fun y hy=>by
 obtain⟨x,hx,rfl⟩:=bq.mp hy
 exact⟨hc x hx _ _ (au3 (z x hx)),bm⟩
theorem aE4 {p:bP}{ps:List Str}(h:lamArgs p=some ps):∃ args,p=⟨[],args,none,[],[],none,[]⟩/\args.map (·.arg)=ps:=by
 unfold lamArgs at h
 split at h
 ·exact⟨_,rfl,av h⟩
 ·cases h
def aX2 (ps:List Str):Prop:=∀ params,lamArgs params=some ps->∀(qual:Str) (body:Expr) (scope:Scope) (clos:List (Str×Addr)) (doc pm:Value) (c':Addr) (ctv:Value) (us:List Value),us.length=ps.length->c6 (cH "<lambda>" qual params body scope clos pm (.ref c') ctv) ⟨us,[]⟩=pure (ps.zip us) /\
 ∀(nm:Str) (rp:Pos),c6 (d6 nm qual params [.Return (some body) rp] scope clos .none .none doc pm none (.ref c') ctv) ⟨us,[]⟩=pure (ps.zip us)
noncomputable def aR9 (ps fr:List Str)(sc:Scope):Bool:=decide (sc.kind=.function)&&!sc.isCoroutine&&!sc.isGenerator&&decide ((ps++fr).Nodup)&&(ps.all fun x=>decide (sc.names.lookup x=some .local)||decide (sc.names.lookup x=some .cell))&&(fr.all fun x=>decide (sc.names.lookup x=some .free))&&(sc.names.all fun y=>!decide (y.2=.cell)||decide (sc.names.lookup y.1=some .cell))
theorem aU5 {ps fr:List Str}{sc:Scope}(h:aR9 ps fr sc=true):LamScope (ps++fr) ps fr sc:=by
 unfold aR9 at h
 simp only[ag,decide_eq_true_eq,d9,aQ,bh]at h
 obtain⟨⟨⟨⟨⟨⟨F,Y⟩,J⟩,G⟩,N⟩,Z⟩,h7⟩:=h
 exact⟨F,Y,J,G,rfl,N,Z,fun y hy e=>by
  rcases h7 y hy with z|z
  ·rw[e]at z;simp at z
  ·exact z⟩
noncomputable def bA9 (scope sc:Scope):Bool:=scope.names.all fun y=>!decide (scope.names.lookup y.1=some .free)||decide (sc.names.lookup y.1=some .cell)
theorem aX0 {scope sc:Scope}(h:bA9 scope sc=true):∀ x,scope.names.lookup x=some .free->sc.names.lookup x=some .cell:=fun x hx=>by
 have:=aQ.mp h (x,.free) (aB hx)
 simp only[bh,d9,decide_eq_false_iff_not,decide_eq_true_eq]at this
 rcases this with z|z
 ·exact absurd hx z
 ·exact z
noncomputable def lkB (sc:Scope)(N:List Str)(caps:List Nat)(params:bP)(body:Expr)(scope:Scope)(t:jZ×List Str×List Str):Bool :=
 decide (lamArgs params=some t.2.1)&&decide (caps.map (fun j=>N[j]?)=t.2.2.map some)&&lamCheck scope sc&&bA9 scope sc&&aR9 t.2.1 t.2.2 scope&&decide (t.2.1.length=t.1.ps)&&decide (t.2.2.length=t.1.cs)&&mE (ck0 (t.2.1++t.2.2) scope) t.1.body body
noncomputable def lkG (f:Str)(sc:Scope)(N:List Str)(tab:List (String×jZ×List Str×List Str))(id:String)(caps:List Nat)(E:Expr):Bool:=match tab.lookup id,E with
 | some t,.Lambda params body scope _=>decide (sfx f = "<lambda>")&&lkB sc N caps params body scope t
 | some t,.NamedExpr (.Name nm _) (.Lambda params body scope p1) p2=>decide (sfx f=nm)&&decide (p1=p2)&&lkB sc N caps params body scope t
 | _,_=>false
theorem bm2 {names:List Str}{P:jp}{K:ac}{f:Str}{sc:Scope}{N:List Str}{fd:bJ}{tab:List (String×jZ×List Str×List Str)}(hf:f∈names)(G:fd.code=.ref ((a9 K f).getD (0,0)).1)(J:∀ y∈sc.names,y.2=.cell->sc.names.lookup y.1=some .cell)
  (Z:∀ id t,tab.lookup id=some t->P.lm id=some t.1/\aX2 t.2.1):bE2 (aW7 names P K) (bp9 names K) f sc N fd (lkG f sc N tab):=by
 intro id z E h
 have F:∀(t:jZ×List Str×List Str) (params:bP) (body:Expr) (scope:Scope) (nm:Option (Str×Pos)),tab.lookup id=some t->lkB sc N z params body scope t=true->(match nm with|none => "<lambda>" | some p=>p.1)=sfx f ->
   LkAt (aW7 names P K) (bp9 names K) f sc N fd id z params body scope ((a9 K f).getD (0,0)).1 ((a9 K f).getD (0,0)).2 ⟨f ++ ".<locals>."++sfx f,params,body,scope,t.2.1,t.2.2,nm⟩:=fun t params body scope nm e h hs=>by
  obtain⟨L,ps,fr⟩:=t
  unfold lkB at h
  simp only[ag,decide_eq_true_eq]at h
  obtain⟨⟨⟨⟨⟨⟨⟨h1,h2⟩,h3⟩,h4⟩,h5⟩,h6⟩,h7⟩,h8⟩:=h
  obtain⟨hL,hB⟩:=Z id _ e
  obtain⟨args,rfl,a1⟩:=aE4 h1
  have Y:fr.length=z.length:=by have:=congrArg iV h2;simpa using this.symm
  have S:=aU5 h5
  refine⟨G,bq.mpr ⟨f,hf,rfl⟩,h3,aX0 h4,J,fun env=>rfl,⟨L,hL,⟨S,h6,h7,h8,h1,fun a2 a4 pm c' a3 us a0=>hB _ h1 _ _ _ _ _ _ _ _ _ a0⟩⟩,?_,rfl,rfl,rfl,Y,fun i j x e1 e2=>?_,S.frs,bq.mpr ⟨f,hf,rfl⟩⟩
  ·show f ++ ".<locals>."++sfx f=f ++ ".<locals>."++LamI.own _
   unfold LamI.own
   rw[<-hs]<;>rfl
  ·have e3:(z.map (fun j=>N[j]?))[i]?=some (N[j]?):=by rw[aU,e1];rfl
   rw[h2,aU,e2]at e3
   exact(av e3).symm
 unfold lkG at h
 split at h
 case h_3=>cases h
 ·rename_i t params body scope pos e
  rw[ag]at h
  exact⟨_,_,params,body,scope,pos,_,rfl,F t params body scope none e h.2 (of_decide_eq_true h.1).symm⟩
 ·rename_i t nm rp params body scope p1 p2 e
  rw[ag,ag]at h
  have ep:=of_decide_eq_true h.1.2
  subst ep
  exact⟨_,_,params,body,scope,p1,_,rfl,F t params body scope (some (nm,rp)) e h.2 (of_decide_eq_true h.1.1).symm⟩
theorem aT6 {names:List Str}{P:jp}{K:ac}{f:Str}{sc:Scope}{N:List Str}{z:bJ}:bE2 (aW7 names P K) (bp9 names K) f sc N z (fun _ _ _=>false):=fun _ _ _ h=>by cases h
theorem bO7 {names:List Str}{P:jp}{K:ac}:∀ id J,(aW7 names P K).lg id J->∃ L,P.lm id=some L/\LamGood J L:=fun _ _ h=>h
theorem bL5 {P:jp}{tab:List (String×jZ×List Str×List Str)}(h:∀ p∈tab,P.lm p.1=some p.2.1/\aX2 p.2.2.1):∀ id t,tab.lookup id=some t->P.lm id=some t.1/\aX2 t.2.1:=by
 induction tab with
 | nil=>intro id t e;cases e
 | cons y l ih =>
  intro id t e
  rw[aP]at e
  cases q:id==y.1 with
  | true =>
   rw[q]at e
   cases e
   rw[eq_of_beq q]
   exact h y (az ..)
  | false =>
   rw[q]at e
   exact ih (fun p z=>h p (aw _ z)) id t e
def bM7 (K:ac)(n:Str)(st:Stmt):Prop:=∃(f:Addr) (od an:Option Addr) (sl:Array (Option Value)) (oc kV dc pm cd ct:Value),cr K bo n=some (some (.ref f)) /\
 K.lookup f=some ⟨oc,od,.func (cj n n (defArgs st) (zz st) (defScope st) .none kV dc pm an cd ct),sl⟩/\dR K cd n=true/\bV K (.ref f)=true
def bW4 (n:Str)(st:Stmt)(ps:List Str):Prop:=∀(kV doc pm:Value) (an:Option Addr) (cdv ct:Value) (us:List Value),us.length=ps.length->c6 (cj n n (defArgs st) (zz st) (defScope st) .none kV doc pm an cdv ct) ⟨us,[]⟩=pure (ps.zip us)
theorem bd0 {Q:List Value->Prop}(h:Q [])(us:List Value)(hl:us.length=0):Q us:=by
 cases us with
 | nil=>exact h
 | cons _ _=>cases hl
theorem bdS {k:Nat}{Q:List Value->Prop}(h:∀ a us,us.length=k->Q (a::us))(us:List Value)(hl:us.length=k+1):Q us:=by
 cases us with
 | nil=>cases hl
 | cons a us=>exact h a us (Nat.succ.inj hl)
theorem bd1 {Q:List Value->Prop}(h:∀ a,Q [a]):∀ us:List Value,us.length=1->Q us:=bdS fun a=>bd0 (h a)
theorem bd2 {Q:List Value->Prop}(h:∀ a b,Q [a,b]):∀ us:List Value,us.length=2->Q us:=bdS fun a=>bd1 (h a)
theorem bd3 {Q:List Value->Prop}(h:∀ a b c,Q [a,b,c]):∀ us:List Value,us.length=3->Q us:=bdS fun a=>bd2 (h a)
theorem bd4 {Q:List Value->Prop}(h:∀ a b c d,Q [a,b,c,d]):∀ us:List Value,us.length=4->Q us:=bdS fun a=>bd3 (h a)
def DTB (names:List Str)(P:jp)(n:String)(pc vc:Nat)(m:Ck->List Stmt->Bool)(st:Stmt):Prop:=∃ N ps,FnScope N ps (defScope st)/\ps.length=pc/\N.length=pc+vc/\bW4 n st ps/\(m ⟨N,defScope st,fun _ _ _=>false⟩ (zz st)=true \/
 ((n:Str)∈names/\∃ tab,m ⟨N,defScope st,lkG n (defScope st) N tab⟩ (zz st)=true/\(∀ y∈(defScope st).names,y.2=.cell->(defScope st).names.lookup y.1=some .cell)/\∀ p∈tab,P.lm p.1=some p.2.1/\aX2 p.2.2.1))
def DT (names:List Str)(P:jp)(n:String)(d:j0)(st:Stmt):Prop:=DTB names P n d.ps d.vs (fun ck S=>mSs ck d.body S) st
theorem aX6 {names:List Str}{P:jp}{K:ac}{h:Heap}{J:Str->Option Value}{n:String}{Z Y:Nat}{m:Ck->List Stmt->Bool}{st:Stmt}(X:K.In h)(G:h.Ns bo J)(hT:∀ x∈names,(a9 K x).isSome=true)(hD:bM7 K n st)(hd:DTB names P n Z Y m st):GoodB (aW7 names P K) (bp9 names K) J n Z Y m:=by
 obtain⟨f,od,an,sl,oc,kV,dc,pm,cd,ct,a,l,c,k⟩:=hD
 obtain⟨N,ps,h1,h2,h3,h4,z⟩:=hd
 have F:=bh7 (st:=st) l c k
 have D:DefAt K J n st ps f _:=⟨F,bT X G a,F.binds h4⟩
 rcases z with z|⟨hn,tab,z,h6,h7⟩
 ·exact⟨_,_,_,_,_,_,D,h1,h2,h3,z,aT6⟩
 ·exact⟨_,_,_,_,_,_,D,h1,h2,h3,z,bm2 hn (PySem.W.law_code X G (au3 (hT _ hn)) (bT X G a) (X _ _ l) rfl) h6 (bL5 h7)⟩
theorem good_of {names:List Str}{P:jp}{K:ac}{h:Heap}{z:Str->Option Value}{n:String}{d:j0}{st:Stmt}(X:K.In h)(G:h.Ns bo z)(hT:∀ x∈names,(a9 K x).isSome=true)(hD:bM7 K n st)(hd:DT names P n d st):Good (aW7 names P K) (bp9 names K) z n d:=aX6 X G hT hD hd
theorem aV3 {α:Type}{Q:String->α->Prop}:∀ {tbl:List (String×α)},(∀ p∈tbl,Q p.1 p.2)->∀ f d,tbl.lookup f=some d->Q f d
 | [],_,f,d,h=>by cases h
 | (g,e)::tbl,H,f,d,h=>by
  rw[aP]at h
  cases q:f==g with
  | true =>
   rw[q]at h
   cases h
   rw[eq_of_beq q]
   exact H (g,_) (az ..)
  | false =>
   rw[q]at h
   exact aV3 (fun p z=>H p (aw _ z)) f d h
noncomputable def bK8 (kvs:List (List Nat×List Nat)):List (Str×PyData):=kvs.map fun p=>(⟨p.1.toArray⟩,.str ⟨p.2.toArray⟩)
def bz4 (K:ac)(w:World)(c:String)(kvs:List (List Nat×List Nat)):Prop:=∃ a,cr K bo (c:Str)=some (some (.ref a))/\KTD.tabLook KTD.flatLooks (fun b=>K.lookup b) a (bK8 kvs)=true /\
 ((bK8 kvs).map (·.1)).Nodup/\KTD.hashesOf (fun b=>K.lookup b) a=(bK8 kvs).map fun p=>hashStr w p.1
theorem bF0 {K:ac}{w:World}{h0:Heap}{z:Str->Option Value}{c:String}{kvs:List (List Nat×List Nat)}(X:K.In h0)(G:h0.Ns bo z)(hc:bz4 K w c kvs):∃ a,z (c:Str)=some (.ref a)/\∀(prog:aG) (h:Heap),K.In h->iP prog w h a (strD kvs):=by
 obtain⟨a,F,Z,Y,J⟩:=hc
 refine⟨a,bT X G F,fun prog h N=>?_⟩
 have:=PySem.W.kt_tab_in prog w N Z Y J
 unfold bK8 at this
 rw[fm]at this
 exact this
end L2
end
noncomputable section
namespace DV
noncomputable def ab1:Df:=⟨"is_tuple_of",2,0,(.cons (.ret (.and (.bi .isTup (.cons (.var 0) .nil)) (.cmp .eq (.bi .len (.cons (.var 0) .nil)) (.var 1)))) .nil)⟩
noncomputable def ae4:Df:=⟨"is_letter",2,0,(.cons (.ret (.cmp .isin (.var 0) (.slU (.glob "LETTERS") (.var 1)))) .nil)⟩
noncomputable def ay1:Df:=⟨"_law_bag",2,3,(.cons (.asg (.one 2) (.cst (.int 0))) (.cons (.ite (.cmp .lt (.var 1) (.bi .len (.cons (.var 0) .nil))) (.cons (.asg (.one 2) (.bi .abs (.cons (.ix (.var 0) (.var 1)) .nil))) .nil) .nil) (.cons (.asg (.one 3) (.bin .add (.bin .mul (.cst (.int 7919)) (.var 1)) (.cst (.int 17)))) (.cons (.for_ (.one 4) (.rng1 (.bi .min2 (.cons (.bi .len (.cons (.var 0) .nil)) (.cons (.cst (.int 60)) .nil)))) (.cons (.asg (.one 3) (.bin .mod (.bin .add (.bin .add (.bin .mul (.var 3) (.cst (.int 48271))) (.bin .mod (.ix (.var 0) (.var 4)) (.cst (.int 2147483647)))) (.var 4)) (.cst (.int 2147483629)))) .nil)) (.cons (.ite (.cmp .lt (.var 2) (.bin .pow (.cst (.int 10)) (.cst (.int 18)))) (.cons (.asg (.one 2) (.cst (.int 0))) .nil) .nil) (.cons (.ret (.lst (.cons (.var 2) (.cons (.var 3) .nil)))) .nil))))))⟩
noncomputable def aj5:Df:=⟨"_law_take",2,3,(.cons (.ite (.cmp .gt (.ix (.var 0) (.cst (.int 0))) (.cst (.int 0))) (.cons (.asg (.one 2) (.bin .mod (.ix (.var 0) (.cst (.int 0))) (.var 1))) (.cons (.setIx (.var 0) (.cst (.int 0)) (.bin .fdiv (.ix (.var 0) (.cst (.int 0))) (.var 1))) (.cons (.ret (.var 2)) .nil))) .nil) (.cons (.asg (.one 3) (.cst (.int 0))) (.cons (.asg (.one 4) (.cst (.int 1))) (.cons (.whl (.cmp .lt (.var 4) (.var 1)) (.cons (.setIx (.var 0) (.cst (.int 1)) (.bin .mod (.bin .add (.bin .mul (.ix (.var 0) (.cst (.int 1))) (.cst (.int 48271))) (.cst (.int 7919))) (.cst (.int 2147483647)))) (.cons (.asg (.one 3) (.bin .add (.bin .mul (.var 3) (.cst (.int 1073741789))) (.bin .mod (.bin .mul (.bin .fdiv (.ix (.var 0) (.cst (.int 1))) (.cst (.int 8))) (.cst (.int 69621))) (.cst (.int 1073741789))))) (.cons (.asg (.one 4) (.bin .mul (.var 4) (.cst (.int 1073741789)))) .nil)))) (.cons (.ret (.bin .mod (.var 3) (.var 1))) .nil)))))⟩
noncomputable def bD6:Df:=⟨"grid",2,2,(.cons (.asg (.one 2) (.lst .nil)) (.cons (.for_ (.one 3) (.rng1 (.var 0)) (.cons (.ex (.meth .append (.var 2) (.cons (.mk .tuple (.comp (.one 0) (.rng1 (.var 0)) (.callV 1 (.cons (.var 2) (.cons (.var 0) .nil))) [none,some 1,some 3])) .nil))) .nil)) (.cons (.ret (.mk .tuple (.seq (.var 2)))) .nil)))⟩
noncomputable def aq8:Df:=⟨"sign_product",2,1,(.cons (.asg (.one 2) (.bi .len (.cons (.var 0) .nil))) (.cons (.ret (.callC "grid" (.ex (.var 2) (.lam "sign_product.0" [2,0,1] .nil)))) .nil))⟩
noncomputable def al8:Lm:=⟨"sign_product.0",2,3,(.mk .min (.comp (.one 0) (.rng1 (.var 2)) (.bi .max2 (.cons (.ix (.ix (.var 1) (.var 2)) (.var 0)) (.cons (.ix (.ix (.var 3) (.var 0)) (.var 4)) .nil))) [none,some 3,some 0,some 4,some 1]))⟩
noncomputable def bX3:Df:=⟨"_law_on",3,5,(.cons (.asg (.one 3) (.mk .list (.comp (.one 0) (.seq (.var 2)) (.cst .non) [none]))) (.cons (.for_ (.tup [4,5,6,7]) (.seq (.ix (.var 0) (.cst (.int 4)))) (.cons (.ite (.and (.cmp .eq (.var 5) (.var 1)) (.notN (.ix (.var 2) (.var 4)))) (.cons (.ite (.or (.isN (.ix (.var 3) (.var 6))) (.cmp .lt (.bin .add (.ix (.var 2) (.var 4)) (.var 7)) (.ix (.var 3) (.var 6)))) (.cons (.setIx (.var 3) (.var 6) (.bin .add (.ix (.var 2) (.var 4)) (.var 7))) .nil) .nil) .nil) .nil) .nil)) (.cons (.ret (.var 3)) .nil)))⟩
noncomputable def aj1:Df:=⟨"is_set",1,0,(.cons (.ret (.and (.call "is_built" (.ex (.var 0) (.ex (.glob "MOST_DEEP") .nil))) (.cmp .le (.call "pieces_in" (.ex (.var 0) .nil)) (.glob "MOST_PIECES")))) .nil)⟩
noncomputable def ah5:Df:=⟨"is_built",2,0,(.cons (.ite (.call "is_tuple_of" (.ex (.var 0) (.ex (.cst (.int 1)) .nil))) (.cons (.ret (.cmp .eq (.ix (.var 0) (.cst (.int 0))) (.cst (.str [110,111,116,104,105,110,103])))) .nil) .nil) (.cons (.ite (.and (.call "is_tuple_of" (.ex (.var 0) (.ex (.cst (.int 2)) .nil))) (.cmp .eq (.ix (.var 0) (.cst (.int 0))) (.cst (.str [108,101,116,116,101,114])))) (.cons (.ret (.call "is_letter" (.ex (.ix (.var 0) (.cst (.int 1))) (.ex (.bi .len (.cons (.glob "LETTERS") .nil)) .nil)))) .nil) .nil) (.cons (.ret (.and (.cmp .gt (.var 1) (.cst (.int 1))) (.and (.call "is_joined" (.ex (.var 0) .nil)) (.mk .all (.comp (.one 0) (.seq (.slL (.var 0) (.cst (.int 1)))) (.call "is_built" (.ex (.var 0) (.ex (.bin .sub (.var 1) (.cst (.int 1))) .nil))) [none,some 1]))))) .nil)))⟩
noncomputable def ae5:Df:=⟨"is_joined",1,0,(.cons (.ite (.call "is_tuple_of" (.ex (.var 0) (.ex (.cst (.int 2)) .nil))) (.cons (.ret (.cmp .eq (.ix (.var 0) (.cst (.int 0))) (.cst (.str [114,101,112,101,97,116])))) .nil) .nil) (.cons (.ret (.and (.call "is_tuple_of" (.ex (.var 0) (.ex (.cst (.int 3)) .nil))) (.cmp .isin (.ix (.var 0) (.cst (.int 0))) (.tup (.cons (.cst (.str [101,105,116,104,101,114])) (.cons (.cst (.str [98,101,104,105,110,100])) .nil)))))) .nil))⟩
noncomputable def ac3:Df:=⟨"pieces_in",1,0,(.cons (.ite (.cmp .isin (.ix (.var 0) (.cst (.int 0))) (.tup (.cons (.cst (.str [108,101,116,116,101,114])) (.cons (.cst (.str [110,111,116,104,105,110,103])) .nil)))) (.cons (.ret (.cst (.int 1))) .nil) .nil) (.cons (.ret (.bin .add (.cst (.int 1)) (.mk .sum (.comp (.one 0) (.seq (.slL (.var 0) (.cst (.int 1)))) (.call "pieces_in" (.ex (.var 0) .nil)) [none])))) .nil))⟩
noncomputable def aj8:Df:=⟨"_law_set",4,4,(.cons (.asg (.one 4) (.call "_law_take" (.ex (.var 0) (.ex (.cst (.int 8)) .nil)))) (.cons (.ite (.or (.cmp .eq (.var 1) (.cst (.int 1))) (.or (.cmp .lt (.var 2) (.cst (.int 3))) (.cmp .eq (.var 4) (.cst (.int 0))))) (.cons (.asg (.one 5) (.call "_law_take" (.ex (.var 0) (.ex (.cst (.int 4)) .nil)))) (.cons (.ite (.or (.cmp .eq (.var 5) (.cst (.int 3))) (.cmp .eq (.ix (.var 3) (.cst (.int 0))) (.cst (.int 0)))) (.cons (.ret (.tup (.cons (.cst (.str [110,111,116,104,105,110,103])) .nil))) .nil) .nil) (.cons (.setIx (.var 3) (.cst (.int 0)) (.bin .sub (.ix (.var 3) (.cst (.int 0))) (.cst (.int 1)))) (.cons (.ret (.tup (.cons (.cst (.str [108,101,116,116,101,114])) (.cons (.ix (.cst (.str [97,98,99])) (.var 5)) .nil)))) .nil)))) .nil) (.cons (.ite (.cmp .lt (.var 4) (.cst (.int 3))) (.cons (.ret (.tup (.cons (.cst (.str [114,101,112,101,97,116])) (.cons (.call "_law_set" (.ex (.var 0) (.ex (.bin .sub (.var 1) (.cst (.int 1))) (.ex (.bin .sub (.var 2) (.cst (.int 1))) (.ex (.var 3) .nil))))) .nil)))) .nil) .nil) (.cons (.asg (.one 6) (.bin .add (.cst (.int 1)) (.call "_law_take" (.ex (.var 0) (.ex (.bin .sub (.var 2) (.cst (.int 2))) .nil))))) (.cons (.asg (.one 7) (.call "_law_set" (.ex (.var 0) (.ex (.bin .sub (.var 1) (.cst (.int 1))) (.ex (.var 6) (.ex (.var 3) .nil)))))) (.cons (.ret (.tup (.cons (.ix (.lst (.cons (.cst (.str [101,105,116,104,101,114])) (.cons (.cst (.str [98,101,104,105,110,100])) .nil))) (.bin .mod (.var 4) (.cst (.int 2)))) (.cons (.var 7) (.cons (.call "_law_set" (.ex (.var 0) (.ex (.bin .sub (.var 1) (.cst (.int 1))) (.ex (.bin .sub (.bin .sub (.var 2) (.cst (.int 1))) (.var 6)) (.ex (.var 3) .nil))))) .nil))))) .nil))))))⟩
noncomputable def ac1:Df:=⟨"set_text",1,3,(.cons (.ite (.cmp .eq (.ix (.var 0) (.cst (.int 0))) (.cst (.str [108,101,116,116,101,114]))) (.cons (.ret (.ix (.var 0) (.cst (.int 1)))) .nil) .nil) (.cons (.ite (.cmp .eq (.ix (.var 0) (.cst (.int 0))) (.cst (.str [110,111,116,104,105,110,103]))) (.cons (.ret (.cst (.str [45]))) .nil) .nil) (.cons (.asg (.one 1) (.call "set_text" (.ex (.ix (.var 0) (.cst (.int 1))) .nil))) (.cons (.ite (.cmp .eq (.ix (.var 0) (.cst (.int 0))) (.cst (.str [114,101,112,101,97,116]))) (.cons (.ret (.bin .add (.var 1) (.cst (.str [42])))) .nil) .nil) (.cons (.asg (.one 2) (.call "set_text" (.ex (.ix (.var 0) (.cst (.int 2))) .nil))) (.cons (.asg (.one 3) (.ite (.cmp .eq (.ix (.var 0) (.cst (.int 0))) (.cst (.str [101,105,116,104,101,114]))) (.cst (.str [124])) (.cst (.str [46])))) (.cons (.ret (.fstr (.cons (.cst (.str [40])) (.cons (.var 1) (.cons (.var 3) (.cons (.var 2) (.cons (.cst (.str [41])) .nil))))))) .nil)))))))⟩
noncomputable def ai0:Df:=⟨"read_set",1,2,(.cons (.asg (.one 1) (.lst .nil)) (.cons (.for_ (.one 2) (.seq (.var 0)) (.cons (.ex (.call "lay_sign" (.ex (.var 1) (.ex (.var 2) .nil)))) .nil)) (.cons (.ite (.or (.cmp .ne (.bi .len (.cons (.var 1) .nil)) (.cst (.int 1))) (.not (.call "is_set" (.ex (.ix (.var 1) (.cst (.int 0))) .nil)))) (.cons .raise .nil) .nil) (.cons (.ret (.ix (.var 1) (.cst (.int 0)))) .nil))))⟩
noncomputable def aa2:Df:=⟨"lay_sign",2,0,(.cons (.ite (.and (.cmp .eq (.var 1) (.cst (.str [42]))) (.call "ends_with_set" (.ex (.var 0) .nil))) (.cons (.ex (.meth .append (.var 0) (.cons (.tup (.cons (.cst (.str [114,101,112,101,97,116])) (.cons (.meth .pop (.var 0) .nil) .nil))) .nil))) .nil) (.cons (.ite (.and (.cmp .eq (.var 1) (.cst (.str [41]))) (.and (.call "ends_with_set" (.ex (.var 0) .nil)) (.inC (.call "ahead_of_last" (.ex (.var 0) .nil)) "JOINTS"))) (.cons (.ex (.call "join_last" (.ex (.var 0) .nil))) .nil) (.cons (.ite (.and (.inC (.var 1) "JOINTS") (.and (.call "ends_with_set" (.ex (.var 0) .nil)) (.cmp .eq (.call "ahead_of_last" (.ex (.var 0) .nil)) (.cst (.str [40]))))) (.cons (.ex (.meth .append (.var 0) (.cons (.var 1) .nil))) .nil) (.cons (.ite (.and (.cmp .eq (.var 1) (.cst (.str [40]))) (.not (.call "ends_with_set" (.ex (.var 0) .nil)))) (.cons (.ex (.meth .append (.var 0) (.cons (.var 1) .nil))) .nil) (.cons (.ite (.and (.cmp .eq (.var 1) (.cst (.str [45]))) (.not (.call "ends_with_set" (.ex (.var 0) .nil)))) (.cons (.ex (.meth .append (.var 0) (.cons (.tup (.cons (.cst (.str [110,111,116,104,105,110,103])) .nil)) .nil))) .nil) (.cons (.ite (.and (.cmp .isin (.var 1) (.glob "LETTERS")) (.not (.call "ends_with_set" (.ex (.var 0) .nil)))) (.cons (.ex (.meth .append (.var 0) (.cons (.tup (.cons (.cst (.str [108,101,116,116,101,114])) (.cons (.var 1) .nil))) .nil))) .nil) (.cons .raise .nil)) .nil)) .nil)) .nil)) .nil)) .nil)) .nil)⟩
noncomputable def aa4:Df:=⟨"ends_with_set",1,0,(.cons (.ret (.and (.cmp .ne (.var 0) (.lst .nil)) (.bi .isTup (.cons (.ix (.var 0) (.neg (.cst (.int 1)))) .nil)))) .nil)⟩
noncomputable def ab4:Df:=⟨"ahead_of_last",1,0,(.cons (.ret (.ite (.cmp .gt (.bi .len (.cons (.var 0) .nil)) (.cst (.int 1))) (.ix (.var 0) (.neg (.cst (.int 2)))) (.cst .non))) .nil)⟩
noncomputable def af0:Df:=⟨"join_last",1,3,(.cons (.asg (.one 1) (.meth .pop (.var 0) .nil)) (.cons (.asg (.one 2) (.meth .pop (.var 0) .nil)) (.cons (.asg (.one 3) (.meth .pop (.var 0) .nil)) (.cons (.ex (.meth .pop (.var 0) .nil)) (.cons (.ex (.meth .append (.var 0) (.cons (.tup (.cons (.getC "JOINTS" (.var 2)) (.cons (.var 3) (.cons (.var 1) .nil)))) .nil))) .nil)))))⟩
noncomputable def ad1:Df:=⟨"_law_written",1,0,(.cons (.ite (.cmp .eq (.ix (.var 0) (.cst (.int 0))) (.cst (.str [108,101,116,116,101,114]))) (.cons (.ret (.ix (.var 0) (.cst (.int 1)))) .nil) .nil) (.cons (.ite (.cmp .eq (.ix (.var 0) (.cst (.int 0))) (.cst (.str [110,111,116,104,105,110,103]))) (.cons (.ret (.cst (.str [45]))) .nil) .nil) (.cons (.ite (.cmp .eq (.ix (.var 0) (.cst (.int 0))) (.cst (.str [114,101,112,101,97,116]))) (.cons (.ret (.bin .add (.call "_law_written" (.ex (.ix (.var 0) (.cst (.int 1))) .nil)) (.cst (.str [42])))) .nil) .nil) (.cons (.ret (.bin .add (.bin .add (.bin .add (.bin .add (.cst (.str [40])) (.call "_law_written" (.ex (.ix (.var 0) (.cst (.int 1))) .nil))) (.ix (.lst (.cons (.cst (.str [124])) (.cons (.cst (.str [46])) .nil))) (.bi .int (.cons (.cmp .eq (.ix (.var 0) (.cst (.int 0))) (.cst (.str [98,101,104,105,110,100]))) .nil)))) (.call "_law_written" (.ex (.ix (.var 0) (.cst (.int 2))) .nil))) (.cst (.str [41])))) .nil))))⟩
noncomputable def ah7:Df:=⟨"law",1,6,(.cons (.asg (.one 1) (.lst .nil)) (.cons (.for_ (.one 2) (.rng1 (.bi .max2 (.cons (.cst (.int 3)) (.cons (.bi .min2 (.cons (.bi .len (.cons (.var 0) .nil)) (.cons (.cst (.int 12)) .nil))) .nil)))) (.cons (.asg (.one 3) (.call "_law_bag" (.ex (.var 0) (.ex (.var 2) .nil)))) (.cons (.ex (.meth .append (.var 1) (.cons (.call "_law_set" (.ex (.var 3) (.ex (.bin .add (.cst (.int 1)) (.call "_law_take" (.ex (.var 3) (.ex (.cst (.int 12)) .nil)))) (.ex (.bin .add (.cst (.int 1)) (.call "_law_take" (.ex (.var 3) (.ex (.cst (.int 40)) .nil)))) (.ex (.lst (.cons (.cst (.int 40)) .nil)) .nil))))) .nil))) .nil))) (.cons (.for_ (.one 4) (.seq (.bin .add (.var 1) (.slU (.var 1) (.cst (.int 2))))) (.cons (.asg (.one 5) (.call "set_text" (.ex (.var 4) .nil))) (.cons (.ite (.or (.not (.bi .isStr (.cons (.var 5) .nil))) (.cmp .ne (.var 5) (.call "_law_written" (.ex (.var 4) .nil)))) (.cons (.ret (.cst (.bl false))) .nil) .nil) (.cons (.asg (.one 6) (.call "read_set" (.ex (.var 5) .nil))) (.cons (.ite (.or (.not (.bi .isTup (.cons (.var 6) .nil))) (.or (.cmp .ne (.var 6) (.var 4)) (.cmp .ne (.call "set_text" (.ex (.var 6) .nil)) (.var 5)))) (.cons (.ret (.cst (.bl false))) .nil) .nil) .nil))))) (.cons (.ret (.cst (.bl true))) .nil))))⟩
class Has (P:Pr)(d:Df):Prop where
 eq:P.df d.name=some d
class HasL (P:Pr)(d:Lm):Prop where
 eq:P.lm d.id=some d
class HasC (P:Pr)(x:String)(v:D):Prop where
 eq:P.con x=some v
noncomputable def fin (s:Sto)(c:Ct)(s':Sto):R D:=match c with
 | .ret v=>zu s v s'
 | .next _=>zu s .non s'
 | _=>.bad
@[simp] theorem ac8 (s:Sto) (v:D) (s':Sto):fin s (.ret v) s'=zu s v s':=rfl
@[simp] theorem ab8 (s:Sto) (ρ:Env) (s':Sto):fin s (.next ρ) s'=zu s .non s':=rfl
theorem zc {P:Pr}(d:Df)[h:Has P d]{n:Nat}{l:List D}{s:Sto}(hl:l.length=d.ps) :
  (aa1 P (n+1)).call d.name l s=(exs (aa1 P n) d.body (l.map some++aq d.vs none) s).bind (fin s):=by
 simp only[aa1,h.eq,hl,if_true]
 rfl
theorem aU6 {P:Pr}{x:String}{v:D}[h:HasC P x v]{n:Nat}:(aa1 P n).con x=some v:=by
 cases n<;>exact h.eq
theorem ax2 (s t:Sto):ao8 s (s++t)=true:=by
 unfold ao8
 rw[aQ]
 intro i h
 rw[cc]at h
 rw[aJ h]
 simp
theorem aN9 (s t:Sto)(r:Nat)(o:O)(h:o.bnd s.length=true):ao8 s (s.set r o++t)=true:=by
 unfold ao8
 rw[aQ]
 intro i z
 rw[cc]at z
 rw[aJ (by rw[bF];exact z)]
 by_cases e:r=i
 ·subst e;rw[a8 z];simp[h]
 ·rw[aL e];simp
theorem qc {s t:Sto}{d:D}(h:∀ n,d.bnd n=true)(z:∀ r,d≠.ref r):zu s d (s++t)=.ok d s:=by
 unfold zu
 rw[ax2,if_pos rfl]
 cases d with
 | ref r=>exact absurd rfl (z r)
 | _=>simp[h]
theorem zY {s:Sto}{d:D}(h:∀ n,d.bnd n=true)(z:∀ r,d≠.ref r):zu s d s=.ok d s:=by
 have:=qc (s:=s) (t:=[]) h z
 rwa [bf]at this
theorem aW0 {s t:Sto}{d:D}{r:Nat}{o:O}(h:∀ n,d.bnd n=true)(z:∀ r,d≠.ref r)(ho:o.bnd s.length=true):zu s d (s.set r o++t)=.ok d (s.set r o):=by
 unfold zu
 rw[aN9 s t r o ho,if_pos rfl]
 have e:(s.set r o++t).take s.length=s.set r o:=by rw[dw (by simp),db (by simp)]
 cases d with
 | ref r=>exact absurd rfl (z r)
 | _=>simp only[h,if_true,e]
theorem ql {s:Sto}{d:D}{r:Nat}{o:O}(h:∀ n,d.bnd n=true)(z:∀ r,d≠.ref r)(ho:o.bnd s.length=true):zu s d (s.set r o)=.ok d (s.set r o):=by
 have:=aW0 (s:=s) (t:=[]) (r:=r) h z ho
 rwa [bf]at this
theorem aP7 {s t u:Sto}{o:O}(ho:o.bnd s.length=true):zu s (.ref (s.length+t.length)) (s++(t++o::u))=.ok (.ref s.length) (s++[o]):=by
 unfold zu
 rw[ax2,if_pos rfl]
 simp[ho,br]
@[simp] theorem aQ5 {s:Sto} {i:Int}:zu s (.int i) s=.ok (.int i) s:=zY (fun _=>rfl) (by nofun)
@[simp] theorem aZ2 {s:Sto} {i:Bool}:zu s (.bl i) s=.ok (.bl i) s:=zY (fun _=>rfl) (by nofun)
@[simp] theorem bH4 {s:Sto}:zu s .non s=.ok .non s:=zY (fun _=>rfl) (by nofun)
@[simp] theorem zJ {s:Sto} {x:List Nat}:zu s (.str x) s=.ok (.str x) s:=zY (fun _=>rfl) (by nofun)
theorem qe {c:Env->Sto->R D}{g:Env->Sto->R Ct}:∀ {n:Nat} {ρ:Env} {s:Sto},qr c g n ρ s≠.bad->qr c g (n+1) ρ s=qr c g n ρ s
 | 0,_,_,h=>absurd rfl h
 | n+1,ρ,s,h=>by
  rw[show qr c g (n+1+1) ρ s=tru (c ρ s) (fun b s=>if b then(g ρ s).bind fun z s=>match z with
   | .next ρ=>qr c g (n+1) ρ s|.cont ρ=>qr c g (n+1) ρ s|.brk ρ=>.ok (.next ρ) s|.ret d=>.ok (.ret d) s else .ok (.next ρ) s)from rfl]
  have e:qr c g (n+1) ρ s=tru (c ρ s) (fun b s=>if b then(g ρ s).bind fun z s=>match z with
   | .next ρ=>qr c g n ρ s|.cont ρ=>qr c g n ρ s|.brk ρ=>.ok (.next ρ) s|.ret d=>.ok (.ret d) s else .ok (.next ρ) s):=rfl
  rw[e]at h ⊢
  unfold tru at h ⊢
  cases hc:c ρ s with
  | exc _ _=>rfl
  | bad=>rfl
  | ok d s1 =>
   rw[hc]at h
   cases d with
   | bl b =>
    cases b with
    | false=>rfl
    | true =>
     simp only[R.bind_ok,if_true]at h ⊢
     cases hg:g ρ s1 with
     | exc _ _=>rfl
     | bad=>rfl
     | ok z s2 =>
      rw[hg]at h
      simp only[R.bind_ok]at h ⊢
      cases z with
      | next ρ'=>exact qe h
      | cont ρ'=>exact qe h
      | _=>rfl
   | _=>rfl
theorem zQ {c:Env->Sto->R D}{g:Env->Sto->R Ct}{n:Nat}{ρ:Env}{s:Sto}(h:qr c g n ρ s≠.bad):∀ k,qr c g (n+k) ρ s=qr c g n ρ s
 | 0=>rfl
 | k+1=>by
  have e:=zQ h k
  rw[<-Nat.add_assoc,qe (by rw[e];exact h),e]
theorem bH9 {c:Env->Sto->R D}{g:Env->Sto->R Ct}{n:Nat}{ρ:Env}{s:Sto}{r:Ct}{t:Sto}(h:qr c g n ρ s=.ok r t):whl c g ρ s=.ok r t:=by
 have hb:qr c g n ρ s≠.bad:=by rw[h];nofun
 have hx:∃ n,qr c g n ρ s≠.bad:=⟨n,hb⟩
 unfold whl
 rw[dif_pos hx]
 have z:=zQ hx.choose_spec n
 have F:=zQ hb hx.choose
 rw[<-z,e9,F,h]
theorem bc5 {c:Env->Sto->R D}{g:Env->Sto->R Ct}{ρ ρ':Env}{s s1 s':Sto}(hc:c ρ s=.ok (.bl true) s1)(hg:g ρ s1=.ok (.next ρ') s'):whl c g ρ s=whl c g ρ' s':=by
 have key:∀ n,qr c g (n+1) ρ s=qr c g n ρ' s':=fun n=>by
  show tru (c ρ s) _=_
  rw[hc,z8,if_pos rfl,hg];rfl
 unfold whl
 by_cases hx:∃ n,qr c g n ρ' s'≠.bad
 ·have hy:∃ n,qr c g n ρ s≠.bad:=⟨hx.choose+1,by rw[key];exact hx.choose_spec⟩
  rw[dif_pos hx,dif_pos hy]
  have h:=zQ hy.choose_spec (hx.choose+1)
  have z:=zQ (n:=hx.choose+1) (ρ:=ρ) (s:=s) (by rw[key];exact hx.choose_spec) hy.choose
  rw[<-h,e9,z,key]
 ·have hy:¬ ∃ n,qr c g n ρ s≠.bad:=fun⟨n,hn⟩=>by
   cases n with
   | zero=>exact hn rfl
   | succ n=>exact hx ⟨n,by rw[<-key];exact hn⟩
  rw[dif_neg hx,dif_neg hy]
theorem bq5 {c:Env->Sto->R D}{g:Env->Sto->R Ct}{ρ:Env}{s s1:Sto}(hc:c ρ s=.ok (.bl false) s1):whl c g ρ s=.ok (.next ρ) s1 :=
 bH9 (n:=1) (by show tru (c ρ s) _=_;rw[hc,z8];rfl)
theorem aV4 {ok:Sto->Bool}{g:D->Env->Sto->R Ct}(P:Nat->Env->Sto->Prop):∀(l:List D) (k:Nat) (ρ:Env) (s:Sto),
  P k ρ s->(∀(j:Nat) (ρ:Env) (s:Sto),j<=l.length->P (k+j) ρ s->ok s=true)->(∀(j:Nat) (d:D) (ρ:Env) (s:Sto),l[j]?=some d->P (k+j) ρ s->∃ ρ' s',(g d ρ s=.ok (.next ρ') s'\/g d ρ s=.ok (.cont ρ') s')/\P (k+j+1) ρ' s') ->
  ∃ ρ' s',aw5 ok g l ρ s=.ok (.next ρ') s'/\P (k+l.length) ρ' s'
 | [],k,ρ,s,h,o,_=>⟨ρ,s,by show(if ok s then _ else _)=_;rw[if_pos (o 0 ρ s (ai _) h)],h⟩
 | d::l,k,ρ,s,h,o,t=>by
  have ho:=o 0 ρ s (c0 _) h
  obtain⟨ρ1,s1,hg,z⟩:=t 0 d ρ s rfl h
  obtain⟨ρ2,s2,e,G⟩:=aV4 P l (k+1) ρ1 s1 z (fun j ρ' s' hj F=>o (j+1) ρ' s' (by simpa using hj) (by rwa [show k+(j+1)=k+1+j by omega])) fun j d' ρ' s' hj F=>by
   have:=t (j+1) d' ρ' s' (by simpa using hj) (by rwa [show k+(j+1)=k+1+j by omega])
   rwa [show k+(j+1)+1=k+1+j+1 by omega]at this
  refine⟨ρ2,s2,?_,by rwa [aV,show k+(l.length+1)=k+1+l.length by omega]⟩
  show(if ok s then _ else _)=_
  rw[if_pos ho]
  rcases hg with hg|hg<;>(rw[hg];exact e)
noncomputable def Nx (Q:Env->Sto->Prop):R Ct->Prop
 | .ok (.next ρ) s=>Q ρ s
 | .ok (.cont ρ) s=>Q ρ s
 | _=>False
@[simp] theorem bR4 (Q:Env->Sto->Prop) (ρ:Env) (s:Sto):Nx Q (.ok (.next ρ) s)=Q ρ s:=rfl
@[simp] theorem bT1 (Q:Env->Sto->Prop) (ρ:Env) (s:Sto):Nx Q (.ok (.cont ρ) s)=Q ρ s:=rfl
theorem be5 {Q:Env->Sto->Prop}{r:R Ct}{ρ:Env}{s:Sto}(e:r=.ok (.next ρ) s)(h:Q ρ s):Nx Q r:=by rw[e];exact h
theorem Nx.out {Q:Env->Sto->Prop}:∀ {r:R Ct},Nx Q r->∃ ρ s,(r=.ok (.next ρ) s\/r=.ok (.cont ρ) s)/\Q ρ s
 | .ok (.next ρ) s,h=>⟨ρ,s,.inl rfl,h⟩
 | .ok (.cont ρ) s,h=>⟨ρ,s,.inr rfl,h⟩
 | .ok (.ret _) _,h=>h.elim
 | .ok (.brk _) _,h=>h.elim
 | .exc _ _,h=>h.elim
 | .bad,h=>h.elim
noncomputable def Tst (A B:Sto->Prop):R D->Prop
 | .ok (.bl false) s=>A s
 | .ok (.bl true) s=>B s
 | _=>False
@[simp] theorem bg9 (A B:Sto->Prop) (b:Bool) (s:Sto):Tst A B (.ok (.bl b) s)=if b then B s else A s:=by cases b<;>rfl
theorem Tst.out {A B:Sto->Prop}:∀ {r:R D},Tst A B r->(∃ s,r=.ok (.bl false) s/\A s)\/∃ s,r=.ok (.bl true) s/\B s
 | .ok (.bl false) s,h=>.inl ⟨s,rfl,h⟩
 | .ok (.bl true) s,h=>.inr ⟨s,rfl,h⟩
 | .ok .non _,h=>h.elim
 | .ok (.int _) _,h=>h.elim
 | .ok (.str _) _,h=>h.elim
 | .ok (.tup _) _,h=>h.elim
 | .ok (.ref _) _,h=>h.elim
 | .ok (.fn _) _,h=>h.elim
 | .ok (.clo _ _) _,h=>h.elim
 | .exc _ _,h=>h.elim
 | .bad,h=>h.elim
theorem aY8 {c:Env->Sto->R D}{g:Env->Sto->R Ct}{ρ ρ':Env}{s s1 s':Sto}(hc:c ρ s=.ok (.bl true) s1)(hg:g ρ s1=.ok (.cont ρ') s'):whl c g ρ s=whl c g ρ' s':=by
 have key:∀ n,qr c g (n+1) ρ s=qr c g n ρ' s':=fun n=>by
  show tru (c ρ s) _=_
  rw[hc,z8,if_pos rfl,hg];rfl
 unfold whl
 by_cases hx:∃ n,qr c g n ρ' s'≠.bad
 ·have hy:∃ n,qr c g n ρ s≠.bad:=⟨hx.choose+1,by rw[key];exact hx.choose_spec⟩
  rw[dif_pos hx,dif_pos hy]
  have h:=zQ hy.choose_spec (hx.choose+1)
  have z:=zQ (n:=hx.choose+1) (ρ:=ρ) (s:=s) (by rw[key];exact hx.choose_spec) hy.choose
  rw[<-h,e9,z,key]
 ·have hy:¬ ∃ n,qr c g n ρ s≠.bad:=fun⟨n,hn⟩=>by
   cases n with
   | zero=>exact hn rfl
   | succ n=>exact hx ⟨n,by rw[<-key];exact hn⟩
  rw[dif_neg hx,dif_neg hy]
theorem bw7 {c:Env->Sto->R D}{g:Env->Sto->R Ct}(P:Nat->Env->Sto->Prop)(Q:Env->Sto->Prop)
  (step:∀ k ρ s,P k ρ s->Tst (fun s1=>Q ρ s1) (fun s1=>Nx (fun ρ' s'=>∃ z,z<k/\P z ρ' s') (g ρ s1)) (c ρ s)) :
  ∀(k:Nat) (ρ:Env) (s:Sto),P k ρ s->∃ ρ' s',whl c g ρ s=.ok (.next ρ') s'/\Q ρ' s':=by
 intro k
 induction k using Nat.strongRecOn with
 | _ k ih =>
  intro ρ s h
  rcases(step k ρ s h).out with⟨s1,hc,hq⟩|⟨s1,hc,hn⟩
  ·exact⟨ρ,s1,bq5 hc,hq⟩
  ·obtain⟨ρ',s',hg,z,hk,F⟩:=hn.out
   rcases hg with hg|hg
   ·rw[bc5 hc hg];exact ih z hk ρ' s' F
   ·rw[aY8 hc hg];exact ih z hk ρ' s' F
theorem aZ8 {c:Env->Sto->R D}{g:Env->Sto->R Ct}{ρ:Env}{s:Sto}{α:Type}{f:Ct->Sto->R α}{W:R α->Prop}(P:Nat->Env->Sto->Prop)(Q:Env->Sto->Prop)(k:Nat)(h:P k ρ s)
  (step:∀ k ρ s,P k ρ s->Tst (fun s1=>Q ρ s1) (fun s1=>Nx (fun ρ' s'=>∃ z,z<k/\P z ρ' s') (g ρ s1)) (c ρ s))
  (F:∀ ρ' s',Q ρ' s'->W (f (.next ρ') s')):W ((whl c g ρ s).bind f):=by
 obtain⟨ρ',s',e,q⟩:=bw7 P Q step k ρ s h
 rw[e]
 exact F ρ' s' q
theorem bd7 {c:Env->Sto->R D}{g:Env->Sto->R Ct}{ρ:Env}{s:Sto}{α:Type}{f:Ct->Sto->R α}{x:R α}(P:Nat->Env->Sto->Prop)(Q:Env->Sto->Prop)(k:Nat)(h:P k ρ s)
  (step:∀ k ρ s,P k ρ s->Tst (fun s1=>Q ρ s1) (fun s1=>Nx (fun ρ' s'=>∃ z,z<k/\P z ρ' s') (g ρ s1)) (c ρ s))
  (F:∀ ρ' s',Q ρ' s'->f (.next ρ') s'=x):(whl c g ρ s).bind f=x:=aZ8 (W:=(·=x)) P Q k h step F
theorem at8 {ok:Sto->Bool}{g:D->Env->Sto->R Ct}{l:List D}{ρ:Env}{s:Sto}{α:Type}{f:Ct->Sto->R α}{W:R α->Prop}(P:Nat->Env->Sto->Prop)(h:P 0 ρ s)
  (o:∀(j:Nat) (ρ:Env) (s:Sto),j<=l.length->P j ρ s->ok s=true) (step:∀(j:Nat) (d:D) (ρ:Env) (s:Sto),l[j]?=some d->P j ρ s->Nx (P (j+1)) (g d ρ s))
  (F:∀ ρ' s',P l.length ρ' s'->W (f (.next ρ') s')):W ((aw5 ok g l ρ s).bind f):=by
 obtain⟨ρ',s',e,q⟩:=aV4 P l 0 ρ s h (fun j ρ s hj z=>o j ρ s hj (by rwa [fh]at z)) (fun j d ρ s hj z=>by
  rw[fh]at z ⊢
  exact(step j d ρ s hj z).out)
 rw[e]
 rw[fh]at q
 exact F ρ' s' q
theorem bc3 {ok:Sto->Bool}{g:D->Env->Sto->R Ct}{l:List D}{ρ:Env}{s:Sto}{α:Type}{f:Ct->Sto->R α}{x:R α}(P:Nat->Env->Sto->Prop)(h:P 0 ρ s)
  (o:∀(j:Nat) (ρ:Env) (s:Sto),j<=l.length->P j ρ s->ok s=true) (step:∀(j:Nat) (d:D) (ρ:Env) (s:Sto),l[j]?=some d->P j ρ s->Nx (P (j+1)) (g d ρ s))
  (z:∀ ρ' s',P l.length ρ' s'->f (.next ρ') s'=x):(aw5 ok g l ρ s).bind f=x:=at8 (W:=(·=x)) P h o step z
section
variable {F:Fns} {ρ:Env} {s:Sto}
@[simp] theorem ae1 (i:Nat):ev F (.var i) ρ s=aU0 ρ i s:=rfl
@[simp] theorem ae6 (c:Cn):ev F (.cst c) ρ s=.ok c.d s:=rfl
@[simp] theorem af6 (op:BOp) (a b:E):ev F (.bin op a b) ρ s=(ev F a ρ s).bind fun x s=>(ev F b ρ s).bind fun y s=>am6 op x y s:=rfl
@[simp] theorem ah3 (a:E):ev F (.not a) ρ s=tru (ev F a ρ s) fun b s=>.ok (.bl (!b)) s:=rfl
@[simp] theorem ae8 (op:COp) (a b:E):ev F (.cmp op a b) ρ s=(ev F a ρ s).bind fun x s=>(ev F b ρ s).bind fun y s=>zR op x y s:=rfl
@[simp] theorem bL2 (o p:COp) (a b c:E):ev F (.chain o p a b c) ρ s=(ev F a ρ s).bind fun x s=>(ev F b ρ s).bind fun y s=>tru (zR o x y s) fun k s=>if k then(ev F c ρ s).bind fun z s=>zR p y z s else .ok (.bl false) s:=rfl
@[simp] theorem ah1 (a:E):ev F (.isN a) ρ s=(ev F a ρ s).bind fun x s=>.ok (.bl (decide (x=.non))) s:=rfl
@[simp] theorem ad9 (a:E):ev F (.notN a) ρ s=(ev F a ρ s).bind fun x s=>.ok (.bl (!decide (x=.non))) s:=rfl
@[simp] theorem af9 (a b:E):ev F (.and a b) ρ s=tru (ev F a ρ s) fun c s=>if c then tru (ev F b ρ s) fun c s=>.ok (.bl c) s else .ok (.bl false) s:=rfl
@[simp] theorem ai8 (a b:E):ev F (.or a b) ρ s=tru (ev F a ρ s) fun c s=>if c then .ok (.bl true) s else tru (ev F b ρ s) fun c s=>.ok (.bl c) s:=rfl
@[simp] theorem ah0 (c a b:E):ev F (.ite c a b) ρ s=tru (ev F c ρ s) fun k s=>if k then ev F a ρ s else ev F b ρ s:=rfl
@[simp] theorem af7 (es:Es):ev F (.tup es) ρ s=(evs F es ρ s).bind fun l s=>.ok (.tup l) s:=rfl
@[simp] theorem ag7 (es:Es):ev F (.lst es) ρ s=(evs F es ρ s).bind fun l s=>ai9 (.lst l) s:=rfl
@[simp] theorem ai4 (a b:E):ev F (.ix a b) ρ s=(ev F a ρ s).bind fun x s=>(ev F b ρ s).bind fun y s=>ixM x y s:=rfl
@[simp] theorem ac5 (f:String) (h:As):ev F (.call f h) ρ s=(aq3 F h ρ s).bind fun l s=>F.call f l s:=rfl
@[simp] theorem bL1 (f:String) (h:As):ev F (.callC f h) ρ s=(aq3 F h ρ s).bind fun l s=>(F.call f l s).bind fun d s'=>if(d.ncl&&s'.all O.ncl)=true then .ok d s' else .bad:=rfl
@[simp] theorem ai7 (b:Bi) (es:Es):ev F (.bi b es) ρ s=(evs F es ρ s).bind fun l s=>bi b l s:=rfl
@[simp] theorem ai3 (k:Mk) (it:L):ev F (.mk k it) ρ s=(evL F it ρ s).bind fun q s=>mk k q s:=rfl
@[simp] theorem ag5 (k:Mk) (it:L) (d:E):ev F (.mkD k it d) ρ s=(evL F it ρ s).bind fun q s=>(ev F d ρ s).bind fun d s=>mkD k q d s:=rfl
@[simp] theorem ah2 (k:Mk) (e:E):ev F (.mks k e) ρ s=(ev F e ρ s).bind fun x s=>(bg0 x s).bind fun q s=>mk k q s:=rfl
@[simp] theorem bQ1 (id:String) (e:E) (j:Int):ev F (.minK id e j) ρ s=(ev F e ρ s).bind fun x s=>(bg0 x s).bind fun q s=>br6 j q s:=rfl
@[simp] theorem ad5 (k:Mk) (e d:E):ev F (.mkDs k e d) ρ s=(ev F e ρ s).bind fun x s=>(ev F d ρ s).bind fun z s=>(bg0 x s).bind fun q s=>mkD k q z s:=rfl
@[simp] theorem ad7 (m:Mt) (o:E) (es:Es):ev F (.meth m o es) ρ s=(ev F o ρ s).bind fun x s=>(evs F es ρ s).bind fun l s=>meth m x l s:=rfl
@[simp] theorem bS5 (o e:E):ev F (.extS o e) ρ s=(ev F o ρ s).bind fun x s=>(ev F e ρ s).bind fun y s=>extS x y s:=rfl
@[simp] theorem bU8 (a:E):ev F (.rev a) ρ s=(ev F a ρ s).bind fun x s=>bP9 x s:=rfl
@[simp] theorem bV3 (o:E) (it:L):ev F (.ext o it) ρ s=(ev F o ρ s).bind fun x s=>(evL F it ρ s).bind fun q s=>bD4 x q s:=rfl
@[simp] theorem ad0:evs F .nil ρ s=.ok [] s:=rfl
@[simp] theorem ab2 (e:E) (es:Es):evs F (.cons e es) ρ s=(ev F e ρ s).bind fun d s=>(evs F es ρ s).bind fun l s=>.ok (d::l) s:=rfl
@[simp] theorem ab0:aq3 F .nil ρ s=.ok [] s:=rfl
@[simp] theorem ac4 (e:E) (h:As):aq3 F (.ex e h) ρ s=(ev F e ρ s).bind fun d s=>(aq3 F h ρ s).bind fun l s=>.ok (d::l) s:=rfl
@[simp] theorem bO5 (f:String) (h:As):aq3 F (.fn f h) ρ s=(aq3 F h ρ s).bind fun l s=>.ok (.fn f::l) s:=rfl
@[simp] theorem ac6 (e:E):evI F (.seq e) ρ s=(ev F e ρ s).bind fun d s=>aR6 d s:=rfl
@[simp] theorem bK6 (es:Es):evL F (.disp es) ρ s=evs F es ρ s:=rfl
@[simp] theorem ae0 (e:E):evL F (.seq e) ρ s=(ev F e ρ s).bind fun d s=>bI2 d s:=rfl
noncomputable def bl8 (x:D):M Sq:=fun s=>match x with|.int i=>if -W62<=i/\i<W62 then .ok ⟨ar4 0 i,[]⟩ s else .bad|_=>.bad
@[simp] theorem ab5 (a:E):evI F (.rng1 a) ρ s=(ev F a ρ s).bind fun x s=>bl8 x s:=rfl
theorem aO3 {i:Int}(h0:-W62<=i)(h:i<W62):bl8 (.int i) s=.ok ⟨ar4 0 i,[]⟩ s:=by unfold bl8;simp only[h0,h,and_self,if_true]
noncomputable def nxt (F:Fns)(ss:Ss)(c:Ct)(s:Sto):R Ct:=match c with|.next ρ=>exs F ss ρ s|c=>.ok c s
@[simp] theorem qm (h:Ss) (ρ:Env) (s:Sto):nxt F h (.next ρ) s=exs F h ρ s:=rfl
@[simp] theorem ac7 (h:Ss) (d:D) (s:Sto):nxt F h (.ret d) s=.ok (.ret d) s:=rfl
@[simp] theorem ac0 (h:Ss) (ρ:Env) (s:Sto):nxt F h (.cont ρ) s=.ok (.cont ρ) s:=rfl
@[simp] theorem ac2:exs F .nil ρ s=.ok (.next ρ) s:=rfl
@[simp] theorem aa9 (st:S) (h:Ss):exs F (.cons st h) ρ s=(ex F st ρ s).bind (nxt F h):=rfl
noncomputable def bP1 (ρ:Option Env)(s:Sto):R Ct:=match ρ with|some ρ=>.ok (.next ρ) s|none=>.bad
@[simp] theorem aa6 (ρ:Env) (s:Sto):bP1 (some ρ) s=.ok (.next ρ) s:=rfl
@[simp] theorem af3 (tg:Tg) (e:E):ex F (.asg tg e) ρ s=(ev F e ρ s).bind fun d s=>bP1 (aj0 ρ tg d) s:=rfl
@[simp] theorem ab6 (o i e:E):ex F (.setIx o i e) ρ s=(ev F e ρ s).bind fun d s=>(ev F o ρ s).bind fun x s=>(ev F i ρ s).bind fun y s=>(setIx x y d s).bind fun _ s=>.ok (.next ρ) s:=rfl
@[simp] theorem ai5 (e:E):ex F (.ex e) ρ s=(ev F e ρ s).bind fun _ s=>.ok (.next ρ) s:=rfl
@[simp] theorem af8 (e:E):ex F (.ret e) ρ s=(ev F e ρ s).bind fun d s=>.ok (.ret d) s:=rfl
@[simp] theorem bR7:ex F .retN ρ s=.ok (.ret .non) s:=rfl
@[simp] theorem ae9 (c:E) (a b:Ss):ex F (.ite c a b) ρ s=tru (ev F c ρ s) fun k s=>if k then exs F a ρ s else exs F b ρ s:=rfl
@[simp] theorem ag8 (c:E) (b:Ss):ex F (.whl c b) ρ s=whl (ev F c) (exs F b) ρ s:=rfl
noncomputable def turn (F:Fns)(tg:Tg)(b:Ss)(d:D)(ρ:Env)(s:Sto):R Ct:=match aj0 ρ tg d with
 | some ρ=>exs F b ρ s
 | none=>.bad
@[simp] theorem ah4 (tg:Tg) (it:I) (b:Ss):ex F (.for_ tg it b) ρ s=(evI F it ρ s).bind fun q s0=>aw5 (fun s=>chk s0 s q.src) (turn F tg b) q.its ρ s0:=rfl
@[simp] theorem ad4:ex F .cont ρ s=.ok (.cont ρ) s:=rfl
@[simp] theorem ag4 (i:Nat):ex F (.und i) ρ s=bP1 (ap2 ρ i) s:=rfl
@[simp] theorem ad8:ex F .pass ρ s=.ok (.next ρ) s:=rfl
@[simp] theorem aa5 (i:Nat) (d:D):aj0 ρ (.one i) d=aC8 ρ i d:=rfl
@[simp] theorem aa7 (is:List Nat) (l:List D):aj0 ρ (.tup is) (.tup l)=aq1 ρ is l:=rfl
@[simp] theorem aa8:aq1 ρ [] []=some ρ:=rfl
@[simp] theorem aa3 (i:Nat) (is:List Nat) (d:D) (l:List D):aq1 ρ (i::is) (d::l)=(aC8 ρ i d).bind fun ρ=>aq1 ρ is l:=rfl
@[simp] theorem ae2 (d:D) (ρ:Env):aU0 (some d::ρ) 0 s=.ok d s:=rfl
@[simp] theorem ae7 (x:Option D) (ρ:Env) (i:Nat):aU0 (x::ρ) (i+1) s=aU0 ρ i s:=by unfold aU0;rw[List.getElem?_cons_succ]
@[simp] theorem af4 (d:D) (x:Option D) (ρ:Env):aC8 (x::ρ) 0 d=some (some d::ρ):=rfl
@[simp] theorem af5 (d:D) (x:Option D) (ρ:Env) (i:Nat):aC8 (x::ρ) (i+1) d=(aC8 ρ i d).map (x::·):=by
 unfold aC8
 by_cases h:i < ρ.length
 ·rw[if_pos (by simpa using h),if_pos h];rfl
 ·rw[if_neg (by simpa using h),if_neg h];rfl
@[simp] theorem ab9 (x:Option D) (ρ:Env):ap2 (x::ρ) 0=some (none::ρ):=rfl
@[simp] theorem ab7 (x:Option D) (ρ:Env) (i:Nat):ap2 (x::ρ) (i+1)=(ap2 ρ i).map (x::·):=by
 unfold ap2
 by_cases h:i < ρ.length
 ·rw[if_pos (by simpa using h),if_pos h];rfl
 ·rw[if_neg (by simpa using h),if_neg h];rfl
@[simp] theorem ae3 (i:Int):(Cn.int i).d=.int i:=rfl
@[simp] theorem ai6 (i:Bool):(Cn.bl i).d=.bl i:=rfl
@[simp] theorem af2 (i:List Nat):(Cn.str i).d=.str i:=rfl
@[simp] theorem ag3:Cn.non.d=.non:=rfl
@[simp] theorem ac9 (a b:Int):am6 .add (.int a) (.int b) s=.ok (.int (a+b)) s:=rfl
@[simp] theorem ad2 (a b:Int):am6 .sub (.int a) (.int b) s=.ok (.int (a - b)) s:=rfl
theorem am1 {a b:Int}(h:mulOk a b=true):am6 .mul (.int a) (.int b) s=.ok (.int (a*b)) s:=by show(if mulOk a b then _ else _:M D) s=_;rw[if_pos h];rfl
theorem bk3 {a b:Int}(h:a.natAbs<2^64):mulOk a b=true:=by unfold mulOk;simp[h]
theorem at7 {a b:Int}(h:b.natAbs<2^64):mulOk a b=true:=by unfold mulOk;simp[h]
theorem ao1 {a b:Int}(h:0<b):am6 .mod (.int a) (.int b) s=.ok (.int (a % b)) s:=by show(if 0<b then _ else _:M D) s=_;rw[if_pos h];rfl
theorem bu0:(10:Int)^200<=(DIVL:Int):=by unfold DIVL;decide +kernel
theorem aH5 {a b:Int}(h:0<b)(z:b<10^200):am6 .fdiv (.int a) (.int b) s=.ok (.int (a / b)) s:=by show(if 0<b/\b<(DIVL:Int)then _ else _:M D) s=_;rw[if_pos ⟨h,Int.lt_of_lt_of_le z bu0⟩];rfl
theorem aO5 {a b:Int}(h:0<=b/\b<=1000000/\a.natAbs<2^64):am6 .pow (.int a) (.int b) s=.ok (.int (a^b.toNat)) s:=by show(if _ then _ else _:M D) s=_;rw[if_pos h];rfl
@[simp] theorem af1 (a b:Int):zR .lt (.int a) (.int b) s=.ok (.bl (decide (a<b))) s:=rfl
@[simp] theorem ag0 (a b:Int):zR .le (.int a) (.int b) s=.ok (.bl (decide (a<=b))) s:=rfl
@[simp] theorem ag2 (a b:Int):zR .gt (.int a) (.int b) s=.ok (.bl (decide (b<a))) s:=rfl
@[simp] theorem ag1 (a b:Int):zR .ge (.int a) (.int b) s=.ok (.bl (decide (b<=a))) s:=rfl
@[simp] theorem ag9 (a b:Int):zR .eq (.int a) (.int b) s=.ok (.bl (decide (a=b))) s:=rfl
@[simp] theorem ag6 (a b:Int):zR .ne (.int a) (.int b) s=.ok (.bl (!decide (a=b))) s:=rfl
@[simp] theorem ab3 (o:O):ai9 o s=.ok (.ref s.length) (s++[o]):=rfl
@[simp] theorem bN5 (l:List D):bi .len [.tup l] s=.ok (.int l.length) s:=rfl
@[simp] theorem bt3 (l:List Nat):bi .len [.str l] s=.ok (.int l.length) s:=rfl
theorem aP2 {r:Nat}{l:List D}(h:s[r]?=some (.lst l)):bi .len [.ref r] s=.ok (.int l.length) s:=by simp only[bi,bi1,bo9,h]
theorem bh5 {r:Nat}{l:List D}(h:s[r]?=some (.ro l)):bi .len [.ref r] s=.ok (.int l.length) s:=by simp only[bi,bi1,bo9,h]
@[simp] theorem bM2 (i:Int):bi .abs [.int i] s=.ok (.int (if i<0 then -i else i)) s:=rfl
@[simp] theorem bb6 (a b:Int):bi .min2 [.int a,.int b] s=.ok (.int (if b<a then b else a)) s:=rfl
@[simp] theorem bb7 (a b:Int):bi .max2 [.int a,.int b] s=.ok (.int (if b > a then b else a)) s:=rfl
@[simp] theorem bw3 (a:Int):bi .isInt [.int a] s=.ok (.bl true) s:=rfl
@[simp] theorem bu8 (a:Int):bi .isBool [.int a] s=.ok (.bl false) s:=rfl
@[simp] theorem bE1 (l:List D):bi .isTup [.tup l] s=.ok (.bl true) s:=rfl
theorem by2 {r:Nat}{l:List D}{j:Nat}{d:D}(h:s[r]?=some (.ro l))(hj:l[j]?=some d):ixM (.ref r) (.int (j:Int)) s=.ok d s:=by
 have hl:j<l.length:=(af.mp hj).1
 have e:l[j]=d:=(af.mp hj).2
 simp[ixM,h,ixn,hl,e]
theorem at0 {r:Nat}{l:List D}{j:Nat}{d:D}(h:s[r]?=some (.lst l))(hj:l[j]?=some d):ixM (.ref r) (.int (j:Int)) s=.ok d s:=by
 have hl:j<l.length:=(af.mp hj).1
 have e:l[j]=d:=(af.mp hj).2
 simp[ixM,h,ixn,hl,e]
theorem ix_tup {l:List D}{j:Nat}{d:D}(hj:l[j]?=some d):ixM (.tup l) (.int (j:Int)) s=.ok d s:=by
 have hl:j<l.length:=(af.mp hj).1
 have e:l[j]=d:=(af.mp hj).2
 simp[ixM,ixn,hl,e]
theorem bn3 {r:Nat}{l:List D}{j:Nat}{v:D}(h:s[r]?=some (.lst l))(hl:j<l.length):setIx (.ref r) (.int (j:Int)) v s=.ok () (s.set r (.lst (l.set j v))):=by
 simp[setIx,h,ixn,hl]
theorem zC {r:Nat}{l:List D}{v:D}(h:s[r]?=some (.lst l))(hl:l.length<LIM):meth .append (.ref r) [v] s=.ok .non (s.set r (.lst (l++[v]))):=by
 show(match s[r]? with|some (.lst l)=>(if l.length<LIM then R.ok D.non (s.set r (.lst (l++[v])))else .bad)|_=>.bad:R D)=_
 rw[h]
 exact if_pos hl
end
theorem aE1 (s t:Sto)(b:Bool):∃ s',zu s (.bl b) t=.ok (.bl b) s':=by
 unfold zu
 by_cases h:ao8 s t=true
 ·rw[if_pos h];exact⟨_,rfl⟩
 ·rw[if_neg h];exact⟨_,rfl⟩
def Yes (r:R D):Prop:=∃ s',r=.ok (.bl true) s'
theorem aQ2 (s t:Sto):Yes (zu s (.bl true) t):=aE1 s t true
theorem ba8 {a b:Int}{j:Nat}{d:D}(h:(ar4 a b)[j]?=some d):(j:Int)<b - a/\d=.int (a+j):=by
 have hj:=(af.mp h).1
 simp only[ar4,aK,List.length_range]at hj
 unfold ar4 at h
 rw[aU,fX hj]at h
 exact⟨by omega,(av h).symm⟩
def bQ7 (P:Pr)(k:Nat):Prop:=∀ ns:List Int,ns.length<=63->Yes ((aa1 P k).call "law" [.ref 0] [.ro (ns.map D.int)])
noncomputable def bu6:Option Int->D
 | none=>.non
 | some i=>.int i
@[simp] theorem bA1:bu6 none=.non:=rfl
@[simp] theorem bE3 (i:Int):bu6 (some i)=.int i:=rfl
@[simp] theorem aX3 (p:Option Int) (n:Nat):(bu6 p).bnd n=true:=by cases p<;>rfl
theorem bc9 (p:Option Int)(r:Nat):bu6 p≠.ref r:=by cases p<;>nofun
@[simp] theorem bu7 {s:Sto} {p:Option Int}:zu s (bu6 p) s=.ok (bu6 p) s:=zY (aX3 p) (bc9 p)
noncomputable def zS (b:Nat×Nat):O:=.lst [.int b.1,.int b.2]
@[simp] theorem bK3 (b:Nat×Nat) (n:Nat):(zS b).bnd n=true:=rfl
noncomputable def tkW (many:Nat):Nat->Nat->Nat->Nat->Nat×Nat
 | 0,mix,num,_=>(num,mix)
 | n+1,mix,num,room=>if room<many then tkW many n ((mix*48271+7919) % 2147483647) (num*1073741789+(mix*48271+7919) % 2147483647 / 8*69621 % 1073741789) (room*1073741789)else(num,mix)
noncomputable def tk (b:Nat×Nat)(many:Nat):Nat×(Nat×Nat) :=
 if 0<b.1 then(b.1 % many,(b.1 / many,b.2))else let r:=tkW many 12 b.2 0 1;(r.1 % many,(b.1,r.2))
theorem bS0 (b:Nat×Nat){many:Nat}(h:0<many):(tk b many).1<many:=by
 unfold tk
 split
 ·exact Nat.mod_lt _ h
 ·exact Nat.mod_lt _ h
theorem aQ8 {many:Nat}{k F z room:Nat}(h:many<=room):tkW many k F z room=(z,F):=by
 cases k with
 | zero=>rfl
 | succ k=>unfold tkW;rw[if_neg (by omega)]
theorem aZ3 {many:Nat}{k z F room:Nat}(h:room<many):tkW many (k+1) z F room=tkW many k ((z*48271+7919) % 2147483647) (F*1073741789+(z*48271+7919) % 2147483647 / 8*69621 % 1073741789) (room*1073741789):=by
 conv=>lhs;unfold tkW
 rw[if_pos h]
theorem bq6 {P:Pr}[Has P aj5](n:Nat)(b:Nat×Nat)(many:Nat)(h0:0<many)(h:many<=10^90)(s:Sto)(r:Nat)(hs:s[r]?=some (zS b)) :
  (aa1 P (n+1)).call "_law_take" [.ref r,.int many] s=.ok (.int (tk b many).1) (s.set r (zS (tk b many).2)):=by
 refine(zc aj5 rfl).trans ?_
 obtain⟨c,m⟩:=b
 have hr:r<s.length:=(af.mp hs).1
 have G:(0:Int)<(many:Int):=by omega
 have Y:(many:Int)<10^200:=by
  have:(10:Int)^90<10^200:=by decide +kernel
  have:((many:Nat):Int)<=((10^90:Nat):Int):=by exact_mod_cast h
  omega
 by_cases hc:0<c
 ·have J:s[r]?=some (.lst [.int c,.int m]):=hs
  simp[aj5,ixM,J,ixn,hc,ao1 G,aH5 G Y,setIx,tk]
  exact ql (fun _=>rfl) (by nofun) rfl
 ·have Z:c=0:=by omega
  subst Z
  have J:s[r]?=some (.lst [.int 0,.int m]):=hs
  simp[aj5,ixM,J,ixn]
  refine bd7 (fun k ρ t=>∃ z F room:Nat,ρ=[some (.ref r),some (.int many),none,some (.int F),some (.int room)]/\t=s.set r (zS (0,z))/\many<=room*1073741789^k/\tkW many k z F room=tkW many 12 m 0 1)
   (fun ρ t=>∃ room:Nat,ρ=[some (.ref r),some (.int many),none,some (.int (tkW many 12 m 0 1).1),some (.int room)]/\t=s.set r (zS (0,(tkW many 12 m 0 1).2))) 12 ⟨m,0,1,by simp,?_,?_,rfl⟩ ?_ ?_
  ·have e:s[r]=zS (0,m):=(af.mp hs).2
   rw[<-e,dg]
  ·refine aj h ?_
   decide +kernel
  ·rintro k ρ t ⟨z,F,room,rfl,rfl,N,he⟩
   by_cases hlt:room<many
   ·simp only[ae8,ae1,ae2,ae7,R.bind_ok,af1,bg9,gJ,hlt,decide_true,if_true]
    cases k with
    | zero=>simp at N;omega
    | succ k =>
     have h1:(s.set r (zS (0,z)))[r]?=some (.lst [.int 0,.int z]):=by rw[a8 hr];rfl
     have m1:∀ a:Int,mulOk a 48271=true:=fun a=>at7 (by decide)
     have m2:∀ a:Int,mulOk a 1073741789=true:=fun a=>at7 (by decide)
     have m3:∀ a:Int,mulOk a 69621=true:=fun a=>at7 (by decide)
     refine be5 ?_ ⟨k,cg k,(z*48271+7919) % 2147483647,F*1073741789+(z*48271+7919) % 2147483647 / 8*69621 % 1073741789,room*1073741789,rfl,rfl,?_,?_⟩
     ·simp[ixM,h1,ixn,am1 (m1 _),ao1,setIx,hr,am1 (m2 _),am1 (m3 _),aH5,zS]
     ·rw[iR]at N
      rw[Nat.mul_assoc,iL 1073741789];exact N
     ·rw[<-he,aZ3 hlt]
   ·simp only[ae8,ae1,ae2,ae7,R.bind_ok,af1,bg9,gJ,hlt,decide_false,if_false,au]
    refine⟨room,?_,?_⟩
    ·rw[<-he,aQ8 (by omega)]
    ·rw[<-he,aQ8 (by omega)]
  ·rintro ρ t ⟨room,rfl,rfl⟩
   simp[ao1 G,tk]
   exact ql (fun _=>rfl) (by nofun) rfl
noncomputable def bf9 (at_:Int)(ns:List Int):Nat->Int
 | 0=>7919*at_+17
 | k+1=>(bf9 at_ ns k*48271+(ns.getD k 0) % 2147483647+k) % 2147483629
theorem bk8 (at_:Int)(h:0<=at_)(ns:List Int):∀ k,0<=bf9 at_ ns k
 | 0=>by unfold bf9;omega
 | k+1=>by unfold bf9;exact Int.emod_nonneg _ (by decide)
noncomputable def cellF (ns:List Int)(at_:Nat):Nat:=if 10^18<=(ns.getD at_ 0).natAbs then(ns.getD at_ 0).natAbs else 0
noncomputable def bu5 (ns:List Int)(at_:Nat):Nat×Nat:=(cellF ns at_,(bf9 at_ ns (min ns.length 60)).toNat)
theorem bE5 {P:Pr}[Has P ay1](n:Nat)(ns:List Int)(at_:Nat)(s:Sto)(r:Nat)(hs:s[r]?=some (.ro (ns.map D.int)))(hl:ns.length<=63) :
  (aa1 P (n+1)).call "_law_bag" [.ref r,.int at_] s=.ok (.ref s.length) (s++[zS (bu5 ns at_)]):=by
 refine(zc ay1 rfl).trans ?_
 have m1:∀ a:Int,mulOk 7919 a=true:=fun a=>bk3 (by decide)
 have m2:∀ a:Int,mulOk a 48271=true:=fun a=>at7 (by decide)
 have z:bi .len [.ref r] s=.ok (.int ns.length) s:=by rw[bh5 hs,aK]
 have F:∀(c:Int),(c<10^18->cellF ns at_=0)->(10^18<=c->(cellF ns at_:Int)=c) ->
   (exs (aa1 P n) (.cons (.asg (.one 3) (.bin .add (.bin .mul (.cst (.int 7919)) (.var 1)) (.cst (.int 17)))) (.cons (.for_ (.one 4) (.rng1 (.bi .min2 (.cons (.bi .len (.cons (.var 0) .nil)) (.cons (.cst (.int 60)) .nil)))) (.cons (.asg (.one 3) (.bin .mod (.bin .add (.bin .add (.bin .mul (.var 3) (.cst (.int 48271))) (.bin .mod (.ix (.var 0) (.var 4)) (.cst (.int 2147483647)))) (.var 4)) (.cst (.int 2147483629)))) .nil)) (.cons (.ite (.cmp .lt (.var 2) (.bin .pow (.cst (.int 10)) (.cst (.int 18)))) (.cons (.asg (.one 2) (.cst (.int 0))) .nil) .nil) (.cons (.ret (.lst (.cons (.var 2) (.cons (.var 3) .nil)))) .nil)))) [some (.ref r),some (.int at_),some (.int c),none,none] s).bind (fin s)=.ok (.ref s.length) (s++[zS (bu5 ns at_)]):=by
  intro c h1 h2
  simp[am1 (m1 _),z]
  have hk:(if(60:Int)<(ns.length:Int)then 60 else(ns.length:Int))=((min ns.length 60:Nat):Int):=by omega
  rw[hk,aO3 (by unfold W62;omega) (by unfold W62;omega)]
  simp only[R.bind_ok]
  refine bc3 (fun j ρ t=>t=s/\∃ x,ρ=[some (.ref r),some (.int at_),some (.int c),some (.int (bf9 at_ ns j)),x]) ⟨rfl,none,rfl⟩ (fun _ _ _ _ _=>rfl) ?_ ?_
  ·rintro j d ρ t hj ⟨rfl,x,rfl⟩
   have J:j<min ns.length 60:=by have:=(af.mp hj).1;simpa [ar4]using this
   have hd:d=.int (j:Int):=by simpa [ar4,J]using hj.symm
   subst hd
   refine be5 ?_ ⟨rfl,some (.int (j:Int)),rfl⟩
   have hx:ixM (.ref r) (.int (j:Int)) t=.ok (.int (ns.getD j 0)) t:=by2 hs (by simp[show j<ns.length by omega])
   simp[turn,am1 (m2 _),hx,ao1,bf9]
  ·rintro ρ t ⟨rfl,x,rfl⟩
   have a0:(ar4 0 ((min ns.length 60:Nat):Int)).length=min ns.length 60:=by simp[ar4]
   rw[a0]
   have Y:=bk8 at_ (by omega) ns (min ns.length 60)
   have G:∀ N,(N:Int)=cellF ns at_->zu t (.ref t.length) (t++[.lst [.int N,.int (bf9 at_ ns (min ns.length 60))]])=.ok (.ref t.length) (t++[zS (bu5 ns at_)]):=by
    intro N Z
    have:=aP7 (s:=t) (t:=[]) (u:=[]) (o:=zS (bu5 ns at_)) rfl
    simp only[cx,iQ,cS]at this
    rw[<-this]
    simp[zS,bu5,Z,dF Y]
   by_cases h:c<10^18
   ·have h':c<1000000000000000000:=h
    simp[aO5,h']
    exact G 0 (by rw[h1 h];rfl)
   ·have h':¬ c<1000000000000000000:=h
    simp[aO5,h']
    exact G c (h2 (by omega)).symm
 by_cases hat:at_<ns.length
 ·have hx:ixM (.ref r) (.int at_) s=.ok (.int (ns.getD at_ 0)) s:=by2 hs (by simp[hat])
  have e:=F (if ns.getD at_ 0<0 then -ns.getD at_ 0 else ns.getD at_ 0) (by unfold cellF;intro h;rw[if_neg (by omega)]) (by unfold cellF;intro h;rw[if_pos (by omega)];omega)
  rw[<-e]
  simp[ay1,z,hat,hx]
 ·have e:=F 0 (by unfold cellF;intro h;rw[if_neg];rw[be,cB (by omega)];decide) (by intro h;exact absurd h (by decide))
  rw[<-e]
  simp[ay1,z,hat]
theorem aD7 {s t:Sto}{r:Nat}{o:O}(h:r<s.length):(s++t).set r o=s.set r o++t:=by rw[List.set_append,if_pos h]
theorem zK {s t:Sto}{r:Nat}{o:O}(h:s[r]?=some o):(s++t)[r]?=some o:=by
 rw[aJ (af.mp h).1];exact h
theorem z7 {s:Sto}{r:Nat}{o:O}(h:r<s.length):(s.set r o)[r]?=some o:=a8 h
theorem ba4 {P:Pr}[Has P aj5](n:Nat)(b:Nat×Nat)(many:Int)(h0:0<many)(h:many<=10^90)(s:Sto)(r:Nat)(hs:s[r]?=some (zS b)) :
  (aa1 P (n+1)).call "_law_take" [.ref r,.int many] s=.ok (.int (tk b many.toNat).1) (s.set r (zS (tk b many.toNat).2)):=by
 have:=bq6 n b many.toNat (P:=P) (by omega) (by have:many<=((10^90:Nat):Int):=(by simpa using h);omega) s r hs
 rwa [show((many.toNat:Nat):Int)=many by omega]at this
noncomputable def bd (b:Nat×Nat):Nat×(Nat×Nat) :=
 let x0:=tk b 3
 let x1:=tk x0.2 13
 let x2:=tk x1.2 1000000000
 let x3:=tk x2.2 1000000000000000000000000000000
 let i:=tk x3.2 4
 ([x0.1,x1.1,x2.1,x3.1].getD i.1 0,i.2)
section
variable {F:Fns} {ρ:Env} {s:Sto}
noncomputable def aV0 (F:Fns)(tg:Tg)(e:E)(d:D)(ρ:Env)(s:Sto):R (Option D×Env):=match aj0 ρ tg d with
 | some ρ=>(ev F e ρ s).bind fun v s=>.ok (some v,ρ) s
 | none=>.bad
noncomputable def bN9 (F:Fns)(tg:Tg)(c e:E)(d:D)(ρ:Env)(s:Sto):R (Option D×Env):=match aj0 ρ tg d with
 | some ρ=>tru (ev F c ρ s) fun k s=>if k then(ev F e ρ s).bind fun v s=>.ok (some v,ρ) s else .ok (none,ρ) s
 | none=>.bad
@[simp] theorem aE9 (tg:Tg) (it:I) (e:E) (h:List (Option Nat)):evL F (.comp tg it e h) ρ s=(evI F it ρ s).bind fun q s0=>if q.its.length<=LIM then aj6 (fun s=>chk s0 s q.src) (aV0 F tg e) q.its (aj3 ρ h) s0 else .bad:=rfl
@[simp] theorem bu3 (tg:Tg) (it:I) (c e:E) (h:List (Option Nat)):evL F (.compIf tg it c e h) ρ s=(evI F it ρ s).bind fun q s0=>if q.its.length<=LIM then aj6 (fun s=>chk s0 s q.src) (bN9 F tg c e) q.its (aj3 ρ h) s0 else .bad:=rfl
@[simp] theorem bW2 (a h:E):ev F (.slU a h) ρ s=(ev F a ρ s).bind fun x s=>(ev F h ρ s).bind fun y s=>match y with|.int i=>slM x none (some i) s|_=>.bad:=rfl
@[simp] theorem bh9 (a h:E):ev F (.slL a h) ρ s=(ev F a ρ s).bind fun x s=>(ev F h ρ s).bind fun y s=>match y with|.int i=>slM x (some i) none s|_=>.bad:=rfl
end
theorem aG2 {ok:Sto->Bool}{g:D->Env->Sto->R (Option D×Env)}(P:Env->Sto->Prop)(f:D->Option D):∀(l:List D) (ρ:Env) (s:Sto),P ρ s ->
  (∀ ρ s,P ρ s->ok s=true)->(∀ d∈l,∀ ρ s,P ρ s->∃ ρ' s',g d ρ s=.ok (f d,ρ') s'/\P ρ' s')->∃ ρ' s',aj6 ok g l ρ s=.ok (l.filterMap f) s'/\P ρ' s'
 | [],ρ,s,h,o,_=>⟨ρ,s,by unfold aj6;rw[if_pos (o ρ s h)];rfl,h⟩
 | d::l,ρ,s,h,o,st=>by
  obtain⟨ρ1,s1,e1,z⟩:=st d (az ..) ρ s h
  obtain⟨ρ2,s2,e2,F⟩:=aG2 P f l ρ1 s1 z o fun x hx=>st x (aw _ hx)
  refine⟨ρ2,s2,?_,F⟩
  unfold aj6
  rw[if_pos (o ρ s h),e1]
  simp only[R.bind_ok]
  rw[e2,bS]
  cases f d<;>rfl
theorem aC6 {P:Pr}[Has P aj5](n:Nat){s:Sto}{r:Nat}(hs:∃ b,s[r]?=some (zS b))(many:Int)(h0:0<many)(h:many<=10^90) :
  ∃(k:Nat) (b:Nat×Nat),(k:Int)<many/\(aa1 P (n+1)).call "_law_take" [.ref r,.int many] s=.ok (.int k) (s.set r (zS b)):=by
 obtain⟨b,hb⟩:=hs
 have:=bS0 b (many:=many.toNat) (by omega)
 exact⟨(tk b many.toNat).1,(tk b many.toNat).2,by omega,ba4 n b many h0 h s r hb⟩
theorem aD9 {k:Int}(h:k<=1000):k<=10^90:=Int.le_trans h (by decide)
theorem aO1 {s:Sto}{r:Nat}{b:Nat×Nat}(h:r<s.length):∃ z,(s.set r (zS b))[r]?=some (zS z):=⟨b,z7 h⟩
theorem bl6 {s t:Sto}{r:Nat}(h:∃ b,s[r]?=some (zS b)):∃ b,(s++t)[r]?=some (zS b):=by obtain⟨b,hb⟩:=h;exact⟨b,zK hb⟩
theorem bw4 {s:Sto}{r:Nat}(h:∃ b,s[r]?=some (zS b)):r<s.length:=by obtain⟨b,hb⟩:=h;exact(af.mp hb).1
theorem aI8 {l:List D}(h:∀ d∈l,∀ n,d.bnd n=true)(n:Nat):D.bndL n l=true:=by
 induction l with
 | nil=>rfl
 | cons d l ih=>unfold D.bndL;rw[h d (az ..),ih fun x hx=>h x (aw _ hx)];rfl
theorem bx3 {k:Nat}(h:k<3)(s:Sto):ixM (.str [97,98,99]) (.int (k:Int)) s=.ok (.str [97+k]) s:=by
 match k,h with
 | 0,_=>rfl
 | 1,_=>rfl
 | 2,_=>rfl
theorem ak3 {a b:List Nat}{s:Sto}(h:a.length+b.length<=LIM):am6 .add (.str a) (.str b) s=.ok (.str (a++b)) s:=by
 show(if a.length+b.length<=LIM then _ else _:M D) s=_;rw[if_pos h];rfl
def Lts (L:Nat)(w:List Nat):Prop:=∀ c∈w,97<=c/\c<97+L
theorem rep_len (l:List Nat):∀ n,(rep n l).length=l.length*n
 | 0=>by simp[rep]
 | n+1=>by simp[rep,rep_len l n,gX];omega
noncomputable def bE9 (L:Nat)(d:D):Bool:=match d with
 | .str w=>decide (w.length<=200)&&w.all fun c=>decide (97<=c/\c<97+L)
 | _=>false
noncomputable def ah6 (s:Sto):D->Prop
 | .fn _=>False
 | .clo _ _=>False
 | .ref k=>∃ l,s[k]?=some (.lst l)
 | _=>True
theorem au7 {P:Pr}{x:String}{v:D}[HasC P x v]{n:Nat}{ρ:Env}{s:Sto}:ev (aa1 P n) (.glob x) ρ s=.ok v s:=by
 show(match(aa1 P n).con x with|some d=>R.ok d s|none=>.bad)=_
 rw[aU6 (v:=v)]
noncomputable abbrev aA6:List D:=[.str [97],.str [98],.str [99]]
theorem bo1 {L:Nat}(h:L<=3)(s:Sto):slM (.tup aA6) none (some (L:Int)) s=.ok (.tup (aA6.take L)) s:=by
 match L,h with
 | 0,_=>rfl
 | 1,_=>rfl
 | 2,_=>rfl
 | 3,_=>rfl
theorem qp {a b:D}{s:Sto}:zR .isin a b s=(inM a b s).bind fun r s=>.ok (.bl r) s:=rfl
@[simp] theorem bV2 {F:Fns} {ρ:Env} {s:Sto} (a:E):ev F (.neg a) ρ s=(ev F a ρ s).bind fun x s=>match x with|.int i=>.ok (.int (-i)) s|_=>.bad:=rfl
structure Dr where
 a:Nat
 l:Nat
 b:Nat
 t:Nat
noncomputable def Dr.d (x:Dr):D:=.tup [.int x.a,.str [x.l],.int x.b,.int x.t]
structure Mc where
 L:Nat
 R:Nat
 bg:List Nat
 en:List Nat
 ds:List Dr
noncomputable def bU5 (l:List Nat):List D:=l.map fun(k:Nat)=>D.int (k:Int)
noncomputable def Mc.ps (m:Mc):List D:=[.int m.L,.int m.R,.tup (bU5 m.bg),.tup (bU5 m.en),.tup (m.ds.map Dr.d)]
noncomputable def Mc.d (m:Mc):D:=.tup m.ps
structure Dr.Ok (m:Mc)(x:Dr):Prop where
 a:x.a<m.R
 l:97<=x.l/\x.l<97+m.L
 b:x.b<m.R
 t:x.t<4
structure Mc.Ok (m:Mc):Prop where
 L1:1<=m.L
 L3:m.L<=3
 R1:1<=m.R
 R5:m.R<=5
 bg:(∀ k∈m.bg,k<m.R)/\m.bg.Pairwise (· < ·)
 en:(∀ k∈m.en,k<m.R)/\m.en.Pairwise (· < ·)
 ds:(∀ x∈m.ds,x.Ok m)/\m.ds.length<=75
section
variable {P:Pr}
theorem zI {l:List D}{s:Sto}(j:Nat){d:D}(h:l[j]?=some d):ixM (.tup l) (.int (j:Int)) s=.ok d s:=ix_tup h
@[simp] theorem bN0 (a b:Nat) (s:Sto):zR .ne (.str [a]) (.str [b]) s=.ok (.bl (!decide (a=b))) s:=by
 show(match eqv s DEEP (.str [a]) (.str [b])with|some r=>R.ok (D.bl (!r)) s|none=>.bad)=_
 have:eqv s DEEP (.str [a]) (.str [b])=some ([a]==[b]):=rfl
 rw[this]
 have e:([a]==[b])=decide (a=b):=by rw[fu];simp
 rw[e]
@[simp] theorem bL6 (a b:Nat) (s:Sto):zR .eq (.str [a]) (.str [b]) s=.ok (.bl (decide (a=b))) s:=by
 show(match eqv s DEEP (.str [a]) (.str [b])with|some r=>R.ok (D.bl r) s|none=>.bad)=_
 have:eqv s DEEP (.str [a]) (.str [b])=some ([a]==[b]):=rfl
 rw[this]
 have e:([a]==[b])=decide (a=b):=by rw[fu];simp
 rw[e]
end
theorem good_of {L:Nat}{w:List Nat}(h:w.length<=200)(hw:Lts L w):bE9 L (.str w)=true:=by
 unfold bE9
 simp only[h,decide_true,gd,aQ,decide_eq_true_eq]
 exact hw
def aq9 (x:R D)(s:Sto)(p:Prop):Prop:=∃ b:Bool,x=.ok (.bl b) s/\(b=true↔p)
noncomputable def fit (s:Sto)(B:Nat):Nat->D->Prop
 | 0,d=>(match d with|.tup _=>False|d=>ah6 s d)
 | n+1,d=>(match d with|.tup l=>l.length<=B/\∀ x∈l,fit s B n x|d=>ah6 s d)
theorem fit.thing {s:Sto}{B:Nat}:∀ {n:Nat} {d:D},fit s B n d->ah6 s d
 | 0,d,h=>by cases d<;>first|exact h|exact h.elim|trivial
 | n+1,d,h=>by cases d<;>first|exact h|trivial
theorem fit.tup {s:Sto}{B n:Nat}{l:List D}(h:fit s B n (.tup l)):l.length<=B/\∀ x∈l,∃ m,m<n/\fit s B m x:=by
 cases n with
 | zero=>exact h.elim
 | succ n=>exact⟨h.1,fun x hx=>⟨n,cg n,h.2 x hx⟩⟩
theorem an2 {s:Sto}{B n:Nat}{d:D}(h:ah6 s d)(z:∀ l,d≠.tup l):fit s B n d:=by
 cases n<;>(cases d<;>first|exact absurd rfl (z _)|exact h)
theorem ap3 {s:Sto}{d:D}(h:ah6 s d):bi .isTup [d] s=.ok (.bl (match d with|.tup _=>true|_=>false)) s:=by
 cases d with
 | ref k=>obtain⟨l,e⟩:=h;simp only[bi,bi1,isK,e];rfl
 | fn _=>exact h.elim
 | clo _ _=>exact h.elim
 | _=>rfl
theorem tup_or (d:D):(∃ l,d=.tup l)\/∀ l,d≠.tup l:=by
 cases d<;>first|exact .inl ⟨_,rfl⟩|exact .inr (by nofun)
theorem bb0 {s:Sto}{d:D}(h:ah6 s d)(hn:∀ l,d≠.tup l):bi .isTup [d] s=.ok (.bl false) s:=by
 rw[ap3 h];cases d<;>first|rfl|exact absurd rfl (hn _)
theorem aq9.no {s:Sto}{p:Prop}{x:R D}(e:x=.ok (.bl false) s)(h:¬ p):aq9 x s p:=⟨false,e,⟨by nofun,fun q=>absurd q h⟩⟩
theorem z0 {P:Pr}[Has P ab1](n:Nat){s:Sto}{d:D}(h:ah6 s d)(k:Nat):aq9 ((aa1 P (n+1)).call "is_tuple_of" [d,.int k] s) s (∃ l,d=.tup l/\l.length=k):=by
 have z:(aa1 P (n+1)).call "is_tuple_of" [d,.int k] s=_:=zc ab1 (n:=n) rfl
 rw[z]
 have F:=ap3 h
 rcases tup_or d with⟨l,rfl⟩|hn
 ·
  refine⟨decide ((l.length:Int)=(k:Int)),by simp -implicitDefEqProofs [ab1],?_⟩
  rw[decide_eq_true_iff]
  constructor
  ·intro e;exact⟨l,rfl,by omega⟩
  ·rintro⟨m,e,e2⟩;cases e;omega
 ·exact .no (by simp -implicitDefEqProofs [ab1,bb0 h hn]) (by rintro⟨i,e,_⟩;exact hn _ e)
def bJ8 (L:Nat)(d:D):Prop:=∃ c,d=.str [c]/\97<=c/\c<97+L
theorem aS9 {s:Sto}{d:D}(h:ah6 s d){L:Nat}(h1:1<=L)(h3:L<=3):∃ b:Bool,inM d (.tup (aA6.take L)) s=.ok b s/\(b=true↔bJ8 L d):=by
 have e:∀ a:Nat,∃ b:Bool,eqv s DEEP (.str [a]) d=some b/\(b=true↔d=.str [a]):=fun a=>by
  cases d with
  | str w=>exact⟨[a]==w,rfl,by
   rw[beq_iff_eq]
   constructor
   ·intro h;rw[h]
   ·intro h;cases h;rfl⟩
  | ref k =>
   obtain⟨l,e⟩:=h
   refine⟨false,?_,by constructor<;>intro h<;>cases h⟩
   show ai2 s (.str [a]) (.ref k)=_
   unfold ai2 aD0
   simp only[kd,e];rfl
  | fn _=>exact h.elim
  | clo _ _=>exact h.elim
  | _=>exact⟨false,rfl,by constructor<;>intro h<;>cases h⟩
 obtain⟨z,e1,F⟩:=e 97
 obtain⟨J,e2,Y⟩:=e 98
 obtain⟨b3,e3,Z⟩:=e 99
 match L,h1,h3 with
 | 1,_,_ =>
  refine⟨z||false,by simp only[iH,inM,inL,e1],?_⟩
  rw[dk,F]
  constructor
  ·intro h;exact⟨97,h,by omega,by omega⟩
  ·rintro⟨c,rfl,G,N⟩;rw[show c=97 by omega]
 | 2,_,_ =>
  refine⟨z||(J||false),by simp only[iH,inM,inL,e1,e2],?_⟩
  rw[dk,bh,F,Y]
  constructor
  ·rintro(h|h)
   ·exact⟨97,h,by omega,by omega⟩
   ·exact⟨98,h,by omega,by omega⟩
  ·rintro⟨c,rfl,G,N⟩
   rcases(show c=97\/c=98 by omega)with rfl|rfl
   ·exact .inl rfl
   ·exact .inr rfl
 | 3,_,_ =>
  refine⟨z||(J||(b3||false)),by simp only[iH,inM,inL,e1,e2,e3],?_⟩
  rw[dk,bh,bh,F,Y,Z]
  constructor
  ·rintro(h|h|h)
   ·exact⟨97,h,by omega,by omega⟩
   ·exact⟨98,h,by omega,by omega⟩
   ·exact⟨99,h,by omega,by omega⟩
  ·rintro⟨c,rfl,G,N⟩
   rcases(show c=97\/c=98\/c=99 by omega)with rfl|rfl|rfl
   ·exact .inl rfl
   ·exact .inr (.inl rfl)
   ·exact .inr (.inr rfl)
theorem ay2 {P:Pr}[Has P ae4][HasC P "LETTERS" (.tup aA6)](n:Nat){s:Sto}{d:D}(h:ah6 s d){L:Nat}(F:1<=L)(z:L<=3):aq9 ((aa1 P (n+1)).call "is_letter" [d,.int L] s) s (bJ8 L d):=by
 have G:(aa1 P (n+1)).call "is_letter" [d,.int L] s=_:=zc ae4 (n:=n) rfl
 obtain⟨b,e,hb⟩:=aS9 h F z
 exact⟨b,by rw[G];simp -implicitDefEqProofs [ae4,au7 (v:=.tup aA6),bo1 z,qp,e],hb⟩
theorem as4 {ok:Sto->Bool}{g:D->Env->Sto->R (Option D×Env)}{s:Sto}(ho:ok s=true)(E:Env->Prop)(p:D->Prop):∀(l:List D) (ρ:Env),E ρ ->
  (∀ d∈l,∀ ρ,E ρ->∃(b:Bool) (ρ':Env),g d ρ s=.ok (some (.bl b),ρ') s/\E ρ'/\(b=true↔p d))->∃ bs:List Bool,aj6 ok g l ρ s=.ok (bs.map D.bl) s/\(bs.all id=true↔∀ d∈l,p d)
 | [],ρ,_,_=>⟨[],by unfold aj6;rw[if_pos ho];rfl,by simp⟩
 | d::l,ρ,hE,h=>by
  obtain⟨b,ρ1,e1,z,hb⟩:=h d (az ..) ρ hE
  obtain⟨bs,e2,F⟩:=as4 ho E p l ρ1 z fun x hx=>h x (aw _ hx)
  refine⟨b::bs,?_,?_⟩
  ·unfold aj6
   rw[if_pos ho,e1]
   simp only[R.bind_ok]
   rw[e2];rfl
  ·rw[dq,ag,F]
   simp only[id,hb,aN,forall_eq_or_imp]
theorem bg4:∀ bs:List Bool,am5 (bs.map D.bl)=some bs
 | []=>rfl
 | b::bs=>by simp[am5,bg4 bs]
theorem bU1 (l:List D):ar0 l (some 1) none=l.drop 1:=by
 unfold ar0
 simp only[loB,hiB,sbd]
 cases l with
 | nil=>rfl
 | cons a l=>simp
@[simp] theorem bM3 {F:Fns} {ρ:Env} {s:Sto} (a G h:E):ev F (.slLU a G h) ρ s=(ev F a ρ s).bind fun x s=>(ev F G ρ s).bind fun y s=>match y with|.int i=>(ev F h ρ s).bind (fun z s=>match z with|.int j=>slM x (some i) (some j) s|_=>.bad)|_=>.bad:=rfl
theorem ap9 {s:Sto}{d:D}(h:ah6 s d)(w:List Nat):∃ b:Bool,zR .eq d (.str w) s=.ok (.bl b) s/\(b=true↔d=.str w):=by
 cases d with
 | str v=>exact⟨v==w,rfl,by
   rw[beq_iff_eq]
   constructor
   ·intro h;rw[h]
   ·intro h;cases h;rfl⟩
 | ref k =>
  obtain⟨l,e⟩:=h
  refine⟨false,?_,by constructor<;>intro h<;>cases h⟩
  have:eqv s DEEP (.ref k) (.str w)=some false:=by
   have z:kd s (.ref k)=4:=by
    show(match s[k]? with|some (.lst _)=>4|_=>9)=4
    rw[e]
   show(if aw7 (kd s (.ref k)) (kd s (.str w))then none else some false)=_
   rw[z];rfl
  show(match eqv s DEEP (.ref k) (.str w)with|some r=>R.ok (D.bl r) s|none=>R.bad)=_
  rw[this]
 | fn _=>exact h.elim
 | clo _ _=>exact h.elim
 | _=>exact⟨false,rfl,by constructor<;>intro h<;>cases h⟩
noncomputable abbrev zd:List Nat:=[108,101,116,116,101,114]
theorem two {l:List D}(h:l.length=2):∃ a b,l=[a,b]:=by
 match l,h with
 | [a,b],_=>exact⟨a,b,rfl⟩
theorem bQ9 {l:List D}(h:l.length=3):∃ a b c,l=[a,b,c]:=by
 match l,h with
 | [a,b,c],_=>exact⟨a,b,c,rfl⟩
@[simp] theorem bK2 {F:Fns} {ρ:Env} {s:Sto} (e:E):evI F (.enum (.seq e)) ρ s=(ev F e ρ s).bind fun d s=>(bd5 d s).bind fun q s=>.ok ⟨bm9 0 q.its,q.src⟩ s:=rfl
noncomputable abbrev za:List Nat:=[110,111,116,104,105,110,103]
noncomputable abbrev zh:List Nat:=[114,101,112,101,97,116]
noncomputable abbrev zn:List Nat:=[101,105,116,104,101,114]
noncomputable abbrev zo:List Nat:=[98,101,104,105,110,100]
noncomputable def bK5:D->Bool
 | .str [c]=>decide (97<=c/\c<100)
 | _=>false
theorem an3 {d:D}:bK5 d=true↔bJ8 3 d:=by
 constructor
 ·intro h
  unfold bK5 at h
  split at h
  ·rename_i c
   exact⟨c,rfl,of_decide_eq_true h⟩
  ·cases h
 ·rintro⟨c,rfl,h⟩;exact decide_eq_true h
noncomputable def aI2:List D->Option (List D)
 | [.str x]=>if x=za then some []else none
 | [.str x,y]=>if x=zd then(if bK5 y then some []else none)else if x=zh then some [y]else none
 | [.str x,y,z]=>if x=zn\/x=zo then some [y,z]else none
 | _=>none
noncomputable def aj2:D->Option (List D)
 | .tup l=>aI2 l
 | _=>none
theorem aw8 {d:D}{l:List D}(h:aj2 d=some l):l.length<=2:=by
 unfold aj2 at h
 split at h
 ·unfold aI2 at h
  split at h
  ·split at h<;>cases h;decide
  ·split at h
   ·split at h<;>cases h;decide
   ·split at h<;>cases h;simp
  ·split at h<;>cases h;simp
  ·cases h
 ·cases h
noncomputable def al7:Nat->D->Prop
 | 0,_=>False
 | k+1,d=>∃ l,aj2 d=some l/\∀ x∈l,al7 k x
noncomputable def psz:Nat->D->Nat
 | 0,_=>0
 | k+1,d=>match aj2 d with|some l=>1+(l.map (psz k)).sum|none=>0
theorem bj2:∀(k:Nat) (d:D),psz k d<2^k
 | 0,_=>by unfold psz;decide
 | k+1,d=>by
  unfold psz
  have z:1<=2^k:=Nat.one_le_two_pow
  rw[iR]
  cases e:aj2 d with
  | none=>show 0<_;omega
  | some l =>
   have hl:=aw8 e
   have:=fun x=>bj2 k x
   match l,hl with
   | [],_=>show 1+0<_;omega
   | [a],_=>show 1+(psz k a+0)<_;have h:=this a;omega
   | [a,b],_=>show 1+(psz k a+(psz k b+0))<_;have h:=this a;have F:=this b;omega
def bV9 (d:D):Prop:=al7 12 d/\psz 12 d<=40
theorem al2 {s:Sto}:∀ {k:Nat} {d:D},al7 k d->fit s 1000 k d
 | 0,d,h=>h.elim
 | k+1,d,h=>by
  obtain⟨l,e,hl⟩:=h
  unfold aj2 at e
  split at e
  ·unfold aI2 at e
   split at e
   ·exact⟨by simp,fun x hx=>by rw[bD.mp hx];exact an2 trivial (by nofun)⟩
   ·rename_i x y
    refine⟨by simp,fun z hz=>?_⟩
    simp only[aN,bL,or_false]at hz
    rcases hz with rfl|rfl
    ·exact an2 trivial (by nofun)
    ·split at e
     ·split at e
      ·rename_i F
       obtain⟨c,rfl,_⟩:=an3.mp F
       exact an2 trivial (by nofun)
      ·cases e
     ·split at e<;>cases e
      exact al2 (hl _ (bD.mpr rfl))
   ·split at e<;>cases e
    refine⟨by simp,fun z hz=>?_⟩
    simp only[aN,bL,or_false]at hz
    rcases hz with rfl|rfl|rfl
    ·exact an2 trivial (by nofun)
    ·exact al2 (hl _ (by simp))
    ·exact al2 (hl _ (by simp))
   ·cases e
  ·cases e
theorem aG8 (x:List Nat)(y:D):aj2 (.tup [.str x,y])=if x=zd then(if bK5 y then some []else none)else if x=zh then some [y]else none:=rfl
theorem bg7 (x:List Nat)(y z:D):aj2 (.tup [.str x,y,z])=if x=zn\/x=zo then some [y,z]else none:=rfl
theorem at4 {s:Sto}{d:D}(h:ah6 s d)(a:List Nat):∃ b:Bool,eqv s DEEP (.str a) d=some b/\(b=true↔d=.str a):=by
 cases d with
 | str w=>exact⟨a==w,rfl,by
   rw[beq_iff_eq]
   constructor
   ·intro h;rw[h]
   ·intro h;cases h;rfl⟩
 | ref k =>
  obtain⟨l,e⟩:=h
  refine⟨false,?_,by constructor<;>intro h<;>cases h⟩
  show ai2 s (.str a) (.ref k)=_
  unfold ai2 aD0
  simp only[kd,e];rfl
 | fn _=>exact h.elim
 | clo _ _=>exact h.elim
 | _=>exact⟨false,rfl,by constructor<;>intro h<;>cases h⟩
theorem zW {s:Sto}{d:D}(h:ah6 s d)(a b:List Nat):∃ r:Bool,inM d (.tup [.str a,.str b]) s=.ok r s/\(r=true↔d=.str a\/d=.str b):=by
 obtain⟨z,e1,J⟩:=at4 h a
 obtain⟨F,e2,G⟩:=at4 h b
 refine⟨z||(F||false),by simp only[inM,inL,e1,e2],?_⟩
 rw[dk,bh,J,G]
def aZ5 (d:D):Prop:=(∃ y,d=.tup [.str zh,y])\/∃ x y z,d=.tup [.str x,y,z]/\(x=zn\/x=zo)
theorem ay4 {P:Pr}[Has P ab1][Has P ae5](n:Nat){s:Sto}{B k:Nat}{d:D}(h:fit s B k d):aq9 ((aa1 P (n+2)).call "is_joined" [d] s) s (aZ5 d):=by
 have e0:(aa1 P (n+2)).call "is_joined" [d] s=_:=zc ae5 (n:=n+1) rfl
 rw[e0]
 obtain⟨b,e,hb⟩:=z0 (P:=P) n h.thing 2
 rw[show((2:Nat):Int)=2 from rfl]at e
 conv=>arg 1;simp -implicitDefEqProofs [ae5,e]
 cases b with
 | true =>
  obtain⟨l,rfl,hl⟩:=hb.mp rfl
  obtain⟨x,y,rfl⟩:=two hl
  have Y:ixM (.tup [x,y]) (.int 0) s=.ok x s:=zI 0 rfl
  have F:ah6 s x:=by obtain⟨m,_,q⟩:=h.tup.2 x (by simp);exact q.thing
  obtain⟨J,e1,N⟩:=ap9 F zh
  refine⟨J,by simp -implicitDefEqProofs [Y,e1],?_⟩
  rw[N]
  constructor
  ·rintro rfl;exact .inl ⟨y,rfl⟩
  ·rintro(⟨_,e⟩|⟨_,_,_,e,_⟩)
   ·cases e;rfl
   ·cases e
 | false =>
  obtain⟨b3,Z,G⟩:=z0 (P:=P) n h.thing 3
  rw[show((3:Nat):Int)=3 from rfl]at Z
  conv=>arg 1;simp -implicitDefEqProofs [Z]
  have n2:∀ y,d≠.tup [.str zh,y]:=fun y e=>absurd (hb.mpr ⟨_,e,rfl⟩) (by decide)
  cases b3 with
  | false=>exact .no (by simp -implicitDefEqProofs) (by
    rintro(⟨y,e⟩|⟨_,_,_,e,_⟩)
    ·exact n2 y e
    ·exact absurd (G.mpr ⟨_,e,rfl⟩) (by decide))
  | true =>
   obtain⟨l,rfl,hl⟩:=G.mp rfl
   obtain⟨x,y,z,rfl⟩:=bQ9 hl
   have Y:ixM (.tup [x,y,z]) (.int 0) s=.ok x s:=zI 0 rfl
   have F:ah6 s x:=by obtain⟨m,_,q⟩:=h.tup.2 x (by simp);exact q.thing
   obtain⟨J,e1,N⟩:=zW F zn zo
   refine⟨J,by simp -implicitDefEqProofs [Y,qp,e1],?_⟩
   rw[N]
   constructor
   ·rintro(rfl|rfl)
    ·exact .inr ⟨_,y,z,rfl,.inl rfl⟩
    ·exact .inr ⟨_,y,z,rfl,.inr rfl⟩
   ·rintro(⟨_,e⟩|⟨_,_,_,e,rfl|rfl⟩)
    ·cases e
    ·cases e;exact .inl rfl
    ·cases e;exact .inr rfl
theorem aL8 {k:Nat}{l:List D}(h:aZ5 (.tup l)):al7 (k+1) (.tup l)↔∀ x∈l.drop 1,al7 k x:=by
 rcases h with⟨y,e⟩|⟨x,y,z,e,hx⟩
 ·cases e
  have F:aj2 (.tup [.str zh,y])=some [y]:=by rw[aG8,if_neg (by decide),if_pos rfl]
  constructor
  ·rintro⟨l,e,hl⟩;rw[F]at e;cases e;exact hl
  ·intro hl;exact⟨_,F,hl⟩
 ·cases e
  have F:aj2 (.tup [.str x,y,z])=some [y,z]:=by rw[bg7,if_pos hx]
  constructor
  ·rintro⟨l,e,hl⟩;rw[F]at e;cases e;exact hl
  ·intro hl;exact⟨_,F,hl⟩
theorem zE {d:D}{l:List D}(h:aj2 d=some l):(d=.tup [.str za]/\l=[])\/(∃ y,d=.tup [.str zd,y]/\bJ8 3 y/\l=[])\/(aZ5 d/\∃ a,d=.tup (a::l)):=by
 unfold aj2 at h
 split at h
 ·unfold aI2 at h
  split at h
  ·split at h
   ·rename_i e;cases h;rw[e];exact .inl ⟨rfl,rfl⟩
   ·cases h
  ·split at h
   ·rename_i e
    split at h
    ·rename_i hl;cases h;rw[e];exact .inr (.inl ⟨_,rfl,an3.mp hl,rfl⟩)
    ·cases h
   ·split at h
    ·rename_i e;cases h;rw[e];exact .inr (.inr ⟨.inl ⟨_,rfl⟩,_,rfl⟩)
    ·cases h
  ·split at h
   ·rename_i e;cases h;exact .inr (.inr ⟨.inr ⟨_,_,_,rfl,e⟩,_,rfl⟩)
   ·cases h
  ·cases h
 ·cases h
theorem ar5 {P:Pr}[Has P ab1][Has P ae4][Has P ae5][Has P ah5][HasC P "LETTERS" (.tup aA6)](n:Nat){s:Sto}{B:Nat}(hB:B<=1000){k m:Nat}{d:D}(h:fit s B m d)
  (ih:0<k->∀(m:Nat) (x:D),fit s B m x->aq9 ((aa1 P (n+2)).call "is_built" [x,.int (k:Int)] s) s (al7 k x)) :
  aq9 ((aa1 P (n+3)).call "is_built" [d,.int ((k:Int)+1)] s) s (al7 (k+1) d):=by
 have e0:(aa1 P (n+3)).call "is_built" [d,.int ((k:Int)+1)] s=_:=zc ah5 (n:=n+2) rfl
 rw[e0]
 obtain⟨b,e,hb⟩:=z0 (P:=P) (n+1) h.thing 1
 rw[show((1:Nat):Int)=1 from rfl]at e
 conv=>arg 1;simp -implicitDefEqProofs [ah5,e]
 cases b with
 | true =>
  obtain⟨l,rfl,hl⟩:=hb.mp rfl
  obtain⟨x,rfl⟩:∃ x,l=[x]:=by
   match l,hl with
   | [x],_=>exact⟨x,rfl⟩
  have i0:ixM (.tup [x]) (.int 0) s=.ok x s:=zI 0 rfl
  have G:ah6 s x:=by obtain⟨m,_,q⟩:=h.tup.2 x (by simp);exact q.thing
  obtain⟨b1,e1,q1⟩:=ap9 G za
  refine⟨b1,by simp -implicitDefEqProofs [i0,e1],?_⟩
  rw[q1]
  constructor
  ·rintro rfl;exact⟨[],rfl,fun x hx=>by cases hx⟩
  ·rintro⟨l,e,_⟩
   rcases zE e with⟨e,_⟩|⟨y,e,_⟩|⟨⟨y,e⟩|⟨_,_,_,e,_⟩,_⟩
   ·cases e;rfl
   ·cases e
   ·cases e
   ·cases e
 | false =>
  have n1:∀ x,d≠.tup [x]:=fun x e=>absurd (hb.mpr ⟨_,e,rfl⟩) (by decide)
  obtain⟨b2,e2,N⟩:=z0 (P:=P) (n+1) h.thing 2
  rw[show((2:Nat):Int)=2 from rfl]at e2
  have rest:(∀ y,d≠.tup [.str zd,y])->aq9 ((exs (aa1 P (n+2)) (.cons (.ret (.and (.cmp .gt (.var 1) (.cst (.int 1))) (.and (.call "is_joined" (.ex (.var 0) .nil)) (.mk .all (.comp (.one 0) (.seq (.slL (.var 0) (.cst (.int 1)))) (.call "is_built" (.ex (.var 0) (.ex (.bin .sub (.var 1) (.cst (.int 1))) .nil))) [none,some 1]))))) .nil) [some d,some (.int ((k:Int)+1))] s).bind (fin s)) s (al7 (k+1) d):=fun n2=>by
   have only:al7 (k+1) d->aZ5 d:=by
    rintro⟨l,e,_⟩
    rcases zE e with⟨e,_⟩|⟨y,e,_⟩|⟨hj,_⟩
    ·exact absurd e (n1 _)
    ·exact absurd e (n2 _)
    ·exact hj
   by_cases hk:0<k
   ·have a0:(1:Int)<(k:Int)+1:=by omega
    have F:(k:Int)+1 - 1=(k:Int):=by omega
    obtain⟨b3,e3,Y⟩:=ay4 (P:=P) n h
    conv=>arg 1;simp -implicitDefEqProofs [a0,e3]
    cases b3 with
    | false=>exact .no (by simp -implicitDefEqProofs) fun Z=>absurd (Y.mpr (only Z)) (by decide)
    | true =>
     have hj:=Y.mp rfl
     obtain⟨l,rfl⟩:∃ l,d=.tup l:=by
      rcases hj with⟨y,e⟩|⟨_,_,_,e,_⟩
      ·exact⟨_,e⟩
      ·exact⟨_,e⟩
     have J:slM (.tup l) (some 1) none s=.ok (.tup (l.drop 1)) s:=by show R.ok (D.tup (ar0 l (some 1) none)) s=_;rw[bU1]
     have sT:aR6 (.tup (l.drop 1)) s=.ok ⟨l.drop 1,[]⟩ s:=rfl
     obtain⟨hl,hx⟩:=h.tup
     obtain⟨bs,e4,q4⟩:=as4 (ok:=fun a2=>chk s a2 []) (g:=aV0 (aa1 P (n+2)) (.one 0) (.call "is_built" (.ex (.var 0) (.ex (.bin .sub (.var 1) (.cst (.int 1))) .nil)))) (s:=s) rfl (fun ρ=>∃ x,ρ=[x,some (.int ((k:Int)+1))]) (al7 k) (l.drop 1) (aj3 [some (.tup l),some (.int ((k:Int)+1))] [none,some 1]) ⟨none,rfl⟩ (by
      rintro d hd ρ ⟨x,rfl⟩
      obtain⟨m,_,hm⟩:=hx d (fL hd)
      obtain⟨b,e,hb⟩:=ih hk m d hm
      exact⟨b,[some d,some (.int ((k:Int)+1))],by unfold aV0;simp -implicitDefEqProofs [F,e],⟨_,rfl⟩,hb⟩)
     have a1:(l.drop 1).length<=LIM:=by rw[cJ];unfold LIM;omega
     refine⟨bs.all id,?_,by rw[q4,aL8 hj]⟩
     simp -implicitDefEqProofs only[if_true,z8,R.bind_ok,ai3,aE9,ac6,bh9,ae1,ae2,ae7,ae6,ae3,J,sT,a1,e4,mk,bg4,ac7,ac8,aZ2]
   ·have F:k=0:=by omega
    subst F
    refine .no (by simp -implicitDefEqProofs) fun Z=>?_
    have hj:=only Z
    obtain⟨l,e,hl⟩:=Z
    rcases zE e with⟨e,_⟩|⟨y,e,_⟩|⟨_,a,e'⟩
    ·exact n1 _ e
    ·exact n2 _ e
    ·cases l with
     | nil=>exact n1 _ e'
     | cons x l=>exact hl x (az ..)
  conv=>arg 1;simp -implicitDefEqProofs only[e2,if_false,au,ac2,aa9,R.bind_ok,qm,ae9,af9,ac5,ac4,ab0,ae1,ae2,ae6,ae3,z8]
  cases b2 with
  | false =>
   have:=rest fun y e=>absurd (N.mpr ⟨_,e,rfl⟩) (by decide)
   simp -implicitDefEqProofs only[if_false,au,R.bind_ok,z8,ac2,qm]at this ⊢
   exact this
  | true =>
   obtain⟨l,rfl,hl⟩:=N.mp rfl
   obtain⟨x,y,rfl⟩:=two hl
   have i0:ixM (.tup [x,y]) (.int 0) s=.ok x s:=zI 0 rfl
   have i1:ixM (.tup [x,y]) (.int 1) s=.ok y s:=zI 1 rfl
   have G:ah6 s x:=by obtain⟨m,_,q⟩:=h.tup.2 x (by simp);exact q.thing
   have a3:ah6 s y:=by obtain⟨m,_,q⟩:=h.tup.2 y (by simp);exact q.thing
   obtain⟨b3,e3,q3⟩:=ap9 G zd
   conv=>arg 1;simp -implicitDefEqProofs only[if_true,ae8,ai4,ae1,ae2,ae6,ae3,af2,R.bind_ok,i0,e3,z8]
   cases b3 with
   | false =>
    have:=rest fun z e=>by cases e;exact absurd (q3.mpr rfl) (by decide)
    simp -implicitDefEqProofs only[if_false,au,R.bind_ok,z8,ac2,qm]at this ⊢
    exact this
   | true =>
    have hx:=q3.mp rfl
    subst hx
    obtain⟨b4,e4,q4⟩:=ay2 (P:=P) (n+1) a3 (L:=3) (by decide) (by decide)
    rw[show((3:Nat):Int)=3 from rfl]at e4
    refine⟨b4,by simp -implicitDefEqProofs [i1,e4,au7 (v:=.tup aA6)],?_⟩
    rw[q4]
    constructor
    ·intro hy;exact⟨[],by rw[aG8,if_pos rfl,if_pos (an3.mpr hy)],fun x hx=>by cases hx⟩
    ·rintro⟨l,e,_⟩
     rcases zE e with⟨e,_⟩|⟨z,e,hz,_⟩|⟨⟨z,e⟩|⟨_,_,_,e,_⟩,_⟩
     ·cases e
     ·cases e;exact hz
     ·cases e
     ·cases e
theorem aA8 {P:Pr}[Has P ab1][Has P ae4][Has P ae5][Has P ah5][HasC P "LETTERS" (.tup aA6)](n:Nat){s:Sto}{B:Nat}(z:B<=1000):∀(k:Nat) {m:Nat} {d:D},fit s B m d ->
  aq9 ((aa1 P (n+k+3)).call "is_built" [d,.int ((k:Int)+1)] s) s (al7 (k+1) d):=by
 intro k
 induction k with
 | zero =>
  intro m d h
  exact ar5 n z (k:=0) h (fun hk=>absurd hk (by decide))
 | succ k ih =>
  intro m d h
  have:=ar5 (P:=P) (n+k+1) z (k:=k+1) h (fun _ m x hx=>by
   have:=ih hx
   rw[show((k+1:Nat):Int)=(k:Int)+1 by omega]
   exact this)
  rw[show n+(k+1)+3=n+k+1+3 by omega]
  exact this
theorem ar6:∀ l:List Int,zX (l.map D.int)=some l
 | []=>rfl
 | a::l=>by rw[aY];unfold zX;rw[ar6 l];rfl
theorem bc6 (l:List Nat):(l.map fun(k:Nat)=>(k:Int)).sum=((l.sum:Nat):Int):=by
 induction l with
 | nil=>rfl
 | cons a l ih=>rw[aY,ga,ga,ih];omega
theorem bI7 {l:List Nat}(hl:l.length<=1000)(h:∀ k∈l,k<=1000000000)(s:Sto):mk .sum (l.map fun(k:Nat)=>D.int (k:Int)) s=.ok (.int ((l.sum:Nat):Int)) s:=by
 have e:(l.map fun(k:Nat)=>D.int (k:Int))=(l.map fun(k:Nat)=>(k:Int)).map D.int:=by rw[fm];rfl
 have F:bx6 (l.map fun(k:Nat)=>(k:Int))=true:=by
  unfold bx6
  rw[ag,aQ]
  refine⟨fun i z=>?_,by rw[aK];exact decide_eq_true (by omega)⟩
  obtain⟨k,hk,rfl⟩:=bq.mp z
  have:=h k hk
  exact decide_eq_true (by omega)
 rw[e]
 unfold mk
 simp only[ar6,F,if_true,bc6]
theorem ak4 {α β:Type}{f:α->β}:∀ {l:List α},l.filterMap (fun x=>some (f x))=l.map f
 | []=>rfl
 | a::l=>by rw[bS,ak4];rfl
theorem aN7 {P:Pr}[Has P ac3](n:Nat){s:Sto}:∀(k:Nat) {d:D},k<=20->al7 (k+1) d->(aa1 P (n+k+1)).call "pieces_in" [d] s=.ok (.int (psz (k+1) d)) s:=by
 intro k
 induction k with
 | zero =>
  intro d _ h
  obtain⟨l,e,hl⟩:=h
  have Y:(aa1 P (n+0+1)).call "pieces_in" [d] s=_:=zc ac3 (n:=n) rfl
  rw[Y]
  rcases zE e with⟨rfl,rfl⟩|⟨y,rfl,_,rfl⟩|⟨hj,a,ha⟩
  ·obtain⟨b,eb,z⟩:=zW (s:=s) (d:=.str za) trivial zd za
   have hb:b=true:=z.mpr (.inr rfl)
   subst hb
   have F:ixM (.tup [.str za]) (.int 0) s=.ok (.str za) s:=zI 0 rfl
   simp -implicitDefEqProofs [ac3,F,qp,eb,psz,e]
  ·obtain⟨b,eb,z⟩:=zW (s:=s) (d:=.str zd) trivial zd za
   have hb:b=true:=z.mpr (.inl rfl)
   subst hb
   have F:ixM (.tup [.str zd,y]) (.int 0) s=.ok (.str zd) s:=zI 0 rfl
   simp -implicitDefEqProofs [ac3,F,qp,eb,psz,e]
  ·cases l with
   | nil =>
    rcases hj with⟨y,e⟩|⟨_,_,_,e,_⟩
    ·rw[ha]at e;cases e
    ·rw[ha]at e;cases e
   | cons x l=>exact(hl x (az ..)).elim
 | succ k ih =>
  intro d hk h
  obtain⟨l,e,hl⟩:=h
  have Y:(aa1 P (n+(k+1)+1)).call "pieces_in" [d] s=_:=zc ac3 (n:=n+k+1) rfl
  rw[Y]
  have G:psz (k+1+1) d=1+(l.map (psz (k+1))).sum:=by
   show(match aj2 d with|some l=>1+(l.map (psz (k+1))).sum|none=>0)=_
   rw[e]
  rcases zE e with⟨rfl,rfl⟩|⟨y,rfl,_,rfl⟩|⟨hj,a,rfl⟩
  ·obtain⟨b,eb,z⟩:=zW (s:=s) (d:=.str za) trivial zd za
   have hb:b=true:=z.mpr (.inr rfl)
   subst hb
   have F:ixM (.tup [.str za]) (.int 0) s=.ok (.str za) s:=zI 0 rfl
   rw[G]
   simp -implicitDefEqProofs [ac3,F,qp,eb]
  ·obtain⟨b,eb,z⟩:=zW (s:=s) (d:=.str zd) trivial zd za
   have hb:b=true:=z.mpr (.inl rfl)
   subst hb
   have F:ixM (.tup [.str zd,y]) (.int 0) s=.ok (.str zd) s:=zI 0 rfl
   rw[G]
   simp -implicitDefEqProofs [ac3,F,qp,eb]
  ·obtain⟨v,rfl,hv⟩:∃ v,a=.str v/\¬(v=zd\/v=za):=by
    rcases hj with⟨y,e⟩|⟨x,_,_,e,hx⟩
    ·cases e;exact⟨_,rfl,by decide⟩
    ·cases e
     refine⟨_,rfl,?_⟩
     rcases hx with rfl|rfl<;>decide
   obtain⟨b,eb,z⟩:=zW (s:=s) (d:=.str v) trivial zd za
   have hb:b=false:=by
    cases b with
    | false=>rfl
    | true =>
     rcases z.mp rfl with q|q<;>cases q
     ·exact absurd (.inl rfl) hv
     ·exact absurd (.inr rfl) hv
   subst hb
   have F:ixM (.tup (.str v::l)) (.int 0) s=.ok (.str v) s:=zI 0 rfl
   have J:slM (.tup (.str v::l)) (some 1) none s=.ok (.tup l) s:=by show R.ok (D.tup (ar0 (.str v::l) (some 1) none)) s=_;rw[bU1];rfl
   have sT:aR6 (.tup l) s=.ok ⟨l,[]⟩ s:=rfl
   have h2:=aw8 e
   have Z:l.length<=LIM:=by unfold LIM;omega
   obtain⟨ρ1,s1,e1,a1,_⟩:=aG2 (ok:=fun a0=>chk s a0 []) (g:=aV0 (aa1 P (n+k+1)) (.one 0) (.call "pieces_in" (.ex (.var 0) .nil))) (fun ρ u=>u=s/\∃ x,ρ=[x]) (fun x=>some (.int (psz (k+1) x))) l (aj3 [some (.tup (.str v::l))] [none]) s ⟨rfl,none,rfl⟩ (fun _ _ _=>rfl) (by
    rintro x hx ρ u ⟨rfl,y,rfl⟩
    exact⟨[some x],u,by unfold aV0;simp -implicitDefEqProofs [ih (by omega) (hl x hx)],rfl,_,rfl⟩)
   subst a1
   rw[ak4]at e1
   have em:l.map (fun x=>D.int (psz (k+1) x:Int))=(l.map (psz (k+1))).map fun(k:Nat)=>D.int (k:Int):=by rw[fm];rfl
   rw[em]at e1
   have N:=bI7 (l:=l.map (psz (k+1))) (by rw[aK];omega) (fun q hq=>by
    obtain⟨x,_,rfl⟩:=bq.mp hq
    have h1:=bj2 (k+1) x
    have h3:2^(k+1)<=2^21:=Nat.pow_le_pow_right (by decide) (by omega)
    have h4:2^21<=1000000000:=by decide
    omega) s1
   rw[G]
   simp -implicitDefEqProofs only[ac3,aa9,ac2,aY,cL,eK,cS,aq,ae9,ae8,ai4,ae1,ae2,ae6,ae3,R.bind_ok,F,af7,ab2,ad0,af2,qp,eb,z8,if_false,au,qm,af8,af6,ai3,aE9,ac6,bh9,J,sT,Z,if_true,e1,N,ac9,ac7,ac8,aQ5]
   congr 2
theorem aP3 {P:Pr}[Has P ab1][Has P ae4][Has P ae5][Has P ah5][Has P ac3][Has P aj1][HasC P "LETTERS" (.tup aA6)][HasC P "MOST_DEEP" (.int 12)][HasC P "MOST_PIECES" (.int 40)](n:Nat){s:Sto}{B m:Nat}(J:B<=1000){d:D}(h:fit s B m d) :
  aq9 ((aa1 P (n+15)).call "is_set" [d] s) s (bV9 d):=by
 have Y:(aa1 P (n+15)).call "is_set" [d] s=_:=zc aj1 (n:=n+14) rfl
 rw[Y]
 obtain⟨b,e,hb⟩:=aA8 (P:=P) n J 11 h
 rw[show((11:Nat):Int)+1=12 from rfl]at e
 have e':(aa1 P (n+14)).call "is_built" [d,.int 12] s=.ok (.bl b) s:=e
 conv=>arg 1;simp -implicitDefEqProofs [aj1,au7 (v:=.int 12),e']
 cases b with
 | false=>exact .no (by simp -implicitDefEqProofs) fun G=>absurd (hb.mpr G.1) (by decide)
 | true =>
  have z:=hb.mp rfl
  have N:=aN7 (P:=P) (n+2) (s:=s) 11 (by decide) z
  have F:(aa1 P (n+14)).call "pieces_in" [d] s=.ok (.int (psz 12 d)) s:=N
  refine⟨decide ((psz 12 d:Int)<=40),by simp -implicitDefEqProofs [F,au7 (v:=.int 40)],?_⟩
  rw[decide_eq_true_iff]
  constructor
  ·intro G;exact⟨z,by omega⟩
  ·rintro⟨_,G⟩;omega
noncomputable def SS (s:Sto)(r q:Nat)(b:Nat×Nat)(y:Int):Sto:=(s.set r (zS b)).set q (.lst [.int y])
theorem ak5 {s:Sto}{r q:Nat}{b:Nat×Nat}{y:Int}:(SS s r q b y).length=s.length:=by unfold SS;simp
theorem bV6 {s:Sto}{r q:Nat}{b:Nat×Nat}{y:Int}(h:r<s.length)(hq:r≠q):(SS s r q b y)[r]?=some (zS b):=by
 unfold SS;rw[aL (cP hq)];exact z7 h
theorem bQ3 {s:Sto}{r q:Nat}{b:Nat×Nat}{y:Int}(hq:q<s.length):(SS s r q b y)[q]?=some (.lst [.int y]):=by
 unfold SS;exact z7 (by rw[bF];exact hq)
theorem aW2 {s:Sto}{r q:Nat}{b h:Nat×Nat}{y:Int}(hq:r≠q):(SS s r q b y).set r (zS h)=SS s r q h y:=by
 unfold SS;rw[List.set_comm _ _ (cP hq),de]
theorem aN2 {s:Sto}{r q:Nat}{b:Nat×Nat}{y h:Int}:(SS s r q b y).set q (.lst [.int h])=SS s r q b h:=by
 unfold SS;rw[de]
theorem bu1 {s:Sto}{r q:Nat}{b:Nat×Nat}{y:Int}(h:s[r]?=some (zS b))(z:s[q]?=some (.lst [.int y])):SS s r q b y=s:=by
 unfold SS
 have e1:s.set r (zS b)=s:=by
  have e:s[r]'(af.mp h).1=zS b:=(af.mp h).2
  rw[<-e,dg]
 have e2:s.set q (.lst [.int y])=s:=by
  have e:s[q]'(af.mp z).1=.lst [.int y]:=(af.mp z).2
  rw[<-e,dg]
 rw[e1,e2]
theorem bF6 {s T:Sto}{r q:Nat}{b:Nat×Nat}{y:Int}(h:r<s.length)(hq:q<s.length):SS (s++T) r q b y=SS s r q b y++T:=by
 unfold SS;rw[aD7 h,aD7 (by rw[bF];exact hq)]
theorem bS7 {s:Sto}{r q:Nat}{b z:Nat×Nat}{y h:Int}(hq:r≠q):SS (SS s r q b y) r q z h=SS s r q z h:=by
 show List.set (List.set (SS s r q b y) r (zS z)) q (.lst [.int h])=_
 rw[aW2 hq,aN2]
theorem bc1 {s T:Sto}{r q:Nat}{b:Nat×Nat}{y:Int}{d:D}(h:∀ n,d.bnd n=true)(hd:∀ r,d≠.ref r):zu s d (SS s r q b y++T)=.ok d (SS s r q b y):=by
 have ho:ao8 s (SS s r q b y++T)=true:=by
  unfold ao8
  rw[aQ]
  intro i z
  rw[cc]at z
  rw[aJ (by rw[ak5];exact z)]
  unfold SS
  by_cases e:q=i
  ·subst e;rw[a8 (by simpa using z),bh];exact .inr rfl
  ·rw[aL e]
   by_cases e2:r=i
   ·subst e2;rw[a8 z,bh];exact .inr rfl
   ·rw[aL e2];simp
 have e:(SS s r q b y++T).take s.length=SS s r q b y:=by rw[dw (by rw[ak5];exact ai _),db (by rw[ak5];exact ai _)]
 unfold zu
 rw[if_pos ho]
 cases d with
 | ref r=>exact absurd rfl (hd r)
 | _=>simp only[h,if_true,e]
inductive Tr where
 | nothing|letter (c:Nat)|rep (t:Tr)|two (b:Bool) (t u:Tr)
noncomputable def aA5 (b:Bool):List Nat:=if b then zn else zo
noncomputable def zV (b:Bool):Nat:=if b then 124 else 46
noncomputable def Tr.d:Tr->D
 | .nothing=>.tup [.str za]
 | .letter c=>.tup [.str zd,.str [c]]
 | .rep t=>.tup [.str zh,t.d]
 | .two b t u=>.tup [.str (aA5 b),t.d,u.d]
noncomputable def Tr.wr:Tr->List Nat
 | .nothing=>[45]
 | .letter c=>[c]
 | .rep t=>t.wr++[42]
 | .two b t u=>40::(t.wr++zV b::(u.wr++[41]))
noncomputable def Tr.ok:Tr->Prop
 | .nothing=>True
 | .letter c=>97<=c/\c<100
 | .rep t=>t.ok
 | .two _ t u=>t.ok/\u.ok
noncomputable def Tr.dep:Tr->Nat
 | .nothing=>1
 | .letter _=>1
 | .rep t=>t.dep+1
 | .two _ t u=>max t.dep u.dep+1
noncomputable def Tr.sz:Tr->Nat
 | .nothing=>1
 | .letter _=>1
 | .rep t=>t.sz+1
 | .two _ t u=>t.sz+u.sz+1
theorem Tr.bnd:∀(t:Tr) (n:Nat),t.d.bnd n=true
 | .nothing,n=>rfl
 | .letter c,n=>rfl
 | .rep t,n=>by unfold Tr.d D.bnd D.bndL D.bndL D.bndL;rw[Tr.bnd t n];rfl
 | .two b t u,n=>by unfold Tr.d D.bnd D.bndL D.bndL D.bndL D.bndL;rw[Tr.bnd t n,Tr.bnd u n];rfl
theorem Tr.noref (t:Tr):∀ r,t.d≠.ref r:=by cases t<;>nofun
theorem Tr.tupE (t:Tr):∃ l,t.d=.tup l:=by cases t<;>exact⟨_,rfl⟩
theorem Tr.wr_len:∀ t:Tr,t.wr.length<=4*t.sz
 | .nothing=>by decide
 | .letter _=>by show 1<=4*1;decide
 | .rep t=>by have:=Tr.wr_len t;show(t.wr++[42]).length<=4*(t.sz+1);rw[aA,aX];omega
 | .two b t u=>by
  have:=Tr.wr_len t
  have:=Tr.wr_len u
  show(40::(t.wr++zV b::(u.wr++[41]))).length<=4*(t.sz+u.sz+1)
  simp only[aV,aA,cx]
  omega
theorem Tr.parts:∀ t:Tr,t.ok->∃ l,DV.aj2 t.d=some l/\(match t with|.nothing=>l=[]|.letter _=>l=[]|.rep u=>l=[u.d]|.two _ u v=>l=[u.d,v.d])
 | .nothing,_=>⟨[],rfl,rfl⟩
 | .letter c,h=>⟨[],by show DV.aj2 (.tup [.str zd,.str [c]])=_;rw[aG8,if_pos rfl,if_pos (an3.mpr ⟨c,rfl,h.1,h.2⟩)],rfl⟩
 | .rep t,h=>⟨[t.d],by show DV.aj2 (.tup [.str zh,t.d])=_;rw[aG8,if_neg (by decide),if_pos rfl],rfl⟩
 | .two b t u,h=>⟨[t.d,u.d],by show DV.aj2 (.tup [.str (aA5 b),t.d,u.d])=_;rw[bg7,if_pos (by cases b;exact .inr rfl;exact .inl rfl)],rfl⟩
theorem Tr.built:∀(t:Tr),t.ok->∀ k,t.dep<=k->al7 k t.d
 | .nothing,h,0,hk=>absurd hk (by show ¬(1<=0);omega)
 | .letter _,h,0,hk=>absurd hk (by show ¬(1<=0);omega)
 | .rep _,h,0,hk=>absurd hk (by show ¬(_+1<=0);omega)
 | .two _ _ _,h,0,hk=>absurd hk (by show ¬(_+1<=0);omega)
 | .nothing,h,k+1,hk=>⟨[],rfl,fun x hx=>by cases hx⟩
 | .letter c,h,k+1,hk=>by
  obtain⟨l,e1,e2⟩:=Tr.parts (.letter c) h
  have e2:l=[]:=e2
  subst e2
  exact⟨[],e1,fun x hx=>by cases hx⟩
 | .rep t,h,k+1,hk=>by
  obtain⟨l,e1,e2⟩:=Tr.parts (.rep t) h
  have e2:l=[t.d]:=e2
  subst e2
  exact⟨_,e1,fun x hx=>by rw[bD.mp hx];exact Tr.built t h k (by have:t.dep+1<=k+1:=hk;omega)⟩
 | .two b t u,h,k+1,hk=>by
  obtain⟨l,e1,e2⟩:=Tr.parts (.two b t u) h
  have e2:l=[t.d,u.d]:=e2
  subst e2
  have hk:max t.dep u.dep+1<=k+1:=hk
  refine⟨_,e1,fun x hx=>?_⟩
  simp only[aN,bL,or_false]at hx
  rcases hx with rfl|rfl
  ·exact Tr.built t h.1 k (by omega)
  ·exact Tr.built u h.2 k (by omega)
theorem Tr.psz:∀(t:Tr),t.ok->∀ k,t.dep<=k->psz k t.d=t.sz
 | .nothing,h,0,hk=>absurd hk (by show ¬(1<=0);omega)
 | .letter _,h,0,hk=>absurd hk (by show ¬(1<=0);omega)
 | .rep _,h,0,hk=>absurd hk (by show ¬(_+1<=0);omega)
 | .two _ _ _,h,0,hk=>absurd hk (by show ¬(_+1<=0);omega)
 | .nothing,h,k+1,hk=>rfl
 | .letter c,h,k+1,hk=>by
  obtain⟨l,e1,e2⟩:=Tr.parts (.letter c) h
  have e2:l=[]:=e2
  subst e2
  show(match DV.aj2 (Tr.letter c).d with|some l=>1+(l.map (DV.psz k)).sum|none=>0)=1
  rw[e1];rfl
 | .rep t,h,k+1,hk=>by
  obtain⟨l,e1,e2⟩:=Tr.parts (.rep t) h
  have e2:l=[t.d]:=e2
  subst e2
  show(match DV.aj2 (Tr.rep t).d with|some l=>1+(l.map (DV.psz k)).sum|none=>0)=t.sz+1
  rw[e1]
  show 1+(DV.psz k t.d+0)=_
  rw[Tr.psz t h k (by have:t.dep+1<=k+1:=hk;omega)]
  omega
 | .two b t u,h,k+1,hk=>by
  obtain⟨l,e1,e2⟩:=Tr.parts (.two b t u) h
  have e2:l=[t.d,u.d]:=e2
  subst e2
  have hk:max t.dep u.dep+1<=k+1:=hk
  show(match DV.aj2 (Tr.two b t u).d with|some l=>1+(l.map (DV.psz k)).sum|none=>0)=t.sz+u.sz+1
  rw[e1]
  show 1+(DV.psz k t.d+(DV.psz k u.d+0))=_
  rw[Tr.psz t h.1 k (by omega),Tr.psz u h.2 k (by omega)]
  omega
theorem Tr.setP {t:Tr}(h:t.ok)(hd:t.dep<=12)(hz:t.sz<=40):bV9 t.d:=⟨t.built h 12 hd,by rw[t.psz h 12 hd];exact hz⟩
def bH6 (s:Sto)(r q k room:Nat)(x:R D):Prop:=∃(t:Tr) (b:Nat×Nat) (y:Int),(t.ok/\t.dep<=k/\t.sz<=room)/\x=.ok t.d (SS s r q b y)
theorem aw4 {P:Pr}[Has P aj5][Has P aj8](n:Nat){r q:Nat}(Z:r≠q)(k:Nat)(s:Sto)(room:Nat)(hs:∃ b,s[r]?=some (zS b))(hy:∃ y,s[q]?=some (.lst [.int y]))(a4:1<=room)(c4:room<=40)
  (ih:0<k->∀(s:Sto) (room:Nat),(∃ b,s[r]?=some (zS b))->(∃ y,s[q]?=some (.lst [.int y]))->1<=room->room<=40->bH6 s r q k room ((aa1 P (n+1)).call "_law_set" [.ref r,.int (k:Int),.int room,.ref q] s)) :
  bH6 s r q (k+1) room ((aa1 P (n+2)).call "_law_set" [.ref r,.int ((k:Int)+1),.int room,.ref q] s):=by
 have e0:(aa1 P (n+2)).call "_law_set" [.ref r,.int ((k:Int)+1),.int room,.ref q] s=_:=zc aj8 (n:=n+1) rfl
 rw[e0]
 have hr:=bw4 hs
 obtain⟨b0,c3⟩:=hs
 obtain⟨F,a6⟩:=hy
 have hq:q<s.length:=(af.mp a6).1
 have s0:=bu1 c3 a6
 have tk:∀(b:Nat×Nat) (y:Int) (T:Sto) (many:Int),0<many->many<=1000->∃(k:Nat) (Y:Nat×Nat),(k:Int)<many/\(aa1 P (n+1)).call "_law_take" [.ref r,.int many] (SS s r q b y++T)=.ok (.int k) (SS s r q Y y++T):=fun b y T many h0 h1=>by
  obtain⟨k,Y,h2,h3⟩:=aC6 (P:=P) n (s:=SS s r q b y++T) (r:=r) ⟨b,zK (bV6 hr Z)⟩ many h0 (aD9 h1)
  exact⟨k,Y,h2,by rw[h3,aD7 (by rw[ak5];exact hr),aW2 Z]⟩
 have a2:∀(b:Nat×Nat) (y:Int) (many:Int),0<many->many<=1000->∃(k:Nat) (Y:Nat×Nat),(k:Int)<many/\(aa1 P (n+1)).call "_law_take" [.ref r,.int many] (SS s r q b y)=.ok (.int k) (SS s r q Y y):=fun b y many h0 h1=>by
  have:=tk b y [] many h0 h1
  simpa using this
 have rc:0<k->∀(b:Nat×Nat) (y:Int) (T:Sto) (rm:Nat),1<=rm->rm<=40->∃(d:Tr) (Y:Nat×Nat) (y':Int),(d.ok/\d.dep<=k/\d.sz<=rm)/\(aa1 P (n+1)).call "_law_set" [.ref r,.int (k:Int),.int rm,.ref q] (SS s r q b y++T)=.ok d.d (SS s r q Y y'++T):=fun hk b y T rm h1 h2=>by
  obtain⟨d,Y,y',hd,e⟩:=ih hk (SS s r q b y++T) rm ⟨b,zK (bV6 hr Z)⟩ ⟨y,zK (bQ3 hq)⟩ h1 h2
  exact⟨d,Y,y',hd,by rw[e,bF6 (by rw[ak5];exact hr) (by rw[ak5];exact hq),bS7 Z]⟩
 obtain⟨kind,b1,d1,e1⟩:=a2 b0 F 8 (by decide) (by decide)
 have c2:(aa1 P (n+1)).call "_law_take" [.ref r,.int 8] s=.ok (.int kind) (SS s r q b1 F):=by rw[s0]at e1;exact e1
 have G:∀(d:Tr) (b:Nat×Nat) (y:Int) (T:Sto),(d.ok/\d.dep<=k+1/\d.sz<=room)->bH6 s r q (k+1) room (zu s d.d (SS s r q b y++T)):=fun d b y T hd=>⟨d,b,y,hd,bc1 d.bnd d.noref⟩
 have J:∀(d:Tr) (b:Nat×Nat) (y:Int),(d.ok/\d.dep<=k+1/\d.sz<=room)->bH6 s r q (k+1) room (zu s d.d (SS s r q b y)):=fun d b y hd=>by
  have:=G d b y [] hd
  rwa [bf]at this
 have hc:ev (aa1 P (n+1)) (.or (.cmp .eq (.var 1) (.cst (.int 1))) (.or (.cmp .lt (.var 2) (.cst (.int 3))) (.cmp .eq (.var 4) (.cst (.int 0))))) [some (.ref r),some (.int ((k:Int)+1)),some (.int room),some (.ref q),some (.int kind),none,none,none] (SS s r q b1 F)=.ok (.bl (decide (k=0\/room<3\/kind=0))) (SS s r q b1 F):=by
  by_cases h0:k=0
  ·simp -implicitDefEqProofs [h0]
  ·have a0:¬((k:Int)+1=1):=by omega
   by_cases h1:room<3
   ·have a3:(room:Int)<3:=by omega
    simp -implicitDefEqProofs [h0,a0,h1,a3]
   ·have a3:¬(room:Int)<3:=by omega
    simp -implicitDefEqProofs [h0,a0,h1,a3]
 conv=>arg 6;simp -implicitDefEqProofs only[aj8,aa9,aY,cL,eK,cS,aq,af3,ac5,ac4,ab0,ae1,ae2,ae7,ae6,ae3,R.bind_ok,c2,aa5,af5,af4,aH,aa6,qm,ae9,hc,z8]
 by_cases hleaf:k=0\/room<3\/kind=0
 ·rw[decide_eq_true hleaf]
  obtain⟨z,N,d2,e2⟩:=a2 b1 F 4 (by decide) (by decide)
  have il:ixM (.ref q) (.int 0) (SS s r q N F)=.ok (.int F) (SS s r q N F):=at0 (j:=0) (bQ3 hq) rfl
  have c1:ev (aa1 P (n+1)) (.or (.cmp .eq (.var 5) (.cst (.int 3))) (.cmp .eq (.ix (.var 3) (.cst (.int 0))) (.cst (.int 0)))) [some (.ref r),some (.int ((k:Int)+1)),some (.int room),some (.ref q),some (.int kind),some (.int z),none,none] (SS s r q N F)=.ok (.bl (decide (z=3\/F=0))) (SS s r q N F):=by
   by_cases h0:z=3
   ·simp -implicitDefEqProofs [h0]
   ·have a0:¬((z:Int)=3):=by omega
    simp -implicitDefEqProofs [h0,a0,il]
  conv=>arg 6;simp -implicitDefEqProofs only[if_true,aa9,af3,ac5,ac4,ab0,ae1,ae2,ae7,ae6,ae3,R.bind_ok,e2,aa5,af5,af4,aH,aa6,qm,ae9,c1,z8]
  by_cases h3:z=3\/F=0
  ·rw[decide_eq_true h3]
   conv=>arg 6;simp -implicitDefEqProofs
   exact J .nothing _ _ ⟨trivial,by show 1<=k+1;omega,a4⟩
  ·rw[decide_eq_false h3]
   have b6:setIx (.ref q) (.int 0) (.int (F - 1)) (SS s r q N F)=.ok () (SS s r q N (F - 1)):=by
    have:=bn3 (j:=0) (v:=.int (F - 1)) (bQ3 (b:=N) (y:=F) (r:=r) hq) (by simp)
    rw[show((0:Nat):Int)=0 from rfl]at this
    rw[this]
    congr 1
    exact aN2
   have a5:=bx3 (k:=z) (by omega) (SS s r q N (F - 1))
   conv=>arg 6;simp -implicitDefEqProofs [il,b6,a5]
   exact J (.letter (97+z)) _ _ ⟨⟨by omega,by omega⟩,by show 1<=k+1;omega,a4⟩
 ·rw[decide_eq_false hleaf]
  have a1:0<k:=by omega
  have e5:(k:Int)+1 - 1=(k:Int):=by omega
  by_cases h3:(kind:Int)<3
  ·obtain⟨d,N,y2,hd,e2⟩:=rc a1 b1 F [] (room - 1) (by omega) (by omega)
   rw[bf,bf,show((room - 1:Nat):Int)=(room:Int) - 1 by omega]at e2
   conv=>arg 6;simp -implicitDefEqProofs [h3,e2]
   exact J (.rep d) _ _ ⟨hd.1,by show d.dep+1<=k+1;omega,by show d.sz+1<=room;omega⟩
  ·obtain⟨a,N,ha,e2⟩:=a2 b1 F ((room:Int) - 2) (by omega) (by omega)
   obtain⟨d,b3,y3,hd,e3⟩:=rc a1 N F [] (a+1) (by omega) (by omega)
   rw[bf,bf,show((a+1:Nat):Int)=1+(a:Int)by omega]at e3
   obtain⟨d',b4,y4,b5,e4⟩:=rc a1 b3 y3 [.lst [.str zn,.str zo]] (room - 1 - (a+1)) (by omega) (by omega)
   rw[show((room - 1 - (a+1):Nat):Int)=(room:Int) - 1 - (1+(a:Int))by omega]at e4
   obtain⟨x,hx,ix⟩:∃ x,(x=zn\/x=zo)/\ixM (.ref s.length) (.int ((kind:Int) % 2)) (SS s r q b3 y3++[.lst [.str zn,.str zo]])=.ok (.str x) (SS s r q b3 y3++[.lst [.str zn,.str zo]]):=by
    have hl:(SS s r q b3 y3++[O.lst [.str zn,.str zo]])[s.length]?=some (.lst [.str zn,.str zo]):=by rw[br (by rw[ak5];exact ai _),ak5];simp
    rcases(show(kind:Int) % 2=((0:Nat):Int)\/(kind:Int) % 2=((1:Nat):Int)by omega)with h|h
    ·exact⟨zn,.inl rfl,by rw[h];exact at0 hl rfl⟩
    ·exact⟨zo,.inr rfl,by rw[h];exact at0 hl rfl⟩
   conv=>arg 6;simp -implicitDefEqProofs [h3,e2,e3,ak5,ao1,ix,e4]
   rcases hx with rfl|rfl
   ·exact G (.two true d d') _ _ _ ⟨⟨hd.1,b5.1⟩,by show max d.dep d'.dep+1<=k+1;omega,by show d.sz+d'.sz+1<=room;omega⟩
   ·exact G (.two false d d') _ _ _ ⟨⟨hd.1,b5.1⟩,by show max d.dep d'.dep+1<=k+1;omega,by show d.sz+d'.sz+1<=room;omega⟩
theorem bs5 {P:Pr}[Has P aj5][Has P aj8](n:Nat){r q:Nat}(J:r≠q):∀(k:Nat) (s:Sto) (room:Nat),(∃ b,s[r]?=some (zS b))->(∃ y,s[q]?=some (.lst [.int y]))->1<=room->room<=40 ->
  bH6 s r q (k+1) room ((aa1 P (n+k+2)).call "_law_set" [.ref r,.int ((k:Int)+1),.int room,.ref q] s):=by
 intro k
 induction k with
 | zero=>intro s room z N G F;exact aw4 n J 0 s room z N G F (fun h=>absurd h (by decide))
 | succ k ih =>
  intro s room z N G F
  have:=aw4 (P:=P) (n+k+1) J (k+1) s room z N G F (fun _ s room z N G F=>by
   rw[show((k+1:Nat):Int)=(k:Int)+1 by omega]
   exact ih s room z N G F)
  rw[show n+(k+1)+2=n+k+1+2 by omega]
  exact this
class HasD (P:Pr)(c:String)(kvs:outParam (List (List Nat×List Nat))):Prop where
 cdc:P.cdc c=some kvs
theorem aU3 {P:Pr}{c:String}{kvs:List (List Nat×List Nat)}[h:HasD P c kvs]{n:Nat}:(aa1 P n).cdc c=some kvs:=by
 cases n<;>exact h.cdc
section
variable {F:Fns} {ρ:Env} {s:Sto}
theorem bk2 (es:Es):ev F (.fstr es) ρ s=(evs F es ρ s).bind fun l s=>aW6 l s:=rfl
theorem az2 (e:E)(c:String):ev F (.inC e c) ρ s=(ev F e ρ s).bind fun x s=>aW9 F c x s:=rfl
theorem bp7 (c:String)(e:E):ev F (.getC c e) ρ s=(ev F e ρ s).bind fun x s=>aJ2 F c x s:=rfl
theorem aO0 (i:Int):ev F (.neg (.cst (.int i))) ρ s=.ok (.int (-i)) s:=rfl
end
theorem eqs {a b:List Nat}{v:Bool}(h:(a==b)=v)(s:Sto):zR .eq (.str a) (.str b) s=.ok (.bl v) s:=by rw[<-h];rfl
theorem bR0 {a b c d e:List Nat}(h:(a++(b++(c++(d++e)))).length<=LIM)(s:Sto):aW6 [.str a,.str b,.str c,.str d,.str e] s=.ok (.str (a++(b++(c++(d++e))))) s:=by
 show(if[a,b,c,d,e].flatten.length<=LIM then R.ok (D.str [a,b,c,d,e].flatten) s else .bad)=_
 have:[a,b,c,d,e].flatten=a++(b++(c++(d++e))):=by simp
 rw[this,if_pos h]
section
variable {P:Pr} [Has P ac1] [Has P ad1]
theorem z5:∀(t:Tr),t.sz<=1000->∀(n:Nat) (s:Sto),(aa1 P (n+t.dep)).call "set_text" [t.d] s=.ok (.str t.wr) s
 | .nothing,hz,n,s=>by
  have F:(aa1 P (n+1)).call "set_text" [Tr.nothing.d] s=_:=zc ac1 (n:=n) rfl
  show(aa1 P (n+1)).call "set_text" [Tr.nothing.d] s=_
  rw[F,show(bO some [Tr.nothing.d]++aq ac1.vs none)=[some Tr.nothing.d,none,none,none]from rfl]
  have h:∀ S,ixM Tr.nothing.d (.int 0) S=.ok (.str za) S:=fun S=>zI 0 rfl
  have z:=fun S=>eqs (a:=za) (b:=zd) (v:=false) rfl S
  have N:=fun S=>eqs (a:=za) (b:=za) (v:=true) rfl S
  simp -implicitDefEqProofs only[aa9,ac2,af3,ae9,af8,ai5,ah4,ag8,ab6,ad4,ad8,ag4,ae1,ae6,af6,ah3,ae8,af9,ai8,ah0,af7,ag7,ai4,ac5,ai7,ai3,ag5,ah2,ad5,ad7,ah1,ad9,ad0,ab2,ab0,ac4,ac6,ab5,ae0,ai6,ae3,ag3,af2,R.bind_ok,aa5,aa7,aa8,aa3,af5,af4,ab7,ab9,ae2,ae7,aH,aE,aa6,qm,ac7,ac0,ac8,ab8,ac9,ad2,af1,ag0,ag2,ag1,ag9,ag6,ab3,z8,if_true,if_false,au,decide_true,decide_false,aO,aM,ac1,h,z,N]
  exact zJ
 | .letter c,hz,n,s=>by
  have F:(aa1 P (n+1)).call "set_text" [(Tr.letter c).d] s=_:=zc ac1 (n:=n) rfl
  show(aa1 P (n+1)).call "set_text" [(Tr.letter c).d] s=_
  rw[F,show(bO some [(Tr.letter c).d]++aq ac1.vs none)=[some (Tr.letter c).d,none,none,none]from rfl]
  have h:∀ S,ixM (Tr.letter c).d (.int 0) S=.ok (.str zd) S:=fun S=>zI 0 rfl
  have Y:∀ S,ixM (Tr.letter c).d (.int 1) S=.ok (.str [c]) S:=fun S=>zI 1 rfl
  have z:=fun S=>eqs (a:=zd) (b:=zd) (v:=true) rfl S
  simp -implicitDefEqProofs only[aa9,ac2,af3,ae9,af8,ai5,ah4,ag8,ab6,ad4,ad8,ag4,ae1,ae6,af6,ah3,ae8,af9,ai8,ah0,af7,ag7,ai4,ac5,ai7,ai3,ag5,ah2,ad5,ad7,ah1,ad9,ad0,ab2,ab0,ac4,ac6,ab5,ae0,ai6,ae3,ag3,af2,R.bind_ok,aa5,aa7,aa8,aa3,af5,af4,ab7,ab9,ae2,ae7,aH,aE,aa6,qm,ac7,ac0,ac8,ab8,ac9,ad2,af1,ag0,ag2,ag1,ag9,ag6,ab3,z8,if_true,if_false,au,decide_true,decide_false,aO,aM,ac1,h,Y,z]
  exact zJ
 | .rep t,hz,n,s=>by
  have hz:t.sz+1<=1000:=hz
  have F:(aa1 P (n+t.dep+1)).call "set_text" [(Tr.rep t).d] s=_:=zc ac1 (n:=n+t.dep) rfl
  show(aa1 P (n+t.dep+1)).call "set_text" [(Tr.rep t).d] s=_
  rw[F,show(bO some [(Tr.rep t).d]++aq ac1.vs none)=[some (Tr.rep t).d,none,none,none]from rfl]
  have h:∀ S,ixM (Tr.rep t).d (.int 0) S=.ok (.str zh) S:=fun S=>zI 0 rfl
  have Y:∀ S,ixM (Tr.rep t).d (.int 1) S=.ok t.d S:=fun S=>zI 1 rfl
  have z:=fun S=>eqs (a:=zh) (b:=zd) (v:=false) rfl S
  have N:=fun S=>eqs (a:=zh) (b:=za) (v:=false) rfl S
  have Z:=fun S=>eqs (a:=zh) (b:=zh) (v:=true) rfl S
  have ih:=z5 t (by omega) n s
  have hl:=t.wr_len
  have ha:=ak3 (a:=t.wr) (b:=[42]) (s:=s) (by rw[aX];unfold LIM;omega)
  simp -implicitDefEqProofs only[aa9,ac2,af3,ae9,af8,ai5,ah4,ag8,ab6,ad4,ad8,ag4,ae1,ae6,af6,ah3,ae8,af9,ai8,ah0,af7,ag7,ai4,ac5,ai7,ai3,ag5,ah2,ad5,ad7,ah1,ad9,ad0,ab2,ab0,ac4,ac6,ab5,ae0,ai6,ae3,ag3,af2,R.bind_ok,aa5,aa7,aa8,aa3,af5,af4,ab7,ab9,ae2,ae7,aH,aE,aa6,qm,ac7,ac0,ac8,ab8,ac9,ad2,af1,ag0,ag2,ag1,ag9,ag6,ab3,z8,if_true,if_false,au,decide_true,decide_false,aO,aM,ac1,h,Y,z,N,Z,ih,ha]
  exact zJ
 | .two b t u,hz,n,s=>by
  have hz:t.sz+u.sz+1<=1000:=hz
  have F:(aa1 P (n+max t.dep u.dep+1)).call "set_text" [(Tr.two b t u).d] s=_:=zc ac1 (n:=n+max t.dep u.dep) rfl
  show(aa1 P (n+max t.dep u.dep+1)).call "set_text" [(Tr.two b t u).d] s=_
  rw[F,show(bO some [(Tr.two b t u).d]++aq ac1.vs none)=[some (Tr.two b t u).d,none,none,none]from rfl]
  have h:∀ S,ixM (Tr.two b t u).d (.int 0) S=.ok (.str (aA5 b)) S:=fun S=>zI 0 rfl
  have Y:∀ S,ixM (Tr.two b t u).d (.int 1) S=.ok t.d S:=fun S=>zI 1 rfl
  have i2:∀ S,ixM (Tr.two b t u).d (.int 2) S=.ok u.d S:=fun S=>zI 2 rfl
  have z:=fun S=>eqs (a:=aA5 b) (b:=zd) (v:=false) (by cases b<;>rfl) S
  have N:=fun S=>eqs (a:=aA5 b) (b:=za) (v:=false) (by cases b<;>rfl) S
  have Z:=fun S=>eqs (a:=aA5 b) (b:=zh) (v:=false) (by cases b<;>rfl) S
  have c4:=fun S=>eqs (a:=aA5 b) (b:=zn) (v:=b) (by cases b<;>rfl) S
  have J:=z5 t (by omega) (n+(max t.dep u.dep - t.dep)) s
  rw[show n+(max t.dep u.dep - t.dep)+t.dep=n+max t.dep u.dep by omega]at J
  have G:=z5 u (by omega) (n+(max t.dep u.dep - u.dep)) s
  rw[show n+(max t.dep u.dep - u.dep)+u.dep=n+max t.dep u.dep by omega]at G
  have a1:=t.wr_len
  have a0:=u.wr_len
  have hf:=bR0 (a:=[40]) (b:=t.wr) (c:=[zV b]) (d:=u.wr) (e:=[41]) (by simp only[aA,aX];unfold LIM;omega) s
  have hj:(if b=true then R.ok (D.str [124]) s else R.ok (D.str [46]) s)=R.ok (D.str [zV b]) s:=by cases b<;>rfl
  simp -implicitDefEqProofs only[aa9,ac2,af3,ae9,af8,ai5,ah4,ag8,ab6,ad4,ad8,ag4,ae1,ae6,af6,ah3,ae8,af9,ai8,ah0,af7,ag7,ai4,ac5,ai7,ai3,ag5,ah2,ad5,ad7,ah1,ad9,ad0,ab2,ab0,ac4,ac6,ab5,ae0,ai6,ae3,ag3,af2,R.bind_ok,aa5,aa7,aa8,aa3,af5,af4,ab7,ab9,ae2,ae7,aH,aE,aa6,qm,ac7,ac0,ac8,ab8,ac9,ad2,af1,ag0,ag2,ag1,ag9,ag6,ab3,z8,if_true,if_false,au,decide_true,decide_false,aO,aM,ac1,h,Y,i2,z,N,Z,c4,J,G,hj,bk2,hf]
  exact zJ
theorem qi:∀(t:Tr),t.sz<=1000->∀(n:Nat) (s:Sto),(aa1 P (n+t.dep)).call "_law_written" [t.d] s=.ok (.str t.wr) s
 | .nothing,hz,n,s=>by
  have z:(aa1 P (n+1)).call "_law_written" [Tr.nothing.d] s=_:=zc ad1 (n:=n) rfl
  show(aa1 P (n+1)).call "_law_written" [Tr.nothing.d] s=_
  rw[z,show(bO some [Tr.nothing.d]++aq ad1.vs none)=[some Tr.nothing.d]from rfl]
  have F:∀ S,ixM Tr.nothing.d (.int 0) S=.ok (.str za) S:=fun S=>zI 0 rfl
  have h:=fun S=>eqs (a:=za) (b:=zd) (v:=false) rfl S
  have N:=fun S=>eqs (a:=za) (b:=za) (v:=true) rfl S
  simp -implicitDefEqProofs only[aa9,ac2,af3,ae9,af8,ai5,ah4,ag8,ab6,ad4,ad8,ag4,ae1,ae6,af6,ah3,ae8,af9,ai8,ah0,af7,ag7,ai4,ac5,ai7,ai3,ag5,ah2,ad5,ad7,ah1,ad9,ad0,ab2,ab0,ac4,ac6,ab5,ae0,ai6,ae3,ag3,af2,R.bind_ok,aa5,aa7,aa8,aa3,af5,af4,ab7,ab9,ae2,ae7,aH,aE,aa6,qm,ac7,ac0,ac8,ab8,ac9,ad2,af1,ag0,ag2,ag1,ag9,ag6,ab3,z8,if_true,if_false,au,decide_true,decide_false,aO,aM,ad1,F,h,N]
  exact zJ
 | .letter c,hz,n,s=>by
  have z:(aa1 P (n+1)).call "_law_written" [(Tr.letter c).d] s=_:=zc ad1 (n:=n) rfl
  show(aa1 P (n+1)).call "_law_written" [(Tr.letter c).d] s=_
  rw[z,show(bO some [(Tr.letter c).d]++aq ad1.vs none)=[some (Tr.letter c).d]from rfl]
  have F:∀ S,ixM (Tr.letter c).d (.int 0) S=.ok (.str zd) S:=fun S=>zI 0 rfl
  have Y:∀ S,ixM (Tr.letter c).d (.int 1) S=.ok (.str [c]) S:=fun S=>zI 1 rfl
  have h:=fun S=>eqs (a:=zd) (b:=zd) (v:=true) rfl S
  simp -implicitDefEqProofs only[aa9,ac2,af3,ae9,af8,ai5,ah4,ag8,ab6,ad4,ad8,ag4,ae1,ae6,af6,ah3,ae8,af9,ai8,ah0,af7,ag7,ai4,ac5,ai7,ai3,ag5,ah2,ad5,ad7,ah1,ad9,ad0,ab2,ab0,ac4,ac6,ab5,ae0,ai6,ae3,ag3,af2,R.bind_ok,aa5,aa7,aa8,aa3,af5,af4,ab7,ab9,ae2,ae7,aH,aE,aa6,qm,ac7,ac0,ac8,ab8,ac9,ad2,af1,ag0,ag2,ag1,ag9,ag6,ab3,z8,if_true,if_false,au,decide_true,decide_false,aO,aM,ad1,F,Y,h]
  exact zJ
 | .rep t,hz,n,s=>by
  have hz:t.sz+1<=1000:=hz
  have z:(aa1 P (n+t.dep+1)).call "_law_written" [(Tr.rep t).d] s=_:=zc ad1 (n:=n+t.dep) rfl
  show(aa1 P (n+t.dep+1)).call "_law_written" [(Tr.rep t).d] s=_
  rw[z,show(bO some [(Tr.rep t).d]++aq ad1.vs none)=[some (Tr.rep t).d]from rfl]
  have F:∀ S,ixM (Tr.rep t).d (.int 0) S=.ok (.str zh) S:=fun S=>zI 0 rfl
  have Y:∀ S,ixM (Tr.rep t).d (.int 1) S=.ok t.d S:=fun S=>zI 1 rfl
  have h:=fun S=>eqs (a:=zh) (b:=zd) (v:=false) rfl S
  have N:=fun S=>eqs (a:=zh) (b:=za) (v:=false) rfl S
  have c3:=fun S=>eqs (a:=zh) (b:=zh) (v:=true) rfl S
  have ih:=qi t (by omega) n s
  have hl:=t.wr_len
  have ha:=ak3 (a:=t.wr) (b:=[42]) (s:=s) (by rw[aX];unfold LIM;omega)
  simp -implicitDefEqProofs only[aa9,ac2,af3,ae9,af8,ai5,ah4,ag8,ab6,ad4,ad8,ag4,ae1,ae6,af6,ah3,ae8,af9,ai8,ah0,af7,ag7,ai4,ac5,ai7,ai3,ag5,ah2,ad5,ad7,ah1,ad9,ad0,ab2,ab0,ac4,ac6,ab5,ae0,ai6,ae3,ag3,af2,R.bind_ok,aa5,aa7,aa8,aa3,af5,af4,ab7,ab9,ae2,ae7,aH,aE,aa6,qm,ac7,ac0,ac8,ab8,ac9,ad2,af1,ag0,ag2,ag1,ag9,ag6,ab3,z8,if_true,if_false,au,decide_true,decide_false,aO,aM,ad1,F,Y,h,N,c3,ih,ha]
  exact zJ
 | .two b t u,hz,n,s=>by
  have hz:t.sz+u.sz+1<=1000:=hz
  have z:(aa1 P (n+max t.dep u.dep+1)).call "_law_written" [(Tr.two b t u).d] s=_:=zc ad1 (n:=n+max t.dep u.dep) rfl
  show(aa1 P (n+max t.dep u.dep+1)).call "_law_written" [(Tr.two b t u).d] s=_
  rw[z,show(bO some [(Tr.two b t u).d]++aq ad1.vs none)=[some (Tr.two b t u).d]from rfl]
  have F:∀ S,ixM (Tr.two b t u).d (.int 0) S=.ok (.str (aA5 b)) S:=fun S=>zI 0 rfl
  have Y:∀ S,ixM (Tr.two b t u).d (.int 1) S=.ok t.d S:=fun S=>zI 1 rfl
  have i2:∀ S,ixM (Tr.two b t u).d (.int 2) S=.ok u.d S:=fun S=>zI 2 rfl
  have h:=fun S=>eqs (a:=aA5 b) (b:=zd) (v:=false) (by cases b<;>rfl) S
  have N:=fun S=>eqs (a:=aA5 b) (b:=za) (v:=false) (by cases b<;>rfl) S
  have c3:=fun S=>eqs (a:=aA5 b) (b:=zh) (v:=false) (by cases b<;>rfl) S
  have c4:=fun S=>eqs (a:=aA5 b) (b:=zo) (v:=!b) (by cases b<;>rfl) S
  have Z:=qi t (by omega) (n+(max t.dep u.dep - t.dep)) s
  rw[show n+(max t.dep u.dep - t.dep)+t.dep=n+max t.dep u.dep by omega]at Z
  have G:=qi u (by omega) (n+(max t.dep u.dep - u.dep)) (s++[.lst [.str [124],.str [46]]])
  rw[show n+(max t.dep u.dep - u.dep)+u.dep=n+max t.dep u.dep by omega]at G
  have a0:=t.wr_len
  have a5:=u.wr_len
  have ij:ixM (.ref s.length) (.int (if(!b)=true then 1 else 0)) (s++[.lst [.str [124],.str [46]]])=.ok (.str [zV b]) (s++[.lst [.str [124],.str [46]]]):=by
   cases b
   ·exact at0 (j:=1) (l:=[.str [124],.str [46]]) (by simp) rfl
   ·exact at0 (j:=0) (l:=[.str [124],.str [46]]) (by simp) rfl
  have J:∀ S,bi .int [.bl (!b)] S=.ok (.int (if(!b)=true then 1 else 0)) S:=fun S=>by cases b<;>rfl
  have a1:=ak3 (a:=[40]) (b:=t.wr) (s:=s) (by simp only[aA,aX];unfold LIM;omega)
  have a2:=ak3 (a:=[40]++t.wr) (b:=[zV b]) (s:=s++[.lst [.str [124],.str [46]]]) (by simp only[aA,aX];unfold LIM;omega)
  have a3:=ak3 (a:=[40]++t.wr++[zV b]) (b:=u.wr) (s:=s++[.lst [.str [124],.str [46]]]) (by simp only[aA,aX];unfold LIM;omega)
  have a4:=ak3 (a:=[40]++t.wr++[zV b]++u.wr) (b:=[41]) (s:=s++[.lst [.str [124],.str [46]]]) (by simp only[aA,aX];unfold LIM;omega)
  simp -implicitDefEqProofs only[aa9,ac2,af3,ae9,af8,ai5,ah4,ag8,ab6,ad4,ad8,ag4,ae1,ae6,af6,ah3,ae8,af9,ai8,ah0,af7,ag7,ai4,ac5,ai7,ai3,ag5,ah2,ad5,ad7,ah1,ad9,ad0,ab2,ab0,ac4,ac6,ab5,ae0,ai6,ae3,ag3,af2,R.bind_ok,aa5,aa7,aa8,aa3,af5,af4,ab7,ab9,ae2,ae7,aH,aE,aa6,qm,ac7,ac0,ac8,ab8,ac9,ad2,af1,ag0,ag2,ag1,ag9,ag6,ab3,z8,if_true,if_false,au,decide_true,decide_false,aO,aM,ad1,F,Y,i2,h,N,c3,c4,Z,G,J,ij,a1,a2,a3,a4]
  have hw:[40]++t.wr++[zV b]++u.wr++[41]=(Tr.two b t u).wr:=by
   show _=40::(t.wr++zV b::(u.wr++[41]))
   simp
  rw[hw]
  exact qc (d:=.str _) (fun _=>rfl) (by nofun)
end
noncomputable def row (m:Nat)(f:Nat->Int):List D:=(bB m).map fun j=>.int (f j)
@[simp] theorem bQ4 {m:Nat} {f:Nat->Int}:(row m f).length=m:=by unfold row;simp
noncomputable def bF4 (m:Nat)(f:Nat->Nat->Int):Sto:=(bB m).map fun i=>.lst (row m (f i))
@[simp] theorem bv4 {m:Nat} {f:Nat->Nat->Int}:(bF4 m f).length=m:=by unfold bF4;simp
noncomputable def bY9 (p m:Nat):List D:=(bB m).map fun i=>.ref (p+i)
@[simp] theorem bO3 {F:Fns} {ρ:Env} {s:Sto} (a b:E):evI F (.zip (.seq a) (.seq b)) ρ s=(ev F a ρ s).bind fun x s=>(ev F b ρ s).bind fun y s=>(aM4 x s).bind fun p s=>(aM4 y s).bind fun q s=>.ok ⟨bR6 p.its q.its,p.src++q.src⟩ s:=rfl
theorem ix_str {l:List Nat}{j c:Nat}{s:Sto}(hj:l[j]?=some c):ixM (.str l) (.int (j:Int)) s=.ok (.str [c]) s:=by
 have hl:j<l.length:=(af.mp hj).1
 have e:l[j]=c:=(af.mp hj).2
 simp[ixM,ixn,hl,e]
noncomputable def shN (f:Nat->Nat->Int)(i j:Nat):Nat->Int
 | 0=>3
 | k+1=>let b:=max (max (f i k) (if f k k=1 then 2 else f k k)) (f k j);if b<shN f i j k then b else shN f i j k
noncomputable def sh (m:Nat)(f:Nat->Nat->Int)(i j:Nat):Int:=shN f i j m
inductive Stp where
 | let_ (c:Nat)|pair (i j:Nat)|sharp (i:Nat)
noncomputable def Stp.d:Stp->D
 | .let_ c=>.tup [.str [108,101,116,116,101,114],.str [c]]
 | .pair i j=>.tup [.str [112,97,105,114],.int i,.int j]
 | .sharp i=>.tup [.str [115,104,97,114,112],.int i]
section
variable {s:Sto} {r:Nat} {b:Int} {A B C:List D} {T:Sto}
end
section
variable {m:Nat} {f:Nat->Nat->Int} {x:Int}
end
noncomputable def bP6 (a c:Int)(vs:List Int):Stp->Int
 | .let_ _=>a
 | .pair i j=>vs.getD i 0+vs.getD j 0
 | .sharp i=>vs.getD i 0*c
noncomputable def vl (a c:Int)(l:List Stp):List Int:=l.foldl (fun vs x=>vs++[bP6 a c vs x]) []
section
variable {F:Fns} {ρ:Env} {s:Sto}
end
noncomputable def Stp.t (c:Int):Stp->D
 | .sharp i=>.tup [.str [116,105,109,101,115],.int i,.int c]
 | x=>x.d
section
variable {P:Pr} [Has P bD6] [Has P aq8] [HasL P al8]
end
theorem bf5 {s:Sto}{r q:Nat}{C:List D}(h:s[r]?=some (.lst C))(z:s[q]?=some (.lst [])):zR .ne (.ref r) (.ref q) s=.ok (.bl (!decide (C=[]))) s:=by
 have:eqv s DEEP (.ref r) (.ref q)=some (decide (C=[])):=by
  show(match s[r]?,s[q]? with
   | some (O.lst l),some (O.lst m)=>if l.length=m.length then eqL (eqv s 29) l m else some false
   | _,_=>none)=_
  rw[h,z]
  cases C with
  | nil=>rfl
  | cons a l=>simp
 show(match eqv s DEEP (.ref r) (.ref q)with|some r=>R.ok (D.bl (!r)) s|none=>.bad)=_
 rw[this]
theorem ao2 {s:Sto}{r:Nat}{l:List D}{d:D}(h:s[r]?=some (.lst (l++[d]))):meth .pop (.ref r) [] s=.ok d (s.set r (.lst l)):=by
 show(match s[r]? with|some (.lst l)=>(match l.getLast? with|some d=>R.ok d (s.set r (.lst l.dropLast))|none=>.bad)|_=>.bad:R D)=_
 rw[h]
 show(match(l++[d]).getLast? with|some e=>R.ok e (s.set r (.lst (l++[d]).dropLast))|none=>.bad:R D)=_
 rw[List.getLast?_concat,List.dropLast_concat]
theorem bW8 {s:Sto}{a b:Nat}{l m:List D}(z:s[a]?=some (.lst l))(F:s[b]?=some (.lst m))(h:l.length+m.length<=LIM):am6 .add (.ref a) (.ref b) s=.ok (.ref s.length) (s++[.lst (l++m)]):=by
 show(match s[a]?,s[b]? with|some (.lst l),some (.lst m)=>(if l.length+m.length<=LIM then ai9 (.lst (l++m)) s else .bad)|_,_=>.bad:R D)=_
 rw[z,F]
 exact if_pos h
theorem bh1 {s:Sto}{a:Nat}{l p:List D}{x:D}{k:Nat}{i:Int}(h:s[a]?=some (.lst l))(z:i=-((k:Int)+1))(hk:k+1<=l.length)(hx:l[l.length - (k+1)]?=some x):ixM (.ref a) (.int i) s=.ok x s:=by
 subst z
 have e:ixn l.length (-((k:Int)+1))=some (l.length - (k+1)):=by
  unfold ixn
  rw[if_neg (by omega),if_pos (by omega)]
  congr 1
  omega
 show(match s[a]? with
  | some (.lst l)=>(match(D.int (-((k:Int)+1)))with|.int i=>(match(ixn l.length i).bind fun j=>l[j]? with|some d=>R.ok d s|none=>.bad)|_=>.bad)
  | some (.ro l)=>(match(D.int (-((k:Int)+1)))with|.int i=>(match(ixn l.length i).bind fun j=>l[j]? with|some d=>R.ok d s|none=>.bad)|_=>.bad)
  | some (.dic l)=>_
  | some (.dit l)=>_
  | _=>.bad)=_
 rw[h]
 show(match(ixn l.length (-((k:Int)+1))).bind fun j=>l[j]? with|some d=>R.ok d s|none=>.bad)=_
 rw[e,aE,hx]
section
variable {P:Pr} [Has P aa4] [Has P ab4] [Has P af0] [Has P aa2] [HasC P "LETTERS" (.tup aA6)] [HasD P "JOINTS" [([124],zn),([46],zo)]]
theorem aX9 (n:Nat){s:Sto}{a:Nat}(h:s[a]?=some (.lst [])):(aa1 P (n+1)).call "ends_with_set" [.ref a] s=.ok (.bl false) s:=by
 have z:(aa1 P (n+1)).call "ends_with_set" [.ref a] s=_:=zc aa4 (n:=n) rfl
 rw[z,show(bO some [D.ref a]++aq aa4.vs none)=[some (.ref a)]from rfl]
 have hn:=bf5 (s:=s++[.lst []]) (r:=a) (q:=s.length) (C:=[]) (zK h) (by simp)
 simp -implicitDefEqProofs only[aa9,ac2,af3,ae9,af8,ai5,ah4,ag8,ab6,ad4,ad8,ag4,ae1,ae6,af6,ah3,ae8,af9,ai8,ah0,af7,ag7,ai4,ac5,ai7,ai3,ag5,ah2,ad5,ad7,ah1,ad9,ad0,ab2,ab0,ac4,ac6,ab5,ae0,ai6,ae3,ag3,af2,R.bind_ok,aa5,aa7,aa8,aa3,af5,af4,ab7,ab9,ae2,ae7,aH,aE,aa6,qm,ac7,ac0,ac8,ab8,ac9,ad2,af1,ag0,ag2,ag1,ag9,ag6,ab3,z8,if_true,if_false,au,decide_true,decide_false,aO,aM,aa4,hn]
 exact qc (d:=.bl false) (fun _=>rfl) (by nofun)
theorem az6 (n:Nat){s:Sto}{a:Nat}{p:List D}{x:D}{b:Bool}(h:s[a]?=some (.lst (p++[x])))(hx:∀ S,bi .isTup [x] S=.ok (.bl b) S):(aa1 P (n+1)).call "ends_with_set" [.ref a] s=.ok (.bl b) s:=by
 have F:(aa1 P (n+1)).call "ends_with_set" [.ref a] s=_:=zc aa4 (n:=n) rfl
 rw[F,show(bO some [D.ref a]++aq aa4.vs none)=[some (.ref a)]from rfl]
 have hn:=bf5 (s:=s++[.lst []]) (r:=a) (q:=s.length) (zK h) (by simp)
 rw[decide_eq_false (by simp)]at hn
 have z:=bh1 (s:=s++[.lst []]) (p:=p) (k:=0) (i:=-1) (zK h) rfl (by simp) (x:=x) (by simp)
 simp -implicitDefEqProofs only[aa9,ac2,af3,ae9,af8,ai5,ah4,ag8,ab6,ad4,ad8,ag4,ae1,ae6,af6,ah3,ae8,af9,ai8,ah0,af7,ag7,ai4,ac5,ai7,ai3,ag5,ah2,ad5,ad7,ah1,ad9,ad0,ab2,ab0,ac4,ac6,ab5,ae0,ai6,ae3,ag3,af2,R.bind_ok,aa5,aa7,aa8,aa3,af5,af4,ab7,ab9,ae2,ae7,aH,aE,aa6,qm,ac7,ac0,ac8,ab8,ac9,ad2,af1,ag0,ag2,ag1,ag9,ag6,ab3,z8,if_true,if_false,au,decide_true,decide_false,aO,aM,aa4,hn,aO0,z,hx]
 exact qc (d:=.bl b) (fun _=>rfl) (by nofun)
theorem aB9 (n:Nat){s:Sto}{a:Nat}{p:List D}{t:Tr}(h:s[a]?=some (.lst (p++[t.d]))):(aa1 P (n+1)).call "ends_with_set" [.ref a] s=.ok (.bl true) s :=
 az6 n h fun S=>by obtain⟨l,e⟩:=t.tupE;rw[e];rfl
theorem aX1 (n:Nat){s:Sto}{a:Nat}{p:List D}{c:List Nat}(h:s[a]?=some (.lst (p++[.str c]))):(aa1 P (n+1)).call "ends_with_set" [.ref a] s=.ok (.bl false) s :=
 az6 n h fun S=>rfl
theorem aG4 (n:Nat){s:Sto}{a:Nat}{p:List D}{x:D}{c:List Nat}(h:s[a]?=some (.lst (p++[.str c,x]))):(aa1 P (n+1)).call "ahead_of_last" [.ref a] s=.ok (.str c) s:=by
 have F:(aa1 P (n+1)).call "ahead_of_last" [.ref a] s=_:=zc ab4 (n:=n) rfl
 rw[F,show(bO some [D.ref a]++aq ab4.vs none)=[some (.ref a)]from rfl]
 have hl:=aP2 h
 have hg:decide ((1:Int)<((p++[D.str c,x]).length:Int))=true:=decide_eq_true (by simp;omega)
 have z:=bh1 (p:=p) (k:=1) (i:=-2) h rfl (by simp) (x:=.str c) (by simp)
 simp -implicitDefEqProofs only[aa9,ac2,af3,ae9,af8,ai5,ah4,ag8,ab6,ad4,ad8,ag4,ae1,ae6,af6,ah3,ae8,af9,ai8,ah0,af7,ag7,ai4,ac5,ai7,ai3,ag5,ah2,ad5,ad7,ah1,ad9,ad0,ab2,ab0,ac4,ac6,ab5,ae0,ai6,ae3,ag3,af2,R.bind_ok,aa5,aa7,aa8,aa3,af5,af4,ab7,ab9,ae2,ae7,aH,aE,aa6,qm,ac7,ac0,ac8,ab8,ac9,ad2,af1,ag0,ag2,ag1,ag9,ag6,ab3,z8,if_true,if_false,au,decide_true,decide_false,aO,aM,ab4,hl,hg,aO0,z]
 exact zJ
def bu4 (pl:List D):Prop:=pl=[]\/∃ p c,pl=p++[.str c]
theorem bu4.ends {z:List D}(h:bu4 z)(n:Nat){s:Sto}{a:Nat}(hs:s[a]?=some (.lst z)):(aa1 P (n+1)).call "ends_with_set" [.ref a] s=.ok (.bl false) s:=by
 rcases h with rfl|⟨p,c,rfl⟩
 ·exact aX9 n hs
 ·exact aX1 n hs
theorem ba0 (n:Nat)(b:Bool)(s:Sto):aJ2 (aa1 P n) "JOINTS" (.str [zV b]) s=.ok (.str (aA5 b)) s:=by
 unfold aJ2
 rw[aU3 (kvs:=[([124],zn),([46],zo)])]
 cases b<;>rfl
theorem z9 (n:Nat)(x:List Nat)(s:Sto):aW9 (aa1 P n) "JOINTS" (.str x) s=.ok (.bl (x==[124]||x==[46])) s:=by
 unfold aW9
 rw[aU3 (kvs:=[([124],zn),([46],zo)])]
 show R.ok (D.bl (gT x [([124],zn),([46],zo)]).isSome) s=_
 rw[aP,aP]
 cases h1:x==[124]with
 | true=>rfl
 | false =>
  cases h2:x==[46]with
  | true=>rfl
  | false=>rfl
theorem bq9 (n:Nat){s:Sto}{a:Nat}{p:List D}(G:∀ d∈p,∀ n,d.bnd n=true)(hl:p.length<=1000){b:Bool}{t u:Tr}(h:s[a]?=some (.lst (p++[.str [40],t.d,.str [zV b],u.d]))) :
  (aa1 P (n+1)).call "join_last" [.ref a] s=.ok .non (s.set a (.lst (p++[(Tr.two b t u).d]))):=by
 have J:(aa1 P (n+1)).call "join_last" [.ref a] s=_:=zc af0 (n:=n) rfl
 rw[J,show(bO some [D.ref a]++aq af0.vs none)=[some (.ref a),none,none,none]from rfl]
 have ha:a<s.length:=(af.mp h).1
 have p1:=ao2 (l:=p++[.str [40],t.d,.str [zV b]]) (d:=u.d) (by rw[bj];exact h)
 have z:=ao2 (s:=s.set a (.lst (p++[.str [40],t.d,.str [zV b]]))) (r:=a) (l:=p++[.str [40],t.d]) (d:=.str [zV b]) (by rw[z7 ha,bj];rfl)
 have p3:=ao2 (s:=s.set a (.lst (p++[.str [40],t.d]))) (r:=a) (l:=p++[.str [40]]) (d:=t.d) (by rw[z7 ha,bj];rfl)
 have p4:=ao2 (s:=s.set a (.lst (p++[.str [40]]))) (r:=a) (l:=p) (d:=.str [40]) (z7 ha)
 rw[de]at z p3 p4
 have F:=zC (s:=s.set a (.lst p)) (r:=a) (l:=p) (v:=.tup [.str (aA5 b),t.d,u.d]) (z7 ha) (by unfold LIM;omega)
 rw[de]at F
 have N:=fun S=>ba0 (P:=P) n b S
 simp -implicitDefEqProofs only[aa9,ac2,af3,ae9,af8,ai5,ah4,ag8,ab6,ad4,ad8,ag4,ae1,ae6,af6,ah3,ae8,af9,ai8,ah0,af7,ag7,ai4,ac5,ai7,ai3,ag5,ah2,ad5,ad7,ah1,ad9,ad0,ab2,ab0,ac4,ac6,ab5,ae0,ai6,ae3,ag3,af2,R.bind_ok,aa5,aa7,aa8,aa3,af5,af4,ab7,ab9,ae2,ae7,aH,aE,aa6,qm,ac7,ac0,ac8,ab8,ac9,ad2,af1,ag0,ag2,ag1,ag9,ag6,ab3,z8,if_true,if_false,au,decide_true,decide_false,aO,aM,af0,p1,z,p3,p4,bp7,N,F]
 exact ql (d:=.non) (fun _=>rfl) (by nofun) (by
  unfold O.bnd
  refine aI8 (fun d hd n=>?_) _
  rcases bE.mp hd with h|h
  ·exact G d h n
  ·rw[bD.mp h];exact(Tr.two b t u).bnd n)
end
section
variable {P:Pr} [Has P aa4] [Has P ab4] [Has P af0] [Has P aa2] [HasC P "LETTERS" (.tup aA6)] [HasD P "JOINTS" [([124],zn),([46],zo)]]
theorem aw2 (n:Nat)(ρ:Env)(s:Sto):ev (aa1 P n) (.glob "LETTERS") ρ s=.ok (.tup aA6) s:=by
 show(match(aa1 P n).con "LETTERS" with|some d=>R.ok d s|none=>.bad)=_
 rw[aU6 (v:=.tup aA6)]
theorem qh {s:Sto}{a:Nat}{l:List D}(h:∀ d∈l,∀ n,d.bnd n=true):zu s .non (s.set a (.lst l))=.ok .non (s.set a (.lst l)) :=
 ql (d:=.non) (fun _=>rfl) (by nofun) (by unfold O.bnd;exact aI8 h _)
theorem qf {p:List D}{x:D}(z:∀ d∈p,∀ n,d.bnd n=true)(hx:∀ n,x.bnd n=true):∀ d∈p++[x],∀ n,d.bnd n=true:=fun d hd n=>by
 rcases bE.mp hd with h|h
 ·exact z d h n
 ·rw[bD.mp h];exact hx n
theorem be0 (n:Nat){s:Sto}{a:Nat}{p:List D}(F:∀ d∈p,∀ n,d.bnd n=true)(hl:p.length<=1000){t:Tr}(h:s[a]?=some (.lst (p++[t.d]))) :
  (aa1 P (n+2)).call "lay_sign" [.ref a,.str [42]] s=.ok .non (s.set a (.lst (p++[(Tr.rep t).d]))):=by
 have J:(aa1 P (n+2)).call "lay_sign" [.ref a,.str [42]] s=_:=zc aa2 (n:=n+1) rfl
 rw[J,show(bO some [D.ref a,.str [42]]++aq aa2.vs none)=[some (.ref a),some (.str [42])]from rfl]
 have ha:a<s.length:=(af.mp h).1
 have G:=fun S=>eqs (a:=[42]) (b:=[42]) (v:=true) rfl S
 have N:=aB9 (P:=P) n h
 have p1:=ao2 h
 have z:=zC (s:=s.set a (.lst p)) (r:=a) (l:=p) (v:=.tup [.str zh,t.d]) (z7 ha) (by unfold LIM;omega)
 rw[de]at z
 simp -implicitDefEqProofs only[aa9,ac2,af3,ae9,af8,ai5,ah4,ag8,ab6,ad4,ad8,ag4,ae1,ae6,af6,ah3,ae8,af9,ai8,ah0,af7,ag7,ai4,ac5,ai7,ai3,ag5,ah2,ad5,ad7,ah1,ad9,ad0,ab2,ab0,ac4,ac6,ab5,ae0,ai6,ae3,ag3,af2,R.bind_ok,aa5,aa7,aa8,aa3,af5,af4,ab7,ab9,ae2,ae7,aH,aE,aa6,qm,ac7,ac0,ac8,ab8,ac9,ad2,af1,ag0,ag2,ag1,ag9,ag6,ab3,z8,if_true,if_false,au,decide_true,decide_false,aO,aM,aa2,G,N,p1,z]
 exact qh (qf F (Tr.rep t).bnd)
theorem aR2 (n:Nat){s:Sto}{a:Nat}{p:List D}(z:∀ d∈p,∀ n,d.bnd n=true)(hl:p.length<=1000){b:Bool}{t u:Tr}(h:s[a]?=some (.lst (p++[.str [40],t.d,.str [zV b],u.d]))) :
  (aa1 P (n+2)).call "lay_sign" [.ref a,.str [41]] s=.ok .non (s.set a (.lst (p++[(Tr.two b t u).d]))):=by
 have N:(aa1 P (n+2)).call "lay_sign" [.ref a,.str [41]] s=_:=zc aa2 (n:=n+1) rfl
 rw[N,show(bO some [D.ref a,.str [41]]++aq aa2.vs none)=[some (.ref a),some (.str [41])]from rfl]
 have J:=fun S=>eqs (a:=[41]) (b:=[42]) (v:=false) rfl S
 have Y:=fun S=>eqs (a:=[41]) (b:=[41]) (v:=true) rfl S
 have Z:=aB9 (P:=P) n (p:=p++[.str [40],t.d,.str [zV b]]) (t:=u) (by rw[bj];exact h)
 have G:=aG4 (P:=P) n (p:=p++[.str [40],t.d]) (c:=[zV b]) (x:=u.d) (by rw[bj];exact h)
 have F:=z9 (P:=P) (n+1) [zV b] s
 have hj:([zV b]==[124]||[zV b]==[46])=true:=by cases b<;>rfl
 rw[hj]at F
 have jo:=bq9 (P:=P) n z hl h
 simp -implicitDefEqProofs only[aa9,ac2,af3,ae9,af8,ai5,ah4,ag8,ab6,ad4,ad8,ag4,ae1,ae6,af6,ah3,ae8,af9,ai8,ah0,af7,ag7,ai4,ac5,ai7,ai3,ag5,ah2,ad5,ad7,ah1,ad9,ad0,ab2,ab0,ac4,ac6,ab5,ae0,ai6,ae3,ag3,af2,R.bind_ok,aa5,aa7,aa8,aa3,af5,af4,ab7,ab9,ae2,ae7,aH,aE,aa6,qm,ac7,ac0,ac8,ab8,ac9,ad2,af1,ag0,ag2,ag1,ag9,ag6,ab3,z8,if_true,if_false,au,decide_true,decide_false,aO,aM,aa2,J,Y,Z,az2,G,F,jo]
 exact qh (qf z (Tr.two b t u).bnd)
theorem aQ4 (n:Nat){s:Sto}{a:Nat}{p:List D}(G:∀ d∈p,∀ n,d.bnd n=true)(hl:p.length<=1000)(b:Bool){t:Tr}(h:s[a]?=some (.lst (p++[.str [40],t.d]))) :
  (aa1 P (n+2)).call "lay_sign" [.ref a,.str [zV b]] s=.ok .non (s.set a (.lst (p++[.str [40],t.d,.str [zV b]]))):=by
 have Y:(aa1 P (n+2)).call "lay_sign" [.ref a,.str [zV b]] s=_:=zc aa2 (n:=n+1) rfl
 rw[Y,show(bO some [D.ref a,.str [zV b]]++aq aa2.vs none)=[some (.ref a),some (.str [zV b])]from rfl]
 have N:=fun S=>eqs (a:=[zV b]) (b:=[42]) (v:=false) (by cases b<;>rfl) S
 have Z:=fun S=>eqs (a:=[zV b]) (b:=[41]) (v:=false) (by cases b<;>rfl) S
 have c3:=fun S=>eqs (a:=[40]) (b:=[40]) (v:=true) rfl S
 have z:=z9 (P:=P) (n+1) [zV b] s
 have hj:([zV b]==[124]||[zV b]==[46])=true:=by cases b<;>rfl
 rw[hj]at z
 have ee:=aB9 (P:=P) n (p:=p++[.str [40]]) (t:=t) (by rw[bj];exact h)
 have J:=aG4 (P:=P) n (p:=p) (c:=[40]) (x:=t.d) h
 have F:=zC (s:=s) (r:=a) (v:=.str [zV b]) h (by rw[aA];unfold LIM;simp;omega)
 rw[bj]at F
 simp -implicitDefEqProofs only[aa9,ac2,af3,ae9,af8,ai5,ah4,ag8,ab6,ad4,ad8,ag4,ae1,ae6,af6,ah3,ae8,af9,ai8,ah0,af7,ag7,ai4,ac5,ai7,ai3,ag5,ah2,ad5,ad7,ah1,ad9,ad0,ab2,ab0,ac4,ac6,ab5,ae0,ai6,ae3,ag3,af2,R.bind_ok,aa5,aa7,aa8,aa3,af5,af4,ab7,ab9,ae2,ae7,aH,aE,aa6,qm,ac7,ac0,ac8,ab8,ac9,ad2,af1,ag0,ag2,ag1,ag9,ag6,ab3,z8,if_true,if_false,au,decide_true,decide_false,aO,aM,aa2,N,Z,c3,az2,z,ee,J,F]
 exact qh (fun d hd n=>by
  rcases bE.mp hd with h|h
  ·exact G d h n
  ·have h:d=.str [40]\/d=t.d\/d=.str [zV b]:=by simpa using h
   rcases h with rfl|rfl|rfl
   ·rfl
   ·exact t.bnd n
   ·rfl)
theorem be8 (n:Nat){s:Sto}{a:Nat}{p:List D}(z:∀ d∈p,∀ n,d.bnd n=true)(hl:p.length<=1000)(ho:bu4 p)(h:s[a]?=some (.lst p)) :
  (aa1 P (n+2)).call "lay_sign" [.ref a,.str [40]] s=.ok .non (s.set a (.lst (p++[.str [40]]))):=by
 have N:(aa1 P (n+2)).call "lay_sign" [.ref a,.str [40]] s=_:=zc aa2 (n:=n+1) rfl
 rw[N,show(bO some [D.ref a,.str [40]]++aq aa2.vs none)=[some (.ref a),some (.str [40])]from rfl]
 have F:=fun S=>eqs (a:=[40]) (b:=[42]) (v:=false) rfl S
 have Y:=fun S=>eqs (a:=[40]) (b:=[41]) (v:=false) rfl S
 have c3:=fun S=>eqs (a:=[40]) (b:=[40]) (v:=true) rfl S
 have G:aW9 (aa1 P (n+1)) "JOINTS" (.str [40]) s=.ok (.bl false) s:=z9 (P:=P) (n+1) [40] s
 have Z:=ho.ends (P:=P) n h
 have J:=zC (s:=s) (r:=a) (v:=.str [40]) h (by unfold LIM;omega)
 simp -implicitDefEqProofs only[aa9,ac2,af3,ae9,af8,ai5,ah4,ag8,ab6,ad4,ad8,ag4,ae1,ae6,af6,ah3,ae8,af9,ai8,ah0,af7,ag7,ai4,ac5,ai7,ai3,ag5,ah2,ad5,ad7,ah1,ad9,ad0,ab2,ab0,ac4,ac6,ab5,ae0,ai6,ae3,ag3,af2,R.bind_ok,aa5,aa7,aa8,aa3,af5,af4,ab7,ab9,ae2,ae7,aH,aE,aa6,qm,ac7,ac0,ac8,ab8,ac9,ad2,af1,ag0,ag2,ag1,ag9,ag6,ab3,z8,if_true,if_false,au,decide_true,decide_false,aO,aM,aa2,F,Y,c3,az2,G,Z,J]
 exact qh (qf z fun _=>rfl)
theorem be6 (n:Nat){s:Sto}{a:Nat}{p:List D}(z:∀ d∈p,∀ n,d.bnd n=true)(hl:p.length<=1000)(ho:bu4 p)(h:s[a]?=some (.lst p)) :
  (aa1 P (n+2)).call "lay_sign" [.ref a,.str [45]] s=.ok .non (s.set a (.lst (p++[Tr.nothing.d]))):=by
 have Y:(aa1 P (n+2)).call "lay_sign" [.ref a,.str [45]] s=_:=zc aa2 (n:=n+1) rfl
 rw[Y,show(bO some [D.ref a,.str [45]]++aq aa2.vs none)=[some (.ref a),some (.str [45])]from rfl]
 have G:=fun S=>eqs (a:=[45]) (b:=[42]) (v:=false) rfl S
 have Z:=fun S=>eqs (a:=[45]) (b:=[41]) (v:=false) rfl S
 have c3:=fun S=>eqs (a:=[45]) (b:=[40]) (v:=false) rfl S
 have F:=fun S=>eqs (a:=[45]) (b:=[45]) (v:=true) rfl S
 have J:aW9 (aa1 P (n+1)) "JOINTS" (.str [45]) s=.ok (.bl false) s:=z9 (P:=P) (n+1) [45] s
 have ee:=ho.ends (P:=P) n h
 have N:=zC (s:=s) (r:=a) (v:=.tup [.str za]) h (by unfold LIM;omega)
 simp -implicitDefEqProofs only[aa9,ac2,af3,ae9,af8,ai5,ah4,ag8,ab6,ad4,ad8,ag4,ae1,ae6,af6,ah3,ae8,af9,ai8,ah0,af7,ag7,ai4,ac5,ai7,ai3,ag5,ah2,ad5,ad7,ah1,ad9,ad0,ab2,ab0,ac4,ac6,ab5,ae0,ai6,ae3,ag3,af2,R.bind_ok,aa5,aa7,aa8,aa3,af5,af4,ab7,ab9,ae2,ae7,aH,aE,aa6,qm,ac7,ac0,ac8,ab8,ac9,ad2,af1,ag0,ag2,ag1,ag9,ag6,ab3,z8,if_true,if_false,au,decide_true,decide_false,aO,aM,aa2,G,Z,c3,F,az2,J,ee,N]
 exact qh (qf z Tr.nothing.bnd)
theorem aL9 (n:Nat){s:Sto}{a:Nat}{p:List D}(hp:∀ d∈p,∀ n,d.bnd n=true)(hl:p.length<=1000)(ho:bu4 p){c:Nat}(hc:97<=c/\c<100)(h:s[a]?=some (.lst p)) :
  (aa1 P (n+2)).call "lay_sign" [.ref a,.str [c]] s=.ok .non (s.set a (.lst (p++[(Tr.letter c).d]))):=by
 have N:(aa1 P (n+2)).call "lay_sign" [.ref a,.str [c]] s=_:=zc aa2 (n:=n+1) rfl
 rw[N,show(bO some [D.ref a,.str [c]]++aq aa2.vs none)=[some (.ref a),some (.str [c])]from rfl]
 have ne:∀ k:Nat,k<97->([c]==[k])=false:=fun k hk=>by simp;omega
 have F:([c]==[124])=false:=by simp;omega
 have J:=fun S=>eqs (a:=[c]) (b:=[42]) (v:=false) (ne 42 (by decide)) S
 have Y:=fun S=>eqs (a:=[c]) (b:=[41]) (v:=false) (ne 41 (by decide)) S
 have c3:=fun S=>eqs (a:=[c]) (b:=[40]) (v:=false) (ne 40 (by decide)) S
 have c4:=fun S=>eqs (a:=[c]) (b:=[45]) (v:=false) (ne 45 (by decide)) S
 have z:=z9 (P:=P) (n+1) [c] s
 rw[F,ne 46 (by decide)]at z
 have z:aW9 (aa1 P (n+1)) "JOINTS" (.str [c]) s=.ok (.bl false) s:=z
 have Z:=ho.ends (P:=P) n h
 have ea:=zC (s:=s) (r:=a) (v:=.tup [.str zd,.str [c]]) h (by unfold LIM;omega)
 have G:zR .isin (.str [c]) (.tup aA6) s=.ok (.bl true) s:=by
  have:c=97\/c=98\/c=99:=by omega
  rcases this with rfl|rfl|rfl<;>rfl
 have gl:=fun ρ S=>aw2 (P:=P) (n+1) ρ S
 simp -implicitDefEqProofs only[aa9,ac2,af3,ae9,af8,ai5,ah4,ag8,ab6,ad4,ad8,ag4,ae1,ae6,af6,ah3,ae8,af9,ai8,ah0,af7,ag7,ai4,ac5,ai7,ai3,ag5,ah2,ad5,ad7,ah1,ad9,ad0,ab2,ab0,ac4,ac6,ab5,ae0,ai6,ae3,ag3,af2,R.bind_ok,aa5,aa7,aa8,aa3,af5,af4,ab7,ab9,ae2,ae7,aH,aE,aa6,qm,ac7,ac0,ac8,ab8,ac9,ad2,af1,ag0,ag2,ag1,ag9,ag6,ab3,z8,if_true,if_false,au,decide_true,decide_false,aO,aM,aa2,J,Y,c3,c4,az2,z,gl,G,Z,ea]
 exact qh (qf hp (Tr.letter c).bnd)
end
theorem aw1 {s:Sto}{o:O}:(s++[o])[s.length]?=some o:=by simp
theorem zZ {ok:Sto->Bool}{g:D->Env->Sto->R Ct}{d:D}{l:List D}{ρ ρ':Env}{s s':Sto}(ho:ok s=true)(h:g d ρ s=.ok (.next ρ') s'):aw5 ok g (d::l) ρ s=aw5 ok g l ρ' s':=by
 show(if ok s then _ else _)=_
 rw[if_pos ho,h]
 rfl
noncomputable def bK7:Ss:=(.cons (.ex (.call "lay_sign" (.ex (.var 1) (.ex (.var 2) .nil)))) .nil)
section
variable {P:Pr} [Has P aa4] [Has P ab4] [Has P af0] [Has P aa2] [HasC P "LETTERS" (.tup aA6)] [HasD P "JOINTS" [([124],zn),([46],zo)]]
theorem qk (n:Nat){s:Sto}{p z:List D}{c:Nat}{F G:Option D}(h:(aa1 P (n+2)).call "lay_sign" [.ref s.length,.str [c]] (s++[.lst p])=.ok .non ((s++[O.lst p]).set s.length (.lst z))) :
  turn (aa1 P (n+2)) (.one 2) bK7 (.str [c]) [F,some (.ref s.length),G] (s++[.lst p])=.ok (.next [F,some (.ref s.length),some (.str [c])]) (s++[.lst z]):=by
 have e:(s++[O.lst p]).set s.length (.lst z)=s++[.lst z]:=by rw[List.set_append_right _ _ (ai _)];simp
 rw[e]at h
 unfold turn bK7
 simp -implicitDefEqProofs only[aa9,ac2,af3,ae9,af8,ai5,ah4,ag8,ab6,ad4,ad8,ag4,ae1,ae6,af6,ah3,ae8,af9,ai8,ah0,af7,ag7,ai4,ac5,ai7,ai3,ag5,ah2,ad5,ad7,ah1,ad9,ad0,ab2,ab0,ac4,ac6,ab5,ae0,ai6,ae3,ag3,af2,R.bind_ok,aa5,aa7,aa8,aa3,af5,af4,ab7,ab9,ae2,ae7,aH,aE,aa6,qm,ac7,ac0,ac8,ab8,ac9,ad2,af1,ag0,ag2,ag1,ag9,ag6,ab3,z8,if_true,if_false,au,decide_true,decide_false,aO,aM,h]
theorem at9 (n:Nat){ok:Sto->Bool}(hok:∀ s,ok s=true)(s:Sto)(F:Option D):∀(t:Tr),t.ok->∀(p:List D),(∀ d∈p,∀ n,d.bnd n=true)->p.length+3*t.dep<=1000->bu4 p->∀(rest:List D) (z:Option D),
  ∃ N,aw5 ok (turn (aa1 P (n+2)) (.one 2) bK7) (t.wr.map (fun c=>D.str [c])++rest) [F,some (.ref s.length),z] (s++[.lst p])=aw5 ok (turn (aa1 P (n+2)) (.one 2) bK7) rest [F,some (.ref s.length),N] (s++[.lst (p++[t.d])])
 | .nothing,h,p,hp,hl,ho,rest,z=>⟨_,zZ (hok _) (qk n (be6 (P:=P) n hp (by omega) ho aw1))⟩
 | .letter c,h,p,hp,hl,ho,rest,z=>⟨_,zZ (hok _) (qk n (aL9 (P:=P) n hp (by omega) ho h aw1))⟩
 | .rep t,h,p,hp,hl,ho,rest,z=>by
  have hl:p.length+3*(t.dep+1)<=1000:=hl
  obtain⟨Y,e1⟩:=at9 n hok s F t h p hp (by omega) ho (.str [42]::rest) z
  refine⟨some (.str [42]),?_⟩
  have e:(Tr.rep t).wr.map (fun c=>D.str [c])++rest=t.wr.map (fun c=>D.str [c])++(.str [42]::rest):=by
   show(t.wr++[42]).map (fun c=>D.str [c])++rest=_
   rw[cy,bj];rfl
  rw[e,e1]
  exact zZ (hok _) (qk n (be0 (P:=P) n hp (by omega) aw1))
 | .two b t u,h,p,hp,hl,ho,rest,z=>by
  have hl:p.length+3*(max t.dep u.dep+1)<=1000:=hl
  have J:∀ d∈p++[D.str [40]],∀ n,d.bnd n=true:=qf hp fun _=>rfl
  have G:∀ d∈p++[D.str [40],t.d,.str [zV b]],∀ n,d.bnd n=true:=fun d hd n=>by
   rcases bE.mp hd with h|h
   ·exact hp d h n
   ·have h:d=.str [40]\/d=t.d\/d=.str [zV b]:=by simpa using h
    rcases h with rfl|rfl|rfl
    ·rfl
    ·exact t.bnd n
    ·rfl
  have e:(Tr.two b t u).wr.map (fun c=>D.str [c])++rest=.str [40]::(t.wr.map (fun c=>D.str [c])++(.str [zV b]::(u.wr.map (fun c=>D.str [c])++(.str [41]::rest)))):=by
   show(40::(t.wr++zV b::(u.wr++[41]))).map (fun c=>D.str [c])++rest=_
   simp
  rw[e]
  obtain⟨Z,e1⟩:=at9 n hok s F t h.1 (p++[.str [40]]) J (by rw[aA,aX];omega) (.inr ⟨p,[40],rfl⟩) (.str [zV b]::(u.wr.map (fun c=>D.str [c])++(.str [41]::rest))) (some (.str [40]))
  obtain⟨x5,e2⟩:=at9 n hok s F u h.2 (p++[.str [40],t.d,.str [zV b]]) G (by simp only[aA,aV,cx];omega) (.inr ⟨p++[.str [40],t.d],[zV b],by rw[bj];rfl⟩) (.str [41]::rest) (some (.str [zV b]))
  rw[show p++[D.str [40]]++[t.d]=p++[.str [40],t.d]by rw[bj];rfl]at e1
  rw[show p++[D.str [40],t.d,.str [zV b]]++[u.d]=p++[.str [40],t.d,.str [zV b],u.d]by rw[bj];rfl]at e2
  refine⟨some (.str [41]),?_⟩
  refine(zZ (hok _) (qk n (be8 (P:=P) n hp (by omega) ho aw1))).trans (e1.trans ?_)
  refine(zZ (hok _) (qk n (aQ4 (P:=P) n hp (by omega) b (t:=t) aw1))).trans (e2.trans ?_)
  exact zZ (hok _) (qk n (aR2 (P:=P) n hp (by omega) (b:=b) (t:=t) (u:=u) aw1))
theorem bm6 [Has P ab1][Has P ae4][Has P ae5][Has P ah5][Has P ac3][Has P aj1][Has P ai0][HasC P "MOST_DEEP" (.int 12)][HasC P "MOST_PIECES" (.int 40)](n:Nat){t:Tr}(h:t.ok)(hd:t.dep<=12)(hz:t.sz<=40)(s:Sto) :
  (aa1 P (n+16)).call "read_set" [.str t.wr] s=.ok t.d s:=by
 have e0:(aa1 P (n+16)).call "read_set" [.str t.wr] s=_:=zc ai0 (n:=n+15) rfl
 rw[e0,show(bO some [D.str t.wr]++aq ai0.vs none)=[some (.str t.wr),none,none]from rfl]
 have sT:∀ S,aR6 (.str t.wr) S=.ok ⟨t.wr.map fun c=>.str [c],[]⟩ S:=fun _=>rfl
 obtain⟨x2,Z⟩:=at9 (P:=P) (n+13) (ok:=fun z=>chk (s++[.lst []]) z []) (fun _=>rfl) s (some (.str t.wr)) t h [] (fun d hd=>by cases hd) (by simp;omega) (.inl rfl) [] none
 rw[bf,cS]at Z
 have Y:aw5 (fun z=>chk (s++[.lst []]) z []) (turn (aa1 P (n+15)) (.one 2) (.cons (.ex (.call "lay_sign" (.ex (.var 1) (.ex (.var 2) .nil)))) .nil)) (t.wr.map fun c=>D.str [c]) [some (.str t.wr),some (.ref s.length),none] (s++[.lst []])=.ok (.next [some (.str t.wr),some (.ref s.length),x2]) (s++[.lst [t.d]]):=Z
 have hs:(s++[O.lst [t.d]])[s.length]?=some (.lst [t.d]):=by simp
 have F:=aP2 hs
 have J:ixM (.ref s.length) (.int 0) (s++[.lst [t.d]])=.ok t.d (s++[.lst [t.d]]):=at0 (j:=0) hs rfl
 obtain⟨b,eb,hb⟩:=aP3 (P:=P) n (s:=s++[.lst [t.d]]) (B:=1000) (ai _) (al2 (t.built h 12 hd))
 have G:b=true:=hb.mpr (t.setP h hd hz)
 subst G
 have N:decide ((([t.d]:List D).length:Int)=1)=true:=decide_eq_true (by simp)
 simp -implicitDefEqProofs only[aa9,ac2,af3,ae9,af8,ai5,ah4,ag8,ab6,ad4,ad8,ag4,ae1,ae6,af6,ah3,ae8,af9,ai8,ah0,af7,ag7,ai4,ac5,ai7,ai3,ag5,ah2,ad5,ad7,ah1,ad9,ad0,ab2,ab0,ac4,ac6,ab5,ae0,ai6,ae3,ag3,af2,R.bind_ok,aa5,aa7,aa8,aa3,af5,af4,ab7,ab9,ae2,ae7,aH,aE,aa6,qm,ac7,ac0,ac8,ab8,ac9,ad2,af1,ag0,ag2,ag1,ag9,ag6,ab3,z8,if_true,if_false,au,decide_true,decide_false,aO,aM,ai0,sT,Y,F,N,J,eb]
 exact qc t.bnd t.noref
end
theorem aF2 (s:Sto):∀(t:Tr) (n:Nat),t.dep<=n->eqv s n t.d t.d=some true
 | .nothing,0,h=>absurd h (by show ¬(1<=0);omega)
 | .letter _,0,h=>absurd h (by show ¬(1<=0);omega)
 | .rep _,0,h=>absurd h (by show ¬(_+1<=0);omega)
 | .two _ _ _,0,h=>absurd h (by show ¬(_+1<=0);omega)
 | .nothing,n+1,h=>by
  show eqL (eqv s n) [.str za] [.str za]=_
  show(match eqv s n (.str za) (.str za),some true with|some x,some y=>some (x&&y)|_,_=>none)=_
  rw[eqv_strT]
  rfl
 | .letter c,n+1,h=>by
  show(match eqv s n (.str zd) (.str zd),(match eqv s n (.str [c]) (.str [c]),some true with|some x,some y=>some (x&&y)|_,_=>none)with|some x,some y=>some (x&&y)|_,_=>none)=_
  rw[eqv_strT,eqv_strT]
  rfl
 | .rep t,n+1,h=>by
  have h:t.dep+1<=n+1:=h
  show(match eqv s n (.str zh) (.str zh),(match eqv s n t.d t.d,some true with|some x,some y=>some (x&&y)|_,_=>none)with|some x,some y=>some (x&&y)|_,_=>none)=_
  rw[eqv_strT,aF2 s t n (by omega)]
  rfl
 | .two b t u,n+1,h=>by
  have h:max t.dep u.dep+1<=n+1:=h
  show(match eqv s n (.str (aA5 b)) (.str (aA5 b)),(match eqv s n t.d t.d,(match eqv s n u.d u.d,some true with|some x,some y=>some (x&&y)|_,_=>none)with|some x,some y=>some (x&&y)|_,_=>none)with|some x,some y=>some (x&&y)|_,_=>none)=_
  rw[eqv_strT,aF2 s t n (by omega),aF2 s u n (by omega)]
  rfl
where
 eqv_strT {s:Sto} {n:Nat} {a:List Nat}:eqv s n (.str a) (.str a)=some true:=by
  cases n with
  | zero=>show some (a==a)=_;simp
  | succ n=>show some (a==a)=_;simp
theorem bM5 (s:Sto){t:Tr}(h:t.dep<=12):zR .ne t.d t.d s=.ok (.bl false) s:=by
 show(match eqv s DEEP t.d t.d with|some r=>R.ok (D.bl (!r)) s|none=>.bad)=_
 rw[aF2 s t DEEP (by unfold DEEP;omega)]
 rfl
theorem by4 (s:Sto)(a:List Nat):zR .ne (.str a) (.str a) s=.ok (.bl false) s:=by
 show R.ok (D.bl (!(a==a))) s=_
 simp
noncomputable def bW1:Ss:=(.cons (.asg (.one 3) (.call "_law_bag" (.ex (.var 0) (.ex (.var 2) .nil)))) (.cons (.ex (.meth .append (.var 1) (.cons (.call "_law_set" (.ex (.var 3) (.ex (.bin .add (.cst (.int 1)) (.call "_law_take" (.ex (.var 3) (.ex (.cst (.int 12)) .nil)))) (.ex (.bin .add (.cst (.int 1)) (.call "_law_take" (.ex (.var 3) (.ex (.cst (.int 40)) .nil)))) (.ex (.lst (.cons (.cst (.int 40)) .nil)) .nil))))) .nil))) .nil))
noncomputable def bM6:Ss:=(.cons (.asg (.one 5) (.call "set_text" (.ex (.var 4) .nil))) (.cons (.ite (.or (.not (.bi .isStr (.cons (.var 5) .nil))) (.cmp .ne (.var 5) (.call "_law_written" (.ex (.var 4) .nil)))) (.cons (.ret (.cst (.bl false))) .nil) .nil) (.cons (.asg (.one 6) (.call "read_set" (.ex (.var 5) .nil))) (.cons (.ite (.or (.not (.bi .isTup (.cons (.var 6) .nil))) (.or (.cmp .ne (.var 6) (.var 4)) (.cmp .ne (.call "set_text" (.ex (.var 6) .nil)) (.var 5)))) (.cons (.ret (.cst (.bl false))) .nil) .nil) .nil))))
theorem bJ3:ah7.body=(.cons (.asg (.one 1) (.lst .nil)) (.cons (.for_ (.one 2) (.rng1 (.bi .max2 (.cons (.cst (.int 3)) (.cons (.bi .min2 (.cons (.bi .len (.cons (.var 0) .nil)) (.cons (.cst (.int 12)) .nil))) .nil)))) bW1) (.cons (.for_ (.one 4) (.seq (.bin .add (.var 1) (.slU (.var 1) (.cst (.int 2))))) bM6) (.cons (.ret (.cst (.bl true))) .nil)))):=rfl
def bL4 (t:Tr):Prop:=t.ok/\t.dep<=12/\t.sz<=40
theorem ev_slU' {F:Fns}{ρ:Env}{s:Sto}(a h:E):ev F (.slU a h) ρ s=(ev F a ρ s).bind fun x s=>(ev F h ρ s).bind fun y s=>match y with|.int i=>slM x none (some i) s|_=>.bad:=rfl
section
variable {P:Pr} [Has P ah7] [Has P ay1] [Has P aj5] [Has P aj8] [Has P ad1] [Has P ac1] [Has P aa4] [Has P ab4] [Has P af0] [Has P aa2] [Has P ai0] [HasC P "LETTERS" (.tup aA6)] [HasD P "JOINTS" [([124],zn),([46],zo)]]
 [Has P ab1] [Has P ae4] [Has P ae5] [Has P ah5] [Has P ac3] [Has P aj1] [HasC P "MOST_DEEP" (.int 12)] [HasC P "MOST_PIECES" (.int 40)]
theorem bn7 (n:Nat){t:Tr}(h:bL4 t)(v:Sto)(J x1 z F x4 x5 Y:Option D) :
  turn (aa1 P (n+16)) (.one 4) bM6 t.d [J,x1,z,F,x4,x5,Y] v=.ok (.next [J,x1,z,F,some t.d,some (.str t.wr),some t.d]) v:=by
 obtain⟨h1,G,Z⟩:=h
 have e1:=z5 (P:=P) t (by omega) (n+16 - t.dep) v
 rw[show n+16 - t.dep+t.dep=n+16 by omega]at e1
 have e2:=qi (P:=P) t (by omega) (n+16 - t.dep) v
 rw[show n+16 - t.dep+t.dep=n+16 by omega]at e2
 have e3:=bm6 (P:=P) n h1 G Z v
 have i1:bi .isStr [.str t.wr] v=.ok (.bl true) v:=rfl
 have i2:bi .isTup [t.d] v=.ok (.bl true) v:=by obtain⟨l,e⟩:=t.tupE;rw[e];rfl
 have n1:=bM5 v G
 have N:=by4 v t.wr
 unfold turn bM6
 simp -implicitDefEqProofs only[aa9,ac2,af3,ae9,af8,ai5,ah4,ag8,ab6,ad4,ad8,ag4,ae1,ae6,af6,ah3,ae8,af9,ai8,ah0,af7,ag7,ai4,ac5,ai7,ai3,ag5,ah2,ad5,ad7,ah1,ad9,ad0,ab2,ab0,ac4,ac6,ab5,ae0,ai6,ae3,ag3,af2,R.bind_ok,aa5,aa7,aa8,aa3,af5,af4,ab7,ab9,ae2,ae7,aH,aE,aa6,qm,ac7,ac0,ac8,ab8,ac9,ad2,af1,ag0,ag2,ag1,ag9,ag6,ab3,z8,if_true,if_false,au,decide_true,decide_false,aO,aM,e1,e2,e3,i1,i2,n1,N]
theorem bQ8 (n:Nat):bQ7 P (n+17):=by
 intro ns hl
 have e0:(aa1 P (n+17)).call "law" [.ref 0] [.ro (ns.map D.int)]=_:=zc ah7 (n:=n+16) rfl
 rw[e0,bJ3,show(bO some [D.ref 0]++aq ah7.vs none)=[some (.ref 0),none,none,none,none,none,none]from rfl]
 have c3:([.ro (ns.map D.int),.lst []]:Sto)[0]?=some (.ro (ns.map D.int)):=rfl
 have a0:bi .len [.ref 0] [.ro (ns.map D.int),.lst []]=.ok (.int ns.length) [.ro (ns.map D.int),.lst []]:=by rw[bh5 c3,aK]
 have ha:([.ro (ns.map D.int)]:Sto)++[.lst []]=[.ro (ns.map D.int),.lst []]:=rfl
 have b5:(D.ref ([.ro (ns.map D.int)]:Sto).length)=.ref 1:=rfl
 obtain⟨k,hk12,hk⟩:∃ k:Nat,k<=12/\(if(if 12<(ns.length:Int)then 12 else(ns.length:Int)) > 3 then(if 12<(ns.length:Int)then 12 else(ns.length:Int))else 3)=(k:Int):=by
  by_cases h:(12:Int)<(ns.length:Int)
  ·exact⟨12,by omega,by rw[if_pos h];rfl⟩
  ·rw[if_neg h]
   by_cases h2:(ns.length:Int) > 3
   ·exact⟨ns.length,by omega,by rw[if_pos h2]⟩
   ·exact⟨3,by omega,by rw[if_neg h2];rfl⟩
 simp -implicitDefEqProofs only[aa9,ac2,af3,ae9,af8,ai5,ah4,ag8,ab6,ad4,ad8,ag4,ae1,ae6,af6,ah3,ae8,af9,ai8,ah0,af7,ag7,ai4,ac5,ai7,ai3,ag5,ah2,ad5,ad7,ah1,ad9,ad0,ab2,ab0,ac4,ac6,ab5,ae0,ai6,ae3,ag3,af2,R.bind_ok,aa5,aa7,aa8,aa3,af5,af4,ab7,ab9,ae2,ae7,aH,aE,aa6,qm,ac7,ac0,ac8,ab8,ac9,ad2,af1,ag0,ag2,ag1,ag9,ag6,ab3,z8,if_true,if_false,au,decide_true,decide_false,aO,aM,ha,b5,a0,bb6,bb7,hk]
 rw[aO3 (by unfold W62;omega) (by unfold W62;omega)]
 simp only[R.bind_ok]
 rw[R.bind_assoc]
 refine at8 (W:=Yes) (fun j ρ t=>t[0]?=some (.ro (ns.map D.int))/\∃(z:List Tr) (x2 x3:Option D),t[1]?=some (.lst (z.map Tr.d))/\z.length=j/\(∀ d∈z,bL4 d)/\ρ=[some (.ref 0),some (.ref 1),x2,x3,none,none,none]) ⟨rfl,[],_,_,rfl,rfl,fun d hd=>(by cases hd),rfl⟩ (fun _ _ _ _ _=>rfl) ?_ ?_
 ·rintro j d ρ t hj ⟨ht,z,x2,x3,h1,Y,G,rfl⟩
  obtain⟨f0,rfl⟩:=ba8 hj
  rw[Int.zero_add]
  have e3:1<t.length:=(af.mp h1).1
  have J:=bE5 (P:=P) (n+15) ns j t 0 ht hl
  generalize bu5 ns j=b0 at J
  have c2:∃ b,(t++[zS b0])[t.length]?=some (zS b):=⟨b0,by simp⟩
  have e4:(t++[zS b0]).length=t.length+1:=by simp
  have c1:(t++[zS b0])[0]?=some (.ro (ns.map D.int)):=zK ht
  have d2:(t++[zS b0])[1]?=some (.lst (z.map Tr.d)):=zK h1
  generalize f1:t++[zS b0]=S at *
  generalize hr:t.length=r at *
  have a4:r<S.length:=by omega
  obtain⟨k1,b1,e2,b6⟩:=aC6 (P:=P) (n+15) c2 12 (by decide) (aD9 (by decide))
  obtain⟨k2,b2,e5,a2⟩:=aC6 (P:=P) (n+15) (aO1 (b:=b1) a4) 40 (by decide) (aD9 (by decide))
  rw[de]at a2
  have F:(S.set r (zS b2)).length=S.length:=by simp
  obtain⟨tr,b3,y3,a6,es⟩:=bs5 (P:=P) (n+16 - k1 - 2) (r:=r) (q:=S.length) (by omega) k1 (S.set r (zS b2)++[.lst [.int 40]]) (k2+1) (bl6 (aO1 a4)) ⟨40,by rw[<-F];simp⟩ (by omega) (by omega)
  rw[show n+16 - k1 - 2+k1+2=n+16 by omega]at es
  have eA:(1:Int)+(k1:Int)=(k1:Int)+1:=by omega
  have eB:(1:Int)+(k2:Int)=((k2+1:Nat):Int):=by omega
  have a3:(SS (S.set r (zS b2)++[O.lst [D.int 40]]) r S.length b3 y3)[0]?=some (.ro (ns.map D.int)):=by
   unfold SS
   rw[aL (by omega),aL (by omega)]
   exact zK (by rw[aL (by omega)];exact c1)
  have Z:(SS (S.set r (zS b2)++[O.lst [D.int 40]]) r S.length b3 y3)[1]?=some (.lst (z.map Tr.d)):=by
   unfold SS
   rw[aL (by omega),aL (by omega)]
   exact zK (by rw[aL (by omega)];exact d2)
  generalize SS (S.set r (zS b2)++[O.lst [D.int 40]]) r S.length b3 y3=U at es a3 Z
  have a5:1<U.length:=(af.mp Z).1
  have ea:=zC (v:=tr.d) Z (by rw[aK];unfold LIM;omega)
  have d1:D.ref (S.set r (zS b2)).length=.ref S.length:=by rw[F]
  refine be5 (ρ:=[some (.ref 0),some (.ref 1),some (.int j),some (.ref r),none,none,none]) (s:=U.set 1 (.lst (z.map Tr.d++[tr.d]))) ?_ ⟨by rw[aL (by omega)];exact a3,z++[tr],_,_,by rw[z7 a5,cy];rfl,by rw[aA,Y];rfl,fun d hd=>?_,rfl⟩
  ·unfold turn bW1
   simp -implicitDefEqProofs only[aa9,ac2,af3,ae9,af8,ai5,ah4,ag8,ab6,ad4,ad8,ag4,ae1,ae6,af6,ah3,ae8,af9,ai8,ah0,af7,ag7,ai4,ac5,ai7,ai3,ag5,ah2,ad5,ad7,ah1,ad9,ad0,ab2,ab0,ac4,ac6,ab5,ae0,ai6,ae3,ag3,af2,R.bind_ok,aa5,aa7,aa8,aa3,af5,af4,ab7,ab9,ae2,ae7,aH,aE,aa6,qm,ac7,ac0,ac8,ab8,ac9,ad2,af1,ag0,ag2,ag1,ag9,ag6,ab3,z8,if_true,if_false,au,decide_true,decide_false,aO,aM,J,b6,eA,a2,eB,d1,es,ea]
  ·rcases bE.mp hd with h|h
   ·exact G d h
   ·rw[bD.mp h];exact⟨a6.1,by omega,by omega⟩
 rintro ρ v ⟨hv,z,x2,x3,h1,Y,G,rfl⟩
 have e1:(ar4 0 (k:Int)).length=k:=by simp[ar4]
 rw[e1]at Y
 have a1:slM (.ref 1) none (some 2) v=.ok (.ref v.length) (v++[.lst (ar0 (z.map Tr.d) none (some 2))]):=by
  unfold slM
  simp only[h1,ab3]
 obtain⟨es,he,hel,heo⟩:∃ es:List Tr,ar0 (z.map Tr.d) none (some 2)=es.map Tr.d/\es.length<=12/\∀ d∈es,bL4 d:=by
  refine⟨z.take (hiB (z.map Tr.d).length (some 2)),?_,?_,fun d hd=>G d (dv hd)⟩
  ·unfold ar0
   rw[List.map_take]
   rfl
  ·rw[bK];omega
 rw[he]at a1
 have N:=bW8 (s:=v++[.lst (es.map Tr.d)]) (a:=1) (b:=v.length) (l:=z.map Tr.d) (m:=es.map Tr.d) (zK h1) aw1 (by rw[aK,aK];unfold LIM;omega)
 rw[<-cy]at N
 have b4:aR6 (.ref (v++[O.lst (es.map Tr.d)]).length) (v++[O.lst (es.map Tr.d)]++[.lst ((z++es).map Tr.d)])=.ok ⟨(z++es).map Tr.d,[(v++[O.lst (es.map Tr.d)]).length]⟩ (v++[O.lst (es.map Tr.d)]++[.lst ((z++es).map Tr.d)]):=by
  simp only[aR6,aw1]
 simp -implicitDefEqProofs only[aa9,ac2,af3,ae9,af8,ai5,ah4,ag8,ab6,ad4,ad8,ag4,ae1,ae6,af6,ah3,ae8,af9,ai8,ah0,af7,ag7,ai4,ac5,ai7,ai3,ag5,ah2,ad5,ad7,ah1,ad9,ad0,ab2,ab0,ac4,ac6,ab5,ae0,ai6,ae3,ag3,af2,R.bind_ok,aa5,aa7,aa8,aa3,af5,af4,ab7,ab9,ae2,ae7,aH,aE,aa6,qm,ac7,ac0,ac8,ab8,ac9,ad2,af1,ag0,ag2,ag1,ag9,ag6,ab3,z8,if_true,if_false,au,decide_true,decide_false,aO,aM,ev_slU',a1,N,b4]
 generalize v++[O.lst (es.map Tr.d)]++[O.lst ((z++es).map Tr.d)]=V at *
 generalize (v++[O.lst (es.map Tr.d)]).length=q at *
 rw[R.bind_assoc]
 refine at8 (W:=Yes) (fun j ρ u=>u=V/\∃ x4 x5 x6,ρ=[some (.ref 0),some (.ref 1),x2,x3,x4,x5,x6]) ⟨rfl,_,_,_,rfl⟩ (fun _ _ _ _ h=>by rw[h.1];simp[chk]) ?_ ?_
 ·rintro j d ρ u hj ⟨rfl,x4,x5,x6,rfl⟩
  rw[aU]at hj
  cases e:(z++es)[j]? with
  | none=>rw[e]at hj;cases hj
  | some t =>
   rw[e]at hj
   cases hj
   have c4:bL4 t:=by
    rcases bE.mp (bv e)with h|h
    ·exact G t h
    ·exact heo t h
   exact be5 (bn7 n c4 _ _ _ _ _ _ _ _) ⟨rfl,_,_,_,rfl⟩
 ·rintro ρ u ⟨rfl,x4,x5,x6,rfl⟩
  simp -implicitDefEqProofs only[aa9,ac2,af3,ae9,af8,ai5,ah4,ag8,ab6,ad4,ad8,ag4,ae1,ae6,af6,ah3,ae8,af9,ai8,ah0,af7,ag7,ai4,ac5,ai7,ai3,ag5,ah2,ad5,ad7,ah1,ad9,ad0,ab2,ab0,ac4,ac6,ab5,ae0,ai6,ae3,ag3,af2,R.bind_ok,aa5,aa7,aa8,aa3,af5,af4,ab7,ab9,ae2,ae7,aH,aE,aa6,qm,ac7,ac0,ac8,ab8,ac9,ad2,af1,ag0,ag2,ag1,ag9,ag6,ab3,z8,if_true,if_false,au,decide_true,decide_false,aO,aM]
  exact aQ2 _ _
end
end DV
end
local macro_rules | `(tactic| walk_at "sc") => `(tactic| exact ⟨rfl, rfl, rfl, by decide +kernel, rfl, by decide +kernel, by decide +kernel⟩)
local macro_rules | `(tactic| walk_at "df") => `(tactic| (dsimp only; exact ⟨_, _, _, _, _, _, _, _, _, _, by k_is, by k_is, by k_is, by k_is⟩))
noncomputable section
namespace My
open PySem L2
noncomputable def top (i:Nat):Stmt:=PySem.Challenge.pw_leasttolls_k61_sets_written.main.body.getD i (.Pass ⟨0,0,0,0⟩)
noncomputable def am3:List Str:=[]
noncomputable abbrev al4:Stmt:=top 5
noncomputable abbrev s_is_letter:Stmt:=top 6
noncomputable abbrev aF5:Stmt:=top 10
noncomputable abbrev ar8:Stmt:=top 11
noncomputable abbrev ao3:Stmt:=top 12
noncomputable abbrev ap4:Stmt:=top 13
noncomputable abbrev ar2:Stmt:=top 16
noncomputable abbrev ar1:Stmt:=top 17
noncomputable abbrev as5:Stmt:=top 18
noncomputable abbrev s_ends_with_set:Stmt:=top 19
noncomputable abbrev aj7:Stmt:=top 20
noncomputable abbrev an6:Stmt:=top 21
noncomputable abbrev as8:Stmt:=top 23
noncomputable abbrev ap1:Stmt:=top 24
noncomputable abbrev as6:Stmt:=top 25
noncomputable abbrev ak2:Stmt:=top 26
noncomputable abbrev az5:Stmt:=top 27
noncomputable def tb:List (String×j0×Stmt):=[("is_tuple_of",DV.ab1,al4),("is_letter",DV.ae4,s_is_letter),("is_set",DV.aj1,aF5),("is_built",DV.ah5,ar8),("is_joined",DV.ae5,ao3),("pieces_in",DV.ac3,ap4),("set_text",DV.ac1,ar2),("read_set",DV.ai0,ar1),("lay_sign",DV.aa2,as5),("ends_with_set",DV.aa4,s_ends_with_set),("ahead_of_last",DV.ab4,aj7),("join_last",DV.af0,an6),("_law_bag",DV.ay1,as8),("_law_take",DV.aj5,ap1),("_law_set",DV.aj8,as6),("_law_written",DV.ad1,ak2),("law",DV.ah7,az5)]
noncomputable def bN2:List (String×i9):=[("LETTERS",.tup [.str [97],.str [98],.str [99]]),("MOST_PIECES",.int (40)),("MOST_DEEP",.int (12))]
noncomputable def bX5:List (String×jZ):=[]
noncomputable def tbl:List (String×j0):=tb.map fun p=>(p.1,p.2.1)
noncomputable def cdt:List (String×List (List Nat×List Nat)):=[("JOINTS",[([124],[101,105,116,104,101,114]),([46],[98,101,104,105,110,100])])]
noncomputable def P:jp:=⟨fun f=>tbl.lookup f,fun f=>bX5.lookup f,fun x=>bN2.lookup x,fun _=>none,fun _=>none,fun _=>false,fun _=>false,fun c=>cdt.lookup c⟩
instance:DV.HasD P "JOINTS" [([124],[101,105,116,104,101,114]),([46],[98,101,104,105,110,100])]:=⟨rfl⟩
instance:DV.HasC P "LETTERS" (.tup [.str [97],.str [98],.str [99]]):=⟨rfl⟩
instance:DV.HasC P "MOST_PIECES" (.int (40)):=⟨rfl⟩
instance:DV.HasC P "MOST_DEEP" (.int (12)):=⟨rfl⟩
instance:DV.Has P DV.ab1:=⟨rfl⟩
instance:DV.Has P DV.ae4:=⟨rfl⟩
instance:DV.Has P DV.aj1:=⟨rfl⟩
instance:DV.Has P DV.ah5:=⟨rfl⟩
instance:DV.Has P DV.ae5:=⟨rfl⟩
instance:DV.Has P DV.ac3:=⟨rfl⟩
instance:DV.Has P DV.ac1:=⟨rfl⟩
instance:DV.Has P DV.ai0:=⟨rfl⟩
instance:DV.Has P DV.aa2:=⟨rfl⟩
instance:DV.Has P DV.aa4:=⟨rfl⟩
instance:DV.Has P DV.ab4:=⟨rfl⟩
instance:DV.Has P DV.af0:=⟨rfl⟩
instance:DV.Has P DV.ay1:=⟨rfl⟩
instance:DV.Has P DV.aj5:=⟨rfl⟩
instance:DV.Has P DV.aj8:=⟨rfl⟩
instance:DV.Has P DV.ad1:=⟨rfl⟩
instance:DV.Has P DV.ah7:=⟨rfl⟩
theorem at5:DT am3 P "is_tuple_of" DV.ab1 al4:=⟨["thing", "many"],["thing", "many"],by walk_at "sc",rfl,rfl,fun _ _ _ _ _ _=>bd2 (fun _ _=>rfl),.inl (by decide +kernel)⟩
theorem aC2:DT am3 P "is_letter" DV.ae4 s_is_letter:=⟨["thing", "letters"],["thing", "letters"],by walk_at "sc",rfl,rfl,fun _ _ _ _ _ _=>bd2 (fun _ _=>rfl),.inl (by decide +kernel)⟩
theorem bc2:DT am3 P "is_set" DV.aj1 aF5:=⟨["thing"],["thing"],by walk_at "sc",rfl,rfl,fun _ _ _ _ _ _=>bd1 (fun _=>rfl),.inl (by decide +kernel)⟩
theorem aM0:DT am3 P "is_built" DV.ah5 ar8:=⟨["thing", "deep"],["thing", "deep"],by walk_at "sc",rfl,rfl,fun _ _ _ _ _ _=>bd2 (fun _ _=>rfl),.inl (by decide +kernel)⟩
theorem aD1:DT am3 P "is_joined" DV.ae5 ao3:=⟨["thing"],["thing"],by walk_at "sc",rfl,rfl,fun _ _ _ _ _ _=>bd1 (fun _=>rfl),.inl (by decide +kernel)⟩
theorem aB3:DT am3 P "pieces_in" DV.ac3 ap4:=⟨["words"],["words"],by walk_at "sc",rfl,rfl,fun _ _ _ _ _ _=>bd1 (fun _=>rfl),.inl (by decide +kernel)⟩
theorem aK9:DT am3 P "set_text" DV.ac1 ar2:=⟨["words", "one", "other", "joint"],["words"],by walk_at "sc",rfl,rfl,fun _ _ _ _ _ _=>bd1 (fun _=>rfl),.inl (by decide +kernel)⟩
theorem aM6:DT am3 P "read_set" DV.ai0 ar1:=⟨["text", "pile", "sign"],["text"],by walk_at "sc",rfl,rfl,fun _ _ _ _ _ _=>bd1 (fun _=>rfl),.inl (by decide +kernel)⟩
theorem aK7:DT am3 P "lay_sign" DV.aa2 as5:=⟨["pile", "sign"],["pile", "sign"],by walk_at "sc",rfl,rfl,fun _ _ _ _ _ _=>bd2 (fun _ _=>rfl),.inl (by decide +kernel)⟩
theorem an7:DT am3 P "ends_with_set" DV.aa4 s_ends_with_set:=⟨["pile"],["pile"],by walk_at "sc",rfl,rfl,fun _ _ _ _ _ _=>bd1 (fun _=>rfl),.inl (by decide +kernel)⟩
theorem ao5:DT am3 P "ahead_of_last" DV.ab4 aj7:=⟨["pile"],["pile"],by walk_at "sc",rfl,rfl,fun _ _ _ _ _ _=>bd1 (fun _=>rfl),.inl (by decide +kernel)⟩
theorem aE3:DT am3 P "join_last" DV.af0 an6:=⟨["pile", "other", "joint", "one"],["pile"],by walk_at "sc",rfl,rfl,fun _ _ _ _ _ _=>bd1 (fun _=>rfl),.inl (by decide +kernel)⟩
theorem aJ7:DT am3 P "_law_bag" DV.ay1 as8:=⟨["_law_script", "_law_at", "_law_cell", "_law_mix", "_law_k"],["_law_script", "_law_at"],by walk_at "sc",rfl,rfl,fun _ _ _ _ _ _=>bd2 (fun _ _=>rfl),.inl (by decide +kernel)⟩
theorem aB0:DT am3 P "_law_take" DV.aj5 ap1:=⟨["_law_bag_here", "_law_many", "_law_digit", "_law_number", "_law_room"],["_law_bag_here", "_law_many"],by walk_at "sc",rfl,rfl,fun _ _ _ _ _ _=>bd2 (fun _ _=>rfl),.inl (by decide +kernel)⟩
theorem aL0:DT am3 P "_law_set" DV.aj8 as6:=⟨["_law_bag_here", "_law_deep", "_law_room", "_law_left", "_law_kind", "_law_sign", "_law_some", "_law_first"],["_law_bag_here", "_law_deep", "_law_room", "_law_left"],by walk_at "sc",rfl,rfl,fun _ _ _ _ _ _=>bd4 (fun _ _ _ _=>rfl),.inl (by decide +kernel)⟩
theorem aq4:DT am3 P "_law_written" DV.ad1 ak2:=⟨["_law_words"],["_law_words"],by walk_at "sc",rfl,rfl,fun _ _ _ _ _ _=>bd1 (fun _=>rfl),.inl (by decide +kernel)⟩
theorem bi8:FnScope ["_law_script", "_law_sets", "_law_k", "_law_bag_here", "_law_words", "_law_text", "_law_found"] ["_law_script"] (defScope az5):=by walk_at "sc"
theorem bw1:mSs ⟨["_law_script", "_law_sets", "_law_k", "_law_bag_here", "_law_words", "_law_text", "_law_found"],defScope az5,fun _ _ _=>false⟩ DV.ah7.body (zz az5)=true:=by decide +kernel
theorem bx8:bW4 "law" az5 ["_law_script"]:=fun _ _ _ _ _ _=>bd1 fun _=>rfl
theorem bN8:DT am3 P "law" DV.ah7 az5:=⟨_,_,bi8,rfl,rfl,bx8,.inl bw1⟩
theorem bO6:∀ p∈tb,DT am3 P p.1 p.2.1 p.2.2:=by
 intro p h
 unfold tb at h
 simp only[aN,bL,or_false]at h
 rcases h with rfl|rfl|rfl|rfl|rfl|rfl|rfl|rfl|rfl|rfl|rfl|rfl|rfl|rfl|rfl|rfl|rfl
 ·exact at5
 ·exact aC2
 ·exact bc2
 ·exact aM0
 ·exact aD1
 ·exact aB3
 ·exact aK9
 ·exact aM6
 ·exact aK7
 ·exact an7
 ·exact ao5
 ·exact aE3
 ·exact aJ7
 ·exact aB0
 ·exact aL0
 ·exact aq4
 ·exact bN8
theorem bw2 {l:hC}{w:World}{K:ac}{h:Heap}{mg:Str->Option Value}{fa:Addr}(X:K.In h)(G:h.Ns bo mg)(a4:mg "law"=some (.ref fa))(hD:∀ p∈tb,bM7 K p.1 p.2.2)(hz:∀ x∈bNames,cr K bo x=some none)
  {z:Addr} {a2:Option Addr} {a3:Nat} {a1:Array (Option Value)} {Y a0 Z:Tok} (gc_LETTERS:cr K bo "LETTERS"=some (some (.ref z))) (gl_LETTERS:K.lookup z=some ⟨.type "tuple",a2,.seq #[.str ⟨#[97]⟩ Y,.str ⟨#[98]⟩ a0,.str ⟨#[99]⟩ Z] a3,a1⟩)
  {J:Tok} (gc_MOST_PIECES:cr K bo "MOST_PIECES"=some (some (.int (40) J)))
  {N:Tok} (gc_MOST_DEEP:cr K bo "MOST_DEEP"=some (some (.int (12) N)))
  (hT:∀ x∈am3,(a9 K x).isSome=true) (tnd:decide (((bl1 am3 K).map (·.1)).Nodup)=true) (hcd:∀ p∈cdt,bz4 K w p.1 p.2)
  : ∃ fd:bJ,(∀(s:ae) (v:Value),hJ s fd ⟨[v],[]⟩ [("_law_script",v)])/\∀ base:Heap,K.In base->base.Ns bo mg->BM mg base->br4 K am3 base->FnOk l.prog w K mg base CX0 49 fa fd ["_law_script"] (spB am3 K):=by
 have hP:PrOk (aW7 am3 P K) (bp9 am3 K) P mg w:=by
  refine⟨fun f d h=>aF6 (tbl:=tbl) (fun p hp=>?_) f d h,fun x d h=>aN8 (tbl:=bN2) ?_ x d h,fun x hx=>PySem.W.mg_none_of X G (hz x hx),bP7 X G,bO7,of_decide_eq_true tnd,fun _ _ h=>(by cases h),fun _ _ h=>(by cases h),fun _ h=>(by cases h),fun _ h=>(by cases h),fun _ _ _ _ h=>(by cases h),aV3 (tbl:=cdt) (fun p hp=>bF0 X G (hcd p hp))⟩
  ·obtain⟨r,hr,rfl⟩:=bq.mp hp
   exact good_of X G hT (hD r hr) (bO6 r hr)
  ·intro p hp
   unfold bN2 at hp
   simp only[aN,bL,or_false]at hp
   rcases hp with rfl|rfl|rfl
   ·exact bj4 (bT X G gc_LETTERS) gl_LETTERS rfl rfl (show 3<=1000 by decide) (.cons (.str _ _ (by decide)) (.cons (.str _ _ (by decide)) (.cons (.str _ _ (by decide)) (.nil))))
   ·exact aR8 (bT X G gc_MOST_PIECES)
   ·exact aR8 (bT X G gc_MOST_DEEP)
 obtain⟨f,od,an,sl,oc,kV,dc,pm,cd,ct,a,l0,c,k⟩:=hD ("law",DV.ah7,az5) (by unfold tb;simp)
 have e:=a4.symm.trans (bT X G a)
 cases e
 have F:=bh7 (st:=az5) l0 c k
 refine⟨_,fun s v=>.of_eq rfl,fun base _ _ bm hk=>(bv9 hP (bh2 hT bm hk) 17 (aH1 hP (bh2 hT bm hk) (fun _=>rfl) 17) (d:=DV.ah7) (f := "law") rfl ⟨F,bT X G a,F.binds bx8⟩ bi8 rfl rfl bw1 aT6).imp (fun vs H Q E q=>bz5 (fun ns h=>DV.bQ8 (P:=P) 1 ns h) vs H Q E (bc7 hT q))⟩
end My
end
open PySem PySem.W PyProof.Rows
set_option maxRecDepth 100000 in
set_option maxHeartbeats 0 in
theorem PySem.Challenge.cw_leasttolls_k61_sets_written_holds : PySem.Challenge.rw_leasttolls_k61_sets_written.Holds := by
 w_on;o_law;k_head;(case hw=>w_witness2)
 k_fill
 refine L2.aS0 (l:=PySem.Challenge.rw_leasttolls_k61_sets_written) (n:=63) (k:=49) (x := "_law_script") (sp:=L2.spB My.am3) My.am3 rfl (by decide) rfl ⟨rfl,by decide,by decide⟩ (ts:=[]) (fun w h Y=>⟨PySem.W.kIn_of Y,fun _ hP=>absurd hP (bL)⟩) (fun w=>?R) (fun w=>?NT) ?F (fun K H a ns hl hB hS hF=>L2.bw8 hl hB hS hF)
 case R=>kernel_rfl
 case NT=>kernel_rfl
 case F =>
  intro w mg fa h KX G hmg
  refine' My.bw2 KX G hmg ?hD ?hz ?gc_LETTERS ?gl_LETTERS ?gc_MOST_PIECES ?gc_MOST_DEEP ?hT ?tnd ?hcd
  case hD =>
   intro p hp
   unfold My.tb at hp
   simp only[aN,bL,or_false]at hp
   rcases hp with rfl|rfl|rfl|rfl|rfl|rfl|rfl|rfl|rfl|rfl|rfl|rfl|rfl|rfl|rfl|rfl|rfl
   all_goals walk_at "df"
  case hz =>
   intro x hx
   unfold L2.bNames at hx
   simp only[aN,bL,or_false]at hx
   rcases hx with rfl|rfl|rfl|rfl|rfl|rfl|rfl|rfl|rfl|rfl|rfl|rfl|rfl|rfl|rfl|rfl|rfl|rfl<;>k_is
  (case gc_LETTERS=>k_is)
  (case gl_LETTERS=>k_is)
  (case gc_MOST_PIECES=>k_is)
  (case gc_MOST_DEEP=>k_is)
  case hT =>
   intro x hx;cases hx
  (case tnd=>kernel_rfl)
  case hcd =>
   intro p hp
   unfold My.cdt at hp
   simp only[aN,bL,or_false]at hp
   subst hp
   all_goals exact⟨_,by k_is,by kernel_rfl,by decide,by kernel_rfl⟩
