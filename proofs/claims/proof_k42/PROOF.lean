import PyProof.Rows.All
import Wide.All
import OpenK.AllK
import Wide.FinOn
import PyProof.EqAt
import PyProof.EqKinds
import PyProof.TupleCall
import PyProof.MinMaxWalk
import PyProof.WalkInts
import PyProof.NeKinds
import PyProof.SliceStr2
import PyProof.StrBlockI
import PyProof.MaxThree
import PyProof.ZipIter
import PyProof.Draws
import PyProof.EnumMake
import PyProof.ListMulRoad
import PyProof.Rows.StrRev
import KE.IntBitsLaws
import PySem.Challenge.RW_leasttolls_k42_whole_long_words_go_with
set_option Elab.async false
set_option linter.all false
set_option maxRecDepth 100000
set_option maxHeartbeats 4000000
open PySem.Heap renaming get?_push_of_some->ab,lt_size->aA,get?_push_size->aD,size_push->bC,get?_update_other->bN,SameBut->bT,get?_update_self->cU,ExtBut->fu
open PySem.W renaming Frag->ac,tabIn->bj,kia_one->bF,kla_fn->bP,CodeHd->bQ,mg_of->bV,nsIn->b9,keepIn->cb,fnX->cw,kitOne->cA,fnOf->cN,envX->cO,OpenLaw->cT,tabObj->dJ,codeIn->eU,methodObj->fc,cellsFrom_some->fY,instObj->gv,lookIn->gO,findIn->gP,kitx_tuple->ir,callWith_K->iu,kitx_list->iI,kitx_dict->iJ,plainGet->iU,codeHdIn->iW,TabsAt->jU,noTabs->jV,WalkO->j4
open List renaming getElem?_eq_some_iff->ae,range->ah,getElem?_eq_getElem->ai,replicate->am,mem_cons->au,mem_cons_of_mem->aw,getElem?_append_right->ax,mem_map->ay,size_toArray->aB,mem_cons_self->aC,getElem?_map->aF,length_map->aG,map_cons->aH,getElem?_append_left->aI,all_eq_true->aO,not_mem_nil->aP,length_cons->aQ,getD_eq_getElem?_getD->aS,mem_range->aU,mem_of_getElem?->aW,lookup_cons->aZ,length_append->bn,mem_map_of_mem->bo,getElem?_set_self->bp,append_nil->br,mem_append_right->bu,filterMap_cons->bv,map->bw,getElem?_set_ne->bz,length_set->bA,replicate_succ->bG,getElem?_range->bI,mem_singleton->bK,map_append->bX,mem_filterMap->b7,length_range->ci,mem_append->cj,nodup_cons->cr,foldl_cons->cu,getElem?_toArray->cD,map_nil->cG,mem_iff_getElem->cI,map_congr_left->cK,find?_cons->cS,length_singleton->cV,flatten_cons->cZ,of_mem_zip->dk,length_nil->dq,length_eq_zero_iff->dC,reverse_cons->dF,forIn_nil->dG,getElem?_eq_none->dN,set_append_right->dP,length_take->dR,getElem_mem->dW,getElem?_of_mem->ef,mem_filter->eB,forIn_cons->eD,set_set->eO,filterMap_map->eY,drop_eq_getElem_cons->e8,mem_or_eq_of_mem_set->e9,append_assoc->fj,any_cons->fJ,all_cons->fK,getElem?_replicate->fN,cons_append->fR,range_succ_eq_map->gj,drop_eq_nil_of_le->gm,map_map->gq,nil_append->gy,mem_append_left->gJ,length->gQ,getElem?_take->iB,foldl_append->iR,any_eq_true->iV,zipIdx_cons->iX,take_length->i3,zipIdx_nil->i5,all_append->i6,set_append->i9,range_succ->jE,foldl->jM,drop_zero->jT,take_zero->jW,sum_cons->j6,all_nil->kh,lookup->kq
open PySem renaming Shared->af,wpAny_bind->ag,mem_of_lookup->az,wpAny_pure->aK,Program->aL,cellsFrom->aM,sizeLine->aN,Around->aV,mainGlobals->aX,Arguments->be,starEach->bf,bootBuiltins->bh,wpAny_truthy_bool->bD,FuncData->bE,NameKind->bJ,wpAny_seqItems->bO,binaryOp->bZ,wpAny_Call_Name_kw->b8,wpAny_field->cc,compareOp->cf,wpAny_newObj_type->cg,wpAny_mono->cq,assignEach->cy,rawInt->cz,wpAny_setField_rec->cC,wpAny_passesOwn->cF,behindInMarks->cJ,codeAmong->cL,wpAny_callSpecial?_slot->cM,pushCells_keeps->cR,wpAny_pyIter_list->cW,foldedSetIterable->cY,sysModules->c7,argBest->da,wpAny_call_entry->db,isTrue->dt,IsPair->dv,tupleKind_room_in1->dw,wpAny_letGo->dB,backTo->dD,wpAny_tryCatch->dH,pushCells->dS,wpAny_holding->dY,relabel->dZ,bindArgs->d6,wpAny_updateSeq_pair->d8,letOwnedTupleGo->eC,codeAny_mono->eJ,storeName->eP,swapsWith->eQ,newFunctionEnv->eV,wpAny_binaryOp_repeat_ref->eZ,sizeLine_eq->fg,codeAny->fh,InCallC->fi,Paired->fB,attributeBase->fF,wpAny_comprehension_free->fG,plainId_quiet->fH,wpAny_onRaise->fI,noFill_tuple_add->fO,builtinsNs->fW,assign->fX,name_of_addr->fZ,typeIs_int->f9,codeAny_compStart_list->gh,wpAny_rule->gi,wpAny_execs_nil->gx,codeAny_builtin->gA,wpAny_updateSeq->gB,wpAny_storeName_local->gF,wpAny_isTrue_Compare1->gG,codeAny_call_function->gH,wpAny_storeName_cell->gK,wpAny_loadName_local->gM,pyNext->gN,strIterType->gT,tupleKind->gY,callerA->gZ,seqItems?->g6,TriplesOk->g7,valueAt->g8,wpAny_loadName_cell->g9,wpAny_standAt->ie,swappedStores->ig,seq_tuple_add->ii,annotationsOf->ij,wpAny_pyIter_tuple->iq,call_meets->iw,holding->iE,wpAny_assign_Name->iH,concat_meets->iK,seqIndex_neg->iL,notedBy->iM,pyIter->iT,wpAny_pyIter_zip->iZ,seqSlot_of->i0,seqIndex_of->i4,BindsTo->jF,Keyword->jG,wpAny_Name->jI,Operator->jJ,wpAny_call->jK,PlainAttrs->jL,call->jN,defaultsOf->jP,qualnameIn->jQ,lastMarks->j8,Within->kb,Builtin->ke
open Nat renaming le_refl->aj,lt_of_lt_of_le->ak,le_trans->aq,ne_of_lt->av,lt_irrefl->bq,ne_of_gt->bM,zero_add->bU,le_succ->c8,le_of_lt->c9,not_lt_zero->dm,zero_le->dA,lt_trans->dI,lt_succ_self->dU,pow_le_pow_right->eA,strongRecOn->eI,add_comm->eK,le_of_succ_le->fm,lt_succ_of_lt->fq,mul_add->fv,lt_trichotomy->fx,mul_assoc->fL,le_of_not_lt->fQ,succ_mul->gb,mul_comm->gf,lt_or_ge->iP,sub_self->iQ,div_add_mod->jD,mod_lt->jX,add_zero->km
open Bool renaming and_eq_true->ao,false_eq_true->aJ,false_ne_true->aR,or_eq_true->bL,eq_iff_iff->dr,and_true->d4,true_and->d5,or_eq_false_iff->d9,not_eq_true'->fy,and_eq_true_iff->gU,not_true->j1,false_or->j2
open Option.some renaming inj->ar
open Option renaming map_some->aE,map_eq_some_iff->cQ,isSome_some->eW,isSome_map->fw,isSome_iff_exists->fD,isSome_none->iz
open PySem.Builtin.SmallTypes renaming nextOf->aY,ownedTupleIsFree->bR,ownedTupleHandOut->dg
open False renaming elim->bB
open Int renaming le_refl->bH,le_trans->bW,toNat_natCast->dL,mul_le_mul_of_nonneg_right->dX,mul_le_mul_of_nonneg_left->ee,fdiv_eq_ediv_of_nonneg->eT,one_mul->fA,zero_add->gu,natCast_mul->gC,add_mul->gX,toNat_of_nonneg->hZ,emod_lt_of_pos->iD,le_antisymm->i7,emod_nonneg->jC,mul_nonneg->jY,sub_zero->ki,le_total->kj
open Ne renaming symm->bS
open PySem.F renaming plain_min_loop->cx,slot_tuple_iterator_next->cB,args_tuple_add_2->di,slot_int_rmul->du,entry_tuple_add->dz,slot_tuple_add->dE,slot_tuple_mul->dM,args_tuple_iterator_next_1->eF,slot_zip_next->eG,entry_tuple_iterator_next->eN,entry_min_loop->fS,slot_tuple_rmul->fT,plainAttrs_list->fV,slot_list_append->gI,args_int_rmul_2->gS,slot_int_index->hU,entry_int_rmul->hV,fills_int_mul->iy,args_zip_next_1->iO,entry_zip_next->iY
open Classical renaming byContradiction->cE,propDecidable->fU
open PySem.Str renaming ofString->cH
open PyProof.Rows renaming callWith_type1->cX,kindOf->dQ,AllBare->fe,envOfC->fC,subscriptTail_builtinR->f7,Constant_none->ic,IntsAre->jH
open Array renaming toList_append->dh,length_toList->hJ,append_assoc->ip,toList->iG
open PySem.Builtin.List renaming listTooLong->dj
open PySem.Around renaming under_plainId->d7,frames_deeper->gR
open PySem.Builtin.Builtins renaming bindParams->eM
open PySem.Calls renaming Name_function_global->eR,callWith_builtin->ga
open PySem.Builtin.Tuple renaming tupleTooMany->eX,tupleItemsOf->jR,tupleIsExact->jS
open PySem.W.OpenLaw renaming wellSaid->fM
open PySem.Obj renaming mapSeq->f8,data_mapFields->iA
open PySem.SeqAt renaming EqAt->gk,RcNeAt->kg,RcAt->kx
open PySem.SeqAt.EqAt renaming same->gD,int_str->ik,str_int->io,of_refs->iC
open List.cons renaming injEq->gE
open PySem.Heap.SameBut renaming update->hX
open PySem.Paired renaming length->ib,snoc->kt
open PySem.PassesOwn renaming never->i8
open PySem.Walks renaming list->jO
open PySem.Builtin.Str renaming tooLong->jZ
open PySem.Value renaming isStrOf->j0,isInt->ko
open PySem.CmpOf renaming ints_lt->j3
open Function renaming comp->j5
open PySem.Builtin.Range renaming rangeSize->j7
open PyProof.Rows.IsTup renaming new->j9
open PySem.StrLaws renaming found_one->ka
open PySem.W.OpenRow renaming toRowW->kn
open PySem.Heap.Ns renaming new->kr
open List.Pairwise renaming filter->ku
noncomputable section
namespace L2
open PySem PySem.Spec PyProof.Rows
noncomputable abbrev Key:=Sum Int Str
noncomputable def aU4:Key->Value->Bool
 | .inl k,v=>ko k v
 | .inr x,v=>j0 x v
noncomputable def cq2 (w:World):Key->Int
 | .inl k=>hashInt k
 | .inr x=>hashStr w x
theorem zO:∀ {k:Key} {v:Value},aU4 k v=true->(∃ i t,k=Sum.inl i/\v=Value.int i t)\/(∃ x t,k=Sum.inr x/\v=Value.str x t)
 | .inl i,v,h=>by
  obtain⟨t,e⟩:=Value.isInt_shape (k:=i) (v:=v) h
  exact .inl ⟨i,t,rfl,e⟩
 | .inr x,v,h=>by
  obtain⟨t,e⟩:=Value.isStrOf_shape (x:=x) (v:=v) h
  exact .inr ⟨x,t,rfl,e⟩
theorem aZ0 (i:Int)(t:Tok):aU4 (.inl i) (.int i t)=true:=by simp[aU4,ko]
theorem bd7 (x:Str)(t:Tok):aU4 (.inr x) (.str x t)=true:=by simp[aU4,j0]
theorem bZ4 (a b:Int):decide ((Sum.inl a:Key)=Sum.inl b)=(a==b):=by
 by_cases e:a=b
 ·subst e;simp
 ·have h:¬(Sum.inl a:Key)=Sum.inl b:=λ q=>e (Sum.inl.inj q)
  rw[decide_eq_false h]
  exact(beq_eq_false_iff_ne.mpr e).symm
theorem bW5 (a b:Str):decide ((Sum.inr a:Key)=Sum.inr b)=decide (a=b):=by
 by_cases e:a=b
 ·subst e;simp
 ·have h:¬(Sum.inr a:Key)=Sum.inr b:=λ q=>e (Sum.inr.inj q)
  rw[decide_eq_false h,decide_eq_false e]
theorem bY0 (a:Int)(b:Str):decide ((Sum.inl a:Key)=Sum.inr b)=false:=decide_eq_false (λ q=>nomatch q)
theorem bM9 (a:Str)(b:Int):decide ((Sum.inr a:Key)=Sum.inl b)=false:=decide_eq_false (λ q=>nomatch q)
noncomputable def qb (prog:aL)(w:World):PySem.KeyKind prog w Key where
 is:=aU4
 hash:=cq2 w
 inj:=λ v a b ha hb=>by
  rcases zO ha with⟨i,t,rfl,rfl⟩|⟨x,t,rfl,rfl⟩
  ·rcases zO hb with⟨j,u,rfl,e⟩|⟨y,u,rfl,e⟩
   ·injection e with e1 _;rw[e1]
   ·exact nomatch e
  ·rcases zO hb with⟨j,u,rfl,e⟩|⟨y,u,rfl,e⟩
   ·exact nomatch e
   ·injection e with e1 _;rw[e1]
 byValue:=λ k v h=>by
  rcases zO h with⟨i,t,rfl,rfl⟩|⟨x,t,rfl,rfl⟩<;>rfl
 pyHash:=λ hv h=>by
  rcases zO hv with⟨i,t,rfl,rfl⟩|⟨x,t,rfl,rfl⟩
  ·exact wpAny_pyHash_int h
  ·exact wpAny_pyHash_str h
 eqBool:=λ hu hv h=>by
  rcases zO hu with⟨i,t,rfl,rfl⟩|⟨x,t,rfl,rfl⟩
  ·rcases zO hv with⟨j,u,rfl,rfl⟩|⟨y,u,rfl,rfl⟩
   ·rw[bZ4]at h;exact wpAny_eqBool_int h
   ·rw[bY0]at h;exact ik i t y u _ _ _ _ h
  ·rcases zO hv with⟨j,u,rfl,rfl⟩|⟨y,u,rfl,rfl⟩
   ·rw[bM9]at h;exact io x t j u _ _ _ _ h
   ·rw[bW5]at h;exact wpAny_eqBool_str h
 «strs»:=λ k x t v h=>by
  rcases zO h with⟨i,u,rfl,e⟩|⟨y,u,rfl,e⟩
  ·exact nomatch e
  ·injection e with e1 _
   subst e1
   cases v<;>rfl
theorem aI8 (prog:aL)(w:World)(i:Int)(t:Tok):(qb prog w).is (.inl i) (.int i t)=true:=aZ0 i t
theorem aG5 (prog:aL)(w:World)(x:Str)(t:Tok):(qb prog w).is (.inr x) (.str x t)=true:=bd7 x t
inductive V where
 | non|bl (b:Bool)|int (i:Int)|str (x:Str)|byt (b:Array UInt8)|flt (b:UInt64)|ref (a:Addr)|ty (n:String)
 deriving DecidableEq
noncomputable def RelV:V->Value->Prop
 | .non,u=>u=Value.none
 | .bl b,u=>u=Value.bool b
 | .int i,u=>∃ t,u=Value.int i t
 | .str x,u=>∃ t,u=Value.str x t
 | .byt b,u=>∃ t,u=Value.bytes b t
 | .flt b,u=>∃ t,u=Value.float b t
 | .ref a,u=>u=Value.ref a
 | .ty n,u=>u=Value.type n
abbrev Vals:List V->List Value->Prop:=fB RelV
theorem Vals.length {h:List V}{us:List Value}(r:Vals h us):h.length=us.length:=ib r
theorem Vals.get:∀ {h:List V} {us:List Value} {i:Nat} {x:V},Vals h us->h[i]?=some x->∃ u,us[i]?=some u/\RelV x u
 | _,_,_,_,.nil,e=>by simp at e
 | _,_,0,_,.cons r _,e=>by simp at e;subst e;exact⟨_,rfl,r⟩
 | _,_,i+1,x,.cons _ t,e=>by
  obtain⟨u,y,B⟩:=Vals.get (i:=i) (x:=x) t (by simpa using e)
  exact⟨u,by simpa using y,B⟩
theorem Vals.set {x:V}{u:Value}(r:RelV x u):∀ {h:List V} {us:List Value} (i:Nat),Vals h us->Vals (h.set i x) (us.set i u)
 | _,_,_,.nil=>.nil
 | _,_,0,.cons _ t=>.cons r t
 | _,_,i+1,.cons q t=>.cons q (Vals.set r i t)
theorem Vals.append:∀ {h ys:List V} {us ws:List Value},Vals h us->Vals ys ws->Vals (h++ys) (us++ws)
 | _,_,_,_,.nil,s=>s
 | _,_,_,_,.cons r t,s=>.cons r (Vals.append t s)
theorem Vals.take:∀ {h:List V} {us:List Value} (n:Nat),Vals h us->Vals (h.take n) (us.take n)
 | _,_,0,_=>.nil
 | _,_,_+1,.nil=>.nil
 | _,_,n+1,.cons r t=>.cons r (Vals.take n t)
theorem Vals.drop:∀ {h:List V} {us:List Value} (n:Nat),Vals h us->Vals (h.drop n) (us.drop n)
 | _,_,0,r=>r
 | _,_,_+1,.nil=>.nil
 | _,_,n+1,.cons _ t=>Vals.drop n t
noncomputable def aV6:Option V->Option Value->Prop
 | some v,some u=>RelV v u
 | none,none=>True
 | _,_=>False
def KV {κ:Type}:List (κ×V)->List (κ×Value)->Prop:=fB λ(p:κ×V) (q:κ×Value)=>p.1=q.1/\RelV p.2 q.2
noncomputable def kV:Key->V
 | .inl i=>.int i
 | .inr x=>.str x
inductive HO where
 | lst (xs:List V)
 | tup (xs:List V)
 | dK (kvs:List (Key×V))|dT (kvs:List (List Key×V))
 | set (S:Int->Bool) (n:Nat)
 | ins (C dx:Addr) (fs:List (Str×V))
 | own (x:Addr)
 | xd (fs:List (Str×V))
 | met (f x:Addr)
 | rng (lo hi:Int)
 | frz (o:Obj) (u:HO)
 | tbl (ps:Array Value)
 | ext (φ:Heap->Prop)
noncomputable abbrev Hp:=Addr->Option HO
noncomputable def upd (H:Hp)(a:Addr)(o:HO):Hp:=λ b=>if b=a then some o else H b
theorem zr {H:Hp}{a:Addr}{o:HO}:upd H a o a=some o:=by unfold upd;rw[if_pos rfl]
theorem zm {H:Hp}{a b:Addr}{o:HO}(h:b≠a):upd H a o b=H b:=by unfold upd;rw[if_neg h]
theorem cg6 {H:Hp}{a b:Addr}{o u:HO}(h:H a=some o)(h':H b=some u)(d:o≠u):a≠b:=by
 intro e;subst e;rw[h]at h';exact d (ar h')
theorem zH {H:Hp}{a b:Addr}{o:HO}(h:H a=some o)(h':H b=none):a≠b:=by
 intro e;subst e;rw[h]at h';cases h'
section
variable (P:aL) (w:World)
noncomputable def ae4 (H:Hp)(h:Heap)(a:Addr):HO->Prop
 | .lst xs=>xs.length<=aN/\∃(its:List Value) (n:Nat),Vals xs its/\h.get? a=some { cls:=.type "list",data:=.seq its.toArray n }
 | .tup xs=>xs.length<=aN/\∃ its:List Value,Vals xs its/\IsTup h a its.toArray
 | .dK kvs=>kvs.length<=aN/\(a==c7)=false/\∃ vs,KV kvs vs/\h.DictOf (qb P w) a vs
 | .dT kvs=>kvs.length<=aN/\(a==c7)=false/\∃ xs:List (List Key×Addr×Value),
   fB (λ(p:List Key×V) (q:List Key×Addr×Value)=>p.1=q.1/\H q.2.1=some (.tup (p.1.map kV))/\RelV p.2 q.2.2) kvs xs /\
   ∃ o es ep,h.get? a=some o/\o.ExactDict/\o.data=.dict es ep/\es.toList=xs.map (entryOfKey (gY (qb P w)))/\(xs.map (·.1)).Nodup
 | .set S n=>h.SetOf (intKind P w) a S n
 | .ins C dx fs=>H dx=some (.own a)/\fs.length<=1000/\dx≠a/\h.get? a=some (gv C dx) /\
   ∃ mA,h.Ns1 dx mA/\(∀ f,aV6 (fs.lookup f) (mA f))/\kb mA (fs.map (·.1))
 | .own _=>∃ o,h.get? a=some o
 | .xd fs=>∃ mA,h.Ns1 a mA/\∀ f,aV6 (fs.lookup f) (mA f)
 | .rng lo hi=>∃ t u v,h.get? a=some { cls:=.type "range",data:=.fields #[.int lo t,.int hi u,.int 1 v] }
 | .frz o u=>h.get? a=some o/\ae4 H h a u
 | .tbl ps=>h.get? a=some { cls:=.none,data:=.fields ps }
 | .met f x=>h.get? a=some (fc (.ref f) (.ref x))
 | .ext φ=>φ h/\(∃ o,h.get? a=some o)/\∀ h1 h2:Heap,φ h1->(∀ o,h1.get? a=some o->h2.get? a=some o)->φ h2
def HOk (H:Hp)(h:Heap):Prop:=∀ a o,H a=some o->ae4 P w H h a o
end
section
variable {P:aL} {w:World} {H H':Hp} {h h':Heap} {a:Addr} {o:HO}
theorem ae4.lt (x:ae4 P w H h a o):a<h.objs.size:=by
 cases o with
 | lst xs=>obtain⟨_,_,_,_,e⟩:=x;exact aA e
 | tup xs=>obtain⟨_,_,_,p⟩:=x;exact p.lt
 | dK kvs=>obtain⟨_,_,_,_,o,_,_,e,_⟩:=x;exact aA e
 | dT kvs=>obtain⟨_,_,_,_,o,_,_,e,_⟩:=x;exact aA e
 | set S n=>obtain⟨o,_,_,_,e,_⟩:=x;exact aA e
 | ins C dx fs=>obtain⟨_,_,_,e,_⟩:=x;exact aA e
 | own y=>obtain⟨_,e⟩:=x;exact aA e
 | xd fs=>obtain⟨_,⟨_,_,_,e,_⟩,_⟩:=x;exact aA e
 | rng lo hi=>obtain⟨_,_,_,e⟩:=x;exact aA e
 | frz ob u=>obtain⟨e,_⟩:=x;exact aA e
 | tbl ps=>exact aA (show h.get? a=some _ from x)
 | met f y=>exact aA (show h.get? a=some _ from x)
 | ext φ=>obtain⟨_,⟨_,e⟩,_⟩:=x;exact aA e
theorem fB.mapP {α β:Type}{F G:α->β->Prop}:∀ {h:List α} {y:List β},fB F h y->(∀ a b,F a b->G a b)->fB G h y
 | _,_,.nil,_=>.nil
 | _,_,.cons r t,f=>.cons (f _ _ r) (fB.mapP t f)
theorem ae4.stay (x:ae4 P w H h a o)(k:∀ b u,(b=a\/H b=some (.own a))->h.get? b=some u->h'.get? b=some u)
  (ho:∀ b,H b=some (.own a)->H' b=some (.own a)) (ht:∀ b G,H b=some (.tup G)->H' b=some (.tup G)):ae4 P w H' h' a o:=by
 induction o with
 | lst G=>obtain⟨z,its,n,r,e⟩:=x;exact⟨z,its,n,r,k _ _ (.inl rfl) e⟩
 | tup G=>obtain⟨z,its,r,ob,e,c⟩:=x;exact⟨z,its,r,ob,k _ _ (.inl rfl) e,c⟩
 | dK kvs=>obtain⟨z,y,vs,r,ob,es,B,e,c⟩:=x;exact⟨z,y,vs,r,ob,es,B,k _ _ (.inl rfl) e,c⟩
 | dT kvs =>
  obtain⟨z,y,G,r,ob,es,B,e,c⟩:=x
  exact⟨z,y,G,fB.mapP r λ p q z=>⟨z.1,ht _ _ z.2.1,z.2.2⟩,ob,es,B,k _ _ (.inl rfl) e,c⟩
 | set S n=>obtain⟨ob,es,B,t,e,c⟩:=x;exact⟨ob,es,B,t,k _ _ (.inl rfl) e,c⟩
 | ins C dx fs =>
  obtain⟨d,z,ne,e,J,⟨od,es,B,e2,c⟩,r⟩:=x
  exact⟨ho _ d,z,ne,k _ _ (.inl rfl) e,J,⟨od,es,B,k _ _ (.inr d) e2,c⟩,r⟩
 | own y=>obtain⟨ob,e⟩:=x;exact⟨ob,k _ _ (.inl rfl) e⟩
 | xd fs=>obtain⟨J,⟨od,es,B,e,c⟩,r⟩:=x;exact⟨J,⟨od,es,B,k _ _ (.inl rfl) e,c⟩,r⟩
 | rng lo hi=>obtain⟨t,u,v,e⟩:=x;exact⟨t,u,v,k _ _ (.inl rfl) e⟩
 | frz ob u ih=>obtain⟨e,q⟩:=x;exact⟨k _ _ (.inl rfl) e,ih q⟩
 | tbl ps =>
  have e:h.get? a=some { cls:=.none,data:=.fields ps }:=x
  show h'.get? a=some { cls:=.none,data:=.fields ps }
  exact k a _ (.inl rfl) e
 | met f y =>
  have e:h.get? a=some (fc (.ref f) (.ref y)):=x
  show h'.get? a=some (fc (.ref f) (.ref y))
  exact k a _ (.inl rfl) e
 | ext φ=>obtain⟨p,⟨o,e⟩,st⟩:=x;exact⟨st _ _ p λ o q=>k _ _ (.inl rfl) q,⟨o,k _ _ (.inl rfl) e⟩,st⟩
theorem HOk.lt (x:HOk P w H h)(e:H a=some o):a<h.objs.size:=(x a o e).lt
theorem HOk.fresh (x:HOk P w H h)(e:h.objs.size<=a):H a=none:=by
 cases q:H a with
 | none=>rfl
 | some u=>exact absurd (ak (x.lt q) e) (bq _)
theorem HOk.kept (x:HOk P w H h)(k:∀ b u,h.get? b=some u->h'.get? b=some u):HOk P w H h':=λ a o e =>
 (x a o e).stay (λ b u _ q=>k b u q) (λ _ q=>q) λ _ _ q=>q
theorem HOk.laid (x:HOk P w H h)(k:∀ b u,h.get? b=some u->h'.get? b=some u)(y:h.objs.size<=a)(new:ae4 P w (upd H a o) h' a o):HOk P w (upd H a o) h':=λ b u e=>by
 have hn:=x.fresh y
 by_cases hb:b=a
 ·subst hb;rw[zr]at e;cases e;exact new
 ·rw[zm hb]at e
  exact(x b u e).stay (λ c v _ q=>k c v q) (λ c q=>by rw[zm (zH q hn)];exact q) λ c B q=>by rw[zm (zH q hn)];exact q
end
def Rd (H:Hp)(a:Addr)(u:HO):Prop:=H a=some u\/∃ o,H a=some (.frz o u)
theorem Rd.ok {P:aL}{w:World}{H:Hp}{h:Heap}{a:Addr}{u:HO}(r:Rd H a u)(x:HOk P w H h):ae4 P w H h a u:=by
 rcases r with r|⟨o,r⟩
 ·exact x a u r
 ·obtain⟨_,q⟩:=x a _ r
  exact q
noncomputable def Mut:Option HO->Prop
 | some (.lst _)=>True
 | some (.dK _)=>True
 | some (.dT _)=>True
 | some (.set _ _)=>True
 | some (.ins _ _ _)=>True
 | some (.ext _)=>True
 | _=>False
section
variable {P:aL} {w:World} {H:Hp} {h h':Heap} {x e:Addr} {o':HO}
theorem HOk.write (ok:HOk P w H h)(mu:Mut (H x))(Y:e=x\/H e=some (.own x))(k:∀ b u,b≠e->h.get? b=some u->h'.get? b=some u)(J:∃ u,h'.get? e=some u)
  (new:ae4 P w (upd H x o') h' x o'):HOk P w (upd H x o') h':=λ b u q=>by
 have B:∀ c y,H c=some (.own y)->c≠x:=λ c y r z=>by subst z;rw[r]at mu;exact mu
 have C:∀ c G,H c=some (.tup G)->c≠x:=λ c G r z=>by subst z;rw[r]at mu;exact mu
 by_cases hb:b=x
 ·subst hb;rw[zr]at q;cases q;exact new
 ·rw[zm hb]at q
  by_cases hbe:b=e
  ·have Z:H b=some (.own x):=by
    rcases Y with z|z
    ·exact absurd (hbe.trans z) hb
    ·rw[hbe];exact z
   rw[q]at Z;cases Z
   obtain⟨v,hv⟩:=J
   exact⟨v,by rw[hbe];exact hv⟩
  ·refine(ok b u q).stay (λ c v hc r=>k c v ?_ r) (λ c r=>by rw[zm (B c b r)];exact r) λ c G r=>by rw[zm (C c G r)];exact r
   rcases hc with rfl|hc
   ·exact hbe
   ·rintro rfl
    rcases Y with z|z
    ·exact B c b hc z
    ·rw[hc]at z;cases z;exact hb rfl
end
structure Un (fs ex:List Addr)(H H':Hp)(h h':Heap):Prop where
 keep:∀ b o,h.get? b=some o->H b=none->b ∉ fs->b ∉ ex->h'.get? b=some o
 slot:∀ b o,h.get? b=some o->H b=none->b∈fs->b ∉ ex->∃ sl,h'.get? b=some { o with slots:=sl }
 free:∀ b o,h.get? b=some o->H b=none->b ∉ ex->H' b=none
 there:∀ b o,h.get? b=some o->b ∉ ex->∃ o',h'.get? b=some o'
 tups:∀ b xs,H b=some (.tup xs)->H' b=some (.tup xs)
 frzs:∀ b o u,H b=some (.frz o u)->H' b=some (.frz o u)
 tbls:∀ b ps,H b=some (.tbl ps)->∃ more,H' b=some (.tbl (ps++more))
section
variable {fs fs' ex ex':List Addr} {H H1 H2:Hp} {h h1 h2 h':Heap} {a x e:Addr} {o:HO}
theorem Un.any (u:Un fs ex H H1 h h1){b:Addr}{ob:Obj}(q:h.get? b=some ob)(n:H b=none)(hx:b ∉ ex):∃ sl,h1.get? b=some { ob with slots:=sl }:=by
 by_cases hb:b∈fs
 ·exact u.slot b ob q n hb hx
 ·exact⟨ob.slots,u.keep b ob q n hb hx⟩
theorem Un.kept (k:∀ b u,h.get? b=some u->h'.get? b=some u):Un fs ex H H h h' :=
 ⟨λ b ob q _ _ _=>k b ob q,λ b ob q _ _ _=>⟨ob.slots,k b ob q⟩,λ _ _ _ n _=>n,λ b ob q _=>⟨ob,k b ob q⟩,λ _ _ q=>q,λ _ _ _ q=>q,λ _ ps q=>⟨#[],by rw[q];simp⟩⟩
theorem Un.refl:Un fs ex H H h h:=Un.kept λ _ _ q=>q
theorem Un.laid (k:∀ b u,h.get? b=some u->h'.get? b=some u)(B:h.objs.size<=a)(hn:H a=none):Un fs ex H (upd H a o) h h' where
 keep:=λ b u q _ _ _=>k b u q
 slot:=λ b u q _ _ _=>⟨u.slots,k b u q⟩
 free:=λ b u q n _=>by rw[zm (av (ak (aA q) B))];exact n
 there:=λ b u q _=>⟨u,k b u q⟩
 tups:=λ b y q=>by rw[zm (zH q hn)];exact q
 frzs:=λ b u y q=>by rw[zm (zH q hn)];exact q
 tbls:=λ b ps q=>⟨#[],by rw[zm (zH q hn),q];simp⟩
theorem Un.write (mu:Mut (H x))(G:e=x\/H e=some (.own x))(k:∀ b u,b≠e->h.get? b=some u->h'.get? b=some u)(y:∃ u,h'.get? e=some u):Un fs ex H (upd H x o) h h':=by
 have hx:∀ b,H b=none->b≠x:=λ b n z=>by subst z;rw[n]at mu;exact mu
 have hb:∀ b,H b=none->b≠e:=λ b n z=>by
  subst z
  rcases G with r|r
  ·exact hx b n r
  ·rw[n]at r;cases r
 have B:∀ b u,H b=some u->¬ Mut (some u)->b≠x:=λ b u q J z=>by subst z;rw[q]at mu;exact J mu
 refine⟨λ b u q n _ _=>k b u (hb b n) q,λ b u q n _ _=>⟨u.slots,k b u (hb b n) q⟩,λ b u q n _=>by rw[zm (hx b n)];exact n,λ b u q _=>?_,
  λ b C q=>by rw[zm (B b _ q λ z=>z)];exact q,λ b u C q=>by rw[zm (B b _ q λ z=>z)];exact q,λ b ps q=>⟨#[],by rw[zm (B b _ q λ z=>z),q];simp⟩⟩
 by_cases hbe:b=e
 ·subst hbe;exact y
 ·exact⟨u,k b u hbe q⟩
end
noncomputable def trk (h:Heap)(H:Hp):List Addr:=(ah h.objs.size).filter λ a=>(H a).isSome
noncomputable def bi9 (h:Heap)(H:Hp):Heap:=PySem.W.hideAll h (trk h H)
theorem aW5 (h:Heap)(H:Hp):(bi9 h H).objs.size=h.objs.size:=PySem.W.hideAll_size _ _
theorem am7 {h:Heap}{H:Hp}{b:Addr}{o:Obj}(e:h.get? b=some o)(n:H b=none):(bi9 h H).get? b=some o :=
 PySem.W.hideAll_get _ e λ y=>by
  have q:(H b).isSome=true:=(eB.mp y).2
  rw[n]at q;simp at q
theorem bH4 {h:Heap}{H:Hp}{b:Addr}{o:Obj}(e:(bi9 h H).get? b=some o):h.get? b=some o/\H b=none:=by
 have e':h.get? b=some o:=PySem.W.of_hideAll (trk h H) e
 refine⟨e',?_⟩
 cases q:H b with
 | none=>rfl
 | some x =>
  have y:b∈trk h H:=eB.mpr ⟨aU.mpr (aA e'),by simp[q]⟩
  have z:(bi9 h H).get? b=none:=PySem.W.hideAll_none (trk h H) y
  rw[z]at e;cases e
noncomputable def bJ3 (g h:Heap)(L:Addr):List (Addr×Obj):=(ah h.objs.size).filterMap λ a=>if a=L\/(g.get? a).isSome=true then none else(h.get? a).map λ o=>(a,o)
noncomputable def rest (g h:Heap)(L d:Addr):List (Addr×Obj):=(bJ3 g h L).filter λ p=>decide (p.1≠d)
structure Mod (K:ac)(mg:Str->Option Value)(base:Heap):Prop where
 kin:K.In base
 glob:base.Ns aX mg
 blt:∃ mb,base.Ns fW mb/\∀ x:Str,x ≠ "__name__"->mb x=bh x
 nolimit:base.NoLimit
structure Cx where
 prog:aL
 w:World
 K:ac
 mg:Str->Option Value
 base:Heap
 A:aV
 N:List Str
 s₀:af
 H₀:Hp
 env:Env
 outer:List Env
 stack:List Env
 ex:List Addr
 fn:Str->Bool
 calm:Bool
 pn:List (Addr×Obj)
 xe:Value->af->Prop
noncomputable def frs (l:List Env):List Addr:=l.filterMap (·.frame)
noncomputable abbrev Cx.fs (X:Cx):List Addr:=frs X.outer
def Vis (sc:Scope)(x:Str):Prop:=sc.names.lookup x=some .local\/sc.names.lookup x=some .cell\/sc.names.lookup x=some .free
def Loc (sc:Scope)(x:Str):Prop:=sc.names.lookup x=some .local\/sc.names.lookup x=some .cell
def Look (env:Env)(h:Heap)(m:Str->Option Value)(x:Str)(u:Value):Prop :=
 (env.kindOf x=some .local/\m x=some u)\/((env.kindOf x=some .cell\/env.kindOf x=some .free)/\∃ c,env.cells.lookup x=some c/\h.IsCell c (some u))
structure Cx.Ok (X:Cx):Prop where
 mod:Mod X.K X.mg X.base
 kind:X.env.scope.kind=.function
 glob:X.env.globals=aX
 blt:X.env.builtins=fW
 above:X.s₀.heap.objs.size<=X.env.locals
 inj:∀ x y c,X.env.cells.lookup x=some c->X.env.cells.lookup y=some c->x=y
 has:∀ x,(X.env.kindOf x=some .cell\/X.env.kindOf x=some .free)->∃ c,X.env.cells.lookup x=some c
 cab:∀ x c,X.fn x=true->X.env.cells.lookup x=some c->X.s₀.heap.objs.size<=c
 hd:X.calm=true->X.A.handled=none
 frames:X.A.frames=some X.stack
 stk:X.stack=X.outer\/(X.stack=X.env::X.outer/\X.env.frame=some X.env.locals)
 exf:∀ b∈X.ex,b≠X.env.locals/\∀ x c,X.env.cells.lookup x=some c->c≠b
 bs:∀ b o,X.base.get? b=some o->X.s₀.heap.get? b=some o/\X.H₀ b=none
 bsz:X.base.objs.size<=X.s₀.heap.objs.size
 noex:∀ b o,X.base.get? b=some o->b ∉ X.ex
 exfs:∀ b∈X.ex,b ∉ X.fs
 funs:X.s₀.heap.FunFrames X.base X.outer
 frf:∀ b∈X.fs,X.H₀ b=none
structure Inv (X:Cx)(pins:List (Addr×Obj))(σ:List (Option V))(H:Hp)(s:af):Prop where
 ok:X.Ok
 os:s.os=X.s₀.os
 bare:fe s.gens
 base:Un X.fs X.ex X.H₀ H X.s₀.heap s.heap
 loc:∃ m,s.heap.Ns X.env.locals m/\∀(i:Nat) (x:Str) (v:V),X.N[i]?=some x->σ[i]?=some (some v)->Vis X.env.scope x->∃ u,RelV v u/\Look X.env s.heap m x u
 cell:∀ x c,X.env.cells.lookup x=some c->∃ v,s.heap.IsCell c v
 free:H X.env.locals=none
 freeC:∀ x c,X.env.cells.lookup x=some c->H c=none
 pin:∀ p∈X.pn++pins,s.heap.get? p.1=some p.2/\H p.1=none/\p.1≠X.env.locals/\p.1 ∉ X.fs/\∀ v,p.2.data≠.cell v
 hok:HOk X.prog X.w H s.heap
 len:σ.length=X.N.length
section
variable {X:Cx} {pins:List (Addr×Obj)} {σ:List (Option V)} {H H':Hp} {s:af} {h':Heap}
theorem Cx.Ok.nofr (ok:X.Ok){b:Addr}{o:Obj}(e:X.base.get? b=some o):b ∉ X.fs:=λ hb=>by
 have:=(ok.funs.mem hb).1
 rw[e]at this;cases this
theorem Inv.bs (I:Inv X pins σ H s):∀ b o,X.base.get? b=some o->s.heap.get? b=some o/\H b=none:=λ b o e =>
 ⟨I.base.keep b o (I.ok.bs b o e).1 (I.ok.bs b o e).2 (I.ok.nofr e) (I.ok.noex b o e),I.base.free b o (I.ok.bs b o e).1 (I.ok.bs b o e).2 (I.ok.noex b o e)⟩
theorem Inv.bk (I:Inv X pins σ H s):∀ b o,X.base.get? b=some o->s.heap.get? b=some o:=λ b o e=>(I.bs b o e).1
theorem Inv.mod (I:Inv X pins σ H s):Mod X.K X.mg X.base:=I.ok.mod
theorem Inv.kIn (I:Inv X pins σ H s):X.K.In s.heap:=I.ok.mod.kin.keeps I.bk
theorem Inv.lt (I:Inv X pins σ H s):X.env.locals<s.heap.objs.size:=let⟨_,hn,_⟩:=I.loc;hn.lt
theorem Inv.sz (I:Inv X pins σ H s):X.s₀.heap.objs.size<=s.heap.objs.size:=aq I.ok.above (c9 I.lt)
theorem Inv.nofs (I:Inv X pins σ H s){a:Addr}(h:s.heap.objs.size<=a):a ∉ X.fs:=λ hb=>by
 obtain⟨_,o,ho,_⟩:=I.ok.funs.mem hb
 exact absurd (ak (aA ho) (aq I.sz h)) (bq _)
theorem Inv.cne (I:Inv X pins σ H s):∀ x c,X.env.cells.lookup x=some c->c≠X.env.locals:=λ x c e z=>by
 obtain⟨v,o,ho,hd⟩:=I.cell x c e
 obtain⟨m,⟨B,es,C,h,y,_⟩,_⟩:=I.loc
 rw[z,h]at ho;cases ho;rw[y]at hd;cases hd
theorem Inv.funs (I:Inv X pins σ H s):s.heap.FunFrames X.base X.outer:=by
 have all:∀(l:List Env),(∀ b∈frs l,b∈X.fs)->X.s₀.heap.FunFrames X.base l->s.heap.FunFrames X.base l:=by
  intro l
  induction l with
  | nil=>intro _ _;trivial
  | cons env r ih =>
   intro hs hl
   obtain⟨hk,⟨L,o,y,hn,ho,hd⟩,B⟩:=hl
   have h:L∈X.fs:=hs L (by unfold frs;rw[bv,y];exact aC)
   obtain⟨sl,e⟩:=I.base.slot L o ho (I.ok.frf L h) h λ z=>I.ok.exfs L z h
   exact⟨hk,⟨L,_,y,hn,e,hd⟩,ih (λ b hb=>hs b (by unfold frs;rw[bv,y];exact aw _ hb)) B⟩
 exact all X.outer (λ _ hb=>hb) I.ok.funs
theorem Inv.stack (I:Inv X pins σ H s):s.heap.FunFrames X.base X.stack:=by
 rcases I.ok.stk with e|⟨e,h⟩
 ·rw[e];exact I.funs
 ·rw[e]
  obtain⟨m,hn,_⟩:=I.loc
  refine .cons (by rw[I.ok.kind];decide) h hn ?_ I.funs
  exact Heap.get?_none_of_le (aq I.ok.bsz I.ok.above)
theorem Inv.stkSub (I:Inv X pins σ H s):∀ b∈frs X.stack,b∈X.env.locals::X.fs:=λ b hb=>by
 rcases I.ok.stk with e|⟨e,h⟩
 ·rw[e]at hb;exact aw _ hb
 ·rw[e]at hb
  unfold frs at hb
  rw[bv,h]at hb
  exact hb
theorem Inv.stkFree (I:Inv X pins σ H s):∀ b∈frs X.stack,H b=none:=λ b hb=>by
 rcases au.mp (I.stkSub b hb)with e|hb
 ·rw[e];exact I.free
 ·obtain⟨_,o,ho,_⟩:=I.ok.funs.mem hb
  exact I.base.free b o ho (I.ok.frf b hb) λ z=>I.ok.exfs b z hb
theorem Inv.step {g':Array GenState}{t':Nat}{d':Drawn}{ch:List Addr}(I:Inv X pins σ H s)
  (h:∀ b∈ch,(b∈X.ex\/X.s₀.heap.objs.size<=b)/\b≠X.env.locals/\(∀ x c,X.env.cells.lookup x=some c->c≠b)/\∀ p∈X.pn++pins,p.1≠b)
  (keep:∀ b o,b≠X.env.locals->b ∉ X.fs->b ∉ ch->s.heap.get? b=some o->H b=none->h'.get? b=some o)
  (slot:∀ b o,b≠X.env.locals->b∈X.fs->b ∉ ch->s.heap.get? b=some o->H b=none->∃ sl,h'.get? b=some { o with slots:=sl }) (free:∀ b o,b ∉ ch->s.heap.get? b=some o->H b=none->H' b=none)
  (there:∀ b o,b ∉ ch->s.heap.get? b=some o->∃ J,h'.get? b=some J)
  (tups:∀ b G,H b=some (.tup G)->H' b=some (.tup G)) (frzs:∀ b o u,H b=some (.frz o u)->H' b=some (.frz o u)) (tbls:∀ b ps,H b=some (.tbl ps)->∃ Y,H' b=some (.tbl (ps++Y)))
  (ns:∀ m,s.heap.Ns X.env.locals m->h'.Ns X.env.locals m) (hok:HOk X.prog X.w H' h') (hg:fe g') :
  Inv X pins σ H' { s with heap:=h',gens:=g',drawn:=d',toks:=t' }:=by
 have Z:∀ b o,X.s₀.heap.get? b=some o->b≠X.env.locals:=λ b o e=>av (ak (aA e) I.ok.above)
 have C:∀ b o,X.s₀.heap.get? b=some o->b ∉ X.ex->b ∉ ch:=λ b o e hx hb=>by
  rcases(h b hb).1 with z|z
  ·exact hx z
  ·exact absurd (ak (aA e) z) (bq _)
 have y:∀ x c,X.env.cells.lookup x=some c->∀ v,s.heap.IsCell c v->h'.IsCell c v:=λ x c e v ⟨o,ho,hd⟩=>by
  have B:c ∉ ch:=λ z=>(h c z).2.2.1 x c e rfl
  by_cases hc:c∈X.fs
  ·obtain⟨sl,q⟩:=slot c o (I.cne x c e) hc B ho (I.freeC x c e)
   exact⟨_,q,hd⟩
  ·exact⟨o,keep c o (I.cne x c e) hc B ho (I.freeC x c e),hd⟩
 refine⟨I.ok,I.os,hg,⟨λ b o e n hb hx=>?_,λ b o e n hb hx=>?_,λ b o e n hx=>?_,λ b o e hx=>?_,λ b G e=>tups b G (I.base.tups b G e),λ b o G e=>frzs b o G (I.base.frzs b o G e),λ b ps e=>?_⟩,?_,λ x c e=>?_,?_,λ x c e=>?_,λ p hp=>?_,hok,I.len⟩
 ·exact keep b o (Z b o e) hb (C b o e hx) (I.base.keep b o e n hb hx) (I.base.free b o e n hx)
 ·obtain⟨sl,e1⟩:=I.base.slot b o e n hb hx
  obtain⟨a0,e2⟩:=slot b _ (Z b o e) hb (C b o e hx) e1 (I.base.free b o e n hx)
  exact⟨a0,e2⟩
 ·obtain⟨J,e1⟩:=I.base.there b o e hx
  exact free b J (C b o e hx) e1 (I.base.free b o e n hx)
 ·obtain⟨J,e1⟩:=I.base.there b o e hx
  exact there b J (C b o e hx) e1
 ·obtain⟨m1,e1⟩:=I.base.tbls b ps e
  obtain⟨m2,e2⟩:=tbls b _ e1
  exact⟨m1++m2,by rw[e2,ip]⟩
 ·obtain⟨m,hn,hl⟩:=I.loc
  refine⟨m,ns m hn,λ i x v e1 e2 e3=>?_⟩
  obtain⟨u,r,l⟩:=hl i x v e1 e2 e3
  refine⟨u,r,?_⟩
  rcases l with l|⟨k,c,e,z⟩
  ·exact .inl l
  ·exact .inr ⟨k,c,e,y x c e _ z⟩
 ·obtain⟨v,z⟩:=I.cell x c e
  exact⟨v,y x c e v z⟩
 ·obtain⟨m,⟨o,_,_,ho,_⟩,_⟩:=I.loc
  exact free _ o (λ z=>(h _ z).2.1 rfl) ho I.free
 ·obtain⟨v,o,ho,hd⟩:=I.cell x c e
  exact free c o (λ z=>(h c z).2.2.1 x c e rfl) ho (I.freeC x c e)
 ·obtain⟨e,n,ne,nf,d⟩:=I.pin p hp
  have B:p.1 ∉ ch:=λ z=>(h p.1 z).2.2.2 p hp rfl
  exact⟨keep p.1 p.2 ne nf B e n,free p.1 p.2 B e n,ne,nf,d⟩
theorem Inv.un {t':Nat}(I:Inv X pins σ H s)(u:Un X.fs [] H H' s.heap h')(hok:HOk X.prog X.w H' h'):Inv X pins σ H' { s with heap:=h',toks:=t' }:=by
 obtain⟨m,⟨o,es,Z,ho,r⟩,_⟩:=id I.loc
 obtain⟨sl,C⟩:=u.any ho I.free (by simp)
 exact I.step (g':=s.gens) (d':=s.drawn) (ch:=[]) (λ _ z=>nomatch z) (λ b o _ hb _ e n=>u.keep b o e n hb (by simp)) (λ b o _ hb _ e n=>u.slot b o e n hb (by simp)) (λ b o _ e n=>u.free b o e n (by simp)) (λ b o _ e=>u.there b o e (by simp)) u.tups u.frzs u.tbls (λ m' G=>by
  obtain⟨Y,y,B,h,J⟩:=G
  rw[ho]at h;cases h
  exact⟨_,y,B,C,J⟩) hok I.bare
theorem Inv.call {g':Array GenState}{t':Nat}{d':Drawn}{ch:List Addr}(I:Inv X pins σ H s)(u:Un (frs X.stack) ch H H' s.heap h')(hok:HOk X.prog X.w H' h')(Z:fe g')
  (h:∀ b∈ch,(b∈X.ex\/X.s₀.heap.objs.size<=b)/\b≠X.env.locals/\(∀ x c,X.env.cells.lookup x=some c->c≠b)/\∀ p∈X.pn++pins,p.1≠b) :
  Inv X pins σ H' { s with heap:=h',gens:=g',drawn:=d',toks:=t' }:=by
 obtain⟨m,⟨o,es,ep,ho,r⟩,_⟩:=id I.loc
 obtain⟨sl,C⟩:=u.any ho I.free λ z=>(h _ z).2.1 rfl
 exact I.step (ch:=ch) h (λ b o C hb hc e n=>u.keep b o e n (λ z=>(au.mp (I.stkSub b z)).elim C hb) hc) (λ b o _ _ hc e n=>u.any e n hc) (λ b o hc e n=>u.free b o e n hc) (λ b o hc e=>u.there b o e hc) u.tups u.frzs u.tbls (λ m' J=>by
  obtain⟨o',B,G,y,Y⟩:=J
  rw[ho]at y;cases y
  exact⟨_,B,G,C,Y⟩) hok Z
theorem Inv.turned {t':Nat}{h:Addr}(I:Inv X pins σ H s)(k:∀ b o,b≠h->s.heap.get? b=some o->h'.get? b=some o)(hn:H h=none)(B:h≠X.env.locals)
  (G:h∈X.ex\/X.s₀.heap.objs.size<=h) (Y:∀ x c,X.env.cells.lookup x=some c->c≠h) (h3:∀ p∈X.pn++pins,p.1≠h):Inv X pins σ H { s with heap:=h',toks:=t' }:=by
 have y:∀ b u,H b=some u->b≠h:=λ b u e z=>by rw[z,hn]at e;cases e
 refine I.step (g':=s.gens) (d':=s.drawn) (ch:=[h]) (λ b hb=>?_) (λ b o _ _ hc e _=>k b o (λ z=>hc (by simp[z])) e) (λ b o _ _ hc e _=>⟨o.slots,k b o (λ z=>hc (by simp[z])) e⟩) (λ _ _ _ _ n=>n)
  (λ b o hc e=>⟨o,k b o (λ z=>hc (by simp[z])) e⟩) (λ _ _ e=>e) (λ _ _ _ e=>e) (λ b ps e=>⟨#[],by rw[e];simp⟩) (λ m J=>?_) (λ b u e=>?_) I.bare
 ·have e:b=h:=by simpa using hb
  subst e
  exact⟨G,B,Y,h3⟩
 ·obtain⟨o,es,C,ho,r⟩:=J
  exact⟨o,es,C,k _ o (bS B) ho,r⟩
 ·refine(I.hok b u e).stay (λ c v hc q=>k c v ?_ q) (λ _ q=>q) λ _ _ q=>q
  rcases hc with z|z
  ·rw[z];exact y b u e
  ·exact y c _ z
theorem Inv.tok (I:Inv X pins σ H s)(t:Nat):Inv X pins σ H { s with toks:=t }:=I.un (h':=s.heap) (t':=t) Un.refl I.hok
theorem Inv.kept {t':Nat}(I:Inv X pins σ H s)(k:∀ b u,s.heap.get? b=some u->h'.get? b=some u):Inv X pins σ H { s with heap:=h',toks:=t' }:=I.un (Un.kept k) (I.hok.kept k)
theorem Inv.laid {a:Addr}{o:HO}{t':Nat}(I:Inv X pins σ H s)(k:∀ b u,s.heap.get? b=some u->h'.get? b=some u)(h:s.heap.objs.size<=a)(new:ae4 X.prog X.w (upd H a o) h' a o) :
  Inv X pins σ (upd H a o) { s with heap:=h',toks:=t' }:=I.un (Un.laid k h (I.hok.fresh h)) (I.hok.laid k h new)
theorem Inv.write {x e:Addr}{o:HO}{t':Nat}(I:Inv X pins σ H s)(mu:Mut (H x))(y:e=x\/H e=some (.own x))(k:∀ b u,b≠e->s.heap.get? b=some u->h'.get? b=some u)(h:∃ u,h'.get? e=some u)
  (new:ae4 X.prog X.w (upd H x o) h' x o):Inv X pins σ (upd H x o) { s with heap:=h',toks:=t' }:=I.un (Un.write mu y k h) (I.hok.write mu y k h new)
theorem Inv.pins_of {y:List (Addr×Obj)}(I:Inv X pins σ H s)(h:∀ p∈y,s.heap.get? p.1=some p.2/\H p.1=none/\p.1≠X.env.locals/\p.1 ∉ X.fs/\∀ v,p.2.data≠.cell v):Inv X y σ H s :=
 ⟨I.ok,I.os,I.bare,I.base,I.loc,I.cell,I.free,I.freeC,λ p B=>(cj.mp B).elim (λ z=>I.pin p (gJ _ z)) (h p),I.hok,I.len⟩
theorem aK9 {N:List Str}(hN:N.Nodup){i j:Nat}{x:Str}(a:N[i]?=some x)(b:N[j]?=some x):i=j:=by
 obtain⟨h,e1⟩:=ae.mp a
 obtain⟨y,e2⟩:=ae.mp b
 exact(List.getElem_inj hN).mp (e1.trans e2.symm)
theorem aC2 {M:Model}{A:aV}{E:Value->af->Prop}{i:Nat}{x:Str}{v:V}{u:Value}{Q:Unit->af->Prop}(I:Inv X pins σ H s)(hN:X.N.Nodup)(hi:X.N[i]?=some x)(hx:Loc X.env.scope x)(r:RelV v u)
  (h:∀ s',Inv X pins (σ.set i (some v)) H s'->(∃ a,bT a s.heap s'.heap/\(a=X.env.locals\/X.env.cells.lookup x=some a))->Q () s') (hf:X.fn x=true\/X.env.scope.names.lookup x=some .local:=by first|exact .inl rfl|exact .inr rfl|assumption):wpAny M A (eP X.env x u) Q E s:=by
 obtain⟨m,hn,hl⟩:=id I.loc
 have J:(X.env.scope.kind==.class||(X.env.scope.kind==.module&&X.env.locals != X.env.globals))=false:=by rw[I.ok.kind];rfl
 have Z:i < σ.length:=by rw[I.len];exact(ae.mp hi).1
 have cne:=I.cne
 have B:∀ {a:Addr} {h':Heap},(∃ o,s.heap.get? a=some o/\H a=none)->bT a s.heap h'->HOk X.prog X.w H h':=λ {a h'} ha hs b ob e=>by
  obtain⟨_,_,C⟩:=ha
  refine(I.hok b ob e).stay (λ c w' hc q=>(hs.2 c ?_).trans q) (λ _ q=>q) λ _ _ q=>q
  rintro rfl
  rcases hc with rfl|hc
  ·rw[C]at e;cases e
  ·rw[C]at hc;cases hc
 rcases hx with hk|hk
 ·refine gF hk hn (λ h' a2 hs=>?_) J
  obtain⟨oL,_,_,a3,_⟩:=id hn
  refine h _ ⟨I.ok,I.os,I.bare,⟨λ b o e n hb hx=>?_,λ b o e n hb hx=>?_,I.base.free,λ b o e hx=>?_,I.base.tups,I.base.frzs,I.base.tbls⟩,⟨_,a2,λ j y v' e1 e2 e3=>?_⟩,λ y c e=>?_,I.free,I.freeC,λ p hp=>?_,B ⟨oL,a3,I.free⟩ hs,by simpa using I.len⟩ ⟨_,hs,.inl rfl⟩
  ·exact(hs.2 b (av (ak (aA e) I.ok.above))).trans (I.base.keep b o e n hb hx)
  ·obtain⟨sl,e1⟩:=I.base.slot b o e n hb hx
   exact⟨sl,(hs.2 b (av (ak (aA e) I.ok.above))).trans e1⟩
  ·obtain⟨o',e1⟩:=I.base.there b o e hx
   exact⟨o',(hs.2 b (av (ak (aA e) I.ok.above))).trans e1⟩
  ·by_cases hj:j=i
   ·subst hj
    rw[hi]at e1;cases e1
    rw[bp Z]at e2
    cases e2
    exact⟨u,r,.inl ⟨hk,by simp⟩⟩
   ·rw[bz (bS hj)]at e2
    obtain⟨u',r',q⟩:=hl j y v' e1 e2 e3
    refine⟨u',r',?_⟩
    rcases q with⟨k,e⟩|⟨k,c,e,z⟩
    ·refine .inl ⟨k,?_⟩
     have:y≠x:=λ e=>hj (aK9 hN e1 (e▸hi))
     simp[this,e]
    ·exact .inr ⟨k,c,e,z.sameBut hs (cne y c e)⟩
  ·obtain⟨w',z⟩:=I.cell y c e
   exact⟨w',z.sameBut hs (cne y c e)⟩
  ·obtain⟨e,n,ne,nf,d⟩:=I.pin p hp
   exact⟨(hs.2 p.1 ne).trans e,n,ne,nf,d⟩
 ·have G:X.fn x=true:=by
   rcases hf with z|z
   ·exact z
   ·rw[z]at hk;cases hk
  obtain⟨c,hc⟩:=I.ok.has x (.inl hk)
  obtain⟨w',z⟩:=I.cell x c hc
  refine gK I.ok.kind hk hc z (λ h' a0 hs=>?_)
  obtain⟨oc,Y,a1⟩:=id z
  refine h { s with heap:=h' } ⟨I.ok,I.os,I.bare,⟨λ b o e n hb hx=>?_,λ b o e n hb hx=>?_,I.base.free,λ b o e hx=>?_,I.base.tups,I.base.frzs,I.base.tbls⟩,⟨m,hn.sameBut hs (bS (cne x c hc)),λ j y v' e1 e2 e3=>?_⟩,λ y c' e=>?_,I.free,I.freeC,λ p hp=>?_,B ⟨oc,Y,I.freeC x c hc⟩ hs,by simpa using I.len⟩ ⟨c,hs,.inr hc⟩
  ·exact(hs.2 b (av (ak (aA e) (I.ok.cab x c G hc)))).trans (I.base.keep b o e n hb hx)
  ·obtain⟨sl,e1⟩:=I.base.slot b o e n hb hx
   exact⟨sl,(hs.2 b (av (ak (aA e) (I.ok.cab x c G hc)))).trans e1⟩
  ·obtain⟨o',e1⟩:=I.base.there b o e hx
   exact⟨o',(hs.2 b (av (ak (aA e) (I.ok.cab x c G hc)))).trans e1⟩
  ·by_cases hj:j=i
   ·subst hj
    rw[hi]at e1;cases e1
    rw[bp Z]at e2
    cases e2
    exact⟨u,r,.inr ⟨.inl hk,c,hc,a0⟩⟩
   ·rw[bz (bS hj)]at e2
    obtain⟨u',r',q⟩:=hl j y v' e1 e2 e3
    refine⟨u',r',?_⟩
    rcases q with q|⟨k,c',e,z'⟩
    ·exact .inl q
    ·refine .inr ⟨k,c',e,z'.sameBut hs ?_⟩
     rintro rfl
     exact hj (aK9 hN e1 (I.ok.inj _ _ _ e hc▸hi))
  ·by_cases hcc:c'=c
   ·subst hcc;exact⟨_,a0⟩
   ·obtain⟨w2,z2⟩:=I.cell y c' e
    exact⟨w2,z2.sameBut hs hcc⟩
  ·obtain⟨e,n,ne,nf,d⟩:=I.pin p hp
   refine⟨(hs.2 p.1 ?_).trans e,n,ne,nf,d⟩
   intro q
   rw[q,Y]at e
   have q':oc=p.2:=ar e
   exact d w' (by rw[<-q'];exact a1)
theorem am3 {M:Model}{A:aV}{E:Value->af->Prop}{i:Nat}{x:Str}{v:V}{u:Value}{Q:Unit->af->Prop}(I:Inv X pins σ H s)(hN:X.N.Nodup)(B:X.N[i]?=some x)(hx:Loc X.env.scope x)(r:RelV v u)
  (h:∀ s',Inv X pins (σ.set i (some v)) H s'->Q () s') (y:X.fn x=true\/X.env.scope.names.lookup x=some .local:=by first|exact .inl rfl|exact .inr rfl|assumption):wpAny M A (eP X.env x u) Q E s :=
 aC2 I hN B hx r (λ s' C _=>h s' C) y
theorem Inv.call' {s':af}{ch:List Addr}(I:Inv X pins σ H s)(ho:s'.os=s.os)(u:Un (frs X.stack) ch H H' s.heap s'.heap)(hok:HOk X.prog X.w H' s'.heap)(B:fe s'.gens)
  (h:∀ b∈ch,(b∈X.ex\/X.s₀.heap.objs.size<=b)/\b≠X.env.locals/\(∀ x c,X.env.cells.lookup x=some c->c≠b)/\∀ p∈X.pn++pins,p.1≠b):Inv X pins σ H' s':=by
 obtain⟨h',g',d',t',y⟩:=s'
 have e:y=s.os:=ho
 subst e
 exact I.call (g':=g') (t':=t') (d':=d') u hok B h
end
abbrev XK:=Value->Option Addr->Hp->Prop
noncomputable abbrev St:=List (Option V)
abbrev VK:=V->Hp->Prop
abbrev TE:=St->Hp->VK->Prop
abbrev TT:=St->Hp->(Bool->Hp->Prop)->Prop
abbrev TA:=St->Hp->(List V->Hp->Prop)->Prop
structure Ends where
 nx:St->Hp->Prop
 rt:VK
 bk:St->Hp->Prop:=λ _ _=>False
 ct:St->Hp->Prop:=λ _ _=>False
abbrev TS:=Ends->St->Hp->Prop
def EP (X:Cx)(pins:List (Addr×Obj))(σ:St)(Q:VK)(u:Value)(s':af):Prop:=∃ v H',Inv X pins σ H' s'/\RelV v u/\Q v H'
def TP (X:Cx)(pins:List (Addr×Obj))(σ:St)(Q:Bool->Hp->Prop)(b:Bool)(s':af):Prop:=∃ H',Inv X pins σ H' s'/\Q b H'
def AP (X:Cx)(pins:List (Addr×Obj))(σ:St)(Q:List V->Hp->Prop)(us:List Value)(s':af):Prop:=∃ vs H',Inv X pins σ H' s'/\Vals vs us/\Q vs H'
def SP (X:Cx)(pins:List (Addr×Obj))(D:Ends)(f:Flow)(s':af):Prop :=
 match f with
 | .next=>∃ σ' H',Inv X pins σ' H' s'/\D.nx σ' H'
 | .brk=>∃ σ' H',Inv X pins σ' H' s'/\D.bk σ' H'
 | .cont=>∃ σ' H',Inv X pins σ' H' s'/\D.ct σ' H'
 | .ret u=>∃ v σ' H',Inv X pins σ' H' s'/\RelV v u/\D.rt v H'
def PE (X:Cx)(e:Expr)(t:TE):Prop :=
 ∀(pins:List (Addr×Obj)) (s:af) (σ:St) (H:Hp) (Q:VK),Inv X pins σ H s->t σ H Q->wpAny (model X.prog X.w) X.A (eval e X.env) (EP X pins σ Q) X.xe s
def PT (X:Cx)(e:Expr)(t:TT):Prop :=
 ∀(pins:List (Addr×Obj)) (s:af) (σ:St) (H:Hp) (Q:Bool->Hp->Prop),Inv X pins σ H s->t σ H Q->wpAny (model X.prog X.w) X.A (dt e X.env (eval e X.env)) (TP X pins σ Q) X.xe s
def PW (X:Cx)(e:Expr)(t:TT):Prop :=
 ∀(whole:Sem Value) (pins:List (Addr×Obj)) (s:af) (σ:St) (H:Hp) (Q:Bool->Hp->Prop),Inv X pins σ H s->t σ H Q->wpAny (model X.prog X.w) X.A (dt e X.env whole) (TP X pins σ Q) X.xe s
theorem PW.pt {X:Cx}{e:Expr}{t:TT}(h:PW X e t):PT X e t:=h _
def PA (X:Cx)(es:List Expr)(t:TA):Prop :=
 ∀(pos:Pos) (pins:List (Addr×Obj)) (s:af) (σ:St) (H:Hp) (Q:List V->Hp->Prop),Inv X pins σ H s->t σ H Q->wpAny (model X.prog X.w) X.A (spliced (dD pos (bf es X.env))) (AP X pins σ Q) X.xe s
def PS (X:Cx)(st:Stmt)(t:TS):Prop :=
 ∀(pins:List (Addr×Obj)) (s:af) (σ:St) (H:Hp) (D:Ends),Inv X pins σ H s->t D σ H->wpAny (model X.prog X.w) X.A (exec st X.env) (SP X pins D) X.xe s
def PSs (X:Cx)(st:List Stmt)(t:TS):Prop :=
 ∀(pins:List (Addr×Obj)) (s:af) (σ:St) (H:Hp) (D:Ends),Inv X pins σ H s->t D σ H->wpAny (model X.prog X.w) X.A (execs st X.env) (SP X pins D) X.xe s
theorem thn {α:Type}{t:Sem α}{Q y:α->af->Prop}{M:Model}{A:aV}{E:Value->af->Prop}{s:af}(h:wpAny M A t Q E s)(B:∀ a s,Q a s->y a s):wpAny M A t y E s:=cq h B λ _ _ x=>x
section
variable {X:Cx}
theorem bin {a b:Expr}{G tb:TE}(ha:PE X a G)(hb:PE X b tb){B:List (Addr×Obj)}{s:af}{σ:St}{H:Hp}{R:V->V->Hp->Prop}(I:Inv X B σ H s)(h:G σ H λ x C=>tb σ C λ y H2=>R x y H2)
  {α:Type} {Q:α->af->Prop} {f:Value->Value->Sem α}
  (hf:∀ v u s2 x y H2,Inv X B σ H2 s2->RelV x v->RelV y u->R x y H2->wpAny (model X.prog X.w) X.A (f v u) Q X.xe s2) :
  wpAny (model X.prog X.w) X.A (eval a X.env) (λ v Z=>wpAny (model X.prog X.w) X.A (eval b X.env) (λ u Y=>wpAny (model X.prog X.w) X.A (f v u) Q X.xe Y) X.xe Z) X.xe s:=by
 refine thn (ha B s σ H _ I h) λ v s1 ⟨x,C,I1,r1,q1⟩=>?_
 refine thn (hb B s1 σ C _ I1 q1) λ u s2 ⟨y,H2,I2,J,q2⟩=>?_
 exact hf v u s2 x y H2 I2 r1 J q2
def bt6 (i:Nat):TE:=λ σ H Q=>∃ v,σ[i]?=some (some v)/\Q v H
def tC (v:V):TE:=λ _ H Q=>Q v H
theorem ba6 {i:Nat}{x:Str}{pos:Pos}(hN:X.N[i]?=some x)(hv:Vis X.env.scope x)(hd:(x==("__debug__":Str))=false:=by decide)(B:(x==("__classdict__":Str))=false:=by decide):PE X (.Name x pos) (bt6 i):=by
 intro y s σ H Q I h
 obtain⟨v,e,h⟩:=h
 obtain⟨m,hn,hl⟩:=I.loc
 obtain⟨u,r,l⟩:=hl i x v hN e hv
 have fin:EP X y σ Q u s:=⟨v,H,I,r,h⟩
 rcases l with⟨hk,C⟩|⟨hk,c,hc,hcell⟩
 ·exact jI (gM I.ok.kind hk hn C fin) hd
 ·rcases hk with hk|hk
  ·exact jI (g9 I.ok.kind hk hc hcell fin) hd
  ·exact jI (wpAny_loadName_free I.ok.kind hk hc hcell fin B) hd
theorem bP2 {i j pos}:PE X (.Constant (.int i) j pos) (tC (.int i)):=λ _ _ _ H _ I h=>wpAny_Constant_int ⟨.int i,H,I.tok _,⟨_,rfl⟩,h⟩
theorem ch3 {b j pos}:PE X (.Constant (.bool b) j pos) (tC (.bl b)):=λ _ _ _ H _ I h=>Constant_bool ⟨.bl b,H,I,rfl,h⟩
theorem bO5 {j pos}:PE X (.Constant .none j pos) (tC .non):=λ _ _ _ H _ I h=>ic ⟨.non,H,I,rfl,h⟩
theorem ca6 {x j pos}:PE X (.Constant (.str x) j pos) (tC (.str x)):=λ _ _ _ H _ I h=>Calls.Constant_str ⟨.str x,H,I.tok _,⟨_,rfl⟩,h⟩
def Gl (X:Cx)(x:Str):Prop:=X.env.kindOf x=some .globalImplicit
theorem az0 {E:Value->af->Prop}{y:List (Addr×Obj)}{s:af}{σ:St}{H:Hp}{x:Str}{u:Value}{pos:Pos}{Q:Value->af->Prop}(I:Inv X y σ H s)(C:Gl X x)(B:X.mg x=some u)(h:Q u s)
  (hd:(x==("__debug__":Str))=false:=by decide):wpAny (model X.prog X.w) X.A (eval (.Name x pos) X.env) Q E s :=
 eR I.ok.kind C (Calls.loadGlobal_global (by rw[I.ok.glob];exact I.mod.glob.keeps I.bk) B h) hd
theorem as9 {E:Value->af->Prop}{y:List (Addr×Obj)}{s:af}{σ:St}{H:Hp}{x:Str}{u:Value}{pos:Pos}{Q:Value->af->Prop}(I:Inv X y σ H s)(J:Gl X x)(C:X.mg x=none)(hv:bh x=some u)(h:Q u s)
  (hn:x ≠ "__name__":=by decide) (hd:(x==("__debug__":Str))=false:=by decide):wpAny (model X.prog X.w) X.A (eval (.Name x pos) X.env) Q E s:=by
 obtain⟨Y,B,G⟩:=I.mod.blt
 exact eR I.ok.kind J (Calls.loadGlobal_builtin (by rw[I.ok.glob];exact I.mod.glob.keeps I.bk) C (by rw[I.ok.blt];exact B.keeps I.bk) ((G x hn).trans hv) h) hd
theorem bI0 {x:Str}{v:V}{u:Value}{pos:Pos}(B:Gl X x)(y:X.mg x=some u)(r:RelV v u)(hd:(x==("__debug__":Str))=false:=by decide):PE X (.Name x pos) (tC v) :=
 λ _ _ _ H _ I h=>az0 I B y ⟨v,H,I,r,h⟩ hd
theorem bI5 {x:Str}{v:V}{u:Value}{pos:Pos}(B:Gl X x)(y:X.mg x=none)(hv:bh x=some u)(r:RelV v u)(hn:x ≠ "__name__":=by decide)(hd:(x==("__debug__":Str))=false:=by decide):PE X (.Name x pos) (tC v) :=
 λ _ _ _ H _ I h=>as9 I B y hv ⟨v,H,I,r,h⟩ hn hd
variable {a b:Expr} {ta tb:TE} {pos:Pos}
def PC (X:Cx)(op:CmpOp)(a b:Expr)(t:TE):Prop :=
 ∀(pins:List (Addr×Obj)) (s:af) (σ:St) (H:Hp) (Q:VK),Inv X pins σ H s->t σ H Q ->
  wpAny (model X.prog X.w) X.A (eval a X.env) (λ v s₁=>wpAny (model X.prog X.w) X.A (eval b X.env) (λ u s₂=>wpAny (model X.prog X.w) X.A (cf op v u) (EP X pins σ Q) X.xe s₂) X.xe s₁) X.xe s
theorem aM6 (b:Expr){op:CmpOp}(h:op≠.In)(y:op≠.NotIn):cJ op b=false:=by
 have e1:(op==CmpOp.In)=false:=by cases op<;>first|rfl|exact absurd rfl h
 have e2:(op==CmpOp.NotIn)=false:=by cases op<;>first|rfl|exact absurd rfl y
 cases b<;>simp[cJ,e1,e2]
def ck5 (ta:TE):TE:=λ σ H Q=>ta σ H λ x H1=>Q (.bl (decide (x=.non))) H1
def bO7 (ta:TE):TE:=λ σ H Q=>ta σ H λ x H1=>Q (.bl (!decide (x=.non))) H1
theorem RelV.none_iff {x:V}{v:Value}(r:RelV x v):(v==Value.none)=decide (x=.non):=by
 cases x with
 | non=>cases r;rfl
 | bl _=>cases r;rfl
 | int _=>obtain⟨t,rfl⟩:=r;rfl
 | str _=>obtain⟨t,rfl⟩:=r;rfl
 | byt _=>obtain⟨t,rfl⟩:=r;rfl
 | flt _=>obtain⟨t,rfl⟩:=r;rfl
 | ref _=>cases r;rfl
 | ty _=>cases r;rfl
theorem bu9 {j pos'}(ha:PE X a ta):PC X .Is a (.Constant .none j pos') (ck5 ta):=by
 intro y s σ H Q I h
 refine thn (ha y s σ H _ I h) λ v s1 ⟨x,C,B,r1,q1⟩=>?_
 exact ic (is_none_gen ⟨.bl _,C,B,by rw[r1.none_iff];rfl,q1⟩)
theorem aW9 {j pos'}(ha:PE X a ta):PC X .IsNot a (.Constant .none j pos') (bO7 ta):=by
 intro y s σ H Q I h
 refine thn (ha y s σ H _ I h) λ v s1 ⟨x,C,B,r1,q1⟩=>?_
 exact ic (isnot_none_gen ⟨.bl _,C,B,by rw[r1.none_iff];rfl,q1⟩)
def tB (t:TE):TT:=λ σ H Q=>t σ H λ x H1=>∃ c,x=.bl c/\Q c H1
theorem bu8 {op:CmpOp}{t:TE}(h:PC X op a b t)(B:cJ op b=false:=by first|exact aM6 _ (by decide) (by decide)|rfl):PE X (.Compare a [op] [b] pos) t:=λ y s σ H Q I hw=>wpAny_Compare1 (h y s σ H Q I hw) B
theorem bu3 {op:CmpOp}{t:TE}(h:PC X op a b t)(B:cJ op b=false:=by first|exact aM6 _ (by decide) (by decide)|rfl):PT X (.Compare a [op] [b] pos) (tB t):=by
 intro y s σ H Q I hw
 refine gG (thn (h y s σ H _ I hw) λ v s1 B=>thn B λ u s2 J=>thn J λ c s3 ⟨x,G,C,r1,q1⟩=>?_) B
 obtain⟨d,rfl,q⟩:=q1
 cases r1
 exact bD ⟨G,C,q⟩
theorem bV3 {e:Expr}{t:TE}(h:PE X e t)(C:∀ y,dt e X.env y=(do let v <- y;standAt e.pos;iE [v] (truthy v)):=by intro _;rfl):PT X e (tB t):=by
 intro B s σ H Q I hw
 refine isTrue_plain (thn (h B s σ H _ I hw) λ v s1 ⟨x,J,G,r1,q1⟩=>?_) (C _)
 obtain⟨d,rfl,q⟩:=q1
 cases r1
 exact bD ⟨J,G,q⟩
variable {tA tB':TT} {rest:List Expr}
def cl2 (t u:TT):TT:=λ σ H Q=>t σ H λ c H1=>if c=true then u σ H1 Q else Q false H1
def tOr (t u:TT):TT:=λ σ H Q=>t σ H λ c H1=>if c=true then Q true H1 else u σ H1 Q
def cl6 (t:TT):TT:=λ σ H Q=>t σ H λ c H1=>Q (!c) H1
theorem bB8 (ha:PT X a tA):PW X (.BoolOp .And [a] pos) tA:=by
 intro B y s σ H Q I h
 refine isTrue_and (thn (ha y s σ H Q I h) λ c s1 e=>?_)
 cases c with
 | true=>exact isTrue_and_nil e
 | false=>exact e
theorem bZ9 (ha:PT X a tA):PW X (.BoolOp .Or [a] pos) tA:=by
 intro B y s σ H Q I h
 refine isTrue_or (thn (ha y s σ H Q I h) λ c s1 e=>?_)
 cases c with
 | false=>exact isTrue_or_nil e
 | true=>exact e
theorem bv5 (ha:PT X a tA)(hb:PW X (.BoolOp .And (b::rest) pos) tB'):PW X (.BoolOp .And (a::b::rest) pos) (cl2 tA tB'):=by
 intro G y s σ H Q I h
 refine isTrue_and (thn (ha y s σ H _ I h) λ c s1 ⟨C,B,q1⟩=>?_)
 cases c with
 | true=>exact hb G y s1 σ C Q B q1
 | false=>exact⟨C,B,q1⟩
theorem ca5 (ha:PT X a tA)(hb:PW X (.BoolOp .Or (b::rest) pos) tB'):PW X (.BoolOp .Or (a::b::rest) pos) (tOr tA tB'):=by
 intro G y s σ H Q I h
 refine isTrue_or (thn (ha y s σ H _ I h) λ c s1 ⟨C,B,q1⟩=>?_)
 cases c with
 | true=>exact⟨C,B,q1⟩
 | false=>exact hb G y s1 σ C Q B q1
theorem bZ5 (ha:PT X a tA):PT X (.UnaryOp .Not a pos) (cl6 tA):=by
 intro y s σ H Q I h
 exact isTrue_not (ha y s σ H (λ c B=>Q (!c) B) I h)
def bX8 (ta tb:TE):TE:=λ σ H Q=>ta σ H λ x H1=>∃ c,x=.bl c/\if c=true then tb σ H1 Q else Q (.bl false) H1
def ck9 (ta tb:TE):TE:=λ σ H Q=>ta σ H λ x H1=>∃ c,x=.bl c/\if c=true then Q (.bl true) H1 else tb σ H1 Q
def cb1 (ta:TE):TE:=λ σ H Q=>ta σ H λ x H1=>∃ c,x=.bl c/\Q (.bl (!c)) H1
theorem bu1 {op}{t:TE}(h:PE X a t):PE X (.BoolOp op [a] pos) t:=λ y s σ H Q I hw=>BoolOp_one (h y s σ H Q I hw)
theorem bv2 (ha:PE X a ta)(hb:PE X (.BoolOp .And (b::rest) pos) tb):PE X (.BoolOp .And (a::b::rest) pos) (bX8 ta tb):=by
 intro y s σ H Q I h
 refine BoolOp_and (thn (ha y s σ H _ I h) λ v s1 ⟨x,C,B,r1,q1⟩=>?_)
 obtain⟨c,rfl,q1⟩:=q1
 cases r1
 refine bD ?_
 cases c with
 | true=>exact hb y s1 σ C Q B q1
 | false=>exact⟨.bl false,C,B,rfl,q1⟩
theorem bT1 (ha:PE X a ta)(hb:PE X (.BoolOp .Or (b::rest) pos) tb):PE X (.BoolOp .Or (a::b::rest) pos) (ck9 ta tb):=by
 intro y s σ H Q I h
 refine BoolOp_or (thn (ha y s σ H _ I h) λ v s1 ⟨x,C,B,r1,q1⟩=>?_)
 obtain⟨c,rfl,q1⟩:=q1
 cases r1
 refine bD ?_
 cases c with
 | false=>exact hb y s1 σ C Q B q1
 | true=>exact⟨.bl true,C,B,rfl,q1⟩
theorem bW7 (ha:PE X a ta):PE X (.UnaryOp .Not a pos) (cb1 ta):=by
 intro y s σ H Q I h
 refine UnaryOp_ (thn (ha y s σ H _ I h) λ v s1 ⟨x,C,B,r1,q1⟩=>?_)
 obtain⟨c,rfl,q1⟩:=q1
 cases r1
 exact not_of (bD ⟨.bl (!c),C,B,rfl,q1⟩)
def tIf (t:TT)(ta tb:TE):TE:=λ σ H Q=>t σ H λ c H1=>if c=true then ta σ H1 Q else tb σ H1 Q
theorem br2 {c:Expr}(hc:PT X c tA)(ha:PE X a ta)(hb:PE X b tb):PE X (.IfExp c a b pos) (tIf tA ta tb):=by
 intro y s σ H Q I h
 refine wpAny_IfExp (thn (hc y s σ H _ I h) λ d s1 ⟨C,B,q1⟩=>?_)
 cases d with
 | true=>exact ha y s1 σ C Q B q1
 | false=>exact hb y s1 σ C Q B q1
end
def SqL (K:ac)(H:Hp)(a:Addr)(xs:List V):Prop :=
 Rd H a (.lst xs) \/
  ∃(o:Obj) (its:Array Value) (n:Nat),K.lookup a=some o/\o.cls=.type "list"/\o.dict=none/\o.data=.seq its n/\its.size<=aN/\Vals xs its.toList
def SqT (K:ac)(H:Hp)(a:Addr)(xs:List V):Prop :=
 Rd H a (.tup xs) \/
  ∃(o:Obj) (its:Array Value) (n:Nat),K.lookup a=some o/\o.cls=.type "tuple"/\o.data=.seq its n/\its.size<=aN/\Vals xs its.toList
noncomputable def co4:Value->Option V
 | .none=>some .non
 | .bool b=>some (.bl b)
 | .int i _=>some (.int i)
 | .str x _=>some (.str x)
 | .bytes b _=>some (.byt b)
 | .float b _=>some (.flt b)
 | .ref a=>some (.ref a)
 | .type n=>some (.ty n)
 | _=>none
theorem RelV.abs {x:V}{u:Value}(r:RelV x u):co4 u=some x:=by
 cases x with
 | non=>cases r;rfl
 | bl _=>cases r;rfl
 | int _=>obtain⟨t,rfl⟩:=r;rfl
 | str _=>obtain⟨t,rfl⟩:=r;rfl
 | byt _=>obtain⟨t,rfl⟩:=r;rfl
 | flt _=>obtain⟨t,rfl⟩:=r;rfl
 | ref _=>cases r;rfl
 | ty _=>cases r;rfl
theorem RelV.inj {x y:V}{u:Value}(r:RelV x u)(q:RelV y u):x=y:=ar (r.abs.symm.trans q.abs)
theorem Vals.inj:∀ {h ys:List V} {us:List Value},Vals h us->Vals ys us->h=ys
 | _,_,_,.nil,.nil=>rfl
 | _,_,_,.cons r t,.cons r' t'=>by rw[r.inj r',Vals.inj t t']
section
variable {X:Cx} {pins:List (Addr×Obj)} {σ:St} {H:Hp} {s:af} {a:Addr} {xs ys:List V}
theorem SqL.of {K:ac}(h:H a=some (.lst xs)):SqL K H a xs:=.inl (.inl h)
theorem SqT.of {K:ac}(h:H a=some (.tup xs)):SqT K H a xs:=.inl (.inl h)
theorem Inv.list (I:Inv X pins σ H s)(h:SqL X.K H a xs):∃ its:List Value,Vals xs its/\PlainL s.heap a its.toArray/\xs.length<=aN:=by
 rcases h with h|⟨o,its,n,hk,hc,hd,hs,hz,r⟩
 ·obtain⟨z,its,n,r,e⟩:=h.ok I.hok
  exact⟨its,r,⟨_,n,e,rfl,rfl,rfl⟩,z⟩
 ·refine⟨its.toList,r,⟨o,n,I.kIn a o hk,hc,hd,by simpa using hs⟩,?_⟩
  have e:=r.length
  simp only[hJ]at e
  omega
theorem Inv.tuple (I:Inv X pins σ H s)(h:SqT X.K H a xs):∃ its:List Value,Vals xs its/\IsTup s.heap a its.toArray/\xs.length<=aN:=by
 rcases h with h|⟨o,its,n,hk,hc,hs,hz,r⟩
 ·obtain⟨z,its,r,p⟩:=h.ok I.hok
  exact⟨its,r,p,z⟩
 ·refine⟨its.toList,r,⟨o,I.kIn a o hk,hc,n,by simpa using hs⟩,?_⟩
  have e:=r.length
  simp only[hJ]at e
  omega
theorem Inv.list_inj (I:Inv X pins σ H s)(h:SqL X.K H a xs)(h':SqL X.K H a ys):xs=ys:=by
 obtain⟨its,r,⟨o,n,e,_,_,d⟩,_⟩:=I.list h
 obtain⟨its',y,⟨C,B,e',_,_,d'⟩,_⟩:=I.list h'
 rw[e]at e';cases e'
 rw[d]at d'
 injection d' with d1 _
 have:its=its':=by simpa using congrArg iG d1
 subst this
 exact r.inj y
theorem Inv.tuple_inj (I:Inv X pins σ H s)(h:SqT X.K H a xs)(h':SqT X.K H a ys):xs=ys:=by
 obtain⟨its,r,⟨o,e,_,n,d⟩,_⟩:=I.tuple h
 obtain⟨its',y,⟨C,e',_,B,d'⟩,_⟩:=I.tuple h'
 rw[e]at e';cases e'
 rw[d]at d'
 injection d' with d1 _
 have:its=its':=by simpa using congrArg iG d1
 subst this
 exact r.inj y
end
noncomputable abbrev Cx.wish (X:Cx)(E:Value->af->Prop):Cx:={ X with xe:=E }
noncomputable abbrev Cx.nox (X:Cx):Cx:=X.wish λ _ _=>False
theorem Cx.Ok.wish {X:Cx}(ok:X.Ok)(E:Value->af->Prop):(X.wish E).Ok :=
 ⟨ok.mod,ok.kind,ok.glob,ok.blt,ok.above,ok.inj,ok.has,ok.cab,ok.hd,ok.frames,ok.stk,ok.exf,ok.bs,ok.bsz,ok.noex,ok.exfs,ok.funs,ok.frf⟩
theorem Cx.Ok.unwish {X:Cx}{E:Value->af->Prop}(ok:(X.wish E).Ok):X.Ok :=
 ⟨ok.mod,ok.kind,ok.glob,ok.blt,ok.above,ok.inj,ok.has,ok.cab,ok.hd,ok.frames,ok.stk,ok.exf,ok.bs,ok.bsz,ok.noex,ok.exfs,ok.funs,ok.frf⟩
section
variable {X:Cx} {pins:List (Addr×Obj)} {σ:St} {H:Hp} {s:af} {E:Value->af->Prop}
theorem Inv.wish (I:Inv X pins σ H s)(E:Value->af->Prop):Inv (X.wish E) pins σ H s:=⟨I.ok.wish E,I.os,I.bare,I.base,I.loc,I.cell,I.free,I.freeC,I.pin,I.hok,I.len⟩
theorem Inv.unwish (I:Inv (X.wish E) pins σ H s):Inv X pins σ H s:=⟨I.ok.unwish,I.os,I.bare,I.base,I.loc,I.cell,I.free,I.freeC,I.pin,I.hok,I.len⟩
theorem SP.unwish {D:Ends}{f:Flow}{s':af}(h:SP (X.wish E) pins D f s'):SP X pins D f s':=by
 cases f with
 | next=>obtain⟨σ',H',I,q⟩:=h;exact⟨σ',H',I.unwish,q⟩
 | brk=>obtain⟨σ',H',I,q⟩:=h;exact⟨σ',H',I.unwish,q⟩
 | cont=>obtain⟨σ',H',I,q⟩:=h;exact⟨σ',H',I.unwish,q⟩
 | ret u=>obtain⟨v,σ',H',I,r,q⟩:=h;exact⟨v,σ',H',I.unwish,r,q⟩
theorem PSs.nox {st:List Stmt}{t:TS}(h:PSs X.nox st t):PSs X st t:=λ y s σ H D I hw =>
 cq (h y s σ H D (I.wish _) hw) (λ _ _ q=>q.unwish) λ _ _ z=>bB z
end
section
variable {X:Cx} {st:Stmt} {rest:List Stmt} {t u:TS} {e:Expr} {te:TE} {pos:Pos}
def bZ2:TS:=λ D σ H=>D.nx σ H
noncomputable def cn9 (t u:TS):TS:=λ D σ H=>t { D with nx:=u D } σ H
theorem aI5:PSs X [] bZ2:=λ _ _ σ H _ I h=>gx ⟨σ,H,I,h⟩
theorem an1 (B:PS X st t)(C:PSs X rest u):PSs X (st::rest) (cn9 t u):=by
 intro y s σ H D I h
 refine wpAny_execs_cons (thn (B y s σ H { D with nx:=u D } I h) λ f s1 q=>?_)
 cases f with
 | next =>
  obtain⟨σ',H',G,q⟩:=q
  exact C y s1 σ' H' D G q
 | ret v=>exact q
 | brk=>exact q
 | cont=>exact q
theorem Inv.quiet {h:List (Addr×Obj)}{σ:St}{H:Hp}{s:af}(I:Inv X h σ H s):interactive X.env=false:=by simp[interactive,I.ok.kind]
def bP4 (te:TE):TS:=λ D σ H=>te σ H λ _ H1=>D.nx σ H1
theorem bC7 (C:PE X e te)(hs:eQ e none pos.line X.env=pure false:=by rfl):PS X (.Expr e pos) (bP4 te):=by
 intro y s σ H D I h
 exact wpAny_Expr_any (thn (C y s σ H _ I h) λ v s1 ⟨x,G,B,r1,q1⟩=>⟨σ,G,B,q1⟩) I.quiet hs
def cn2 (te:TE):TS:=λ D σ H=>te σ H D.rt
theorem aY5 (C:PE X e te):PS X (.Return (some e) pos) (cn2 te):=by
 intro y s σ H D I h
 exact wpAny_Return_some (thn (C y s σ H _ I h) λ v s1 ⟨x,G,B,r1,q1⟩=>⟨x,σ,G,B,r1,q1⟩)
def co3 (c:TT)(t u:TS):TS:=λ D σ H=>c σ H λ b H1=>if b=true then t D σ H1 else u D σ H1
theorem cg1 {c:Expr}{a b:List Stmt}{C:TT}(hc:PT X c C)(ha:PSs X a t)(hb:PSs X b u):PS X (.If c a b pos) (co3 C t u):=by
 intro y s σ H D I h
 refine wpAny_If (thn (hc y s σ H _ I h) λ d s1 ⟨G,B,q1⟩=>?_)
 cases d with
 | true=>exact ha y s1 σ G D B q1
 | false=>exact hb y s1 σ G D B q1
def bP9:TS:=λ _ _ _=>False
theorem bk7:PS X st bP9:=λ _ _ _ _ _ _ h=>h.elim
end
abbrev TG:=V->St->Hp->(St->Hp->Prop)->Prop
abbrev TGs:=List V->St->Hp->(St->Hp->Prop)->Prop
def PG (X:Cx)(target:Expr)(t:TG):Prop :=
 ∀(pins:List (Addr×Obj)) (s:af) (σ:St) (H:Hp) (v:V) (u:Value) (Q:St->Hp->Prop),Inv X pins σ H s->RelV v u->t v σ H Q ->
  wpAny (model X.prog X.w) X.A (fX target X.env u) (λ _ s'=>∃ σ' H',Inv X pins σ' H' s'/\Q σ' H') X.xe s
def PGs (X:Cx)(ts:List Expr)(t:TGs):Prop :=
 ∀(pins:List (Addr×Obj)) (s:af) (σ:St) (H:Hp) (vs:List V) (us:List Value) (Q:St->Hp->Prop),Inv X pins σ H s->Vals vs us->t vs σ H Q ->
  wpAny (model X.prog X.w) X.A (assignInOrder ((cy ts X.env).map (·.2)) us) (λ _ s'=>∃ σ' H',Inv X pins σ' H' s'/\Q σ' H') X.xe s
abbrev cb9:=V->V->V->Hp->(Hp->Prop)->Prop
def ci7 (X:Cx)(t:cb9):Prop :=
 ∀(pins:List (Addr×Obj)) (s:af) (σ:St) (H:Hp) (o i v:V) (ov iv u:Value) (Q:Hp->Prop),Inv X pins σ H s->RelV o ov->RelV i iv->RelV v u->t o i v H Q ->
  wpAny (model X.prog X.w) X.A (setItem ov iv u) (λ _ s'=>∃ H',Inv X pins σ H' s'/\Q H') X.xe s
abbrev TIp:=V->V->Hp->VK->Prop
def PIp (X:Cx)(op:jJ)(t:TIp):Prop :=
 ∀(pins:List (Addr×Obj)) (s:af) (σ:St) (H:Hp) (x y:V) (v u:Value) (Q:VK),Inv X pins σ H s->RelV x v->RelV y u->t x y H Q ->
  wpAny (model X.prog X.w) X.A (inplaceOp op v u) (EP X pins σ Q) X.xe s
section
variable {X:Cx} {pos:Pos}
def aF3 (i:Nat):TG:=λ v σ H Q=>Q (σ.set i (some v)) H
theorem aV3 {i:Nat}{x:Str}(hN:X.N.Nodup)(C:X.N[i]?=some x)(hx:Loc X.env.scope x)(B:X.fn x=true\/X.env.scope.names.lookup x=some .local:=by first|exact .inl rfl|exact .inr rfl|assumption):PG X (.Name x pos) (aF3 i):=by
 intro y s σ H v u Q I r h
 exact iH (am3 I hN C hx r (λ s' G=>⟨_,H,G,h⟩) B)
def cm7:TGs:=λ vs σ H Q=>vs=[]/\Q σ H
def bR1 (t:TG)(u:TGs):TGs:=λ vs σ H Q=>∃ v r,vs=v::r/\t v σ H λ σ' H'=>u r σ' H' Q
theorem bH6:PGs X [] cm7:=by
 intro y s σ H vs us Q I r h
 obtain⟨e,h⟩:=h
 subst e
 cases r
 exact assignInOrder_nil ⟨σ,H,I,h⟩
theorem bo2 {e:Expr}{es:List Expr}{t:TG}{u:TGs}(C:PG X e t)(G:PGs X es u)
  (hs:(cy (e::es) X.env).map (·.2)=fX e X.env::(cy es X.env).map (·.2):=by rfl):PGs X (e::es) (bR1 t u):=by
 intro y s σ H vs us Q I r h
 obtain⟨v,Y,e1,h⟩:=h
 subst e1
 cases r with
 | cons r rr =>
  rw[hs]
  refine assignInOrder_cons (thn (C y s σ H _ _ _ I r h) λ _ s1 ⟨σ1,J,B,q1⟩=>?_)
  exact G y s1 σ1 J _ _ Q B rr q1
def cf8 (K:ac)(n:Nat)(t:TGs):TG:=λ v σ H Q=>∃ a xs,v=.ref a/\SqT K H a xs/\xs.length=n/\t xs σ H Q
theorem bV5 {es:List Expr}{k:Nat}{t:TGs}{n:Nat}(hc:X.calm=true)(h:PGs X es t)
  (hn:(cy es X.env).length=n:=by rfl) (B:(cy es X.env).findIdx? (·.1)=none:=by rfl):PG X (.Tuple es k pos) (cf8 X.K n t):=by
 intro y s σ H v u Q I r hw
 obtain⟨a,J,e1,hq,hl,hw⟩:=hw
 subst e1
 cases r
 obtain⟨its,C,ht,hz⟩:=I.tuple hq
 refine assign_Tuple_tuple (I.ok.hd hc) ht (by simp[hn,<-hl,C.length]) B λ h' hx=>?_
 have G:Inv X y σ H { s with heap:=h' }:=I.kept (t':=s.toks) λ b o e=>hx b o (av (aA e)) e
 exact h y _ σ H J _ Q G (by simpa using C) hw
def cn6 (to ti:TE)(t:cb9):TG:=λ v σ H Q=>to σ H λ o H1=>ti σ H1 λ i H2=>t o i v H2 λ H3=>Q σ H3
theorem bU6 {o i:Expr}{J Y:TE}{t:cb9}(ho:PE X o J)(hi:PE X i Y)(hs:ci7 X t)
  (ha:∀ v,fX (.Subscript o i pos) X.env v=(do
   let C <- iE [v] (eval o X.env)
   let G <- iE [v,C] (eval i X.env)
   standAt pos
   iE [v,C,G] (setItem C G v)
   release [v,C,G] []):=by intro _;rfl):PG X (.Subscript o i pos) (cn6 J Y t):=by
 intro B s σ H v u Q I r h
 rw[ha]
 refine ag (dY (thn (ho B s σ H _ I h) λ C s1 ⟨x,H1,I1,r1,q1⟩=>?_))
 refine ag (dY (thn (hi B s1 σ H1 _ I1 q1) λ G s2 ⟨y,H2,I2,Z,q2⟩=>?_))
 refine ag (ie (ag (dY (thn (hs B s2 σ H2 x y v C G u _ I2 r1 Z r q2) λ _ s3 ⟨H3,I3,q3⟩=>?_))))
 exact wpAny_release ⟨σ,H3,I3,q3⟩
def bm4 (te:TE)(g:TG):TS:=λ D σ H=>te σ H λ x H1=>g x σ H1 D.nx
theorem bv0 {tg e:Expr}{B:TE}{g:TG}(G:PE X e B)(Z:PG X tg g)(hs:swapsWithSole [tg] e pos.line X.env=pure false:=by rfl)(hw:ig [tg] e X.env=pure none:=by rfl)
  (J:(cy [tg] X.env).map (·.2)=[fX tg X.env]:=by rfl):PS X (.Assign [tg] e pos) (bm4 B g):=by
 intro y s σ H D I h
 refine wpAny_Assign_stores (thn (G y s σ H _ I h) λ v s1 ⟨x,Y,C,r1,q1⟩=>?_) hs hw
 rw[J]
 exact thn (Z y s1 σ Y x v _ C r1 q1) λ _ s2 q=>q
theorem bs4 {i:Nat}{x:Str}{e:Expr}{G:TE}{B:Pos}(hN:X.N.Nodup)(Z:X.N[i]?=some x)(hx:Loc X.env.scope x)(Y:PE X e G)(hs:eQ e (some (.Name x B)) pos.line X.env=pure false:=by rfl)(hf:X.fn x=true\/X.env.scope.names.lookup x=some .local:=by first|exact .inl rfl|exact .inr rfl|assumption) :
  PS X (.Assign [.Name x B] e pos) (bm4 G (aF3 i)):=by
 intro C s σ H D I h
 refine wpAny_Assign_Name (thn (Y C s σ H _ I h) λ v s1 ⟨y,H1,J,r1,q1⟩=>?_) hs
 exact am3 J hN Z hx r1 (λ s2 I2=>⟨_,H1,I2,q1⟩) hf
def cl9 (i:Nat)(te:TE)(ti:TIp):TS:=λ D σ H=>∃ x,σ[i]?=some (some x)/\te σ H λ y H1=>ti x y H1 λ z H2=>D.nx (σ.set i (some z)) H2
theorem bQ2 {i:Nat}{x:Str}{e:Expr}{Y:TE}{op:jJ}{J:TIp}{C:Pos}(hN:X.N.Nodup)(G:X.N[i]?=some x)(hx:Loc X.env.scope x)(he:PE X e Y)(ho:PIp X op J)(hf:X.fn x=true\/X.env.scope.names.lookup x=some .local:=by first|exact .inl rfl|exact .inr rfl|assumption) :
  PS X (.AugAssign (.Name x C) op e pos) (cl9 i Y J):=by
 intro B s σ H D I h
 obtain⟨v,e1,h⟩:=h
 obtain⟨m,hn,hl⟩:=I.loc
 have vis:Vis X.env.scope x:=by rcases hx with k|k;exact .inl k;exact .inr (.inl k)
 obtain⟨u,r,l⟩:=hl i x v G e1 vis
 refine wpAny_AugAssign_Name ?_
 have go:wpAny (model X.prog X.w) X.A (eval e X.env) (λ w s₂=>wpAny (model X.prog X.w) X.A (inplaceOp op u w) (λ r s₃=>wpAny (model X.prog X.w) X.A (eP X.env x r) (λ _=>SP X B D .next) X.xe s₃) X.xe s₂) X.xe s:=by
  refine thn (he B s σ H _ I h) λ w s1 ⟨y,H1,I1,r1,q1⟩=>?_
  refine thn (ho B s1 σ H1 v y u w _ I1 r r1 q1) λ z s2 ⟨zv,H2,I2,Z,q2⟩=>?_
  exact am3 I2 hN G hx Z (λ s3 I3=>⟨_,H2,I3,q2⟩) hf
 rcases l with⟨hk,hm⟩|⟨hk,c,hc,hcell⟩
 ·exact gM I.ok.kind hk hn hm go
 ·rcases hk with hk|hk
  ·exact g9 I.ok.kind hk hc hcell go
  ·rcases hx with k|k
   ·have:X.env.scope.names.lookup x=some .free:=hk
    rw[k]at this;cases this
   ·have:X.env.scope.names.lookup x=some .free:=hk
    rw[k]at this;cases this
def ipI (f:Int->Int->Int):TIp:=λ x y H Q=>∃ i j,x=.int i/\y=.int j/\Q (.int (f i j)) H
theorem bU4:PIp X .Add (ipI λ i j=>i+j):=by
 intro B s σ H x y v u Q I r1 C h
 obtain⟨i,j,e1,e2,q⟩:=h
 subst e1;subst e2
 obtain⟨t,rfl⟩:=r1
 obtain⟨t',rfl⟩:=C
 exact iadd_int ⟨.int _,H,I.tok _,⟨_,rfl⟩,q⟩
end
section
variable {X:Cx} {pos:Pos}
def bv4 (c:TT)(tb:TS):TS:=λ D σ H=>∃ W:Nat->St->Hp->Prop,(∃ m,W m σ H)/\∀ m σ H,W m σ H ->
 c σ H λ b H1=>if b=true then ∃ N:St->Hp->Prop,(∀ σ' H',N σ' H'->∃ m',m'<m/\W m' σ' H')/\tb { D with nx:=N,ct:=N,bk:=D.nx } σ H1 else D.nx σ H1
theorem bo3 {c:Expr}{body:List Stmt}{tc:TT}{tb:TS}(hp:PassesOwn (model X.prog X.w) X.A X.env X.xe)(hc:PT X c tc)(hb:PSs X body tb):PS X (.While c body [] pos) (bv4 tc tb):=by
 intro y s σ H D I h
 obtain⟨W,⟨m0,w0⟩,turn⟩:=h
 refine wpAny_While (codeAny_whileLoop (λ n s'=>∃ σ' H',Inv X y σ' H' s'/\W n σ' H') ?_ m0 ⟨σ,H,I,w0⟩)
 rintro n s1 ⟨σ1,Z,I1,w1⟩
 refine cF hp (thn (hc y s1 σ1 Z _ I1 (turn n σ1 Z w1)) λ b s2 ⟨H2,I2,q2⟩=>?_)
 cases b with
 | true =>
  obtain⟨N,hN,q2⟩:=q2
  rw[if_pos rfl]
  refine cF hp (thn (hb y s2 σ1 H2 _ I2 q2) λ f s3 q3=>?_)
  cases f with
  | next =>
   obtain⟨σ3,B,J,Y⟩:=q3
   obtain⟨m',C,G⟩:=hN σ3 B Y
   exact⟨m',C,σ3,B,J,G⟩
  | cont =>
   obtain⟨σ3,B,J,Y⟩:=q3
   obtain⟨m',C,G⟩:=hN σ3 B Y
   exact⟨m',C,σ3,B,J,G⟩
  | brk=>exact q3
  | ret v=>exact q3
 | false =>
  rw[if_neg aR]
  exact gx ⟨σ1,H2,I2,q2⟩
end
structure It where
 go:Nat->Hp->Prop
 yld:Nat->Hp->V->Hp->Prop
 stop:Nat->Hp->Prop
def FpOk (X:Cx)(pins:List (Addr×Obj))(H:Hp)(b:Addr):Prop :=
 H b=none/\b≠X.env.locals/\b ∉ X.fs/\(b∈X.ex\/X.s₀.heap.objs.size<=b)/\(∀ x c,X.env.cells.lookup x=some c->c≠b)/\∀ p∈X.pn++pins,p.1≠b
theorem Inv.fpOk {X:Cx}{h:List (Addr×Obj)}{σ:St}{H H':Hp}{s:af}{b:Addr}(I:Inv X h σ H s)(hb:s.heap.objs.size<=b)(hn:H' b=none):FpOk X h H' b:=by
 refine⟨hn,bM (ak I.lt hb),I.nofs hb,.inr (aq I.sz hb),λ x c e z=>?_,λ p y z=>?_⟩
 ·obtain⟨v,q⟩:=I.cell x c e
  exact absurd (ak q.lt (by rw[z];exact hb)) (bq _)
 ·exact absurd (ak (aA (I.pin p y).1) (by rw[z];exact hb)) (bq _)
structure Turn (P:aL)(w:World)(K:ac)(tg:Expr)(J:It)(fp:List Addr)(it:Addr)(tn:Nat->Heap->Prop):Prop where
 mem:it∈fp
 obj:∀ i h,tn i h->∀ b∈fp,∃ o,h.get? b=some o/\∀ v,o.data≠.cell v
 keep:∀ i h h',tn i h->(∀ b∈fp,∀ o,h.get? b=some o->h'.get? b=some o)->tn i h'
 item:∀(X:Cx),X.prog=P->X.w=w->X.K=K->X.calm=true->∀(i:Nat) (pins:List (Addr×Obj)) (s:af) (σ:St) (H:Hp) (E:Value->af->Prop),Inv X pins σ H s->(∀ b∈fp,FpOk X pins H b)->tn i s.heap->J.go i H ->
  wpAny (model P w) X.A (gN (.ref it)) (λ r s1=>∃ u,r=some u /\
   wpAny (model P w) X.A (eC tg (.ref it) u) (λ _ s2=>∃ x H',Inv X pins σ H' s2/\RelV x u/\J.yld i H x H'/\tn (i+1) s2.heap/\∀ b∈fp,H' b=none) E s1) E s
 done:∀(X:Cx),X.prog=P->X.w=w->X.K=K->X.calm=true->∀(i:Nat) (pins:List (Addr×Obj)) (s:af) (σ:St) (H:Hp) (E:Value->af->Prop),Inv X pins σ H s->(∀ b∈fp,FpOk X pins H b)->tn i s.heap->J.stop i H ->
  wpAny (model P w) X.A (gN (.ref it)) (λ r s1=>r=none/\Inv X pins σ H s1) E s
 self:∀(A:aV) (i:Nat) (s:af) (Q:Value->af->Prop) (E:Value->af->Prop),tn i s.heap->Q (.ref it) s->wpAny (model P w) A (iT (.ref it)) Q E s
abbrev TI:=St->Hp->(It->Hp->Prop)->Prop
def PIE (X:Cx)(pins:List (Addr×Obj))(σ:St)(tg:Expr)(R:It->Hp->Prop)(itv:Value)(s2:af):Prop :=
 ∃(it:Addr) (fp:List Addr) (tn:Nat->Heap->Prop) (J:It) (H':Hp),itv=.ref it/\Inv X pins σ H' s2/\Turn X.prog X.w X.K tg J fp it tn/\tn 0 s2.heap/\(∀ b∈fp,FpOk X pins H' b)/\R J H'
def PI (X:Cx)(tg iter:Expr)(wi:TI):Prop :=
 ∀(pins:List (Addr×Obj)) (s:af) (σ:St) (H:Hp) (R:It->Hp->Prop),Inv X pins σ H s->wi σ H R ->
  wpAny (model X.prog X.w) X.A (eval iter X.env) (λ v s1=>wpAny (model X.prog X.w) X.A (iT v) (PIE X pins σ tg R) X.xe s1) X.xe s
theorem bq4 {M : Model} {A : Around} {E : Value -> Shared -> Prop} {s : Shared} {tg : Expr} {it : Addr} {u : Value} {o : Obj} {n : String} {vs : Array Value} {Q : Unit -> Shared -> Prop} (ho : s.heap.get? it = some o) (hc : o.cls = .type n) (hd : o.data = .fields vs)
    (hn : ["enumerate", "zip", "dict_itemiterator", "dict_reverseitemiterator", "odict_iterator", "itertools.zip_longest", "itertools.pairwise"].contains n = false) (hQ : Q () s) : wpAny M A (eC tg (.ref it) u) Q E s := by
  unfold eC
  cases tg <;> first
    | exact aK hQ
    | (cases u <;> first
        | exact aK hQ
        | (refine ag (wpAny_load ho ?_)
           rw[hc, hd]
           show wpAny M A (if(["enumerate", "zip", "dict_itemiterator", "dict_reverseitemiterator", "odict_iterator", "itertools.zip_longest", "itertools.pairwise"].contains n && vs[0]? == some (cz _)) = true then _ else _) Q E s
           rw[if_neg (by intro h; rw[hn, Bool.false_and]at h; cases h)]
           exact aK hQ))
noncomputable def Itl (K:ac)(a:Addr):It :=
 ⟨λ i H=>∃ xs x,SqL K H a xs/\xs[i]?=some x,λ i H x H'=>H'=H/\∀ xs,SqL K H a xs->xs[i]?=some x,λ i H=>∃ xs,SqL K H a xs/\xs.length<=i⟩
noncomputable def Itt (K:ac)(a:Addr):It :=
 ⟨λ i H=>∃ xs x,SqT K H a xs/\xs[i]?=some x,λ i H x H'=>H'=H/\∀ xs,SqT K H a xs->xs[i]?=some x,λ i H=>∃ xs,SqT K H a xs/\xs.length<=i⟩
noncomputable def Itr (lo:Int)(n:Nat):It:=⟨λ i _=>i<n,λ i H x H'=>H'=H/\x=.int (lo+i),λ i _=>n<=i⟩
theorem aZ8 {P:aL}{w:World}{K:ac}{tg:Expr}(a B:Addr):Turn P w K tg (Itl K a) [B] B (λ i h=>h.IsListIter B a i) where
 mem:=by simp
 obj:=λ i h st b hb=>by
  have e:b=B:=by simpa using hb
  subst e
  obtain⟨o,e,c,d⟩:=st
  exact⟨o,e,λ v z=>by rw[d]at z;cases z⟩
 keep:=λ i h h' st k=>st.at λ o e=>k B (by simp) o e
 item:=by
  intro X J hw hK hc i y s σ H E I G st hg
  subst J hw hK
  obtain⟨xs,x,hq,hx⟩:=hg
  obtain⟨its,rv,p,hz⟩:=I.list hq
  obtain⟨u,hu,ru⟩:=rv.get hx
  obtain⟨f0,Z,f2,f3,Y,f5⟩:=G B (by simp)
  refine wpAny_pyNext_list_item st p.isList (x:=u) (by simpa using hu) λ h' C sb=>?_
  have I1:Inv X y σ H { s with heap:=h' }:=I.turned (t':=s.toks) (λ b o hb e=>(sb.2 b hb).trans e) f0 Z f3 Y f5
  obtain⟨o,e,c,d⟩:=id C
  exact⟨u,rfl,bq4 (s:={ s with heap:=h' }) e c d (by decide) ⟨x,H,I1,ru,⟨rfl,λ ys hy=>by rw[I.list_inj hy hq];exact hx⟩,C,λ b hb=>(G b hb).1⟩⟩
 done:=by
  intro X J hw hK hc i y s σ H E I G st hg
  subst J hw hK
  obtain⟨xs,hq,hx⟩:=hg
  obtain⟨its,rv,p,hz⟩:=I.list hq
  obtain⟨f0,Z,f2,f3,Y,f5⟩:=G B (by simp)
  have hl:=rv.length
  exact wpAny_pyNext_list_end (I.ok.hd hc) st p.isList (by simp;omega) λ h' eb=>⟨rfl,I.turned (t':=s.toks) (λ b o hb e=>eb b o hb e) f0 Z f3 Y f5⟩
 self:=λ _ _ _ _ _ st h=>wpAny_pyIter_listiter st h
theorem aR8 {P:aL}{w:World}{K:ac}{tg:Expr}(a B:Addr):Turn P w K tg (Itt K a) [B] B (λ i h=>h.IsTupleIter B a i) where
 mem:=by simp
 obj:=λ i h st b hb=>by
  have e:b=B:=by simpa using hb
  subst e
  obtain⟨o,e,c,d⟩:=st
  exact⟨o,e,λ v z=>by rw[d]at z;cases z⟩
 keep:=λ i h h' st k=>st.at λ o e=>k B (by simp) o e
 item:=by
  intro X J hw hK hc i y s σ H E I G st hg
  subst J hw hK
  obtain⟨xs,x,hq,hx⟩:=hg
  obtain⟨its,rv,p,hz⟩:=I.tuple hq
  obtain⟨u,hu,ru⟩:=rv.get hx
  obtain⟨f0,Z,f2,f3,Y,f5⟩:=G B (by simp)
  refine wpAny_pyNext_tuple_item st (show s.heap.IsTuple a its.toArray from p) (x:=u) (by simpa using hu) λ h' C sb=>?_
  have I1:Inv X y σ H { s with heap:=h' }:=I.turned (t':=s.toks) (λ b o hb e=>(sb.2 b hb).trans e) f0 Z f3 Y f5
  obtain⟨o,e,c,d⟩:=id C
  exact⟨u,rfl,bq4 (s:={ s with heap:=h' }) e c d (by decide) ⟨x,H,I1,ru,⟨rfl,λ ys hy=>by rw[I.tuple_inj hy hq];exact hx⟩,C,λ b hb=>(G b hb).1⟩⟩
 done:=by
  intro X J hw hK hc i y s σ H E I G st hg
  subst J hw hK
  obtain⟨xs,hq,hx⟩:=hg
  obtain⟨its,rv,p,hz⟩:=I.tuple hq
  obtain⟨f0,Z,f2,f3,Y,f5⟩:=G B (by simp)
  have hl:=rv.length
  exact wpAny_pyNext_tuple_end (I.ok.hd hc) st (show s.heap.IsTuple a its.toArray from p) (by simp;omega) λ h' eb=>⟨rfl,I.turned (t':=s.toks) (λ b o hb e=>eb b o hb e) f0 Z f3 Y f5⟩
 self:=λ _ _ _ _ _ st h=>wpAny_pyIter_tupleiter st h
theorem aR3 {P:aL}{w:World}{K:ac}{tg:Expr}(B:Addr)(G:Int)(n:Nat):Turn P w K tg (Itr G n) [B] B (λ i h=>IsRangeIter h B (G+(i:Nat)*1) ((n:Int) - (i:Nat)) 1) where
 mem:=by simp
 obj:=λ i h st b hb=>by
  have e:b=B:=by simpa using hb
  subst e
  exact⟨_,st,λ v z=>by
   have z':Data.fields _=Data.cell v:=z
   cases z'⟩
 keep:=λ i h h' st k=>k B (by simp) _ st
 item:=by
  intro X Y hw hK hc i y s σ H E I J st hg
  subst Y hw hK
  obtain⟨f0,f1,f2,f3,Z,f5⟩:=J B (by simp)
  have W:=Walks.range (prog:=X.prog) (w:=X.w) (I.ok.hd hc) B G 1 n
  refine W.item i s _ _ hg st λ v h' tk hv C kk=>?_
  obtain⟨t,rfl⟩:=hv
  have I1:Inv X y σ H { s with heap:=h',toks:=tk }:=I.turned (λ b o hb e=>kk b o (by simpa using hb) e) f0 f1 f3 Z f5
  refine⟨_,rfl,bq4 (s:={ s with heap:=h',toks:=tk }) (n := "range_iterator") C rfl rfl (by decide) ⟨.int (G+i),H,I1,⟨t,?_⟩,⟨rfl,rfl⟩,C,λ b hb=>(J b hb).1⟩⟩
  rw[Int.mul_one]
 done:=by
  intro X Y hw hK hc i y s σ H E I J st hg
  subst Y hw hK
  obtain⟨f0,f1,f2,f3,Z,f5⟩:=J B (by simp)
  exact wpAny_pyNext_range_end (I.ok.hd hc) st (by have:n<=i:=hg;omega) λ h' eb=>⟨rfl,I.turned (t':=s.toks) (λ b o hb e=>eb b o hb e) f0 f1 f3 Z f5⟩
 self:=λ _ _ _ _ _ st h=>wpAny_pyIter_rangeiter st h
section
variable {X:Cx} {tg:Expr}
def bK7 (K:ac)(tl:TE):TI:=λ σ H R=>tl σ H λ x H1=>∃ a,x=.ref a/\(∃ xs,SqL K H1 a xs)/\R (Itl K a) H1
def ce3 (K:ac)(tl:TE):TI:=λ σ H R=>tl σ H λ x H1=>∃ a,x=.ref a/\(∃ xs,SqT K H1 a xs)/\R (Itt K a) H1
theorem bF6 {l:Expr}{C:TE}(hl:PE X l C):PI X tg l (bK7 X.K C):=by
 intro y s σ H R I h
 refine thn (hl y s σ H _ I h) λ v s1 ⟨x,G,B,r1,q1⟩=>?_
 obtain⟨a,e,⟨Y,hq⟩,q⟩:=q1
 subst e
 cases r1
 obtain⟨its,J,p,hz⟩:=B.list hq
 refine cW p.isList ?_
 refine⟨s1.heap.objs.size,[s1.heap.objs.size],_,_,G,rfl,B.kept (t':=s1.toks) λ b o e=>ab _ e,aZ8 a _,⟨_,aD _ rfl,rfl,rfl⟩,λ b hb=>?_,q⟩
 have e:b=s1.heap.objs.size:=by simpa using hb
 subst e
 exact B.fpOk (aj _) (B.hok.fresh (aj _))
theorem bT2 {l:Expr}{C:TE}(hl:PE X l C):PI X tg l (ce3 X.K C):=by
 intro y s σ H R I h
 refine thn (hl y s σ H _ I h) λ v s1 ⟨x,G,B,r1,q1⟩=>?_
 obtain⟨a,e,⟨Y,hq⟩,q⟩:=q1
 subst e
 cases r1
 obtain⟨its,J,p,hz⟩:=B.tuple hq
 refine iq (show s1.heap.IsTuple a its.toArray from p) ?_
 refine⟨s1.heap.objs.size,[s1.heap.objs.size],_,_,G,rfl,B.kept (t':=s1.toks) λ b o e=>ab _ e,aR8 a _,⟨_,aD _ rfl,rfl,rfl⟩,λ b hb=>?_,q⟩
 have e:b=s1.heap.objs.size:=by simpa using hb
 subst e
 exact B.fpOk (aj _) (B.hok.fresh (aj _))
theorem bo7 {B:List (Addr×Obj)}{σ:St}{H:Hp}{s:af}{R:It->Hp->Prop}{E:Value->af->Prop}{h y:Int}{t u v:Tok}{tk:Nat}(I:Inv X B σ H s)(G:-(2^62)<=h)(J:h<2^62)(h3:-(2^62)<=y)(Y:y<2^62)
  (q:R (Itr h (y - h).toNat) H):wpAny (model X.prog X.w) X.A (iT (.ref s.heap.objs.size)) (PIE X B σ tg R) E { s with heap:=s.heap.push { cls:=.type "range",data:=.fields #[.int h t,.int y u,.int 1 v] },toks:=tk }:=by
 refine wpAny_pyIter_range (IsRange.new ..) (small_one G J h3 Y) ?_
 have C:Inv X B σ H { s with heap:=s.heap.push { cls:=.type "range",data:=.fields #[.int h t,.int y u,.int 1 v] },toks:=tk }:=I.kept λ b o e=>ab _ e
 refine⟨(s.heap.push { cls:=.type "range",data:=.fields #[.int h t,.int y u,.int 1 v] }).objs.size,[(s.heap.push { cls:=.type "range",data:=.fields #[.int h t,.int y u,.int 1 v] }).objs.size],_,_,H,rfl,
  C.kept (t':=tk) λ b o e=>ab _ e,aR3 _ h (y - h).toNat,?_,λ b hb=>?_,q⟩
 ·have e1:h+((0:Nat):Int)*1=h:=by simp
  have e2:(((y - h).toNat:Nat):Int) - ((0:Nat):Int)=j7 h y 1:=by rw[rangeSize_one];split<;>omega
  show IsRangeIter _ _ (h+((0:Nat):Int)*1) ((((y - h).toNat:Nat):Int) - ((0:Nat):Int)) 1
  rw[e1,e2]
  exact aD _ rfl
 ·have e:b=(s.heap.push { cls:=.type "range",data:=.fields #[.int h t,.int y u,.int 1 v] }).objs.size:=by simpa using hb
  subst e
  exact C.fpOk (aj _) (C.hok.fresh (aj _))
def bT9 (ta:TA):TI:=λ σ H R=>ta σ H λ vs H1=>∃ j:Int,vs=[.int j]/\-(2^62)<=j/\j<2^62/\R (Itr 0 j.toNat) H1
theorem aV4 {a:Expr}{B:TA}{p pos:Pos}(J:Gl X "range")(G:X.mg "range"=none)(ha:PA X [a] B)(hs:bf [a] X.env=[(false,eval a X.env)]:=by rfl):PI X tg (.Call (.Name "range" p) [a] [] pos) (bT9 B):=by
 intro y s σ H R I h
 refine Call_ (as9 I J G boot_range (cX (thn (ha pos y s σ H _ I h) λ us s1 ⟨vs,Y,C,r1,q1⟩=>?_) hs rfl))
 obtain⟨j,e,q1,q2,q⟩:=q1
 subst e
 cases r1 with
 | cons r rr =>
  cases rr
  obtain⟨t,rfl⟩:=r
  exact call_range_1 (bo7 C (by omega) (by omega) q1 q2 (by simpa using q))
def cm6 (wi:TI)(g:TG)(tb:TS):TS:=λ D σ H=>wi σ H λ J H1=>∃ W:Nat->Nat->St->Hp->Prop,(∃ m,W 0 m σ H1)/\∀ i m σ H,W i m σ H ->
 (J.stop i H/\D.nx σ H)\/(J.go i H/\∃ N:St->Hp->Prop,(∀ σ' H',N σ' H'->∃ m',m'<m/\W (i+1) m' σ' H')/\∀ x H',J.yld i H x H'->g x σ H' λ σ2 H2=>tb { D with nx:=N,ct:=N,bk:=D.nx } σ2 H2)
noncomputable def aE9 (fp:List Addr)(h:Heap):List (Addr×Obj):=fp.filterMap λ b=>(h.get? b).map λ o=>(b,o)
theorem jn {y:List Addr}{h:Heap}{b:Addr}{o:Obj}(hb:b∈y)(e:h.get? b=some o):(b,o)∈aE9 y h:=b7.mpr ⟨b,hb,by rw[e];rfl⟩
theorem aZ4 {y:List Addr}{h:Heap}{p:Addr×Obj}(B:p∈aE9 y h):p.1∈y/\h.get? p.1=some p.2:=by
 obtain⟨b,hb,e⟩:=b7.mp B
 cases q:h.get? b with
 | none=>rw[q]at e;cases e
 | some o =>
  rw[q]at e
  have e':(b,o)=p:=ar e
  subst e'
  exact⟨hb,q⟩
theorem Inv.pinned {h:List (Addr×Obj)}{σ:St}{H:Hp}{s:af}{y:List Addr}(I:Inv X h σ H s)(J:∀ b∈y,FpOk X h H b)(ho:∀ b∈y,∃ o,s.heap.get? b=some o/\∀ v,o.data≠.cell v):Inv X (h++aE9 y s.heap) σ H s :=
 I.pins_of λ p C=>(cj.mp C).elim (λ z=>I.pin p (bu _ z)) λ z=>by
  obtain⟨hb,e⟩:=aZ4 z
  obtain⟨Y,G,B,_⟩:=J p.1 hb
  obtain⟨o,e',d⟩:=ho p.1 hb
  rw[e]at e';cases e'
  exact⟨e,Y,G,B,d⟩
theorem Inv.unpinned {h B:List (Addr×Obj)}{σ:St}{H:Hp}{s:af}(I:Inv X (h++B) σ H s):Inv X h σ H s:=I.pins_of λ p y=>I.pin p (bu _ (gJ _ y))
theorem bP3 {iter:Expr}{body:List Stmt}{wi:TI}{g:TG}{tb:TS}{pos:Pos}(hp:PassesOwn (model X.prog X.w) X.A X.env X.xe)(hc:X.calm=true)(hi:PI X tg iter wi)(hg:PG X tg g)(hb:PSs X body tb)
  (hs:∀ x,cY iter X.env x=pure x:=by intro _;rfl):PS X (.For tg iter body [] pos) (cm6 wi g tb):=by
 intro y s σ H D I h
 refine wpAny_For (thn (hi y s σ H _ I h) λ v s1 h1=>thn h1 λ a6 s2 h2=>?_) hs
 obtain⟨it,fp,tn,J,H2,e,I2,T,a4,f2,W,⟨m0,w0⟩,turn⟩:=h2
 subst e
 have Y:∀ {H':Hp},(∀ b∈fp,H' b=none)->∀ b∈fp,FpOk X y H' b:=λ hn b hb=>⟨hn b hb,(f2 b hb).2⟩
 refine codeAny_forLoop_any (λ n s'=>∃ i σ' H',Inv X y σ' H' s'/\tn i s'.heap/\(∀ b∈fp,H' b=none)/\W i n σ' H') ?_ m0 ⟨0,σ,H2,I2,a4,λ b hb=>(f2 b hb).1,w0⟩
 rintro n s3 ⟨i,σ3,H3,I3,a2,a1,w3⟩
 rcases turn i n σ3 H3 w3 with⟨stop,qn⟩|⟨go,N,hN,step⟩
 ·refine cF hp (thn (T.done X rfl rfl rfl hc i y s3 σ3 H3 X.xe I3 (Y a1) a2 stop) λ r s4 ⟨hr,I4⟩=>?_)
  subst hr
  exact gx ⟨σ3,H3,I4,qn⟩
 ·refine cF hp (thn (T.item X rfl rfl rfl hc i y s3 σ3 H3 X.xe I3 (Y a1) a2 go) λ r s4 ⟨u,hr,h4⟩=>?_)
  subst hr
  refine cF hp (thn h4 λ _ s5 ⟨x,H5,I5,r5,y5,a0,a5⟩=>?_)
  have a3:=I5.pinned (Y a5) (T.obj _ _ a0)
  refine cF hp (thn (hg _ s5 σ3 H5 x u _ a3 r5 (step x H5 y5)) λ _ s6 ⟨σ6,H6,I6,q6⟩=>?_)
  refine cF hp (thn (hb _ s6 σ6 H6 _ I6 q6) λ f s7 Z=>?_)
  have B:∀ {σ7:St} {C:Hp},Inv X (y++aE9 fp s5.heap) σ7 C s7->N σ7 C->∃ m,m<n/\∃ i σ' H',Inv X y σ' H' s7/\tn i s7.heap/\(∀ b∈fp,H' b=none)/\W i m σ' H':=λ {σ7 C} G n7=>by
   obtain⟨m',hm,w7⟩:=hN σ7 C n7
   refine⟨m',hm,i+1,σ7,C,G.unpinned,T.keep _ _ _ a0 λ b hb o e=>(G.pin (b,o) (bu _ (bu _ (jn hb e)))).1,λ b hb=>?_,w7⟩
   obtain⟨o,e,d⟩:=T.obj _ _ a0 b hb
   exact(G.pin (b,o) (bu _ (bu _ (jn hb e)))).2.1
  cases f with
  | next=>obtain⟨σ7,C,G,n7⟩:=Z;exact B G n7
  | cont=>obtain⟨σ7,C,G,n7⟩:=Z;exact B G n7
  | brk=>obtain⟨σ7,C,G,Z⟩:=Z;exact⟨σ7,C,G.unpinned,Z⟩
  | ret v=>obtain⟨x7,σ7,C,G,r7,Z⟩:=Z;exact⟨x7,σ7,C,G.unpinned,r7,Z⟩
end
abbrev R2:=V->V->Hp->VK->Prop
def OpR (X:Cx)(f:Value->Value->Sem Value)(r:R2):Prop :=
 ∀(pins:List (Addr×Obj)) (s:af) (σ:St) (H:Hp) (x y:V) (v u:Value) (Q:VK),Inv X pins σ H s->RelV x v->RelV y u->r x y H Q ->
  wpAny (model X.prog X.w) X.A (f v u) (EP X pins σ Q) X.xe s
def UnR (X:Cx)(f:Value->Sem Value)(r:V->Hp->VK->Prop):Prop :=
 ∀(pins:List (Addr×Obj)) (s:af) (σ:St) (H:Hp) (x:V) (v:Value) (Q:VK),Inv X pins σ H s->RelV x v->r x H Q ->
  wpAny (model X.prog X.w) X.A (f v) (EP X pins σ Q) X.xe s
def ae5 (X:Cx)(f:Value)(r:List V->Hp->VK->Prop):Prop :=
 ∀(pins:List (Addr×Obj)) (s:af) (σ:St) (H:Hp) (xs:List V) (us:List Value) (Q:VK),Inv X pins σ H s->Vals xs us->r xs H Q ->
  wpAny (model X.prog X.w) X.A (call f us) (EP X pins σ Q) X.xe s
def tOp (r:R2)(ta tb:TE):TE:=λ σ H Q=>ta σ H λ x H1=>tb σ H1 λ y H2=>r x y H2 Q
def tUn (r:V->Hp->VK->Prop)(ta:TE):TE:=λ σ H Q=>ta σ H λ x H1=>r x H1 Q
def rI (C:Int->Int->Prop)(g:Int->Int->V):R2:=λ x y H Q=>∃ i j,x=.int i/\y=.int j/\C i j/\Q (g i j) H
def rI0 (g:Int->Int->V):R2:=λ x y H Q=>∃ i j,x=.int i/\y=.int j/\Q (g i j) H
def rU (g:Int->V):V->Hp->VK->Prop:=λ x H Q=>∃ i,x=.int i/\Q (g i) H
section
variable {X:Cx} {a b c:Expr} {ta tb tc:TE} {pos:Pos}
theorem cd9 (ha:PE X a ta)(hb:PE X b tb){B:List (Addr×Obj)}{s:af}{σ:St}{H:Hp}{R:V->V->Hp->Prop}(I:Inv X B σ H s)
  (h:ta σ H λ x C=>tb σ C λ y H2=>R x y H2) {Q:Value->af->Prop} {f:Value->Value->Sem Value}
  (hf:∀ v u s2 x y H2,Inv X B σ H2 s2->RelV x v->RelV y u->R x y H2->wpAny (model X.prog X.w) X.A (f v u) Q X.xe s2) :
  wpAny (model X.prog X.w) X.A (eval a X.env) (λ v Y=>wpAny (model X.prog X.w) X.A (eval b X.env) (λ u J=>wpAny (model X.prog X.w) X.A (f v u) Q X.xe J) X.xe Y) X.xe s:=by
 refine thn (ha B s σ H _ I h) λ v s1 ⟨x,C,Z,r1,q1⟩=>?_
 refine thn (hb B s1 σ C _ Z q1) λ u s2 ⟨y,H2,I2,G,q2⟩=>?_
 exact hf v u s2 x y H2 I2 r1 G q2
theorem cd2 {op:jJ}{r:R2}(ho:OpR X (bZ op) r)(ha:PE X a ta)(hb:PE X b tb):PE X (.BinOp a op b pos) (tOp r ta tb):=by
 intro B s σ H Q I h
 exact wpAny_BinOp (cd9 ha hb I h λ v u s2 x y H2 I2 C G q=>ho B s2 σ H2 x y v u Q I2 C G q)
theorem cj1 {op:UnaryOp}{r:V->Hp->VK->Prop}(ho:UnR X (unaryOp op) r)(ha:PE X a ta):PE X (.UnaryOp op a pos) (tUn r ta):=by
 intro y s σ H Q I h
 exact UnaryOp_ (thn (ha y s σ H _ I h) λ v s1 ⟨x,C,B,r1,q1⟩=>ho y s1 σ C x v Q B r1 q1)
theorem opI {f:Value->Value->Sem Value}{C:Int->Int->Prop}{g:Int->Int->Int}
  (rule:∀(i j:Int) (t u:Tok) (s:af) (Q:Value->af->Prop) (E:Value->af->Prop),C i j->Q (.int (g i j) s.toks) { s with toks:=s.toks+1 }->wpAny (model X.prog X.w) X.A (f (.int i t) (.int j u)) Q E s) :
  OpR X f (rI C λ i j=>.int (g i j)):=by
 intro B s σ H x y v u Q I J G h
 obtain⟨i,j,rfl,rfl,hc,q⟩:=h
 obtain⟨t,rfl⟩:=J
 obtain⟨t',rfl⟩:=G
 exact rule i j t t' s _ _ hc ⟨.int (g i j),H,I.tok _,⟨_,rfl⟩,q⟩
theorem cn5 {f:Value->Value->Sem Value}{g:Int->Int->Int}
  (rule:∀(i j:Int) (t u:Tok) (s:af) (Q:Value->af->Prop) (E:Value->af->Prop),Q (.int (g i j) s.toks) { s with toks:=s.toks+1 }->wpAny (model X.prog X.w) X.A (f (.int i t) (.int j u)) Q E s) :
  OpR X f (rI0 λ i j=>.int (g i j)):=by
 intro B s σ H x y v u Q I C G h
 obtain⟨i,j,rfl,rfl,q⟩:=h
 obtain⟨t,rfl⟩:=C
 obtain⟨t',rfl⟩:=G
 exact rule i j t t' s _ _ ⟨.int (g i j),H,I.tok _,⟨_,rfl⟩,q⟩
theorem cc4 {f:Value->Value->Sem Value}{g:Int->Int->Bool}
  (rule:∀(i j:Int) (t u:Tok) (s:af) (Q:Value->af->Prop) (E:Value->af->Prop),Q (.bool (g i j)) s->wpAny (model X.prog X.w) X.A (f (.int i t) (.int j u)) Q E s) :
  OpR X f (rI0 λ i j=>.bl (g i j)):=by
 intro B s σ H x y v u Q I C G h
 obtain⟨i,j,rfl,rfl,q⟩:=h
 obtain⟨t,rfl⟩:=C
 obtain⟨t',rfl⟩:=G
 exact rule i j t t' s _ _ ⟨.bl (g i j),H,I,rfl,q⟩
def cm8 (i j:Int):Prop:=0<=j/\j<=1000000/\i.natAbs<2^64
def cb4 (i j:Int):Prop:=(-(2^64)<i/\i<2^64)\/(-(2^64)<j/\j<2^64)
theorem cb4.ok {i j:Int}(h:cb4 i j):IntMulOk i j:=by
 rcases h with⟨B,y⟩|⟨B,y⟩
 ·exact .of_left (intBits_le_64 B y)
 ·exact .of_right (intBits_le_64 B y)
theorem aS4 (k:Nat):(0:Int)<=2^k:=by
 rw[two_pow_cast]
 exact Int.natCast_nonneg _
theorem bT0:OpR X (bZ .Add) (rI0 λ i j=>.int (i+j)):=cn5 λ _ _ _ _ _ _ _ q=>add_int q
theorem bX4:OpR X (bZ .Sub) (rI0 λ i j=>.int (i - j)):=cn5 λ _ _ _ _ _ _ _ q=>sub_int q
theorem ca7:OpR X (bZ .Mod) (rI (λ _ j=>0<j) λ i j=>.int (i % j)):=opI λ i j _ _ _ _ _ hc q=>by
 have h:(0:Int)<j:=hc
 exact mod_int' (by omega) (by rw[Int.fmod_eq_emod_of_nonneg i (by omega)];exact q)
theorem bT8:OpR X (bZ .Pow) (rI cm8 λ i j=>.int (i^j.toNat)):=opI λ _ _ _ _ _ _ _ hc q=>pow_int_small hc.1 hc.2.1 hc.2.2 q
theorem bX3:OpR X (bZ .LShift) (rI cm8 λ i j=>.int (i*2^j.toNat)):=opI λ _ _ _ _ _ _ _ hc q=>lshift_int_small hc.1 hc.2.1 hc.2.2 q
theorem bN0:OpR X (bZ .RShift) (rI (λ _ j=>0<=j) λ i j=>.int (i / 2^j.toNat)):=opI λ i j _ _ _ _ _ hc q =>
 rshift_int hc (by rw[eT i (aS4 _)];exact q)
theorem unI {f:Value->Sem Value}{g:Int->Int}
  (rule:∀(i:Int) (t:Tok) (s:af) (Q:Value->af->Prop) (E:Value->af->Prop),Q (.int (g i) s.toks) { s with toks:=s.toks+1 }->wpAny (model X.prog X.w) X.A (f (.int i t)) Q E s) :
  UnR X f (rU λ i=>.int (g i)):=by
 intro y s σ H x v Q I B h
 obtain⟨i,rfl,q⟩:=h
 obtain⟨t,rfl⟩:=B
 exact rule i t s _ _ ⟨.int (g i),H,I.tok _,⟨_,rfl⟩,q⟩
theorem bN6:UnR X (unaryOp .USub) (rU λ i=>.int (-i)):=unI λ _ _ _ _ _ q=>neg_int q
end
section
variable {X:Cx} {a b c:Expr} {ta tb tc:TE} {pos:Pos}
theorem ce9:OpR X (cf .Lt) (rI0 λ i j=>.bl (decide (i<j))):=cc4 λ _ _ _ _ _ _ _ q=>lt_int q
theorem cd7:OpR X (cf .LtE) (rI0 λ i j=>.bl (decide (i<=j))):=cc4 λ _ _ _ _ _ _ _ q=>le_int q
theorem ch5:OpR X (cf .Gt) (rI0 λ i j=>.bl (decide (j<i))):=cc4 λ _ _ _ _ _ _ _ q=>gt_int q
theorem cd6:OpR X (cf .GtE) (rI0 λ i j=>.bl (decide (j<=i))):=cc4 λ _ _ _ _ _ _ _ q=>ge_int q
theorem bD7 {op:CmpOp}{r:R2}(ho:OpR X (cf op) r)(ha:PE X a ta)(hb:PE X b tb)(C:cJ op b=false):PE X (.Compare a [op] [b] pos) (tOp r ta tb):=by
 intro B s σ H Q I h
 exact wpAny_Compare1 (cd9 ha hb I h λ v u s2 x y H2 I2 G J q=>ho B s2 σ H2 x y v u Q I2 G J q) C
def bC4 (t:TE):TT:=λ σ H Q=>t σ H λ x H'=>∃ k,x=.bl k/\Q k H'
theorem bG7 {op:CmpOp}{r:R2}(ho:OpR X (cf op) r)(ha:PE X a ta)(hb:PE X b tb)(Y:cJ op b=false):PT X (.Compare a [op] [b] pos) (bC4 (tOp r ta tb)):=by
 intro B s σ H Q I h
 refine gG (thn (ha B s σ H _ I h) λ v s1 ⟨x,G,I1,r1,q1⟩=>thn (hb B s1 σ G _ I1 q1) λ u s2 ⟨y,H2,I2,C,q2⟩ =>
  thn (ho B s2 σ H2 x y v u _ I2 r1 C q2) λ c s3 ⟨z,J,I3,Z,k,e,q3⟩=>?_) Y
 subst e
 cases Z
 exact bD ⟨J,I3,q3⟩
def bi4 (r r':R2)(ta tb tc:TE):TE:=λ σ H Q=>ta σ H λ x H1=>tb σ H1 λ y H2=>r x y H2 λ z H3=>∃ k,z=.bl k /\
 (if k=true then tc σ H3 λ w' H4=>r' y w' H4 Q else Q (.bl false) H3)
theorem bk0 {op C:CmpOp}{r Z:R2}(ho:OpR X (cf op) r)(G:OpR X (cf C) Z)(ha:PE X a ta)(hb:PE X b tb)(hc:PE X c tc)
  (hm:j8 [op,C] [b,c]=false:=by with_unfolding_all rfl):PE X (.Compare a [op,C] [b,c] pos) (bi4 r Z ta tb tc):=by
 intro B s σ H Q I h
 refine Compare_chain (thn (ha B s σ H _ I h) λ v s1 ⟨x,H1,I1,r1,q1⟩=>chain_link (thn (hb B s1 σ H1 _ I1 q1) λ u s2 ⟨y,H2,I2,J,q2⟩ =>
  thn (ho B s2 σ H2 x y v u _ I2 r1 J q2) λ d s3 ⟨z,Y,I3,r3,k,e,q3⟩=>?_)) hm
 subst e
 cases r3
 refine bD ?_
 cases k with
 | false=>exact ite_ff ⟨.bl false,Y,I3,rfl,q3⟩
 | true=>exact ite_tt (chain_last (thn (hc B s3 σ Y _ I3 q3) λ w' s4 ⟨z',H4,I4,r4,q4⟩=>G B s4 σ H4 y z' u w' Q I4 J r4 q4))
theorem bp9 {op C:CmpOp}{r Z:R2}(ho:OpR X (cf op) r)(G:OpR X (cf C) Z)(ha:PE X a ta)(hb:PE X b tb)(hc:PE X c tc)
  (hm:j8 [op,C] [b,c]=false:=by with_unfolding_all rfl):PT X (.Compare a [op,C] [b,c] pos) (bC4 (bi4 r Z ta tb tc)):=by
 intro B s σ H Q I h
 refine isTrue_chain (thn (ha B s σ H _ I h) λ v s1 ⟨x,H1,I1,r1,q1⟩=>test_link (thn (hb B s1 σ H1 _ I1 q1) λ u s2 ⟨y,H2,I2,J,q2⟩ =>
  thn (ho B s2 σ H2 x y v u _ I2 r1 J q2) λ d s3 ⟨z,Y,I3,r3,k,e,q3⟩=>?_)) hm
 subst e
 cases r3
 refine bD ?_
 cases k with
 | false =>
  obtain⟨k',e',q'⟩:=q3
  cases e'
  exact ite_ff ⟨Y,I3,q'⟩
 | true =>
  refine ite_tt (test_last (thn (hc B s3 σ Y _ I3 q3) λ w' s4 ⟨z',H4,I4,r4,q4⟩=>thn (G B s4 σ H4 y z' u w' _ I4 J r4 q4) λ d' s5 ⟨z2,H5,I5,r5,k2,e2,q5⟩=>?_))
  subst e2
  cases r5
  exact bD ⟨H5,I5,q5⟩
theorem aq0:(aN:Nat)<2^63:=by rw[fg];decide
theorem aU3:OpR X (bZ .Add) (λ x y H Q=>∃ i j,x=.str i/\y=.str j/\i.length+j.length<=aN/\Q (.str (i++j)) H):=by
 intro B s σ H x y v u Q I C G h
 obtain⟨i,j,rfl,rfl,hz,q⟩:=h
 obtain⟨t,rfl⟩:=C
 obtain⟨t',rfl⟩:=G
 exact add_str (λ t' tk=>⟨.str (i++j),H,I.tok _,⟨_,rfl⟩,q⟩) hz
theorem am1 {x:V}{us:List Value}(r:Vals [x] us):∃ u,us=[u]/\RelV x u:=by
 cases r with
 | cons r1 r2=>cases r2;exact⟨_,rfl,r1⟩
theorem bD3 {x y:V}{us:List Value}(r:Vals [x,y] us):∃ u w',us=[u,w']/\RelV x u/\RelV y w':=by
 cases r with
 | cons r1 r2 =>
  cases r2 with
  | cons r3 r4=>cases r4;exact⟨_,_,rfl,r1,r3⟩
theorem bp3:ae5 X (.builtin "abs") (λ B H Q=>∃ i,B=[.int i]/\Q (.int (if i<0 then -i else i)) H):=by
 intro y s σ H B us Q I r h
 obtain⟨i,rfl,q⟩:=h
 obtain⟨u,rfl,t,rfl⟩:=am1 r
 exact call_abs_int λ u tk=>⟨.int (if i<0 then -i else i),H,I.tok _,⟨_,rfl⟩,q⟩
theorem be2 (hc:X.calm=true):ae5 X (.builtin "max") (λ B H Q=>∃ i j,B=[.int i,.int j]/\Q (.int (if j > i then j else i)) H):=by
 intro y s σ H B us Q I r h
 obtain⟨i,j,rfl,q⟩:=h
 obtain⟨u,w',rfl,⟨t,rfl⟩,⟨t',rfl⟩⟩:=bD3 r
 refine max_two_ints (I.ok.hd hc) λ h' tk k=>⟨_,H,I.kept k,?_,q⟩
 by_cases hj:j > i
 ·rw[if_pos hj,if_pos hj];exact⟨_,rfl⟩
 ·rw[if_neg hj,if_neg hj];exact⟨_,rfl⟩
theorem bg6 (hc:X.calm=true):ae5 X (.builtin "min") (λ B H Q=>∃ i j,B=[.int i,.int j]/\Q (.int (if j<i then j else i)) H):=by
 intro y s σ H B us Q I r h
 obtain⟨i,j,rfl,q⟩:=h
 obtain⟨u,w',rfl,⟨t,rfl⟩,⟨t',rfl⟩⟩:=bD3 r
 refine min_two_ints (I.ok.hd hc) λ h' tk k=>⟨_,H,I.kept k,?_,q⟩
 by_cases hj:j<i
 ·rw[if_pos hj,if_pos hj];exact⟨_,rfl⟩
 ·rw[if_neg hj,if_neg hj];exact⟨_,rfl⟩
theorem aU6:ae5 X (.type "int") (λ y H Q=>(∃ i,y=[.int i]/\Q (.int i) H)\/∃ k,y=[.bl k]/\Q (.int (if k then 1 else 0)) H):=by
 intro B s σ H y us Q I r h
 rcases h with⟨i,rfl,q⟩|⟨k,rfl,q⟩
 ·obtain⟨u,rfl,t,rfl⟩:=am1 r
  exact call_int_int ⟨.int i,H,I,⟨_,rfl⟩,q⟩
 ·obtain⟨u,rfl,r1⟩:=am1 r
  cases r1
  exact call_int_bool ⟨.int (if k then 1 else 0),H,I.tok _,⟨_,rfl⟩,q⟩
end
structure ObjM (h:Heap)(x dx C:Addr)(mA:Str->Option Value):Prop where
 obj:h.get? x=some (gv C dx)
 ns:h.Ns1 dx mA
 ne:dx≠x
theorem aZ9 {h:Heap}{G:Addr}{C:Str->Option Value}(n:h.Ns1 G C):∃ od,h.get? G=some od/\∀ name,gO name od=some (C name):=by
 obtain⟨o,es,Z,ho,hd,hk,_,Y⟩:=n
 refine⟨o,ho,λ name=>?_⟩
 have e:=Y name
 unfold nsFind findBy at e
 rw[<-Array.find?_toList]at e
 unfold gO
 rw[hd]
 dsimp only
 split
 ·rename_i y q
  rw[q]at e
  exact congrArg some e
 ·rename_i q
  rw[q]at e
  have a:es.toList.any (·.refKey)=false:=by
   rw[List.any_eq_false]
   intro y hy
   obtain⟨z,t,B⟩:=hk y (Array.mem_toList_iff.mp hy)
   simp[DictEntry.refKey,B]
  have J:¬ es.toList.any (·.refKey)=true:=by rw[a];exact aR
  rw[if_neg J]
  exact congrArg some e
theorem ObjM.look {h:Heap}{x B C:Addr}{y:Str->Option Value}(I:ObjM h x B C y):∃ od,PySem.W.InstAt h x (gv C B) C (some od)/\∀ name,gO name od=some (y name) :=
 let⟨od,ho,hl⟩:=aZ9 I.ns
 ⟨od,⟨I.obj,rfl,rfl,ho⟩,hl⟩
section
variable {prog:aL} {w:World} {A:aV} {E:Value->af->Prop} {s:af} {K:ac} {x dx C f:Addr} {mA:Str->Option Value} {name:Str} {v:Value}
end
theorem aV6.some_of {v:V}{o:Option Value}(r:aV6 (some v) o):∃ u,o=some u/\RelV v u:=by
 cases o with
 | none=>exact(show False from r).elim
 | some u=>exact⟨u,rfl,r⟩
section
variable {P:aL} {w:World} {H H':Hp} {h h':Heap} {a C dx:Addr} {fs fs':List (Str×V)}
theorem bE8 (hok:HOk P w H h)(e:H a=some (.ins C dx fs)):∃ y,ObjM h a dx C y/\(∀ f,aV6 (fs.lookup f) (y f))/\kb y (fs.map (·.1))/\fs.length<=1000/\H dx=some (.own a):=by
 obtain⟨d,z,ne,ob,y,n,r,q⟩:=(show ae4 P w H h a (.ins C dx fs)from hok a _ e)
 exact⟨y,⟨ob,n,ne⟩,r,q,z,d⟩
end
structure Cls (K:ac)(C:Addr):Prop where
 pg:iU K C Str.empty=true
 hd:PySem.W.hasDictIn K C=true
 po:PySem.W.plainOver K C=true
 sa:gP K (.ref C) "__setattr__"=some (some (.builtin "object.__setattr__"))
theorem Cls.get {K:ac}{C:Addr}(c:Cls K C)(f:Str):iU K C f=true:=c.pg
section
variable {X:Cx} {pins:List (Addr×Obj)} {σ:St} {H:Hp} {s:af} {a C dx:Addr} {fs:List (Str×V)} {f:Str} {v:V} {A:aV} {E:Value->af->Prop}
end
section
variable {X:Cx} {o e value:Expr} {f:Str} {pos pos' tpos:Pos} {ta tv:TE}
end
section
variable {X:Cx} {pins:List (Addr×Obj)} {σ:St} {H:Hp} {s:af} {A:aV} {E:Value->af->Prop} {Q:Value->af->Prop} {c:Value} {b:Bool}
inductive TyOf (K:ac)(H:Hp):V->Value->Prop where
 | non:TyOf K H .non (.type "NoneType")
 | bl (x:Bool):TyOf K H (.bl x) (.type "bool")
 | int (i:Int):TyOf K H (.int i) (.type "int")
 | str (x:Str):TyOf K H (.str x) (.type "str")
 | flt (x:UInt64):TyOf K H (.flt x) (.type "float")
 | lst {a:Addr} {xs:List V} (e:H a=some (.lst xs)):TyOf K H (.ref a) (.type "list")
 | frz {a:Addr} {o:Obj} {xs:List V} (e:H a=some (.frz o (.lst xs))):TyOf K H (.ref a) (.type "list")
 | tup {a:Addr} {xs:List V} (e:H a=some (.tup xs)):TyOf K H (.ref a) (.type "tuple")
 | dK {a:Addr} {kvs:List (Key×V)} (e:H a=some (.dK kvs)):TyOf K H (.ref a) (.type "dict")
 | dT {a:Addr} {kvs:List (List Key×V)} (e:H a=some (.dT kvs)):TyOf K H (.ref a) (.type "dict")
 | ins {a C dx:Addr} {fs:List (Str×V)} (e:H a=some (.ins C dx fs)) (cl:Cls K C) (ha:gP K (.ref C) "__class__"=some (some (.builtin "object.__class__")))
   (hn:PySem.W.specialIn K (.builtin "object.__class__") "__get__"=some (some (.builtin "getset_descriptor.__get__"))) (htk:PySem.W.takesIn K (.builtin "object.__class__")=some true)
   (hm:PySem.W.mroIn K C (.type "object")=some true):TyOf K H (.ref a) (.ref C)
theorem jm {x:V}{u t:Value}(I:Inv X pins σ H s)(B:RelV x u)(ty:TyOf X.K H x t)(e:cA X.K t c=some b)(h:∀ tk,Q (.bool b) { s with toks:=tk }) :
  wpAny (model X.prog X.w) A (call (.builtin "isinstance") [u,c]) Q E s:=by
 cases ty with
 | non=>cases(show u=Value.none from B);exact bF PySem.W.kitx_none I.kIn True.intro e (λ z=>nomatch z) h
 | bl y=>cases(show u=Value.bool y from B);exact bF PySem.W.kitx_bool I.kIn True.intro e (λ z=>nomatch z) h
 | int i=>obtain⟨t,q⟩:=(show ∃ t,u=Value.int i t from B);cases q;exact bF PySem.W.kitx_int I.kIn True.intro e (λ z=>nomatch z) h
 | str y=>obtain⟨t,q⟩:=(show ∃ t,u=Value.str y t from B);cases q;exact bF PySem.W.kitx_str I.kIn True.intro e (λ z=>nomatch z) h
 | flt y=>obtain⟨t,q⟩:=(show ∃ t,u=Value.float y t from B);cases q;exact bF PySem.W.kitx_float I.kIn True.intro e (λ z=>nomatch z) h
 | @lst a Y ea =>
  cases(show u=Value.ref a from B)
  obtain⟨_,_,n,_,G⟩:=(show ae4 X.prog X.w H s.heap a (.lst Y)from I.hok a _ ea)
  exact bF iI I.kIn ⟨_,G,rfl⟩ e (λ z=>nomatch z) h
 | @frz a ob Y ea =>
  cases(show u=Value.ref a from B)
  obtain⟨_,_,_,n,_,G⟩:=(show ae4 X.prog X.w H s.heap a (.frz ob (.lst Y))from I.hok a _ ea)
  exact bF iI I.kIn ⟨_,G,rfl⟩ e (λ z=>nomatch z) h
 | @tup a Y ea =>
  cases(show u=Value.ref a from B)
  obtain⟨_,_,_,p⟩:=(show ae4 X.prog X.w H s.heap a (.tup Y)from I.hok a _ ea)
  obtain⟨o,G,Z,_⟩:=p
  exact bF ir I.kIn ⟨o,G,Z⟩ e (λ z=>nomatch z) h
 | @dK a kvs ea =>
  cases(show u=Value.ref a from B)
  obtain⟨_,_,vs,_,p⟩:=(show ae4 X.prog X.w H s.heap a (.dK kvs)from I.hok a _ ea)
  obtain⟨o,es,ep,G,Z,_⟩:=p
  exact bF iJ I.kIn ⟨o,G,Z.1⟩ e (λ z=>nomatch z) h
 | @dT a kvs ea =>
  cases(show u=Value.ref a from B)
  obtain⟨_,_,Y,_,o,es,ep,G,Z,_⟩:=(show ae4 X.prog X.w H s.heap a (.dT kvs)from I.hok a _ ea)
  exact bF iJ I.kIn ⟨o,G,Z.1⟩ e (λ z=>nomatch z) h
 | @ins a C dx fs ea cl ha hn htk hm =>
  cases(show u=Value.ref a from B)
  obtain⟨mA,O,_⟩:=bE8 I.hok ea
  obtain⟨od,J,_⟩:=O.look
  exact bF (PySem.W.kitx_own (cl.get _) cl.hd ha hn htk hm) I.kIn J e (λ z=>nomatch z) h
end
structure Room (k:Nat)(A:aV):Prop where
 hd:A.handled=none
 dp:A.depth+3*k+5<recursionLimit
 un:A.units+16*k+200<cLine
theorem Room.mono {j k:Nat}{A:aV}(r:Room k A)(h:j<=k):Room j A:=⟨r.hd,by have:=r.dp;omega,by have:=r.un;omega⟩
theorem Room.deeper {k:Nat}{A:aV}(r:Room (k+1) A)(env:Env):Room k (A.deeper env) :=
 ⟨r.hd,by have:=r.dp;show A.depth+1+3*k+5<_;omega,by have:=r.un;show A.units+3+16*k+200<_;omega⟩
theorem Room.in1 {k:Nat}{A:aV}(r:Room (k+1) A):Room k A.in1 :=
 ⟨r.hd,by have:=r.dp;show A.depth+3*k+5<_;omega,by have:=r.un;show A.units+1+16*k+200<_;omega⟩
theorem Room.depth {k:Nat}{A:aV}(r:Room k A):A.depth<recursionLimit:=by have:=r.dp;omega
theorem Room.units {k:Nat}{A:aV}(r:Room k A):A.units+64<cLine:=by have:=r.un;omega
theorem Room.units0 {k:Nat}{A:aV}(r:Room k A):A.units<cLine:=by have:=r.un;omega
def bj0:TA:=λ _ H Q=>Q [] H
def ap7 (ta:TE)(tr:TA):TA:=λ σ H Q=>ta σ H λ x H1=>tr σ H1 λ xs H2=>Q (x::xs) H2
section
variable {X:Cx} {e:Expr} {es:List Expr} {te:TE} {t:TA} {pos:Pos}
theorem ag4:PA X [] bj0:=λ _ _ _ _ H Q I h=>Calls.spliced_nil ⟨[],H,I,.nil,h⟩
theorem qf (ha:PE X e te)(Y:PA X es t)(hs:bf (e::es) X.env=(false,eval e X.env)::bf es X.env:=by rfl):PA X (e::es) (ap7 te t):=by
 intro pos y s σ H Q I h
 rw[hs]
 show wpAny _ _ (spliced ((false,eval e X.env)::dD pos (bf es X.env))) _ _ s
 refine Calls.spliced_cons (thn (ha y s σ H _ I h) λ u s1 ⟨x,J,B,r1,q1⟩=>?_)
 exact thn (Y pos y s1 σ J _ B q1) λ us s2 ⟨C,H2,I2,G,q2⟩=>⟨x::C,H2,I2,.cons r1 G,q2⟩
def cn8 (t:TA):TE:=λ σ H Q=>t σ H λ xs H1=>xs.length<=aN/\∀ p,H1 p=none->Q (.ref p) (upd H1 p (.tup xs))
def co5 (t:TA):TE:=λ σ H Q=>t σ H λ xs H1=>xs.length<=aN/\∀ p,H1 p=none->Q (.ref p) (upd H1 p (.lst xs))
theorem bZ3 {x1}(h:PA X es t):PE X (.Tuple es x1 pos) (cn8 t):=by
 intro y s σ H Q I hq
 refine wpAny_Tuple_spliced (thn (h pos y s σ H _ I hq) λ us s1 ⟨G,C,B,r,z,q⟩=>⟨by rw[<-r.length];exact z,?_⟩)
 have J:C s1.heap.objs.size=none:=B.hok.fresh (aj _)
 refine⟨.ref s1.heap.objs.size,upd C s1.heap.objs.size (.tup G),B.laid (t':=s1.toks) (λ b u e=>ab _ e) (aj _) ?_,rfl,q _ J⟩
 exact⟨z,us,r,⟨_,aD _ rfl,rfl,_,rfl⟩⟩
theorem bu7 (h:PA X es t):PE X (.List es pos) (co5 t):=by
 intro y s σ H Q I hq
 refine wpAny_List_spliced (thn (h pos y s σ H _ I hq) λ us s1 ⟨G,C,B,r,z,q⟩=>⟨by rw[<-r.length];exact z,?_⟩)
 have J:C s1.heap.objs.size=none:=B.hok.fresh (aj _)
 refine⟨.ref s1.heap.objs.size,upd C s1.heap.objs.size (.lst G),B.laid (t':=s1.toks) (λ b u e=>ab _ e) (aj _) ?_,rfl,q _ J⟩
 exact⟨z,us,0,r,aD _ rfl⟩
end
abbrev Sp:=List V->Hp->VK->XK->Prop
abbrev CXT:=List Env->Hp->af->XK->Value->af->Prop
structure Env0 (P:aL)(w:World)(K:ac)(mg:Str->Option Value)(base:Heap)(A:aV)(outer:List Env)(s:af)(H:Hp):Prop where
 frames:A.frames=some outer
 mod:Mod K mg base
 bs:∀ b o,base.get? b=some o->s.heap.get? b=some o/\H b=none
 bsz:base.objs.size<=s.heap.objs.size
 funs:s.heap.FunFrames base outer
 frf:∀ b∈frs outer,H b=none
 hok:HOk P w H s.heap
 bare:fe s.gens
def CE (outer:List Env)(P:aL)(w:World)(H:Hp)(s:af)(Q:VK)(u:Value)(s':af):Prop :=
 ∃ v H',s'.os=s.os/\fe s'.gens/\Un (frs outer) [] H H' s.heap s'.heap/\HOk P w H' s'.heap/\RelV v u/\Q v H'
def CR (CX:CXT)(outer:List Env)(P:aL)(w:World)(H:Hp)(s:af)(Q:VK)(E:XK)(r:Result)(s':af):Prop :=
 match r with
 | .ok (.ret u)=>CE outer P w H s Q u s'
 | .ok _=>False
 | .error e=>CX outer H s E e s'
structure FnOk (P:aL)(w:World)(K:ac)(mg:Str->Option Value)(base:Heap)(CX:CXT)(k:Nat)(f:Addr)(fd:bE)(ps:List Str)(sp:Sp):Prop where
 len:∀ vs H Q E,sp vs H Q E->vs.length=ps.length
 run:∀(A:aV) (outer:List Env) (s:af) (H:Hp) (args:Args) (us:List Value) (vs:List V) (Q:VK) (E:XK),Room k A->Env0 P w K mg base A outer s H->jF s fd args (ps.zip us)->Vals vs us->sp vs H Q E ->
  fh (model P w) A (.call (.ref f) args) (CR CX outer P w H s Q E) s
theorem FnOk.imp {P:aL}{w:World}{K:ac}{mg:Str->Option Value}{y:Heap}{C:CXT}{k:Nat}{f:Addr}{G:bE}{ps:List Str}{sp B:Sp}(F:FnOk P w K mg y C k f G ps sp)
  (h:∀ vs H Q E,B vs H Q E->sp vs H Q E):FnOk P w K mg y C k f G ps B :=
 ⟨λ vs H Q E q=>F.len vs H Q E (h _ _ _ _ q),λ A outer s H args us vs Q E J Y hb hv hs=>F.run A outer s H args us vs Q E J Y hb hv (h _ _ _ _ hs)⟩
section
variable {X:Cx} {pins:List (Addr×Obj)} {σ:St} {H:Hp} {s s':af}
theorem Inv.env0 (I:Inv X pins σ H s):Env0 X.prog X.w X.K X.mg X.base X.A X.stack s H :=
 ⟨I.ok.frames,I.ok.mod,I.bs,aq I.ok.bsz I.sz,I.stack,I.stkFree,I.hok,I.bare⟩
theorem Inv.after {Q:VK}{u:Value}(I:Inv X pins σ H s)(h:CE X.stack X.prog X.w H s Q u s'):EP X pins σ Q u s':=by
 obtain⟨v,H',os,bare,un,hok,r,q⟩:=h
 obtain⟨B,g,d,t,y⟩:=s'
 obtain rfl:y=s.os:=os
 exact⟨v,H',I.call (h':=B) (g':=g) (d':=d) (t':=t) (ch:=[]) un hok bare (λ b z=>absurd z (by simp)),r,q⟩
end
def aS3 (sp:Sp)(dvs:List V)(E:XK)(t:TA):TE:=λ σ H Q=>t σ H λ vs H1=>sp (vs++dvs) H1 Q E
def Binds (K:ac)(fd:bE)(ps:List Str)(ds:List Value):Prop :=
 ∀(s:af) (us:List Value),K.In s.heap->(us++ds).length=ps.length->jF s fd ⟨us,[]⟩ (ps.zip (us++ds))
theorem Binds.all {K:ac}{y:bE}{ps:List Str}(h:∀ us:List Value,us.length=ps.length->d6 y ⟨us,[]⟩=pure (ps.zip us)):Binds K y ps []:=λ s us _ hl=>by
 rw[br]at hl ⊢
 exact .of_eq (h us hl)
def aL7 (CX:CXT)(X:Cx)(E:XK):Prop:=∀(pins:List (Addr×Obj)) (σ:St) (H:Hp) (s:af) (e:Value) (s':af),Inv X pins σ H s->CX X.stack H s E e s'->X.xe e s'
section
variable {X:Cx} {CX:CXT} {k:Nat} {f C:Addr} {fd:bE} {ps:List Str} {sp:Sp} {dvs:List V} {ds:List Value} {E:XK} {x m:Str} {p pos apos:Pos} {e o:Expr} {es:List Expr} {ta:TE} {t:TA}
theorem bw0 {y:List (Addr×Obj)}{σ:St}{H:Hp}{s:af}{Q:VK}{us:List Value}{vs:List V}(F:FnOk X.prog X.w X.K X.mg X.base CX k f fd ps sp)(C:Room k X.A)(hb:Binds X.K fd ps ds)(hd:Vals dvs ds)(hx:aL7 CX X E)
  (I:Inv X y σ H s) (r:Vals vs us) (h:sp (vs++dvs) H Q E):wpAny (model X.prog X.w) X.A (call (.ref f) us) (EP X y σ Q) X.xe s:=by
 have B:Vals (vs++dvs) (us++ds):=r.append hd
 have hl:(us++ds).length=ps.length:=by rw[<-B.length];exact F.len _ _ _ _ h
 refine jK (eJ (F.run X.A X.stack s H ⟨us,[]⟩ (us++ds) (vs++dvs) Q E C I.env0 (hb s us I.kIn hl) B h) λ r s' hq=>?_)
 cases r with
 | error e=>exact hx y σ H s e s' I hq
 | ok fl =>
  cases fl with
  | ret u=>exact I.after hq
  | next=>exact bB hq
  | brk=>exact bB hq
  | cont=>exact bB hq
theorem bB0 (F:FnOk X.prog X.w X.K X.mg X.base CX k f fd ps sp)(Y:Room k X.A)(hg:Gl X x)(Z:X.mg x=some (.ref f))(hk:cb X.K (.ref f)=true)(hb:Binds X.K fd ps ds)(hd:Vals dvs ds)(hx:aL7 CX X E)
  (ha:PA X (e::es) t) (B:(x==("__debug__":Str))=false:=by decide) (J:bf (e::es) X.env=(false,eval e X.env)::bf es X.env:=by rfl) (C:(dD pos (bf es X.env)).any (·.1)=false:=by rfl) :
  PE X (.Call (.Name x p) (e::es) [] pos) (aS3 sp dvs E t):=by
 intro y s σ H Q I h
 refine b8 (az0 I hg Z ?_ B)
 refine iu (h₀:=X.base) I.ok.mod.kin hk (thn (ha pos y s σ H _ I h) λ us s1 ⟨vs,H1,G,r,q⟩=>⟨G.kIn,?_⟩) J C
 exact bw0 F Y hb hd hx G r q
theorem bq6 (F:FnOk X.prog X.w X.K X.mg X.base CX k f fd ps sp)(J:Room k X.A)(G:Gl X x)(C:X.mg x=some (.ref f))(hk:cb X.K (.ref f)=true)(hb:Binds X.K fd ps ds)(hd:Vals dvs ds)(hx:aL7 CX X E)
  (y:(x==("__debug__":Str))=false:=by decide):PE X (.Call (.Name x p) [] [] pos) (aS3 sp dvs E bj0):=by
 intro B s σ H Q I h
 refine b8 (az0 I G C ?_ y)
 exact PySem.W.callWith_K0 I.kIn hk (bw0 (us:=[]) F J hb hd hx I .nil h)
structure Mk (K:ac)(C f:Addr):Prop where
 makes:PySem.W.makesIn K C=true
 init:gP K (.ref C) "__init__"=some (some (.ref f))
 fn:PySem.W.isFn K (.ref f)=true
 kp:cb K (.ref C)=true
end
section
variable {X:Cx} {CX:CXT} {k:Nat} {f C:Addr} {fd:bE} {ps ks:List Str} {sp:Sp} {E:XK} {x m:Str} {p pos apos kpos:Pos} {e o:Expr} {es:List Expr} {kws:List jG} {te ta:TE} {t tk:TA} {nm:Option Str}
variable {g:List Value->List Value->List Value} {gV:List V->List V->List V}
end
structure FnScope (N P:List Str)(sc:Scope):Prop where
 kind:sc.kind=.function
 co:sc.isCoroutine=false
 gen:sc.isGenerator=false
 nd:N.Nodup
 pre:N.take P.length=P
 par:∀ x∈P,sc.names.lookup x=some .local\/sc.names.lookup x=some .cell
 nofree:∀ y∈sc.names,y.2≠.free
theorem az7 {dQ:Str->Option bJ}{x:Str}:∀ {binds:List (Str×Value)} {m:Str->Option Value},(∀ v,(x,v) ∉ binds)->bindL dQ binds m x=m x
 | [],_,_=>rfl
 | (n,v)::r,m,h=>by
  unfold bindL
  rw[az7 λ w hw=>h w (aw _ hw)]
  split
  ·have:x≠n:=by rintro rfl;exact h v aC
   simp[this]
  ·rfl
theorem aA9 {dQ:Str->Option bJ}{x:Str}:∀ {binds:List (Str×Value)} {m:Str->Option Value},(∀ v,(x,v) ∉ binds)->bindC dQ binds m x=m x
 | [],_,_=>rfl
 | (n,v)::r,m,h=>by
  unfold bindC
  rw[aA9 λ w hw=>h w (aw _ hw)]
  split
  ·rfl
  ·have:x≠n:=by rintro rfl;exact h v aC
   simp[this]
theorem ao9 {dQ:Str->Option bJ}{x:Str}{v:Value}:∀ {P:List Str} {vs:List Value} {i:Nat} {m:Str->Option Value},P.Nodup->P[i]?=some x->vs[i]?=some v->dQ x=some .local ->
  bindL dQ (P.zip vs) m x=some v
 | [],_,_,_,_,h,_,_=>by simp at h
 | _::_,[],_,_,_,_,h,_=>by simp at h
 | p::P,w::vs,0,m,nd,h1,h2,hk=>by
  simp at h1 h2;subst h1;subst h2
  show bindL dQ ((p,w)::P.zip vs) m p=_
  unfold bindL
  rw[az7 λ v hv=>(cr.mp nd).1 (dk hv).1,if_pos hk]
  simp
 | p::P,w::vs,i+1,m,nd,h1,h2,hk=>by
  show bindL dQ ((p,w)::P.zip vs) m x=_
  unfold bindL
  exact ao9 (i:=i) (cr.mp nd).2 (by simpa using h1) (by simpa using h2) hk
theorem ap8 {dQ:Str->Option bJ}{x:Str}{v:Value}:∀ {P:List Str} {vs:List Value} {i:Nat} {m:Str->Option Value},P.Nodup->P[i]?=some x->vs[i]?=some v->dQ x≠some .local ->
  bindC dQ (P.zip vs) m x=some v
 | [],_,_,_,_,h,_,_=>by simp at h
 | _::_,[],_,_,_,_,h,_=>by simp at h
 | p::P,w::vs,0,m,nd,h1,h2,hk=>by
  simp at h1 h2;subst h1;subst h2
  show bindC dQ ((p,w)::P.zip vs) m p=_
  unfold bindC
  rw[aA9 λ v hv=>(cr.mp nd).1 (dk hv).1,if_neg hk]
  simp
 | p::P,w::vs,i+1,m,nd,h1,h2,hk=>by
  show bindC dQ ((p,w)::P.zip vs) m x=_
  unfold bindC
  exact ap8 (i:=i) (cr.mp nd).2 (by simpa using h1) (by simpa using h2) hk
noncomputable def aj9 (N:List Str)(vs:List V):St:=vs.map some++am (N.length - vs.length) none
noncomputable def bn9 (CX:CXT)(P:aL)(w:World)(K:ac)(mg:Str->Option Value)(base:Heap)(N:List Str)(qual:Str)(scope:Scope)(f:Addr)(cd:Value)(A:aV)(outer:List Env)(s:af)(H:Hp)(E:XK):Cx where
 prog:=P
 w:=w
 K:=K
 mg:=mg
 base:=base
 A:=A.deeper (fC qual scope s.heap.objs.size f cd)
 N:=N
 s₀:=s
 H₀:=H
 env:=fC qual scope s.heap.objs.size f cd
 outer:=outer
 stack:=fC qual scope s.heap.objs.size f cd::outer
 ex:=[]
 calm:=true
 fn:=λ _=>true
 pn:=[]
 xe:=λ e s'=>wpAny (model P w) (A.deeper (fC qual scope s.heap.objs.size f cd)) (leaving (fC qual scope s.heap.objs.size f cd) e) (λ _ s''=>CX outer H s E e s'') (λ e' s''=>CX outer H s E e' s'') s'
theorem ql {sc:Scope}{n:Nat}{x:Str}(h:sc.names.lookup x=some .cell):∃ c,(aM n sc.names []).lookup x=some c:=by
 have q:=fY sc.names n [] (.inl h)
 exact fD.mp q
theorem aV7 {CX:CXT}{P:aL}{w:World}{K:ac}{mg:Str->Option Value}{C:Heap}{N ps:List Str}{qual:Str}{scope:Scope}{f:Addr}{cd:Value}{A:aV}{outer:List Env}{s s1:af}{H:Hp}{E:XK}{us:List Value}{vs:List V}
  (S:FnScope N ps scope) (hd:A.handled=none) (G:Env0 P w K mg C A outer s H) (hl:vs.length=ps.length) (r:Vals vs us)
  (x:fi s s.heap.objs.size (bindL (fC qual scope s.heap.objs.size f cd).kindOf (ps.zip us) λ _=>none) (aM (s.heap.objs.size+1) scope.names []) (bindC (fC qual scope s.heap.objs.size f cd).kindOf (ps.zip us) λ _=>none) s1) :
  Inv (bn9 CX P w K mg C N qual scope f cd A outer s H E) [] (aj9 N vs) H s1:=by
 have a0:ps.length<=N.length:=by have:=congrArg gQ S.pre;rw[dR]at this;omega
 obtain⟨h1,tk,rfl,hk⟩:=x.done
 have J:∀ b:Addr,b ∉ (bn9 CX P w K mg C N qual scope f cd A outer s H E).ex:=λ b z=>absurd (show b∈([]:List Addr)from z) (by simp)
 refine⟨⟨G.mod,S.kind,rfl,rfl,aj _,λ y z c h1 B=>?_,λ y hy=>?_,λ y c _ h=>?_,λ _=>hd,gR G.frames,.inr ⟨rfl,rfl⟩,λ b z=>absurd z (J b),G.bs,G.bsz,λ b _ _=>J b,λ b z=>absurd z (J b),G.funs,G.frf⟩,
  rfl,G.bare,Un.kept hk,⟨_,x.toInCall.ns,λ i y v h1 B h3=>?_⟩,λ y c h=>⟨_,x.cell y c h⟩,G.hok.fresh (aj _),λ y c h=>?_,λ p Z=>absurd (show p∈([]:List (Addr×Obj))from Z) (by simp),G.hok.kept hk,?_⟩
 ·exact fZ x.apart (az h1) (az B)
 ·have hy:scope.names.lookup y=some .cell\/scope.names.lookup y=some .free:=hy
  rcases hy with hy|hy
  ·exact ql hy
  ·exact absurd rfl (S.nofree _ (az hy))
 ·exact c9 (x.above y c (az h))
 ·have hi:i<vs.length:=by
   unfold aj9 at B
   by_cases hi:i<vs.length
   ·exact hi
   ·rw[ax (by simpa using hi)]at B
    rw[fN]at B
    split at B<;>cases B
  have ha:vs[i]?=some v:=by
   unfold aj9 at B
   rw[aI (by simpa using hi),aF]at B
   cases e:vs[i]? with
   | none=>rw[e]at B;cases B
   | some a=>rw[e]at B;cases B;rfl
  obtain⟨u,hu,rv⟩:=r.get ha
  have Z:ps[i]?=some y:=by
   rw[<-S.pre,List.getElem?_take_of_lt (by omega)];exact h1
  have Y:ps.Nodup:=by rw[<-S.pre];exact S.nd.sublist (List.take_sublist _ _)
  refine⟨u,rv,?_⟩
  rcases S.par y (aW Z)with k|k
  ·exact .inl ⟨k,ao9 Y Z hu k⟩
  ·obtain⟨c,e⟩:=ql (n:=s.heap.objs.size+1) k
   refine .inr ⟨.inl k,c,e,?_⟩
   have q:=x.cell y c e
   rw[ap8 Y Z hu (by show scope.names.lookup y≠_;rw[k];decide)]at q
   exact q
 ·exact G.hok.fresh (c9 (x.above y c (az h)))
 ·unfold aj9
  show _=N.length
  rw[bn,aG,List.length_replicate]
  omega
theorem bO9 {CX:CXT}{P:aL}{w:World}{K:ac}{mg:Str->Option Value}{base:Heap}{k:Nat}{f:Addr}{name qual:Str}{params:be}{body:List Stmt}{scope:Scope}{dV kV G pm h ct oc:Value}{an od:Option Addr}
  {a0:Array (Option Value)} {N ps:List Str} {sp:Sp} (lk:K.lookup f=some ⟨oc,od,.func (cN name qual params body scope dV kV G pm an h ct),a0⟩) (a2:eU K h qual=true) (S:FnScope N ps scope)
  (len:∀ vs H Q E,sp vs H Q E->vs.length=ps.length)
  (B:∀(A:aV) (outer:List Env) (s:af) (H:Hp) (vs:List V) (Q:VK) (E:XK),Room k (A.deeper (fC qual scope s.heap.objs.size f h))->sp vs H Q E ->
   ∃ t,PSs (bn9 CX P w K mg base N qual scope f h A outer s H E) body t/\t { nx:=λ _ H'=>Q .non H',rt:=Q } (aj9 N vs) H) :
  FnOk P w K mg base CX (k+1) f (cN name qual params body scope dV kV G pm an h ct) ps sp:=by
 refine⟨len,λ A outer s H args us vs Q E hr Y hb r Z=>?_⟩
 have hl:=len _ _ _ _ Z
 have KX:K.In s.heap:=Y.mod.kin.keeps λ b o e=>(Y.bs b o e).1
 have a1:s.heap.NoLimit:=Y.mod.nolimit.keeps λ b o e=>(Y.bs b o e).1
 have C:∀ y∈ps.zip us,scope.names.lookup y.1=some .local\/(scope.names.lookup y.1=some .cell/\((aM (s.heap.objs.size+1) scope.names []).lookup y.1).isSome=true):=λ⟨n,v⟩ hy=>by
  rcases S.par n (dk hy).1 with q|q
  ·exact .inl q
  ·exact .inr ⟨q,fY _ _ _ (.inl q)⟩
 refine gH hr.depth (KX _ _ lk) rfl S.co S.gen rfl (PySem.W.codeRec_of KX a2) (hb _ _ _ _ ?_)
 refine wpAny_newFunctionEnv_cells S.kind C λ env he s1 x=>?_
 subst he
 refine⟨a1.keeps x.toInCall.keep,codeAny_func ?_⟩
 obtain⟨t,ht,hq⟩:=B A outer s H vs Q E (hr.deeper _) Z
 have I:Inv (bn9 CX P w K mg base N qual scope f h A outer s H E) [] (aj9 N vs) H s1:=aV7 S hr.hd Y hl r x
 refine cq (ht [] s1 (aj9 N vs) H _ I hq) (λ fl s' hs=>?_) λ e s' hs=>hs
 have fin:∀ {σ':St} {H':Hp} {v:V} {u:Value},Inv (bn9 CX P w K mg base N qual scope f h A outer s H E) [] σ' H' s'->RelV v u->Q v H'->CE outer P w H s Q u s' :=
  λ {σ' H' v u} J rv q=>⟨v,H',J.os,J.bare,J.base,J.hok,rv,q⟩
 cases fl with
 | ret u =>
  obtain⟨v,σ',H',J,rv,q⟩:=hs
  exact fin J rv q
 | next =>
  obtain⟨σ',H',J,q⟩:=hs
  exact fin (v:=V.non) (u:=Value.none) J rfl q
 | brk =>
  obtain⟨_,_,_,q⟩:=hs
  exact bB q
 | cont =>
  obtain⟨_,_,_,q⟩:=hs
  exact bB q
section
variable {X:Cx} {x:Str} {p pos:Pos} {e:Expr} {es:List Expr} {t:TA} {id T:String} {r:List V->Hp->VK->Prop}
def tCB (r:List V->Hp->VK->Prop)(t:TA):TE:=λ σ H Q=>t σ H λ vs H1=>r vs H1 Q
theorem av6 (hc:ae5 X (.builtin id) r)(hg:Gl X x)(Y:X.mg x=none)(hv:bh x=some (.builtin id))(ha:PA X (e::es) t)(hn:x ≠ "__name__":=by decide)(B:(x==("__debug__":Str))=false:=by decide)
  (J:bf (e::es) X.env=(false,eval e X.env)::bf es X.env:=by rfl) (C:(dD pos (bf es X.env)).any (·.1)=false:=by rfl):PE X (.Call (.Name x p) (e::es) [] pos) (tCB r t):=by
 intro y s σ H Q I h
 refine b8 (as9 I hg Y hv ?_ hn B)
 exact PyProof.Rows.callWith_builtin1 (thn (ha pos y s σ H _ I h) λ us s1 ⟨vs,Z,G,r1,q1⟩=>hc y s1 σ Z vs us Q G r1 q1) J C
theorem ao0 (hc:ae5 X (.type T) r)(hg:Gl X x)(Y:X.mg x=none)(hv:bh x=some (.type T))(ha:PA X (e::es) t)(hn:x ≠ "__name__":=by decide)(B:(x==("__debug__":Str))=false:=by decide)
  (J:bf (e::es) X.env=(false,eval e X.env)::bf es X.env:=by rfl) (C:(dD pos (bf es X.env)).any (·.1)=false:=by rfl):PE X (.Call (.Name x p) (e::es) [] pos) (tCB r t):=by
 intro y s σ H Q I h
 refine b8 (as9 I hg Y hv ?_ hn B)
 exact cX (thn (ha pos y s σ H _ I h) λ us s1 ⟨vs,Z,G,r1,q1⟩=>hc y s1 σ Z vs us Q G r1 q1) J C
end
end L2
end
noncomputable section
namespace HT
open PySem PyProof.Rows
section
open PySem.SeqAt
open PySem.AutoSeq1 (wpAny_loadPart')
open PySem.MeetsSeq PySem.MeetsSeq2 PySem.MeetsSeq3
end
section
variable {prog:aL} {w:World} {A:aV} {E:Value->af->Prop} {s:af}
theorem cat_tup {t b:Addr}{vs ws:List Value}{Q:Value->af->Prop}(ht:IsTup s.heap t vs.toArray)(hb:IsTup s.heap b ws.toArray)(hv:vs≠[])
  (Z:ws=[]->Q (.ref t) s) (h2:ws≠[]->Q (.ref s.heap.objs.size) { s with heap:=s.heap.push { cls:=.type "tuple",data:=.seq (vs++ws).toArray } })
  (hsz:vs.length+ws.length<=aN):wpAny (model prog w) A (bZ .Add (.ref t) (.ref b)) Q E s:=by
 obtain⟨⟨cls,dd,data,sl⟩,ho,hc,n,hd⟩:=id ht
 obtain⟨⟨Y,G,J,B⟩,h,y,n2,C⟩:=id hb
 simp only at hc hd y C
 subst hc hd y C
 have e:vs.toArray++ws.toArray=(vs++ws).toArray:=by simp
 by_cases hw:ws=[]
 ·exact iK ⟨_,ho,rfl⟩ ⟨_,h,rfl⟩ fO ii dE dz (di _ _)
   (tuple_addW1 t b vs.toArray ws.toArray n n2 dd G sl B (by simpa using hv) (by simp[hw])) ⟨ho,h,Z hw⟩
 ·refine iK ⟨_,ho,rfl⟩ ⟨_,h,rfl⟩ fO ii dE dz (di _ _)
   (tuple_addW2 t b vs.toArray ws.toArray n n2 dd G sl B (by simpa using hv) (by simpa using hw) (by rw[aB,aB];exact hsz)) ⟨ho,h,?_⟩
  rw[e]
  exact h2 hw
end
end HT
noncomputable section
namespace L2
open PySem PySem.Spec PyProof.Rows
abbrev TO:=St->Hp->(Option Int->Hp->Prop)->Prop
section
variable {X:Cx} {e:Expr} {te:TE} {lo hi:Option Expr} {tl th:TO} {pos p2:Pos}
def cj3 (K:ac):R2:=λ x y H Q=>∃ a b xs ys,x=.ref a/\y=.ref b/\SqT K H a xs/\SqT K H b ys/\xs≠[]/\xs.length+ys.length<=aN /\
 (ys=[]->Q (.ref a) H)/\(ys≠[]->∀ p,H p=none->Q (.ref p) (upd H p (.tup (xs++ys))))
theorem Vals.nil_iff {h:List V}{us:List Value}(r:Vals h us):us=[]↔h=[]:=by
 cases r with
 | nil=>simp
 | cons _ _=>simp
theorem bK3:OpR X (bZ .Add) (cj3 X.K):=by
 intro C s σ H x y v u Q I rx Z h
 obtain⟨a,b,xs,ys,rfl,rfl,ha,hb,hx,hz,q1,q2⟩:=h
 cases rx
 cases Z
 obtain⟨its,r1,J,_⟩:=I.tuple ha
 obtain⟨G,B,Y,_⟩:=I.tuple hb
 refine HT.cat_tup J Y (λ z=>hx (r1.nil_iff.mp z)) (λ z=>⟨.ref a,H,I,rfl,q1 (B.nil_iff.mp z)⟩) (λ z=>?_) (by rw[<-r1.length,<-B.length];exact hz)
 refine⟨.ref s.heap.objs.size,_,I.laid (t':=s.toks) (o:=.tup (xs++ys)) (λ b ob q=>ab _ q) (aj _) ?_,rfl,q2 (λ w=>z (B.nil_iff.mpr w)) _ (I.hok.fresh (aj _))⟩
 exact⟨by rw[bn];exact hz,_,r1.append B,j9 _ _⟩
end
noncomputable def ixN (n:Nat)(i:Int):Option Nat:=if 0<=i then(if i<n then some i.toNat else none)else if -(n:Int)<=i then some (i+n).toNat else none
noncomputable def atI {α:Type}(xs:List α)(i:Int):Option α:=(ixN xs.length i).bind λ j=>xs[j]?
theorem aY4 {n:Nat}{i:Int}{j:Nat}(h:ixN n i=some j):seqIndex? i n=some j/\j<n/\-(n:Int)<=i/\i<n:=by
 unfold ixN at h
 by_cases h0:0<=i
 ·rw[if_pos h0]at h
  by_cases h1:i<n
  ·rw[if_pos h1]at h
   have e:i.toNat=j:=ar h
   exact⟨by rw[i4 h0 h1,e],by omega,by omega,h1⟩
  ·rw[if_neg h1]at h;cases h
 ·rw[if_neg h0]at h
  by_cases h1:-(n:Int)<=i
  ·rw[if_pos h1]at h
   have e:(i+n).toNat=j:=ar h
   exact⟨by rw[iL (by omega) h1,e],by omega,h1,by omega⟩
  ·rw[if_neg h1]at h;cases h
theorem aK6 {α:Type}{y:List α}{i:Int}{v:α}(h:atI y i=some v):∃ j,seqIndex? i y.length=some j/\y[j]?=some v/\j<y.length/\-(y.length:Int)<=i/\i<y.length:=by
 unfold atI at h
 cases e:ixN y.length i with
 | none=>rw[e]at h;cases h
 | some j =>
  rw[e]at h
  obtain⟨C,G,h3,B⟩:=aY4 e
  exact⟨j,C,h,G,h3,B⟩
def aZ5 (b:Expr):Prop:=∀ o i,subscripted b false o i=operate [o,i] (getItem o i)
def IxR (X:Cx)(r:R2):Prop :=
 ∀(value slice:Expr) (pins:List (Addr×Obj)) (s:af) (σ:St) (H:Hp) (x y:V) (v u:Value) (Q:VK),Inv X pins σ H s->RelV x v->RelV y u->r x y H Q ->
  subscripted slice false v u=operate [v,u] (getItem v u)->wpAny (model X.prog X.w) X.A (subscriptTail value slice v u) (EP X pins σ Q) X.xe s
def MtR (X:Cx)(id:String)(r:V->List V->Hp->VK->Prop):Prop :=
 ∀(pins:List (Addr×Obj)) (s:af) (σ:St) (H:Hp) (x:V) (xs:List V) (v:Value) (us:List Value) (Q:VK),Inv X pins σ H s->RelV x v->Vals xs us->r x xs H Q ->
  wpAny (model X.prog X.w) X.A (call (.builtin id) (v::us)) (EP X pins σ Q) X.xe s
section
variable {X:Cx} {a b:Expr} {ta tb:TE} {pos:Pos}
theorem ci6 {r:R2}(G:IxR X r)(ha:PE X a ta)(hb:PE X b tb)(hs:aZ5 b):PE X (.Subscript a b pos) (tOp r ta tb):=by
 intro B s σ H Q I h
 exact Subscript_ (cd9 ha hb I h λ v u s2 x y H2 I2 C J q=>G a b B s2 σ H2 x y v u Q I2 C J q (hs _ _))
def cm0 (K:ac):R2:=λ x y H Q=>∃ p xs i v,x=.ref p/\y=.int i/\SqL K H p xs/\atI xs i=some v/\Q v H
def cl1 (K:ac):R2:=λ x y H Q=>∃ p xs i v,x=.ref p/\y=.int i/\SqT K H p xs/\atI xs i=some v/\Q v H
def cp5:R2:=λ x y H Q=>∃ z i c,x=.str z/\y=.int i/\z.length<=aN/\atI z.cps.toList i=some c/\Q (.str ⟨#[c]⟩) H
theorem bx4:IxR X (cm0 X.K):=by
 intro J G B s σ H x y v u Q I rx ry h hs
 obtain⟨p,xs,i,z,rfl,rfl,hq,he,q⟩:=h
 cases rx
 obtain⟨t,rfl⟩:=ry
 obtain⟨its,r,Y,hz⟩:=I.list hq
 obtain⟨j,C,h2,h3,h4,h5⟩:=aK6 he
 obtain⟨w,ew,Z⟩:=r.get h2
 have hl:=r.length
 have hn:=aq0
 have fin:EP X B σ Q w s:=⟨z,H,I,Z,q⟩
 by_cases h0:0<=i
 ·have hj:i.toNat=j:=by
   rw[i4 h0 h5]at C
   exact ar C
  exact item_listR Y.isList h0 (by omega) (by rw[hj];simpa using ew) fin hs
 ·have hj:(i+(its.toArray.size:Int)).toNat=j:=by
   rw[iL (by omega) h4]at C
   rw[aB,<-hl]
   exact ar C
  exact f7 (x:=w) Y.isList.typeIs slot_list_getitem.lookup
   (wpAny_getItem_list_neg (Q:=λ r s'=>r=w/\EP X B σ Q r s') Y.isList (by omega) (by rw[aB]<;>omega) (by omega) (by rw[hj];simpa using ew) ⟨rfl,fin⟩) hs
theorem ix_tup:IxR X (cl1 X.K):=by
 intro G C B s σ H x y v u Q I rx ry h hs
 obtain⟨p,xs,i,z,rfl,rfl,hq,he,q⟩:=h
 cases rx
 obtain⟨t,rfl⟩:=ry
 obtain⟨its,r,Y,hz⟩:=I.tuple hq
 obtain⟨j,Z,h2,h3,h4,h5⟩:=aK6 he
 obtain⟨w,ew,J⟩:=r.get h2
 have hl:=r.length
 have hn:=aq0
 have fin:EP X B σ Q w s:=⟨z,H,I,J,q⟩
 exact f7 (x:=w) Y.typeIs slot_tuple_getitem.lookup
  (getItem_tuple (j:=j) (Q:=λ r s'=>r=w/\EP X B σ Q r s') Y (by omega) (by omega) (by rw[aB,<-hl];exact Z) (by simpa using ew) ⟨rfl,fin⟩) hs
theorem ix_str:IxR X cp5:=by
 intro C B J s σ H x y v u Q I rx ry h hs
 obtain⟨z,i,c,rfl,rfl,hz,Z,q⟩:=h
 obtain⟨t,rfl⟩:=rx
 obtain⟨t',rfl⟩:=ry
 obtain⟨j,G,h2,h3,h4,Y⟩:=aK6 Z
 have hl:z.cps.toList.length=z.length:=by simp[Str.length]
 rw[hl]at G h4 Y
 have hn:=aq0
 exact tail_any (typeIs_str s z t) slot_str_getitem.lookup (getItem_str (c:=c) (by
  have e1:decide (i < -(2^63:Int))=false:=decide_eq_false (by omega)
  have e2:decide (i ≥ 2^63)=false:=decide_eq_false (by omega)
  rw[e1,e2,Bool.or_false]) (by rw[G];simpa using h2) ⟨.str ⟨#[c]⟩,H,I.tok _,⟨_,rfl⟩,q⟩) hs
theorem aS0 (its:List Value)(n j:Nat)(u:Value):f8 (·.setIfInBounds j u) { cls:=.type "list",data:=.seq its.toArray n }={ cls:=.type "list",data:=.seq (its.set j u).toArray n }:=by
 simp[f8]
theorem Inv.lst {y:List (Addr×Obj)}{σ:St}{H:Hp}{s:af}{p:Addr}{B:List V}(I:Inv X y σ H s)(h:H p=some (.lst B)) :
  ∃(its:List Value) (n:Nat),Vals B its/\s.heap.get? p=some { cls:=.type "list",data:=.seq its.toArray n }/\B.length<=aN:=by
 obtain⟨z,its,n,r,e⟩:=I.hok p _ h
 exact⟨its,n,r,e,z⟩
theorem Inv.lstUpd {y:List (Addr×Obj)}{σ:St}{H:Hp}{s:af}{p:Addr}{G ys:List V}{its its':List Value}{n B:Nat}{f:Obj->Obj}(I:Inv X y σ H s)(h:H p=some (.lst G))
  (ho:s.heap.get? p=some { cls:=.type "list",data:=.seq its.toArray n }) (C:f { cls:=.type "list",data:=.seq its.toArray n }={ cls:=.type "list",data:=.seq its'.toArray B }) (r:Vals ys its') (hz:ys.length<=aN) (t:Nat) :
  Inv X y σ (upd H p (.lst ys)) { s with heap:=s.heap.update p f,toks:=t }:=by
 have e:(s.heap.update p f).get? p=some { cls:=.type "list",data:=.seq its'.toArray B }:=by
  rw[cU f ho (by rw[C]<;>rfl),C]
 refine I.write (x:=p) (e:=p) (by rw[h];trivial) (.inl rfl) (λ b u hb q=>(bN _ _ (bS hb)).trans q) ⟨_,e⟩ ?_
 exact⟨hz,its',B,r,e⟩
def cg7:V->V->V->Hp->(Hp->Prop)->Prop:=λ o i v H Q=>∃ p xs k j,o=.ref p/\i=.int k/\H p=some (.lst xs)/\ixN xs.length k=some j/\Q (upd H p (.lst (xs.set j v)))
theorem bq3:ci7 X cg7:=by
 intro y s σ H o i v ov iv u Q I Z Y rv h
 obtain⟨p,xs,k,j,rfl,rfl,C,hj,q⟩:=h
 cases Z
 obtain⟨t,rfl⟩:=Y
 obtain⟨its,n,r,ho,hz⟩:=I.lst C
 obtain⟨B,h2,h3,J⟩:=aY4 hj
 have hl:=r.length
 have hn:=aq0
 have G:Inv X y σ (upd H p (.lst (xs.set j v))) { s with heap:=s.heap.update p (f8 (·.setIfInBounds j u)) } :=
  I.lstUpd C ho (aS0 its n j u) (r.set rv j) (by rw[bA];exact hz) s.toks
 by_cases h0:0<=k
 ·have hk:k.toNat=j:=by
   rw[i4 h0 J]at B
   exact ar B
  exact PySem.W.ki_setAt ho h0 (by omega) (by rw[aB,<-hl];exact J) (by rw[hk];exact⟨_,G,q⟩)
 ·have hk:(k+(its.toArray.size:Int)).toNat=j:=by
   rw[iL (by omega) h3]at B
   rw[aB,<-hl]
   exact ar B
  exact PySem.W.ki_setBack ho (by omega) (by rw[aB,<-hl];exact h3) (by omega) (by rw[hk];exact⟨_,G,q⟩)
theorem aA5:ae5 X (.builtin "len") (λ G H Q=>∃ p ys,G=[.ref p]/\(SqL X.K H p ys\/SqT X.K H p ys)/\Q (.int ys.length) H):=by
 intro C s σ H G us Q I r h
 obtain⟨p,ys,rfl,hq,q⟩:=h
 obtain⟨u,rfl,J⟩:=am1 r
 cases J
 have hn:=aq0
 rcases hq with hq|hq
 ·obtain⟨its,y,B,hz⟩:=I.list hq
  have hlen:=y.length
  exact Calls.call_len_list B.isList (by simp only[aB]<;>omega) ⟨.int ys.length,H,I.tok _,⟨s.toks+1,by rw[aB,hlen]⟩,q⟩
 ·obtain⟨its,y,B,hz⟩:=I.tuple hq
  have hlen:=y.length
  exact len_tuple B (by simp only[aB]<;>omega) ⟨.int ys.length,H,I.tok _,⟨s.toks+1,by rw[aB,hlen]⟩,q⟩
theorem aA8:ae5 X (.builtin "len") (λ y H Q=>∃ z,y=[.str z]/\z.length<=aN/\Q (.int z.length) H):=by
 intro B s σ H y us Q I r h
 obtain⟨z,rfl,hz,q⟩:=h
 obtain⟨u,rfl,t,rfl⟩:=am1 r
 have hn:=aq0
 exact len_str (by omega) ⟨.int z.length,H,I.tok _,⟨_,rfl⟩,q⟩
theorem ae5.or {f:Value}{r G:List V->Hp->VK->Prop}(h:ae5 X f r)(h':ae5 X f G):ae5 X f (λ B H Q=>r B H Q\/G B H Q):=by
 intro y s σ H B us Q I C q
 rcases q with q|q
 ·exact h y s σ H B us Q I C q
 ·exact h' y s σ H B us Q I C q
theorem aE1:ae5 X (.type "list") (λ Y H Q=>∃ p ys,Y=[.ref p]/\(SqL X.K H p ys\/SqT X.K H p ys)/\∀ l,H l=none->Q (.ref l) (upd H l (.lst ys))):=by
 intro C s σ H Y us Q I r h
 obtain⟨p,ys,rfl,hq,q⟩:=h
 obtain⟨u,rfl,Z⟩:=am1 r
 cases Z
 have fin:∀(its:List Value),Vals ys its->ys.length<=aN->∀(h':Heap) (y:Nat),(∀ b J,s.heap.get? b=some J->h'.get? b=some J) ->
   h'.get? s.heap.objs.size=some { cls:=.type "list",dict:=none,data:=.seq its.toArray y,slots:=#[] }->EP X C σ Q (.ref s.heap.objs.size) { s with heap:=h' }:=λ its B hz h' y kp e =>
  ⟨.ref s.heap.objs.size,_,I.laid (t':=s.toks) kp (aj _) (show ae4 X.prog X.w _ h' _ (.lst ys)from⟨hz,its,y,B,e⟩),rfl,q _ (I.hok.fresh (aj _))⟩
 rcases hq with hq|hq
 ·obtain⟨its,B,G,hz⟩:=I.list hq
  have hlen:=B.length
  obtain⟨o,ho,hc,n,hd⟩:=G.isList
  exact call_list_seq p (.inl rfl) ho hc hd (λ h' y kp e=>fin its B hz h' y kp e) (by simp only[aB]<;>omega)
 ·obtain⟨its,B,G,hz⟩:=I.tuple hq
  have hlen:=B.length
  obtain⟨o,ho,hc,n,hd⟩:=G
  exact call_list_seq p (.inr rfl) ho hc hd (λ h' y kp e=>fin its B hz h' y kp e) (by simp only[aB]<;>omega)
theorem aw3:ae5 X (.type "tuple") (λ J H Q=>∃ p ys,J=[.ref p]/\((SqL X.K H p ys/\∀ l,H l=none->Q (.ref l) (upd H l (.tup ys)))\/(SqT X.K H p ys/\Q (.ref p) H))):=by
 intro y s σ H J us Q I r h
 obtain⟨p,ys,rfl,h⟩:=h
 obtain⟨u,rfl,Y⟩:=am1 r
 cases Y
 rcases h with⟨hq,q⟩|⟨hq,q⟩
 ·obtain⟨its,B,C,hz⟩:=I.list hq
  have hlen:=B.length
  refine call_tuple_list C.isList (λ h' kp=>?_) (by simp only[aB]<;>omega)
  have G:Inv X y σ H { s with heap:=h' }:=I.kept (t':=s.toks) kp
  have I2:Inv X y σ (upd H h'.objs.size (.tup ys)) { s with heap:=h'.push { cls:=.type "tuple",data:=.seq its.toArray } } :=
   G.laid (t':=s.toks) (λ b o e=>ab _ e) (aj _) (show ae4 X.prog X.w _ _ _ (.tup ys)from⟨hz,its,B,j9 _ _⟩)
  exact⟨.ref h'.objs.size,_,I2,rfl,q _ (G.hok.fresh (aj _))⟩
 ·obtain⟨its,B,C,hz⟩:=I.tuple hq
  exact call_tuple_same C ⟨.ref p,H,I,rfl,q⟩
def tyV (K:ac)(T:String)(x:V)(H:Hp):Prop:=match x with
 | .str _=>T = "str"
 | .int _=>T = "int"
 | .ref p=>(T = "list"/\∃ xs,SqL K H p xs)\/(T = "tuple"/\∃ o,K.lookup p=some o/\o.cls=.type "tuple"/\o.dict=none) \/
   (T = "dict"/\((∃ kvs,H p=some (.dK kvs))\/∃ kvs,H p=some (.dT kvs)))\/(T = "set"/\∃ S n,H p=some (.set S n))
 | _=>False
theorem bt4 {h:List (Addr×Obj)}{σ:St}{H:Hp}{s:af}{T:String}{x:V}{v:Value}(I:Inv X h σ H s)(r:RelV x v)(y:tyV X.K T x H) :
  s.TypeIs v T/\∀ a,v=.ref a->∃ ob,s.heap.get? a=some ob/\ob.dict=none:=by
 cases x with
 | str z =>
  obtain⟨t,rfl⟩:=r
  cases(show T = "str" from y)
  exact⟨typeIs_str s z t,λ _ e=>nomatch e⟩
 | int i =>
  obtain⟨t,rfl⟩:=r
  cases(show T = "int" from y)
  exact⟨f9 s i t,λ _ e=>nomatch e⟩
 | ref p =>
  cases r
  rcases y with⟨rfl,G,hq⟩|⟨rfl,o,hk,hc,hd⟩|⟨rfl,hk⟩|⟨rfl,S,n,hk⟩
  ·obtain⟨its,_,C,_⟩:=I.list hq
   refine⟨C.isList.typeIs,λ a e=>?_⟩
   cases e
   obtain⟨o,n,e,c,hd,_⟩:=C
   exact⟨o,e,hd⟩
  ·refine⟨⟨o,I.kIn p o hk,hc⟩,λ a e=>?_⟩
   cases e
   exact⟨o,I.kIn _ o hk,hd⟩
  ·have z:∃ o,s.heap.get? p=some o/\o.ExactDict:=by
    rcases hk with⟨B,hk⟩|⟨B,hk⟩
    ·obtain⟨_,_,_,_,o,_,_,e,ex,_⟩:=I.hok p _ hk
     exact⟨o,e,ex⟩
    ·obtain⟨_,_,_,_,o,_,_,e,ex,_⟩:=I.hok p _ hk
     exact⟨o,e,ex⟩
   obtain⟨o,e,ex⟩:=z
   refine⟨⟨o,e,ex.1⟩,λ a e2=>?_⟩
   cases e2
   exact⟨o,e,ex.2.1⟩
  ·obtain⟨o,_,_,_,e,ex,_⟩:=I.hok p _ hk
   refine⟨⟨o,e,ex.1⟩,λ a e2=>?_⟩
   cases e2
   exact⟨o,e,ex.2.1⟩
 | _=>exact bB y
def co1 (K:ac)(T:String)(r:V->List V->Hp->VK->Prop)(to:TE):TE:=λ σ H Q=>to σ H λ x H1=>tyV K T x H1/\r x [] H1 Q
def tBM (K:ac)(T:String)(r:V->List V->Hp->VK->Prop)(to:TE)(t:TA):TE:=λ σ H Q=>to σ H λ x H1=>tyV K T x H1/\t σ H1 λ xs H2=>r x xs H2 Q
variable {o e:Expr} {es:List Expr} {to:TE} {t:TA} {name:Str} {apos cpos:Pos} {T id:String} {r:V->List V->Hp->VK->Prop}
theorem bZ8 (pa:jL T)(slot:Slot T name id)(G:typeOf (.builtin id)=pure (.type "method_descriptor"))(hm:MtR X id r)(ho:PE X o to)
  (C:fF o name X.env (eval o X.env)=eval o X.env:=by rfl) (B:(apos.endLine==cpos.line)=true:=by rfl):PE X (.Call (.Attribute o name apos) [] [] cpos) (co1 X.K T r to):=by
 intro y s σ H Q I h
 refine wpAny_Call_method0_late C B (thn (ho y s σ H _ I h) λ v s1 ⟨x,H1,J,r1,Y,q1⟩=>?_)
 obtain⟨Z,h2⟩:=bt4 J r1 Y
 exact⟨T,id,pa,slot,G,Z,h2,ga rfl (PySem.evalArgs_none (hm y s1 σ H1 x [] v [] Q J r1 .nil q1))⟩
theorem cf4 (pa:jL T)(slot:Slot T name id)(Y:typeOf (.builtin id)=pure (.type "method_descriptor"))(hm:MtR X id r)(ho:PE X o to)(ha:PA X (e::es) t)
  (C:fF o name X.env (eval o X.env)=eval o X.env:=by rfl)
  (J:((dD cpos (bf (e::es) X.env)).all (λ x=>!x.1)&&(backToKw cpos (keywordEach [] X.env)).all (λ x=>x.1.isSome)
   && decide ((e::es).length+([]:List jG).length+(if([]:List jG).isEmpty then 0 else 1)<30))=true:=by rfl)
  (G:(apos.endLine==cpos.line)=true:=by rfl) (hs:bf (e::es) X.env=(false,eval e X.env)::bf es X.env:=by rfl) (B:(dD cpos (bf es X.env)).any (·.1)=false:=by rfl) :
  PE X (.Call (.Attribute o name apos) (e::es) [] cpos) (tBM X.K T r to t):=by
 intro y s σ H Q I h
 refine wpAny_Call_method_late C J G rfl (thn (ho y s σ H _ I h) λ v s1 ⟨x,H1,Z,r1,ty,q1⟩=>?_)
 obtain⟨h1,h2⟩:=bt4 Z r1 ty
 refine⟨T,id,pa,slot,Y,h1,h2,?_⟩
 have hA:=ha cpos y s1 σ H1 _ Z q1
 rw[hs]at hA ⊢
 refine ga (by show(false||(dD cpos (bf es X.env)).any (·.1))=false;rw[B]<;>rfl) (Calls.evalArgs_plain ?_)
 exact thn hA λ us s2 ⟨vs,H2,I2,r2,q2⟩=>hm y s2 σ H2 x vs v us Q I2 r1 r2 q2
end
def MtM (X:Cx)(id:String)(r:V->List V->Hp->VK->Prop):Prop :=
 ∀(pins:List (Addr×Obj)) (s:af) (σ:St) (H:Hp) (x:V) (xs:List V) (v:Value) (us:List Value) (Q:VK),Inv X pins σ H s->RelV x v->Vals xs us->r x xs H Q ->
  wpAny (model X.prog X.w) X.A (call (.builtin id) (v::us)) (EP X pins σ Q) X.xe s
theorem Vals.one:∀ {x:V} {us:List Value},Vals [x] us->∃ u,us=[u]/\RelV x u
 | _,_,.cons r .nil=>⟨_,rfl,r⟩
theorem Vals.zero:∀ {us:List Value},Vals [] us->us=[]
 | _,.nil=>rfl
theorem Vals.dropLast {y:List V}{us:List Value}(h:Vals y us):Vals y.dropLast us.dropLast:=by
 induction h with
 | nil=>exact .nil
 | cons r t ih =>
  cases t with
  | nil=>exact .nil
  | cons q t'=>exact .cons r ih
theorem Vals.reverse {y:List V}{us:List Value}(h:Vals y us):Vals y.reverse us.reverse:=by
 induction h with
 | nil=>exact .nil
 | cons r t ih=>rw[dF,dF];exact Vals.append ih (.cons r .nil)
theorem Vals.rep {y:List V}{us:List Value}(h:Vals y us):∀ k:Nat,Vals (am k y).flatten (am k us).flatten
 | 0=>.nil
 | k+1=>by
  rw[bG,bG,cZ,cZ]
  exact Vals.append h (Vals.rep h k)
theorem aA2 (its:List Value):∀(k:Nat) (h:List Value),
  jM (λ x1 y=>x1++y) h.toArray (am k its.toArray)=(h++(am k its).flatten).toArray
 | 0,h=>by simp
 | k+1,h=>by
  have e:h.toArray++its.toArray=(h++its).toArray:=by simp
  have e2:(h++its)++(am k its).flatten=h++(am (k+1) its).flatten:=by
   rw[bG,cZ,fj]
  rw[<-e2,<-aA2 its k (h++its),<-e,bG,cu]
section
variable {X:Cx} {pins:List (Addr×Obj)} {σ:St} {H:Hp} {s:af} {l b:Addr} {xs ys zs:List V}
theorem Inv.lset {its its':List Value}{n:Nat}{f:Array Value->Array Value}{t':Nat}(I:Inv X pins σ H s)(B:H l=some (.lst xs))
  (e:s.heap.get? l=some { cls:=.type "list",data:=.seq its.toArray n }) (y:f its.toArray=its'.toArray) (hv:Vals ys its') (hz:ys.length<=aN) :
  Inv X pins σ (upd H l (.lst ys)) { s with heap:=s.heap.update l (f8 f),toks:=t' }:=by
 have q:=PySem.IsL.update e f
 rw[y]at q
 refine I.write (x:=l) (e:=l) (by rw[B];exact trivial) (.inl rfl) (λ C u hb h=>(bN s.heap (f8 f) (bS hb)).trans h) ⟨_,q⟩ ?_
 exact⟨hz,its',_,hv,q⟩
theorem Inv.lnew {its:List Value}{t':Nat}(I:Inv X pins σ H s)(hv:Vals ys its)(hz:ys.length<=aN) :
  Inv X pins σ (upd H s.heap.objs.size (.lst ys)) { s with heap:=s.heap.push { cls:=.type "list",data:=.seq its.toArray },toks:=t' } :=
 I.laid (λ _ _ q=>ab _ q) (aj _) ⟨hz,its,0,hv,aD _ rfl⟩
theorem Inv.fresh (I:Inv X pins σ H s):H s.heap.objs.size=none:=I.hok.fresh (aj _)
theorem Inv.lstM (I:Inv X pins σ H s)(h:H l=some (.lst xs)):xs.length<=aN/\∃(its:List Value) (n:Nat),Vals xs its/\xs.length=its.length/\s.heap.get? l=some { cls:=.type "list",data:=.seq its.toArray n }:=by
 obtain⟨z,its,n,r,e⟩:=I.hok l _ h
 exact⟨z,its,n,r,r.length,e⟩
theorem bj4 {n:Nat}(h:n<=aN):dj n=false:=by
 unfold dj
 exact decide_eq_false (by omega)
end
section
variable {X:Cx}
def bI3:V->List V->Hp->VK->Prop:=λ x vs H Q=>∃ l xs y,x=.ref l/\vs=[y]/\H l=some (.lst xs)/\xs.length<aN/\Q .non (upd H l (.lst (xs++[y])))
theorem aB4:MtM X "list.append" bI3:=by
 intro B s σ H x vs v us Q I Y J h
 obtain⟨l,Z,y,rfl,rfl,C,hz,q⟩:=h
 cases Y
 obtain⟨u,rfl,G⟩:=J.one
 obtain⟨z,its,n,r,hl,e⟩:=I.lstM C
 refine iw gI ⟨_,e,rfl⟩ F.entry_list_append (F.args_list_append_2 _ _) (PySem.list_append l its.toArray n u (by rw[aB];omega)) ⟨e,?_⟩
 refine⟨.non,_,I.lset (its':=its++[u]) C e (by simp) (r.append (.cons G .nil)) ?_,rfl,q⟩
 rw[bn,cV]
 omega
def cp4:R2:=λ x y H Q=>∃ l b xs zs,x=.ref l/\y=.ref b/\H l=some (.lst xs)/\H b=some (.lst zs)/\xs.length+zs.length<=aN/\∀ p,H p=none->Q (.ref p) (upd H p (.lst (xs++zs)))
theorem bQ4:OpR X (bZ .Add) cp4:=by
 intro C s σ H x y v u Q I rx Y h
 obtain⟨l,b,xs,zs,rfl,rfl,J,hB,hz,q⟩:=h
 cases rx
 cases Y
 obtain⟨z,its,n,r,hl,e⟩:=I.lstM J
 obtain⟨z2,B,n2,G,hl2,e2⟩:=I.lstM hB
 refine PySem.P.add_list e e2 ?_ (by rw[aB,aB];omega)
 have Z:its.toArray++B.toArray=(its++B).toArray:=by simp
 rw[Z]
 exact⟨.ref _,_,I.lnew (t':=s.toks) (r.append G) (by rw[bn];omega),rfl,q _ I.fresh⟩
def cp0:R2:=λ x y H Q=>∃ l k xs,x=.ref l/\y=.int k/\H l=some (.lst xs)/\-(2^63)<=k/\k<2^63/\xs.length*k.toNat<=aN /\
 ∀ p,H p=none->Q (.ref p) (upd H p (.lst (am k.toNat xs).flatten))
theorem bA2 {α:Type}(h:List α)(k:Nat):(am k h).flatten.length=k*h.length:=by
 induction k with
 | zero=>simp
 | succ k ih=>rw[bG,cZ,bn,ih,gb,eK]
theorem bM6:OpR X (bZ .Mult) cp0:=by
 intro Z s σ H x y v u Q I rx ry h
 obtain⟨l,k,xs,rfl,rfl,hH,h1,h2,hz,q⟩:=h
 cases rx
 obtain⟨t,rfl⟩:=ry
 obtain⟨z,its,n,r,hl,e⟩:=I.lstM hH
 have hlen:its.toArray.size*k.toNat<=aN:=by rw[aB,<-hl];exact hz
 have C:¬ its.toArray.size*k.toNat > (2^63 - 1) / 8:=by
  have:(aN:Nat)<=(2^63 - 1) / 8:=by decide
  omega
 have G:¬(!Builtin.List.listFitsIndex k)=true:=by
  rw[fitsIndex_both h1 h2]
  exact aR
 have B:¬ dj (its.toArray.size*k.toNat)=true:=by
  rw[bj4 hlen]
  exact aR
 have J:jM (λ x1 Y=>x1++Y) #[] (am (if its.toArray.isEmpty=true then 0 else k.toNat) its.toArray)=(am k.toNat its).flatten.toArray:=by
  have f0:∀ m:Nat,jM (λ x1 Y=>x1++Y) #[] (am m its.toArray)=(am m its).flatten.toArray:=λ m=>by
   have:=aA2 its m []
   rw[gy]at this
   exact this
  rw[f0]
  cases its with
  | nil=>simp
  | cons a r'=>rw[if_neg (by simp)]
 refine eZ (T := "list") (U := "int") (by decide) ⟨_,e,rfl⟩ (λ s'=>f9 s' k t) noFill_list_mul iy du repeat_list hU.lookup
  (iw du (f9 s k t) hV (gS _ _) (int___rmul___int_list k t l its.toArray n)
   ⟨e,rfl,⟨_,e,rfl⟩,iw F.slot_list_mul ⟨_,e,rfl⟩ F.entry_list_mul (F.args_list_mul_2 _ _) (AutoListH.list___mul___list_int_3 l its.toArray n k t G C B) ⟨e,?_⟩⟩)
 rw[J]
 exact⟨.ref _,_,I.lnew (t':=s.toks) (r.rep k.toNat) (by rw[bA2,gf];exact hz),rfl,q _ I.fresh⟩
end
section
variable {prog:aL} {w:World} {A:aV} {E:Value->af->Prop} {s:af}
end
section
variable {X:Cx}
end
end L2
end
noncomputable section
namespace Att
open PySem PySem.W PySem.Calls PyProof.Rows
theorem ints_of_wellAll {P:Params}{h:Heap}:∀(ns:List Int) (vs:List Value),WellAll P h vs (ns.map WData.int)->jH vs ns:=by
 intro ns
 induction ns with
 | nil =>
  intro vs w
  rw[cG]at w
  cases w
  exact .nil
 | cons n ns ih =>
  intro vs w
  rw[aH]at w
  cases w with
  | cons a b =>
   cases a
   exact .cons _ _ (ih _ b)
theorem script_of {l:OpenLaw}{n:Nat}(hn:l.most=some n){P:Params}{h:Heap}{args:List WData}{B:List Value}
  (y:l.row.toRowW.claim.pre args=true) (J:WellAll P h B args) :
  ∃ a vs ns,B=[Value.ref a]/\args=[WData.list (ns.map WData.int)]/\h.get? a=some { cls:=.type "list",data:=.seq vs.toArray }/\jH vs ns/\ns.length<=n:=by
 have Y:WShape.hasAll [] args [.list .int]=true:=(pre_splitW y).1
 have hc:l.pre.holds [] { args:=args }=true:=(pre_splitW y).2
 obtain⟨d,r,rfl,Z,h2⟩:=hasAllW_cons Y
 obtain rfl:=hasAllW_nil h2
 obtain⟨xs,rfl,h3⟩:=hasW_list Z
 obtain⟨ns,rfl⟩:=items_int h3
 have hlen:ns.length<=n:=by
  unfold OpenLaw.pre at hc
  have G:(WTm.not (.lt (.lit (.int (n:Int))) (.len (.arg 0)))).holds [] { args:=[.list (ns.map .int)] }=true:=by
   have G:=(holds_andW hc).1
   rw[hn]at G
   exact G
  have C:=condW_of G (w_not (w_lt w_lit (w_len_list (w_arg rfl))))
  rw[aG]at C
  refine fQ λ q=>?_
  have q':(n:Int)<((ns.length:Nat):Int):=by omega
  first
   | (rw[decide_eq_true q']at C;exact absurd C (by decide))
   | (simp at C;omega)
 cases J with
 | cons w1 w2 =>
  cases w2
  cases w1 with
  | list ho hall=>exact⟨_,_,ns,rfl,rfl,ho,ints_of_wellAll ns _ hall,hlen⟩
theorem post_true (l:OpenLaw)(args:List WData):l.row.toRowW.claim.post args (.bool true) args=true :=
 postW_of (r:=l.row.toRowW) (X:=(true==true))
  (show WShape.has [] (.bool true) .bool=true by first|rfl|decide|simp[WShape.has,WShape.arms,WShape.armsAll])
  (show(WTm.eq .res (.lit (.bool true))).value [] { args:=args,res:=some (.bool true),after:=args }=some (.bool (true==true))from w_eq_bool (w_res rfl) w_lit) rfl
theorem attach_call {l:OpenLaw}{n:Nat}{q:aL}{loose:List Str}{XP:(Str->Option Value)->Heap->Prop}{YP:World->Heap->Prop}{d:DefRec}
  (hn:l.most=some n) (Z:d.params.defaults=[])
  (call:∀(w:World) (s₀ h:af) (mg mb:Str->Option Value) (fa:Addr) (o:Obj) (pm cd B:Value) (a:Addr) (vs:List Value) (ns:List Int),
   Ground q loose [] XP w s₀ mg mb h.heap->YP w h.heap ->
   h.heap.get? fa=some o->o.data=.func (docDef d.name d.params d.body d.scope pm cd B)->h.heap.CodeRec cd d.name->mg d.name=some (.ref fa) ->
   h.heap.get? a=some { cls:=.type "list",data:=.seq vs.toArray }->jH vs ns->ns.length<=n->h.gens=#[] ->
   fh (model l.prog w) gZ (.call (.ref fa) ⟨[.ref a],[]⟩) (λ r s'=>r=.ok (.ret (.bool true))/\OldK h.heap s'.heap/\s'.os=h.os/\fe s'.gens) h) :
  WalkO q loose XP YP l.row.toRowW d [] (λ f vs=>jN f vs):=by
 intro w s₀ h mg mb G Y fa o pm cd B dV kV ho hd a0 hD a2 hg args a4 as J a3 a5 a1 a6
 obtain rfl:dV=.none:=Dflts.none hD Z
 obtain rfl:kV=.none:=Dflts.noKw hD
 obtain⟨a,vs,ns,rfl,rfl,C,y,hlen⟩:=script_of hn J a1
 refine enter_call (eJ (call w s₀ h mg mb fa o pm cd B a vs ns G Y ho (fd_plain hd) a0 a2 C y hlen hg) λ r s' hq=>?_)
 obtain⟨rfl,h2,h3,h4⟩:=hq
 exact⟨.inl ⟨.bool true,.bool true,[],rfl,λ _=>rfl,.bool true,post_true l _,λ _=>⟨List.Pairwise.nil,λ _ hm=>(nomatch hm)⟩⟩,h2,h3,h4⟩
section
variable {prog:aL} {w:World} {A:aV} {E:Value->af->Prop} {s:af} {K:Frag}
end
end Att
noncomputable section
namespace L2
open PySem PySem.Spec PyProof.Rows
theorem aC4:∀ {vs:List Value} {ns:List Int},jH vs ns->Vals (ns.map V.int) vs
 | _,_,.nil=>.nil
 | _,_,.cons n t h=>.cons ⟨t,rfl⟩ (aC4 h)
noncomputable def defArgs (s:Stmt):be:=match s with
 | .FunctionDef _ a _ _ _ _ _ _ _ _=>a
 | _=>{ posonlyargs:=[],args:=[],vararg:=none,kwonlyargs:=[],kw_defaults:=[],kwarg:=none,defaults:=[] }
noncomputable def qa (s:Stmt):List Stmt:=match s with
 | .FunctionDef _ _ b _ _ _ _ _ _ _=>b
 | _=>[]
noncomputable def defScope (s:Stmt):Scope:=match s with
 | .FunctionDef _ _ _ _ _ _ sc _ _ _=>sc
 | _=>{ kind:=.function,names:=[],isGenerator:=false,isCoroutine:=false }
noncomputable abbrev CX0:CXT:=λ _ _ _ _ _ _=>False
abbrev E0:XK:=λ _ _ _=>False
theorem bV1 {X:Cx}:aL7 CX0 X E0:=λ _ _ _ _ _ _ _ h=>h.elim
structure Fun (K:ac)(x qual:Str)(st:Stmt)(f:Addr)(fd:bE):Prop where
 ex:∃(oc:Value) (od:Option Addr) (kV doc pm:Value) (an:Option Addr) (cdv ct:Value) (osl:Array (Option Value)),
  fd=cN x qual (defArgs st) (qa st) (defScope st) .none kV doc pm an cdv ct/\K.lookup f=some ⟨oc,od,.func fd,osl⟩/\eU K cdv qual=true
 kp:cb K (.ref f)=true
section
variable {P:aL} {w:World} {K:ac} {mg:Str->Option Value} {base:Heap}
theorem Fun.ok {x qual:Str}{st:Stmt}{f:Addr}{J:bE}{N ps:List Str}{k:Nat}{sp:Sp}(F:Fun K x qual st f J)(S:FnScope N ps (defScope st))(len:∀ vs H Q E,sp vs H Q E->vs.length=ps.length)
  (B:∀(y:Value) (A:aV) (outer:List Env) (s:af) (H:Hp) (vs:List V) (Q:VK) (E:XK),Room k (A.deeper (fC qual (defScope st) s.heap.objs.size f y))->sp vs H Q E ->
   ∃ t,PSs (bn9 CX0 P w K mg base N qual (defScope st) f y A outer s H E).nox (qa st) t/\t { nx:=λ _ H'=>Q .non H',rt:=Q } (aj9 N vs) H):FnOk P w K mg base CX0 (k+1) f J ps sp:=by
 obtain⟨oc,od,kV,Y,pm,an,y,ct,a0,rfl,lk,G⟩:=F.ex
 refine bO9 lk G S len λ A outer s H vs Q E Z C=>?_
 obtain⟨t,h,q⟩:=B y A outer s H vs Q E Z C
 exact⟨t,h.nox,q⟩
theorem Fun.binds {x qual:Str}{st:Stmt}{f:Addr}{J:bE}{ps:List Str}(F:Fun K x qual st f J)
  (h:∀(kV y C:Value) (G:Option Addr) (B ct:Value) (us:List Value),us.length=ps.length->d6 (cN x qual (defArgs st) (qa st) (defScope st) .none kV y C G B ct) ⟨us,[]⟩=pure (ps.zip us)):Binds K J ps []:=by
 obtain⟨oc,od,kV,y,C,G,B,ct,Z,rfl,lk,Y⟩:=F.ex
 exact .all (h kV y C G B ct)
theorem bs8 {x qual:Str}{st:Stmt}{f:Addr}{oc:Value}{od G:Option Addr}{B:Array (Option Value)}{kV y C h ct:Value}(l:K.lookup f=some ⟨oc,od,.func (cN x qual (defArgs st) (qa st) (defScope st) .none kV y C G h ct),B⟩)
  (c:eU K h qual=true) (k:cb K (.ref f)=true):Fun K x qual st f (cN x qual (defArgs st) (qa st) (defScope st) .none kV y C G h ct):=⟨⟨oc,od,kV,y,C,G,h,ct,B,rfl,l,c⟩,k⟩
end
theorem bk6 {A:aV}{k:Nat}(h:Room k A):A.units+1<cLine:=Nat.lt_of_le_of_lt (Nat.add_le_add_left (by decide:1<=64) _) h.units
section
variable {X:Cx}
theorem pv (i:Nat){x:Str}{pos:Pos}(hN:X.N[i]?=some x:=by rfl)(hv:Vis X.env.scope x:=by first|exact Or.inl rfl|exact Or.inr (Or.inl rfl)|exact Or.inr (Or.inr rfl))(hd:(x==("__debug__":Str))=false:=by decide)
  (h:(x==("__classdict__":Str))=false:=by decide):PE X (.Name x pos) (bt6 i):=ba6 hN hv hd h
end
theorem co7 {A B:Prop}(h:B):if false=true then A else B:=by
 rw[if_neg aR]
 exact h
theorem cq3 {A B:Prop}(h:A):if true=true then A else B:=by
 rw[if_pos rfl]
 exact h
def ah3 (H H':Hp):Prop:=∀ b o,H b=some o->H' b=some o
theorem ah3.refl (H:Hp):ah3 H H:=λ _ _ h=>h
theorem bf6 {prog:aL}{w:World}{A:aV}{R:Result->af->Prop}{s:af}{B y iter:Expr}{C:List Expr}{scope:Scope}{pos:Pos}{Y G:Value}{env:Env}(I:Nat->af->Prop)
  (turn:∀ n s,I n s->wpAny (model prog w) A (gN Y) (λ r s₁=>match r with
   | none=>R (.ok .next) s₁
   | some v=>wpAny (model prog w) A (eC y Y v) (λ _ J=>wpAny (model prog w) A (fX y env v) (λ _ s₂ =>
     wpAny (model prog w) A (forIn C true λ c r=>if r=true then do let ok <- dt c env (eval c env);pure (ForInStep.yield ok)else pure (ForInStep.yield r)) (λ ok s₃ =>
      if ok=true then wpAny (model prog w) A (eval B env) (λ x s₄ =>
       wpAny (model prog w) A (call (.builtin "list.append") [G,x]) (λ _ s₅=>∃ m,m<n/\I m s₅) (iM (model prog w) A env λ e s'=>R (.error e) s') s₄) (iM (model prog w) A env λ e s'=>R (.error e) s') s₃
      else ∃ m,m<n/\I m s₃) (iM (model prog w) A env λ e s'=>R (.error e) s') s₂) (iM (model prog w) A env λ e s'=>R (.error e) s') J) (iM (model prog w) A env λ e s'=>R (.error e) s') s₁) (iM (model prog w) A env λ e s'=>R (.error e) s') s)
  (n:Nat) (h:I n s) :
  fh (model prog w) A (.compLoop (.ListComp B [⟨y,iter,C,0⟩] scope pos) 0 Y G env) R s:=by
 refine codeAny_loop rfl I (λ n s hI=>?_) n h
 show wpAny _ A ((compTurn (.ListComp B [⟨y,iter,C,0⟩] scope pos) 0 Y G env).onRaise (λ x=>do noteFrame x env;theTreesLotGoes x)) _ _ s
 refine wpAny_noted ?_
 rw[compTurn_list]
 refine ag (ie (ag (cq (turn n s hI) (λ r s₁ h₁=>?_) λ _ _ h'=>h')))
 cases r with
 | none=>exact aK h₁
 | some v =>
  refine ag (cq h₁ (λ _ J Z=>?_) λ _ _ h'=>h')
  refine ag (cq Z (λ _ s₂ h₂=>ag (cq h₂ (λ ok s₃ h₃=>?_) λ _ _ h'=>h')) λ _ _ h'=>h')
  cases ok with
  | false=>exact aK ⟨rfl,h₃⟩
  | true =>
   exact ag (ag (cq h₃ (λ x s₄ h₄=>ag (cq h₄ (λ _ s₅ h₅=>aK (aK ⟨rfl,h₅⟩)) λ _ _ h'=>h')) λ _ _ h'=>h'))
noncomputable def af6 (cells:List (Str×Addr)):List (Str×bJ)->List (Str×Addr)->List (Str×Addr)
 | [],acc=>acc
 | (n,k)::r,acc=>af6 cells r (if k==.free then(match cells.lookup n with|some c=>(n,c)::acc|none=>acc)else acc)
theorem ai2 {env:Env}:∀(names:List (Str×bJ)) (B:List (Str×Addr)),(∀ y∈names,y.2=.free->∃ c,env.cells.lookup y.1=some c) ->
  (forIn names B λ(x:Str×bJ) (cs:List (Str×Addr))=>(if x.2==.free then do let c <- cellOf env x.1;pure (ForInStep.yield ((x.1,c)::cs))else pure (ForInStep.yield cs):Sem (ForInStep (List (Str×Addr)))))=pure (af6 env.cells names B)
 | [],B,_=>by rw[dG];rfl
 | (n,k)::r,B,h=>by
  have C:=λ a=>ai2 r a λ y hy=>h y (aw _ hy)
  rw[eD]
  unfold af6
  cases e:(k==NameKind.free)with
  | false =>
   simp only[aJ,if_false]
   exact C B
  | true =>
   have hk:k=.free:=by simpa using e
   obtain⟨c,hc⟩:=h (n,k) aC hk
   have e1:cellOf env n=pure c:=by unfold cellOf;rw[hc]
   simp only[if_true,e1,hc]
   exact C _
theorem qD {scope:Scope}{env:Env}(h:∀ y∈scope.names,y.2=.free->∃ c,env.cells.lookup y.1=some c):closureFor scope env=pure (af6 env.cells scope.names []):=by
 have:=ai2 (env:=env) scope.names [] h
 show(forIn scope.names [] (λ(x:Str×bJ) (cs:List (Str×Addr))=>(if x.2==.free then do let c <- cellOf env x.1;pure (ForInStep.yield ((x.1,c)::cs))else pure (ForInStep.yield cs):Sem (ForInStep (List (Str×Addr))))) >>= λ cs=>pure cs)=_
 rw[this]
 rfl
theorem clOf_mem {cells:List (Str×Addr)}{n:Str}{c:Addr}:∀ {names:List (Str×bJ)} {B:List (Str×Addr)},(n,c)∈af6 cells names B->cells.lookup n=some c\/(n,c)∈B
 | [],_,h=>.inr h
 | (m,k)::r,B,h=>by
  unfold af6 at h
  rcases clOf_mem h with z|z
  ·exact .inl z
  ·cases e:(k==NameKind.free)with
   | false=>simp only[e,aJ,if_false]at z;exact .inr z
   | true =>
    simp only[e,if_true]at z
    cases q:cells.lookup m with
    | none=>rw[q]at z;exact .inr z
    | some d =>
     rw[q]at z
     rcases au.mp z with y|y
     ·cases y;exact .inl q
     ·exact .inr y
theorem aM9 {cells:List (Str×Addr)}{n:Str}{c:Addr}(hc:cells.lookup n=some c):∀ {names:List (Str×bJ)} {y:List (Str×Addr)},((n,NameKind.free)∈names\/(n,c)∈y)->(n,c)∈af6 cells names y
 | [],_,h=>by rcases h with h|h;(exact absurd h (by simp));exact h
 | (m,k)::r,y,h=>by
  unfold af6
  refine aM9 hc ?_
  rcases h with h|h
  ·rcases au.mp h with e|h
   ·cases e
    right
    simp[hc]
   ·exact .inl h
  ·right
   cases e:(k==NameKind.free)with
   | false=>simpa using h
   | true =>
    simp only[if_true]
    cases q:cells.lookup m with
    | none=>exact h
    | some d=>exact aw _ h
theorem aj5 {α:Type}{n:Str}{c:α}:∀ {l:List (Str×α)},(n,c)∈l->(∀ d,(n,d)∈l->d=c)->l.lookup n=some c
 | (m,d)::r,h,u=>by
  rw[aZ]
  cases e:n==m with
  | true =>
   have e':=beq_iff_eq.mp e
   subst e'
   rw[u d aC]
  | false =>
   rcases au.mp h with z|z
   ·cases z;simp at e
   ·exact aj5 z λ d' h'=>u d' (aw _ h')
theorem qF {cells:List (Str×Addr)}{n:Str}{c:Addr}{names:List (Str×bJ)}(hc:cells.lookup n=some c)(h:(n,NameKind.free)∈names):(af6 cells names []).lookup n=some c:=by
 refine aj5 (aM9 hc (.inl h)) λ d hd=>?_
 rcases clOf_mem hd with z|z
 ·rw[hc]at z;exact(ar z).symm
 ·exact absurd z (by simp)
theorem zw:∀(names:List (Str×bJ)) (n:Nat) (h:List (Str×Addr)),aM n names h=aM n names []++h
 | [],_,h=>by simp[aM]
 | (x,k)::r,n,h=>by
  unfold aM
  split
  ·rw[zw r (n+1) ((x,n)::h),zw r (n+1) [(x,n)]]
   simp
  ·exact zw r n h
theorem zP:∀ {names:List (Str×bJ)} {n:Nat} {B:List (Str×Addr)} {x:Str} {c:Addr},(x,c)∈aM n names B->(x,NameKind.cell)∈names\/(x,c)∈B
 | [],_,_,_,_,h=>.inr h
 | (y,k)::r,n,B,x,c,h=>by
  unfold aM at h
  split at h
  ·rename_i hk
   rcases zP h with z|z
   ·exact .inl (aw _ z)
   ·rcases au.mp z with e|z
    ·cases e
     have:k=.cell:=by simpa using hk
     subst this
     exact .inl aC
    ·exact .inr z
  ·rcases zP h with z|z
   ·exact .inl (aw _ z)
   ·exact .inr z
theorem zV {α:Type}(x:Str):∀(l r:List (Str×α)),(l++r).lookup x=(l.lookup x).or (r.lookup x)
 | [],r=>by simp
 | (y,v)::l,r=>by
  rw[fR,aZ,aZ]
  cases x==y with
  | true=>rfl
  | false=>exact zV x l r
noncomputable def qr (N':List Str)(src:List (Option Nat))(scope:Scope)(XN:List Str)(xs:Scope):Bool :=
 (scope.kind==.function) &&
 (scope.names.all λ y=>!(y.2==.free)||(xs.names.lookup y.1==some .cell||xs.names.lookup y.1==some .free)) &&
 (scope.names.all λ y=>!(y.2==.local)||scope.names.lookup y.1==some .local) &&
 (scope.names.all λ y=>!(y.2==.cell)||(scope.names.all λ z=>!(z.1==y.1)||z.2==.cell)) &&
 (src.length==N'.length) &&
 ((N'.zip src).all λ y=>match y.2 with|none=>true|some j=>XN[j]?==some y.1&&scope.names.lookup y.1==some .free)
structure CompCk (N':List Str)(src:List (Option Nat))(scope:Scope)(XN:List Str)(xs:Scope):Prop where
 kind:scope.kind=.function
 fr:∀ y∈scope.names,y.2=.free->xs.names.lookup y.1=some .cell\/xs.names.lookup y.1=some .free
 loc:∀ y∈scope.names,y.2=.local->scope.names.lookup y.1=some .local
 cel:∀ y∈scope.names,y.2=.cell->∀ z∈scope.names,z.1=y.1->z.2=.cell
 len:src.length=N'.length
 sr:∀(i j:Nat) (x:Str),src[i]?=some (some j)->N'[i]?=some x->XN[j]?=some x/\scope.names.lookup x=some .free
theorem bv7 {B:List Str}{src:List (Option Nat)}{scope:Scope}{C:List Str}{G:Scope}(h:qr B src scope C G=true):CompCk B src scope C G:=by
 unfold qr at h
 simp only[ao]at h
 obtain⟨⟨⟨⟨⟨Z,h2⟩,h3⟩,Y⟩,J⟩,h6⟩:=h
 refine⟨by simpa using Z,λ y hy e=>?_,λ y hy e=>?_,λ y hy e z hz ez=>?_,by simpa using J,λ i j x e1 e2=>?_⟩
 ·have:=aO.mp h2 y hy
  simpa [e]using this
 ·have:=aO.mp h3 y hy
  simpa [e]using this
 ·have:=aO.mp Y y hy
  simp only[e,beq_self_eq_true,j1,j2]at this
  have:=aO.mp this z hz
  simpa [ez]using this
 ·have hm:(x,some j)∈B.zip src:=by
   refine aW (i:=i) ?_
   rw[List.getElem?_zip_eq_some]
   exact⟨e2,e1⟩
  have:=aO.mp h6 _ hm
  simpa using this
noncomputable abbrev z0 (X:Cx)(N':List Str)(scope:Scope)(C:Addr)(cells:List (Str×Addr))(s:af)(H:Hp)(ex:List Addr):Cx where
 prog:=X.prog
 w:=X.w
 K:=X.K
 mg:=X.mg
 base:=X.base
 A:=X.A
 N:=N'
 s₀:=s
 H₀:=H
 env:={ scope:=dZ scope X.env,locals:=C,globals:=X.env.globals,cells:=cells,qual:=X.env.qual,func:=none,code:=X.env.code,frame:=X.env.frame,builtins:=X.env.builtins }
 outer:=X.stack
 stack:=X.stack
 ex:=ex
 fn:=λ x=>scope.names.lookup x==some .cell
 calm:=X.calm
 pn:=[]
 xe:=λ _ _=>False
def PIf (X:Cx)(ifs:List Expr)(t:TT):Prop :=
 ∀(pins:List (Addr×Obj)) (s:af) (σ:St) (H:Hp) (Q:Bool->Hp->Prop),Inv X pins σ H s->t σ H Q ->
  wpAny (model X.prog X.w) X.A (forIn ifs true λ c r=>if r=true then do let ok <- dt c X.env (eval c X.env);pure (ForInStep.yield ok)else pure (ForInStep.yield r)) (TP X pins σ Q) X.xe s
def co9:TT:=λ _ H Q=>Q true H
theorem bx8 {X:Cx}:PIf X [] co9:=λ _ _ _ H _ I h=>wpAny_tests_nil ⟨H,I,h⟩
theorem bw8 {X:Cx}{c:Expr}{t:TT}(h:PT X c t):PIf X [c] t:=λ y s σ H Q I hw=>wpAny_tests_one (h y s σ H Q I hw)
noncomputable def aD0 (src:List (Option Nat))(σ:St):St:=src.map λ o=>match o with|none=>none|some j=>(σ[j]?).join
def tComp (src:List (Option Nat))(wi:TI)(g:TG)(tc:TT)(te:TE):TE:=λ σ H Q=>wi σ H λ J H1=>∀ D,H1 D=none ->
 ∃ W:Nat->Nat->St->Hp->Prop,(∃ m,W 0 m (aD0 src σ) (upd H1 D (.lst [])))/\∀ i m σ' H',W i m σ' H' ->
  (J.stop i H'/\Q (.ref D) H')\/(J.go i H'/\∃ N:St->Hp->Prop,(∀ σ2 H2,N σ2 H2->∃ m',m'<m/\W (i+1) m' σ2 H2) /\
   ∀ x H2,J.yld i H' x H2->g x σ' H2 λ σ3 H3=>tc σ3 H3 λ b H4=>if b=true then te σ3 H4 λ v H5=>∃ ys,H5 D=some (.lst ys)/\ys.length<aN/\N σ3 (upd H5 D (.lst (ys++[v])))else N σ3 H4)
theorem qO {env:Env}:∀ {names:List (Str×bJ)} {x:Str} {k:bJ},names.lookup x=some k ->
  (names.map λ(n,k)=>if(k==NameKind.free&&env.scope.kind==.function&&env.kindOf n==some .cell)then(n,NameKind.cell)else(n,k)).lookup x =
   some (if(k==NameKind.free&&env.scope.kind==.function&&env.kindOf x==some .cell)then NameKind.cell else k)
 | [],_,_,h=>by simp at h
 | (n,k)::r,x,k',h=>by
  have y:=@qO env r x k'
  show kq x ((if(k==NameKind.free&&env.scope.kind==.function&&env.kindOf n==some .cell)=true then(n,NameKind.cell)else(n,k))::_)=_
  cases hx:x==n with
  | true =>
   have e:=beq_iff_eq.mp hx
   subst e
   simp only[aZ,hx]at h
   cases h
   by_cases hc:(k==NameKind.free&&env.scope.kind==.function&&env.kindOf x==some .cell)=true
   ·rw[if_pos hc,if_pos hc];simp only[aZ,hx]
   ·rw[if_neg hc,if_neg hc];simp only[aZ,hx]
  | false =>
   simp only[aZ,hx]at h
   by_cases hc:(k==NameKind.free&&env.scope.kind==.function&&env.kindOf n==some .cell)=true
   ·rw[if_pos hc];simp only[aZ,hx];exact y h
   ·rw[if_neg hc];simp only[aZ,hx];exact y h
theorem qG {env:Env}:∀ {names:List (Str×bJ)} {x:Str},names.lookup x=none ->
  (names.map λ(n,k)=>if(k==NameKind.free&&env.scope.kind==.function&&env.kindOf n==some .cell)then(n,NameKind.cell)else(n,k)).lookup x=none
 | [],_,_=>rfl
 | (n,k)::r,x,h=>by
  have y:=@qG env r x
  show kq x ((if(k==NameKind.free&&env.scope.kind==.function&&env.kindOf n==some .cell)=true then(n,NameKind.cell)else(n,k))::_)=_
  cases hx:x==n with
  | true=>simp only[aZ,hx]at h;cases h
  | false =>
   simp only[aZ,hx]at h
   by_cases hc:(k==NameKind.free&&env.scope.kind==.function&&env.kindOf n==some .cell)=true
   ·rw[if_pos hc];simp only[aZ,hx];exact y h
   ·rw[if_neg hc];simp only[aZ,hx];exact y h
theorem as7 {X:Cx}{N':List Str}{src:List (Option Nat)}{scope:Scope}{a4:List (Addr×Obj)}{σ:St}{H:Hp}{s s4:af}{fp:List Addr}
  (C:CompCk N' src scope X.N X.env.scope) (I:Inv X a4 σ H s) (hf:∀ b∈fp,FpOk X a4 H b) (a8:∀ b∈fp,b<s.heap.objs.size)
  (e4:∃ tk,s4={ s with heap:=dS (s.heap.push { cls:=.type "dict",data:=.dict #[] }) scope.names,toks:=tk }) :
  Inv (z0 X N' scope s.heap.objs.size (aM (s.heap.objs.size+1) scope.names (af6 X.env.cells scope.names [])) s H fp) [] (aD0 src σ) H s4:=by
 obtain⟨tk,rfl⟩:=e4
 have hk:∀ b o,s.heap.get? b=some o->(dS (s.heap.push { cls:=.type "dict",data:=.dict #[] }) scope.names).get? b=some o:=λ b o e=>cR _ _ b o (ab _ e)
 have ok:=cellsFrom_ok scope.names (s.heap.push { cls:=.type "dict",data:=.dict #[] }) (s.heap.objs.size+1) [] ⟨λ _ _ hm=>(nomatch hm),List.Pairwise.nil⟩ (by rw[bC];exact aj _)
 rw[bC]at ok
 have Y:=zw scope.names (s.heap.objs.size+1) (af6 X.env.cells scope.names [])
 have lk:∀ x c,(aM (s.heap.objs.size+1) scope.names (af6 X.env.cells scope.names [])).lookup x=some c ->
   ((x,c)∈aM (s.heap.objs.size+1) scope.names []/\(x,NameKind.cell)∈scope.names)\/(X.env.cells.lookup x=some c/\(aM (s.heap.objs.size+1) scope.names []).lookup x=none):=λ x c e=>by
  rw[Y,zV]at e
  cases q:(aM (s.heap.objs.size+1) scope.names []).lookup x with
  | some d =>
   rw[q]at e
   have e':d=c:=ar e
   subst e'
   have hm:=az q
   refine .inl ⟨hm,?_⟩
   rcases zP hm with z|z
   ·exact z
   ·exact absurd z (by simp)
  | none =>
   rw[q]at e
   have e':(af6 X.env.cells scope.names []).lookup x=some c:=e
   rcases clOf_mem (az e')with z|z
   ·exact .inr ⟨z,rfl⟩
   ·exact absurd z (by simp)
 have up:∀ x c,(x,c)∈aM (s.heap.objs.size+1) scope.names []->s.heap.objs.size+1<=c:=λ x c h=>(ok.empty x c h).2
 have a9:∀ x c,X.env.cells.lookup x=some c->c<s.heap.objs.size:=λ x c h=>by
  obtain⟨v,q⟩:=I.cell x c h
  exact q.lt
 have a3:∀ b,b<s.heap.objs.size->b≠s.heap.objs.size:=λ b h=>av h
 have b0:∀ b∈fp,H b=none/\b≠X.env.locals/\b ∉ X.fs:=λ b hb=>⟨(hf b hb).1,(hf b hb).2.1,(hf b hb).2.2.1⟩
 have b1:(dS (s.heap.push { cls:=.type "dict",data:=.dict #[] }) scope.names).Ns s.heap.objs.size (λ _=>none):=(kr s.heap (.type "dict")).keeps (cR _ _)
 have Z:∀ x k,scope.names.lookup x=some k->(dZ scope X.env).names.lookup x=some (if(k==NameKind.free&&X.env.scope.kind==.function&&X.env.kindOf x==some .cell)then NameKind.cell else k):=λ x k e=>qO (env:=X.env) e
 have a0:∀ x,scope.names.lookup x=none->(dZ scope X.env).names.lookup x=none:=λ x e=>qG (env:=X.env) e
 have a6:∀ x c,(x,NameKind.free)∈scope.names->X.env.cells.lookup x=some c->(aM (s.heap.objs.size+1) scope.names (af6 X.env.cells scope.names [])).lookup x=some c:=λ x c hx hc=>by
  rw[Y,zV]
  cases q:(aM (s.heap.objs.size+1) scope.names []).lookup x with
  | some d =>
   rcases zP (az q)with z|z
   ·have:=C.cel _ z rfl _ hx rfl
    cases this
   ·exact absurd z (by simp)
  | none=>exact qF hc hx
 have a5:∀ x,(x,NameKind.free)∈scope.names->∃ c,X.env.cells.lookup x=some c:=λ x hx=>I.ok.has x (C.fr _ hx rfl)
 refine⟨⟨I.ok.mod,C.kind,I.ok.glob,I.ok.blt,aj _,λ x y c e1 e2=>?_,λ x hx=>?_,λ x c hx e=>?_,I.ok.hd,I.ok.frames,.inl rfl,λ b hb=>⟨a3 b (a8 b hb),λ x c e z=>?_⟩,I.bs,aq I.ok.bsz I.sz,λ b o e hb=>?_,λ b hb z=>?_,I.stack,I.stkFree⟩,
  rfl,I.bare,Un.kept hk,⟨_,b1,λ i x v e1 e2 e3=>?_⟩,λ x c e=>?_,I.hok.fresh (aj _),λ x c e=>?_,λ p hp=>absurd (show p∈([]:List (Addr×Obj))from hp) (by simp),I.hok.kept hk,by unfold aD0;rw[aG];exact C.len⟩
 ·rcases lk x c e1 with⟨a1,_⟩|⟨a1,_⟩<;>rcases lk y c e2 with⟨a2,_⟩|⟨a2,_⟩
  ·exact fZ ok.apart a1 a2
  ·exact absurd (ak (a9 _ _ a2) (fm (up _ _ a1))) (bq _)
  ·exact absurd (ak (a9 _ _ a1) (fm (up _ _ a2))) (bq _)
  ·exact I.ok.inj x y c a1 a2
 ·cases q:scope.names.lookup x with
  | none =>
   have G:(dZ scope X.env).names.lookup x=some .cell\/(dZ scope X.env).names.lookup x=some .free:=hx
   rw[a0 x q]at G
   rcases G with z|z<;>cases z
  | some k =>
   have G:(dZ scope X.env).names.lookup x=some .cell\/(dZ scope X.env).names.lookup x=some .free:=hx
   rw[Z x k q]at G
   cases k with
   | free =>
    obtain⟨c,hc⟩:=a5 x (az q)
    exact⟨c,a6 x c (az q) hc⟩
   | cell =>
    obtain⟨c,hc⟩:=ql (n:=s.heap.objs.size+1) q
    exact⟨c,by show(aM _ _ _).lookup x=_;rw[Y,zV,hc];rfl⟩
   | _=>rcases G with z|z<;>cases z
 ·have G:(scope.names.lookup x==some .cell)=true:=hx
  have q:scope.names.lookup x=some .cell:=by simpa using G
  rcases lk x c e with⟨a,_⟩|⟨a,b⟩
  ·have:=up _ _ a;show s.heap.objs.size<=c;omega
  ·obtain⟨d,hd⟩:=ql (n:=s.heap.objs.size+1) q
   rw[hd]at b;cases b
 ·subst z
  rcases lk x c e with⟨a,_⟩|⟨a,_⟩
  ·exact absurd (ak (a8 c hb) (fm (up _ _ a))) (bq _)
  ·exact(hf c hb).2.2.2.2.1 x c a rfl
 ·rcases(hf b hb).2.2.2.1 with z|z
  ·exact I.ok.noex b o e z
  ·exact absurd (ak (aA e) (aq I.ok.bsz z)) (bq _)
 ·rcases au.mp (I.stkSub b z)with y|y
  ·exact(b0 b hb).2.1 y
  ·exact(b0 b hb).2.2 y
 ·have B:(aD0 src σ)[i]?=some (some v):=e2
  unfold aD0 at B
  rw[aF]at B
  cases q:src[i]? with
  | none=>rw[q]at B;cases B
  | some o =>
   rw[q]at B
   cases o with
   | none=>cases B
   | some j =>
    have J:(σ[j]?).join=some v:=ar B
    have ej:σ[j]?=some (some v):=by
     cases q2:σ[j]? with
     | none=>rw[q2]at J;cases J
     | some o2=>rw[q2]at J;exact congrArg some J
    obtain⟨h1,h2⟩:=C.sr i j x q e1
    have hm:=az h2
    obtain⟨mX,b3,b2⟩:=I.loc
    have a7:Vis X.env.scope x:=by
     rcases C.fr _ hm rfl with z|z
     ·exact .inr (.inl z)
     ·exact .inr (.inr z)
    obtain⟨u,ru,look⟩:=b2 j x v h1 ej a7
    refine⟨u,ru,.inr ?_⟩
    have hcell:∃ c,X.env.cells.lookup x=some c/\s.heap.IsCell c (some u):=by
     rcases look with⟨z,_⟩|⟨_,c,z1,z2⟩
     ·have z':X.env.scope.names.lookup x=some .local:=z
      rcases C.fr _ hm rfl with y|y<;>(rw[z']at y;cases y)
     ·exact⟨c,z1,z2⟩
    obtain⟨c,c1,c2⟩:=hcell
    refine⟨?_,c,a6 x c hm c1,c2.keeps hk⟩
    show(dZ scope X.env).names.lookup x=some .cell\/(dZ scope X.env).names.lookup x=some .free
    rw[Z x _ h2]
    by_cases hc:(NameKind.free==NameKind.free&&X.env.scope.kind==.function&&X.env.kindOf x==some .cell)=true
    ·rw[if_pos hc];exact .inl rfl
    ·rw[if_neg hc];exact .inr rfl
 ·rcases lk x c e with⟨a,_⟩|⟨a,_⟩
  ·exact⟨_,(ok.empty x c a).1⟩
  ·obtain⟨v,q⟩:=I.cell x c a
   exact⟨v,q.keeps hk⟩
 ·rcases lk x c e with⟨a,_⟩|⟨a,_⟩
  ·exact I.hok.fresh (by have:=up _ _ a;omega)
  ·exact I.freeC x c a
theorem aN8 {X:Cx}{Y:List Str}{scope:Scope}{h:List (Addr×Obj)}{σ σ':St}{H G:Hp}{s s5:af}{B:List Addr}{cells:List (Str×Addr)}{h':Heap}
  (I:Inv X h σ H s) (C:∀ b∈B,FpOk X h H b) (J:Inv (z0 X Y scope s.heap.objs.size cells s H B) [] σ' G s5) (hs:bT s.heap.objs.size s5.heap h') :
  Inv X h σ G { s5 with heap:=h' }:=by
 have y:∀ b o,s.heap.get? b=some o->b≠s.heap.objs.size:=λ b o e=>av (aA e)
 have u:Un (frs X.stack) B H G s.heap s5.heap:=J.base
 refine I.call' (s':={ s5 with heap:=h' }) (ch:=B) J.os ⟨λ b o e n hb hx=>?_,λ b o e n hb hx=>?_,λ b o e n hx=>u.free b o e n hx,λ b o e hx=>?_,u.tups,u.frzs,u.tbls⟩ (λ b o e=>?_) J.bare λ b hb=>⟨(C b hb).2.2.2.1,(C b hb).2.1,(C b hb).2.2.2.2.1,(C b hb).2.2.2.2.2⟩
 ·exact(hs.2 b (y b o e)).trans (u.keep b o e n hb hx)
 ·obtain⟨sl,q⟩:=u.slot b o e n hb hx
  exact⟨sl,(hs.2 b (y b o e)).trans q⟩
 ·obtain⟨Z,q⟩:=u.there b o e hx
  exact⟨Z,(hs.2 b (y b o e)).trans q⟩
 ·have fr:G s.heap.objs.size=none:=J.free
  refine(J.hok b o e).stay (λ c w' hc q=>(hs.2 c ?_).trans q) (λ _ q=>q) λ _ _ q=>q
  rintro rfl
  rcases hc with z|hc
  ·rw[<-z,fr]at e;cases e
  ·rw[fr]at hc;cases hc
theorem ah5 {M:Model}{A:aV}{E:Value->af->Prop}{s:af}{scope:Scope}{globals:Addr}{y:List (Str×Addr)}{qual:Str}{outer:Env}{Q:Env->af->Prop}
  (h:Q { scope:=scope,locals:=s.heap.objs.size,globals:=globals,cells:=aM (s.heap.objs.size+1) scope.names y,qual:=qual,func:=none,code:=outer.code,frame:=outer.frame,builtins:=outer.builtins }
   { s with heap:=dS (s.heap.push { cls:=.type "dict",data:=.dict #[] }) scope.names }) :
  wpAny M A (eV scope globals y [] qual none .none (some outer)) Q E s:=by
 simp only[eV,eW,if_true]
 refine ag (wpAny_alloc ?_)
 refine ag (wpAny_layCells _ (λ name kind cells=>by cases hkc:kind==NameKind.cell<;>simp[hkc]) _ _ _ _ ?_)
 rw[show({ s with heap:=s.heap.push { cls:=.type "dict",data:=.dict #[] } }:af).heap.objs.size=s.heap.objs.size+1 from bC ..]
 refine ag ?_
 rw[dG]
 exact aK (aK h)
theorem az6 {X':Cx}{R:Result->af->Prop}{a1 tg iter:Expr}{a4:List Expr}{scope:Scope}{pos:Pos}{g:TG}{tc:TT}{te:TE}{J:It}{Z:List Addr}{it D:Addr}{tn:Nat->Heap->Prop}{W:Nat->Nat->St->Hp->Prop}
  {QD:Hp->Prop} {σ0:St} {H0:Hp} {s4:af} {m0:Nat} (hx:X'.xe=λ _ _=>False) (G:X'.calm=true) (I4:Inv X' [] σ0 H0 s4) (T:Turn X'.prog X'.w X'.K tg J Z it tn) (a7:tn 0 s4.heap)
  (C:∀ H':Hp,(∀ b∈Z,H' b=none)->∀ b∈Z,FpOk X' [] H' b) (a9:∀ b∈Z,H0 b=none) (w0:W 0 m0 σ0 H0)
  (turn:∀ i m σ' H',W i m σ' H'->(J.stop i H'/\QD H')\/(J.go i H'/\∃ N:St->Hp->Prop,(∀ σ2 H2,N σ2 H2->∃ m',m'<m/\W (i+1) m' σ2 H2) /\
   ∀ x H2,J.yld i H' x H2->g x σ' H2 λ σ3 Y=>tc σ3 Y λ b H4=>if b=true then te σ3 H4 λ v H5=>∃ ys,H5 D=some (.lst ys)/\ys.length<aN/\N σ3 (upd H5 D (.lst (ys++[v])))else N σ3 H4))
  (hg:PG X' tg g) (hif:PIf X' a4 tc) (he:PE X' a1 te) (a5:∀ σ' H' s',Inv X' [] σ' H' s'->QD H'->R (.ok .next) s') :
  fh (model X'.prog X'.w) X'.A (.compLoop (.ListComp a1 [⟨tg,iter,a4,0⟩] scope pos) 0 (.ref it) (.ref D) X'.env) R s4:=by
 have nox:∀ {α:Type} {t:Sem α} {Q Q':α->af->Prop} {E:Value->af->Prop} {s:af},wpAny (model X'.prog X'.w) X'.A t Q X'.xe s->(∀ a s,Q a s->Q' a s)->wpAny (model X'.prog X'.w) X'.A t Q' E s :=
  λ h hQ=>cq h hQ λ _ _ z=>by rw[hx]at z;exact z.elim
 refine bf6 (λ n s'=>∃ i σ' H',Inv X' [] σ' H' s'/\tn i s'.heap/\(∀ b∈Z,H' b=none)/\W i n σ' H') ?_ m0 ⟨0,σ0,H0,I4,a7,a9,w0⟩
 rintro n s3 ⟨i,σ3,Y,I3,a3,a2,w3⟩
 rcases turn i n σ3 Y w3 with⟨stop,qn⟩|⟨go,N,hN,step⟩
 ·refine nox (T.done X' rfl rfl rfl G i [] s3 σ3 Y X'.xe I3 (C Y a2) a3 stop) λ r s4 ⟨hr,I4⟩=>?_
  subst hr
  exact a5 σ3 Y s4 I4 qn
 ·refine nox (T.item X' rfl rfl rfl G i [] s3 σ3 Y X'.xe I3 (C Y a2) a3 go) λ r s4 ⟨u,hr,h4⟩=>?_
  subst hr
  refine nox h4 λ _ s5 ⟨x,H5,I5,r5,y5,a0,a8⟩=>?_
  have a6:=I5.pinned (C H5 a8) (T.obj _ _ a0)
  refine nox (hg _ s5 σ3 H5 x u _ a6 r5 (step x H5 y5)) λ _ s6 ⟨σ6,H6,I6,q6⟩=>?_
  have B:∀ {σ7:St} {H7:Hp} {s7:af},Inv X' ([]++aE9 Z s5.heap) σ7 H7 s7->N σ7 H7->∃ m,m<n/\∃ i σ' H',Inv X' [] σ' H' s7/\tn i s7.heap/\(∀ b∈Z,H' b=none)/\W i m σ' H':=λ {σ7 H7 s7} I7 n7=>by
   obtain⟨m',hm,w7⟩:=hN σ7 H7 n7
   refine⟨m',hm,i+1,σ7,H7,I7.unpinned,T.keep _ _ _ a0 λ b hb o e=>(I7.pin (b,o) (bu _ (bu _ (jn hb e)))).1,λ b hb=>?_,w7⟩
   obtain⟨o,e,d⟩:=T.obj _ _ a0 b hb
   exact(I7.pin (b,o) (bu _ (bu _ (jn hb e)))).2.1
  refine nox (hif _ s6 σ6 H6 _ I6 q6) λ b s7 ⟨H7,I7,q7⟩=>?_
  cases b with
  | false =>
   rw[if_neg aR]at q7 ⊢
   exact B I7 q7
  | true =>
   rw[if_pos rfl]at q7 ⊢
   refine nox (he _ s7 σ6 H7 _ I7 q7) λ v s8 ⟨y,H8,I8,r8,ys,hy,hz,q8⟩=>?_
   refine nox (aB4 _ s8 σ6 H8 (.ref D) [y] (.ref D) [v] (λ _ H9=>N σ6 H9) I8 rfl (.cons r8 .nil) ⟨D,ys,y,rfl,rfl,hy,hz,q8⟩) λ v9 s9 ⟨_,H9,I9,_,q9⟩=>?_
   exact B I9 q9
theorem aZ7 {X:Cx}{a0 tg iter:Expr}{a3:List Expr}{scope:Scope}{pos:Pos}{wi:TI}{g:TG}{tc:TT}{te:TE}(N':List Str)(src:List (Option Nat))
  (b0:qr N' src scope X.N X.env.scope=true) (hi:PI X tg iter wi) (Z:X.calm=true)
  (a8:∀(C:Addr) (cells:List (Str×Addr)) (s:af) (H:Hp) (ex:List Addr),PG (z0 X N' scope C cells s H ex) tg g/\PIf (z0 X N' scope C cells s H ex) a3 tc/\PE (z0 X N' scope C cells s H ex) a0 te)
  (hs:∀ x,cY iter X.env x=pure x:=by intro _;rfl):PE X (.ListComp a0 [⟨tg,iter,a3,0⟩] scope pos) (tComp src wi g tc te):=by
 intro B s σ H Q I h
 have ck:=bv7 b0
 rw[eval_ListComp]
 have a7:=qD (scope:=scope) (env:=X.env) λ y hy e=>I.ok.has y.1 (ck.fr y hy e)
 refine fG (use:=none) rfl hs a7 ck.kind ck.loc (thn (hi B s σ H _ I h) λ v s1 h1=>thn h1 λ b3 s2 h2=>?_)
 obtain⟨it,G,tn,J,H2,e,I2,T,a1,f2,W⟩:=h2
 subst e
 have hD:=I2.fresh
 obtain⟨W,⟨m0,w0⟩,turn⟩:=W _ hD
 have I3:=I2.lnew (its:=[]) (ys:=[]) (t':=s2.toks) .nil (dA _)
 have a2:∀ b∈G,b<s2.heap.objs.size:=λ b hb=>by obtain⟨o,q,_⟩:=T.obj _ _ a1 b hb;exact aA q
 have f3:∀ b∈G,FpOk X B (upd H2 s2.heap.objs.size (.lst [])) b:=λ b hb=>⟨by rw[zm (av (a2 b hb))];exact(f2 b hb).1,(f2 b hb).2⟩
 refine cg (ah5 ?_)
 generalize Y:({ s2 with heap:=s2.heap.push { cls:=.type "list",data:=.seq ([]:List Value).toArray },toks:=s2.toks }:af)=s3 at I3
 have b2:({ s2 with heap:=s2.heap.push { cls:=.type "list",data:=.seq ([]:List Value).toArray } }:af)=s3:=Y
 have a9:∀ b∈G,b<s3.heap.objs.size:=λ b hb=>by
  rw[<-Y]
  show b<(s2.heap.push _).objs.size
  rw[bC]
  exact fq (a2 b hb)
 have I4:=as7 (s4:={ s3 with heap:=dS (s3.heap.push { cls:=.type "dict",data:=.dict #[] }) scope.names }) ck I3 f3 a9 ⟨_,rfl⟩
 have a5:tn 0 (dS (s3.heap.push { cls:=.type "dict",data:=.dict #[] }) scope.names):=T.keep _ _ _ a1 λ b hb o e=>cR _ _ b o (ab _ (by rw[<-Y];exact ab _ e))
 obtain⟨hg,hif,he⟩:=a8 s3.heap.objs.size (aM (s3.heap.objs.size+1) scope.names (af6 X.env.cells scope.names [])) s3 (upd H2 s2.heap.objs.size (.lst [])) G
 have a4:∀ H':Hp,(∀ b∈G,H' b=none)->∀ b∈G,FpOk (z0 X N' scope s3.heap.objs.size (aM (s3.heap.objs.size+1) scope.names (af6 X.env.cells scope.names [])) s3 (upd H2 s2.heap.objs.size (.lst [])) G) [] H' b:=λ H' hn b hb =>
  ⟨hn b hb,(I4.ok.exf b hb).1,I4.ok.exfs b hb,.inl hb,λ x c e=>(I4.ok.exf b hb).2 x c e,λ p hp=>absurd (show p∈([]:List (Addr×Obj))from hp) (by simp)⟩
 have T':Turn X.prog X.w X.K tg J G it tn:=T
 have a6:∀ b∈G,upd H2 s2.heap.objs.size (.lst []) b=none:=λ b hb=>(f3 b hb).1
 have L:=az6 (X':=z0 X N' scope s3.heap.objs.size (aM (s3.heap.objs.size+1) scope.names (af6 X.env.cells scope.names [])) s3 (upd H2 s2.heap.objs.size (.lst [])) G) (R:=compPost (model X.prog X.w) X.A X.xe none (EP X B σ Q) (Value.ref s2.heap.objs.size) s3.heap.objs.size) (iter:=iter) (scope:=scope) (pos:=pos) (QD:=λ H'=>Q (.ref s2.heap.objs.size) H') rfl Z I4 T' a5 a4 a6 w0 turn hg hif he
  (λ σ' H' s' J' q=>by
   obtain⟨mm,hn,_⟩:=J'.loc
   exact⟨mm,hn,λ h' b1=>⟨.ref s2.heap.objs.size,H',aN8 I3 f3 J' b1,rfl,q⟩⟩)
 exact gh L (T.self _ _ _ _ _ a5 L)
section
variable {X:Cx}
theorem cf5:bh "abs"=some (.builtin "abs"):=by decide +kernel
theorem cd8:bh "len"=some (.builtin "len"):=by decide +kernel
theorem bH5:bh "min"=some (.builtin "min"):=by decide +kernel
theorem bO8:bh "max"=some (.builtin "max"):=by decide +kernel
theorem cf3:bh "all"=some (.builtin "all"):=by decide +kernel
theorem aD5:bh "isinstance"=some (.builtin "isinstance"):=by decide +kernel
theorem bQ6:bh "int"=some (.type "int"):=by decide +kernel
theorem bS0:bh "bool"=some (.type "bool"):=by decide +kernel
theorem cd1:bh "str"=some (.type "str"):=by decide +kernel
theorem aW1:bh "tuple"=some (.type "tuple"):=by decide +kernel
theorem bu0:bh "list"=some (.type "list"):=by decide +kernel
def cj8 (i j:Int):Prop:=0<j/\j<2^4096
theorem aT8 {y:Int}(h0:0<y)(h:y<2^4096):y.natAbs.log2<9000:=by
 have hn:y.natAbs<2^4096:=by
  have:(y.natAbs:Int)=y:=by omega
  have B:(y.natAbs:Int)<((2^4096:Nat):Int):=by rw[this];simpa using h
  exact Int.ofNat_lt.mp B
 have:=(Nat.log2_lt (by omega)).mpr hn
 omega
theorem bj7:OpR X (bZ .FloorDiv) (rI cj8 λ i j=>.int (i / j)):=opI λ i j _ _ _ _ _ hc q=>by
 refine floordiv_int (by have:=hc.1;omega) ?_ (.inl (PyProof.noPylong_of_log2 (aT8 hc.1 hc.2)))
 rw[eT i (by have:=hc.1;omega)]
 exact q
theorem aO8 {K:ac}(h:X.K=K):IxR X (cm0 K):=by subst h;exact bx4
theorem by3 {K:ac}(h:X.K=K):IxR X (cl1 K):=by subst h;exact ix_tup
theorem ao6 {K:ac}(y:X.K=K):ae5 X (.builtin "len") (λ h H Q=>∃ p ys,h=[.ref p]/\(SqL K H p ys\/SqT K H p ys)/\Q (.int ys.length) H):=by subst y;exact aA5
theorem aG8 {K:ac}(y:X.K=K):ae5 X (.type "tuple") (λ h H Q=>∃ p ys,h=[.ref p]/\((SqL K H p ys/\∀ l,H l=none->Q (.ref l) (upd H l (.tup ys)))\/(SqT K H p ys/\Q (.ref p) H))):=by subst y;exact aw3
theorem aR7 {K:ac}(y:X.K=K):ae5 X (.type "list") (λ h H Q=>∃ p ys,h=[.ref p]/\(SqL K H p ys\/SqT K H p ys)/\∀ l,H l=none->Q (.ref l) (upd H l (.lst ys))):=by subst y;exact aE1
theorem br7 {K:ac}{tg l:Expr}{h:TE}(y:X.K=K)(hl:PE X l h):PI X tg l (bK7 K h):=by subst y;exact bF6 hl
theorem by6 {K:ac}{tg l:Expr}{h:TE}(y:X.K=K)(hl:PE X l h):PI X tg l (ce3 K h):=by subst y;exact bT2 hl
theorem bI7 {K:ac}{pos:Pos}{es:List Expr}{k:Nat}{t:TGs}{n:Nat}(B:X.K=K)(hc:X.calm=true)(h:PGs X es t)
  (hn:(cy es X.env).length=n:=by rfl) (y:(cy es X.env).findIdx? (·.1)=none:=by rfl):PG X (.Tuple es k pos) (cf8 K n t):=by subst B;exact bV5 hc h hn y
end
structure DefAt (K:ac)(mg:Str->Option Value)(x:Str)(st:Stmt)(ps:List Str)(f:Addr)(fd:bE):Prop where
 fn:Fun K x x st f fd
 mg:mg x=some (.ref f)
 bi:Binds K fd ps []
@[irreducible] noncomputable def cq5 (p:Prop):Prop:=p
theorem ah3.new {p:Addr}{H y:Hp}{o:HO}(h:ah3 H y)(B:y p=none):ah3 H (L2.upd y p o):=λ x o e=>by
 have e1:=h x o e
 rw[zm (zH e1 B)]
 exact e1
section
variable {prog:aL} {w:World} {A:aV} {R:Result->af->Prop} {I:Addr} {fp wr:List Addr} {n:Nat} {P:Nat->Value->Prop} {St:Nat->Heap->Prop} {kw:List (Str×Value)}
theorem ba3 (W:Walks prog w A.in1 I fp wr n P St)(bt:Nat->Nat->Bool)(a5:CmpOf prog w A.in1 .Lt P bt)(S:Addr)(a8:S ∉ fp) :
  ∀(k j:Nat) (s:af) (vb:Value) (c:Nat),n - (j+1)=k->j+1<=n->St (j+1) s.heap->P (da bt j) vb ->
  s.heap.get? S=some { cls:=.type "list",dict:=none,data:=.seq #[vb,vb] c,slots:=#[] } ->
  (∀ v h' tk,P (da bt (n - 1)) v->(∀ b o,b ∉ wr->b≠S->s.heap.get? b=some o->h'.get? b=some o)->R (.ok (.ret v)) { s with heap:=h',toks:=tk }) ->
  fh (model prog w) A (.builtin "min.loop" ⟨[.ref I,.none,.ref S],kw⟩) R s:=by
 have a7:S ∉ wr:=λ h=>a8 (W.sub _ h)
 have Y:(toString "min"++toString ".loop":String) = "min.loop":=by decide
 intro k
 induction k with
 | zero =>
  intro j s vb c hk hj a3 a0 hS hR
  have a6:j+1=n:=by omega
  refine gA fS ?_
  rw[d7 cx _]
  show wpAny _ A.in1 (g6 (.ref S) >>= _) _ _ s
  refine ag (bO hS rfl ?_)
  show wpAny _ A.in1 (tryCatch (gN (.ref I)) _ >>= _) _ _ s
  refine ag (dH (W.done s _ _ (a6▸a3) λ h' tk B=>?_))
  have Z:=B S _ a7 hS
  show wpAny _ A.in1 (updateSeq S (λ _=>#[]) >>= _) _ _ _
  refine ag ?_
  refine gB Z rfl (ag (dB (aK ?_)))
  refine hR vb _ tk (by rw[<-a6];exact a0) λ b o y C e=>(bN _ _ (bS C)).trans (B b o y e)
 | succ k ih =>
  intro j s vb c hk hj a3 a0 hS hR
  have hlt:j+1<n:=by omega
  refine gA fS ?_
  rw[d7 cx _]
  show wpAny _ A.in1 (g6 (.ref S) >>= _) _ _ s
  refine ag (bO hS rfl ?_)
  show wpAny _ A.in1 (tryCatch (gN (.ref I)) _ >>= _) _ _ s
  refine ag (dH (W.item (j+1) s _ _ hlt a3 λ v h' tk hP a1 B=>?_))
  have Z:=B S _ a7 hS
  show wpAny _ A.in1 (tryCatch (iE [v,v] (richCompare .Lt v vb >>= _)) _ >>= _) _ _ _
  refine ag (dH (dY (ag (a5 (j+1) (da bt j) v vb _ _ _ hP a0 ?_))))
  refine ag (dY (bD ?_))
  refine ag (dB (aK ?_))
  cases hb:bt (j+1) (da bt j)with
  | true =>
   simp only[if_true]
   refine ag ?_
   refine gB Z rfl (ag (dB ?_))
   rw[Y]
   refine aK ⟨fH cx _,ih (j+1) _ v _ (by omega) hlt (W.frame _ _ _ a1 λ b a9 o e=>?_) (by simp only[da,hb,if_true];exact hP) (cU _ Z rfl)
    λ v' a2 G a4 J=>?_⟩
   ·exact(bN _ _ (λ h:S=b=>a8 (by rw[h];exact a9))).trans e
   ·exact hR v' a2 G a4 λ b o y C e=>J b o y C ((bN _ _ (bS C)).trans (B b o y e))
  | false =>
   simp only[aJ,if_false]
   refine ag (dB ?_)
   rw[Y]
   refine aK ⟨fH cx _,ih (j+1) _ vb c (by omega) hlt a1 (by simp only[da,hb,aJ,if_false];exact a0) Z λ v' a2 G a4 J=>?_⟩
   exact hR v' a2 G a4 λ b o y C e=>J b o y C (B b o y e)
theorem aT9 (W:Walks prog w A.in1 I fp wr n P St)(bt:Nat->Nat->Bool)(Z:CmpOf prog w A.in1 .Lt P bt)(S:Addr)(C:S ∉ fp){s:af}{c:Nat}{d:Value}(Y:St 0 s.heap)
  (hS:s.heap.get? S=some { cls:=.type "list",dict:=none,data:=.seq #[] c,slots:=#[] })
  (h0:n=0->∀ h' tk,(∀ b o,b ∉ wr->b≠S->s.heap.get? b=some o->h'.get? b=some o)->R (.ok (.ret d)) { s with heap:=h',toks:=tk })
  (hR:0<n->∀ v h' tk,P (da bt (n - 1)) v->(∀ b o,b ∉ wr->b≠S->s.heap.get? b=some o->h'.get? b=some o)->R (.ok (.ret v)) { s with heap:=h',toks:=tk }) :
  fh (model prog w) A (.builtin "min.loop" ⟨[.ref I,.none,.ref S],[(cH "default",d)]⟩) R s:=by
 have a6:S ∉ wr:=λ h=>C (W.sub _ h)
 have G:(toString "min"++toString ".loop":String) = "min.loop":=by decide
 refine gA fS ?_
 rw[d7 cx _]
 show wpAny _ A.in1 (g6 (.ref S) >>= _) _ _ s
 refine ag (bO hS rfl ?_)
 show wpAny _ A.in1 (tryCatch (gN (.ref I)) _ >>= _) _ _ s
 rcases Nat.eq_zero_or_pos n with hn|hn
 ·refine ag (dH (W.done s _ _ (hn▸Y) λ h' tk y=>?_))
  show wpAny _ A.in1 (rule _ >>= _) _ _ _
  refine ag (gi (aK ?_))
  exact h0 hn h' tk λ b o B _ e=>y b o B e
 ·refine ag (dH (W.item 0 s _ _ hn Y λ v h' tk hP a2 y=>?_))
  have a1:=y S _ a6 hS
  show wpAny _ A.in1 (updateSeq S (λ _=>#[v,v]) >>= _) _ _ _
  refine ag ?_
  refine gB a1 rfl ?_
  rw[G]
  refine aK ⟨fH cx _,ba3 W bt Z S C _ 0 _ v _ rfl hn (W.frame _ _ _ a2 λ b a5 o e=>?_) hP (cU _ a1 rfl) λ v' a4 J a7 a0=>?_⟩
  ·exact(bN _ _ (λ h:S=b=>C (by rw[h];exact a5))).trans e
  ·exact hR hn v' a4 J a7 λ b o B a3 e=>a0 b o B a3 ((bN _ _ (bS a3)).trans (y b o B e))
end
theorem bi2 (a d:Value):argsOk "min" ⟨[a],[(cH "default",d)]⟩:=by unfold argsOk;kernel_rfl
theorem jw (val : Nat -> Int) : ∀ k j, j <= k -> val (da (λ i j => decide (val i < val j)) k) <= val j
  | 0, j, h => by have : j = 0 := by omega
                  subst this; exact bH _
  | k + 1, j, h => by
    have ih := jw val k
    unfold da
    by_cases hb : val (k + 1) < val (da (λ i j => decide (val i < val j)) k)
    · rw[if_pos (by simpa using hb)]
      by_cases hj : j = k + 1
      · subst hj; exact bH _
      · have := ih j (by omega); omega
    · rw[if_neg (by simpa using hb)]
      by_cases hj : j = k + 1
      · subst hj; omega
      · exact ih j (by omega)
def bE9 (K:ac):V->V->Hp->VK->Prop:=λ x d H Q=>∃ a ns,x=.ref a/\SqL K H a (ns.map V.int)/\(ns=[]->Q d H)/\∀ m∈ns,(∀ y∈ns,m<=y)->Q (.int m) H
theorem aw4 {ns:List Int}{its:List Value}(r:Vals (ns.map V.int) its){i:Nat}{v:Value}(h:its[i]?=some v):∃ z t,ns[i]?=some z/\v=Value.int z t:=by
 have hl:=r.length
 rw[aG]at hl
 have y:i<its.length:=(ae.mp h).1
 obtain⟨u,e1,q⟩:=r.get (i:=i) (x:=.int ns[i]) (by rw[aF,ai (by omega)];rfl)
 rw[h]at e1;cases e1
 obtain⟨t,rfl⟩:=q
 exact⟨_,t,ai (by omega),rfl⟩
theorem bm5 {X:Cx}{B:List (Addr×Obj)}{σ:St}{H:Hp}{s:af}{x d:V}{u w':Value}{Q:VK}(hc:X.calm=true)(I:Inv X B σ H s)(rx:RelV x u)(rd:RelV d w')(h:bE9 X.K x d H Q) :
  wpAny (model X.prog X.w) X.A (call (.builtin "min") [u] [(cH "default",w')]) (EP X B σ Q) X.xe s:=by
 obtain⟨a,ns,rfl,hS,q0,qm⟩:=h
 cases rx
 obtain⟨its,rv,pl,hz⟩:=I.list hS
 have hl:=rv.length
 rw[aG]at hl
 have G:(toString "min"++toString ".loop":String) = "min.loop":=by decide
 refine kmb_tree F.kind_min F.plain_min F.entry_min (bi2 _ _) ?_
 show wpAny _ X.A.in1 (eM "min" ["key", "default"] 0 ⟨[],[(cH "default",w')]⟩ >>= _) _ _ s
 refine ag (wpAny_of_eq (show eM "min" ["key", "default"] 0 ⟨[],[(cH "default",w')]⟩=pure [none,some w']from rfl) ?_)
 refine ag (aK ?_)
 refine ag (cW pl.isList ?_)
 have Z:a<s.heap.objs.size:=by obtain⟨o,_,e,_⟩:=pl;exact aA e
 have W:=jO (prog:=X.prog) (w:=X.w) (A:=X.A.in1) (I.ok.hd hc) s.heap.objs.size a (av Z) its.toArray
 refine ag (cg ?_)
 generalize J:s.heap.push _=h2
 have C:h2.objs.size=s.heap.objs.size+1:=by rw[<-J,bC]
 have hk2:∀ b o,s.heap.get? b=some o->h2.get? b=some o:=λ b o e=>by rw[<-J];exact ab _ e
 have a1:h2.objs.size ∉ [s.heap.objs.size,a]:=by
  rw[C]
  intro z
  rcases au.mp z with z|z
  ·exact absurd z (Nat.succ_ne_self _)
  ·have z':s.heap.objs.size+1=a:=by simpa using z
   exact absurd (ak Z (by rw[<-z'];exact c8 _)) (bq _)
 have a0:(h2.push { cls:=.type "list",data:=.seq ([]:List Value).toArray }).IsListIter s.heap.objs.size a 0/\(h2.push { cls:=.type "list",data:=.seq ([]:List Value).toArray }).IsList a its.toArray:=by
  refine⟨⟨_,ab _ (by rw[<-J];exact aD _ rfl),rfl,rfl⟩,?_⟩
  obtain⟨o,e,r⟩:=pl.isList
  exact⟨o,ab _ (hk2 _ _ e),r⟩
 let val:Nat->Int:=λ i=>ns.getD i 0
 have Y:∀ i v,its.toArray[i]?=some v->∃ t,v=Value.int (val i) t:=λ i v e=>by
  obtain⟨z,t,e1,e2⟩:=aw4 rv (i:=i) (v:=v) (by rw[cD]at e;exact e)
  refine⟨t,?_⟩
  rw[e2]
  show Value.int z t=Value.int (ns.getD i 0) t
  rw[aS,e1]
  rfl
 rw[G]
 have nx:∀(h':Heap) (tk:Nat),(∀ b o,b ∉ [s.heap.objs.size]->b≠h2.objs.size->(h2.push { cls:=.type "list",data:=.seq ([]:List Value).toArray }).get? b=some o->h'.get? b=some o)->Inv X B σ H { s with heap:=h',toks:=tk }:=λ h' tk k=>I.kept λ b o e=>by
  refine k b o ?_ ?_ (ab _ (hk2 b o e))
  ·intro z
   have z':b=s.heap.objs.size:=by simpa using z
   exact absurd (aA e) (by rw[z'];exact bq _)
  ·intro z
   exact absurd (aA e) (by rw[z,C];exact Nat.not_lt.mpr (c8 _))
 refine aK ⟨fH cx _,aT9 (d:=w') W _ (j3 val Y) h2.objs.size a1 a0 (aD _ rfl) (λ hn h' tk k=>?_) λ hn v h' tk hP k=>?_⟩
 ·have e:ns=[]:=by
   have:its.toArray.size=0:=hn
   have:its.length=0:=by simpa using this
   exact dC.mp (by omega)
  exact⟨d,H,nx h' tk k,rd,q0 e⟩
 ·obtain⟨z,t,e1,e2⟩:=aw4 rv (i:=da (λ i j=>decide (val i<val j)) (its.toArray.size - 1)) (v:=v) (by rw[cD]at hP;exact hP)
  subst e2
  have hv:val (da (λ i j=>decide (val i<val j)) (its.toArray.size - 1))=z:=by
   show ns.getD _ 0=z
   rw[aS,e1]
   rfl
  refine⟨.int z,H,nx h' tk k,⟨t,rfl⟩,qm z (aW e1) λ y hy=>?_⟩
  obtain⟨j,hj,e3⟩:=cI.mp hy
  have:=jw val (its.toArray.size - 1) j (by simp only[aB];omega)
  rw[hv]at this
  have e4:val j=y:=by
   show ns.getD j 0=y
   rw[aS,ai hj]
   exact e3
  omega
def ch8 (K:ac)(ta td:TE):TE:=λ σ H Q=>ta σ H λ x H1=>td σ H1 λ d H2=>bE9 K x d H2 Q
theorem bC5 {X:Cx}{K:ac}{e J:Expr}{C G:TE}{p pos kp:Pos}(hK:X.K=K)(hc:X.calm=true)(hg:Gl X "min")(Z:X.mg "min"=none)(ha:PE X e C)(hd:PE X J G)
  (hs:bf [e] X.env=[(false,eval e X.env)]:=by rfl) :
  PE X (.Call (.Name "min" p) [e] [⟨some "default",J,kp⟩] pos) (ch8 K C G):=by
 subst hK
 intro y s σ H Q I h
 refine b8 (as9 I hg Z bH5 ?_)
 have h':ap7 C bj0 σ H (λ vs B=>match vs with|[x]=>G σ B λ d H2=>bE9 X.K x d H2 Q|_=>False):=h
 refine callWith_kw (env:=X.env) (thn ((qf ha ag4 hs) pos y s σ H _ I h') λ us s1 ⟨vs,B,I1,r1,q1⟩=>?_) (by rw[hs];rfl) (by rw[hs];rfl)
 match vs,q1,r1 with
 | [x],q1,r1 =>
  obtain⟨u,rfl,Y⟩:=am1 r1
  refine kws_cons (thn (hd y s1 σ B _ I1 q1) λ v s2 ⟨d,H2,I2,rd,q2⟩=>kws_nil ?_)
  exact bm5 hc I2 Y rd q2
inductive D where
 | non|bl (b:Bool)|int (i:Int)|str (x:Str)|tup (l:List D)|lst (l:List D)
mutual
noncomputable def D.deep:D->Nat
 | .tup l=>D.deepL l+1
 | .lst l=>D.deepL l+1
 | _=>0
noncomputable def D.deepL:List D->Nat
 | []=>0
 | d::l=>max (D.deep d) (D.deepL l)
end
section
variable {X:Cx}
end
section
variable {X:Cx}
def ci2 (K:ac):R2:=λ x y H Q=>∃ a b xs ys,x=.ref a/\y=.ref b/\SqT K H a xs/\SqT K H b ys/\xs.length+ys.length<=aN/\∀ p H',ah3 H H'->SqT K H' p (xs++ys)->Q (.ref p) H'
theorem bA8 {prog:aL}{w:World}{A:aV}{E:Value->af->Prop}{s:af}{t b:Addr}{ws:List Value}{Q:Value->af->Prop}(ht:IsTup s.heap t ([]:List Value).toArray)(hb:IsTup s.heap b ws.toArray)(Z:Q (.ref b) s) :
  wpAny (model prog w) A (bZ .Add (.ref t) (.ref b)) Q E s:=by
 obtain⟨⟨cls,dd,data,sl⟩,ho,hc,n,hd⟩:=id ht
 obtain⟨⟨Y,J,G,C⟩,B,h,n2,y⟩:=id hb
 simp only at hc hd h y
 subst hc hd h y
 exact iK ⟨_,ho,rfl⟩ ⟨_,B,rfl⟩ fO ii dE dz (di _ _)
   (tuple_addW0 t b _ ws.toArray n n2 dd J sl C rfl) ⟨ho,B,Z⟩
theorem bG3 {K:ac}(hK:X.K=K):OpR X (bZ .Add) (ci2 K):=by
 subst hK
 intro B s σ H x y v u Q I Y C h
 obtain⟨a,b,G,ys,e1,e2,ha,hb,hz,q⟩:=h
 by_cases hx:G=[]
 ·subst e1;subst e2;subst hx
  cases Y;cases C
  obtain⟨its,r1,p1,_⟩:=I.tuple ha
  obtain⟨J,r2,p2,_⟩:=I.tuple hb
  obtain rfl:its=[]:=r1.nil_iff.mpr rfl
  exact bA8 p1 p2 ⟨.ref b,H,I,rfl,q b H (ah3.refl H) hb⟩
 ·refine bK3 B s σ H x y v u Q I Y C ⟨a,b,G,ys,e1,e2,ha,hb,hx,hz,λ z=>?_,λ z p Z=>?_⟩
  ·subst z
   exact q a H (ah3.refl H) (by rw[br];exact ha)
  ·exact q p _ ((ah3.refl H).new Z) (SqT.of zr)
end
noncomputable def Its (x:Str):It:=⟨λ i _=>i<x.cps.size,λ i H v H'=>H'=H/\∃ c,x.cps[i]?=some c/\v=.str ⟨#[c]⟩,λ i _=>x.cps.size<=i⟩
theorem aP3 {P:aL}{w:World}{K:ac}{tg:Expr}{G:String}{x:Str}{t:Tok}(y:Addr)(hn:["enumerate", "zip", "dict_itemiterator", "dict_reverseitemiterator", "odict_iterator", "itertools.zip_longest", "itertools.pairwise"].contains G=false)
  (W:∀ A:aV,A.handled=none->Walks P w A y [y] [y] x.cps.size (SignAt x) (λ i h=>h.IsStrIter y G x t i))
  (Y:∀(A:aV) (s:af) (i:Nat) (Q:Option Value->af->Prop) (E:Value->af->Prop),A.handled=none->s.heap.IsStrIter y G x t i->x.cps[i]?=none->(∀ h',fu y s.heap h'->Q none { s with heap:=h' })->wpAny (model P w) A (gN (.ref y)) Q E s)
  (C:∀(A:aV) (i:Nat) (s:af) (Q:Value->af->Prop) (E:Value->af->Prop),s.heap.IsStrIter y G x t i->Q (.ref y) s->wpAny (model P w) A (iT (.ref y)) Q E s):Turn P w K tg (Its x) [y] y (λ i h=>h.IsStrIter y G x t i) where
 mem:=by simp
 obj:=λ i h st b hb=>by
  have e:b=y:=by simpa using hb
  subst e
  obtain⟨o,ho,hc,hd⟩:=st
  exact⟨o,ho,λ v z=>by rw[hd]at z;cases z⟩
 keep:=λ i h h' st k=>by
  obtain⟨o,ho,r⟩:=st
  exact⟨o,k y (by simp) _ ho,r⟩
 item:=by
  intro X hP hw hK hc i B s σ H E I Z st hg
  subst hP hw hK
  obtain⟨f0,f1,f2,f3,f4,f5⟩:=Z y (by simp)
  refine(W X.A (I.ok.hd hc)).item i s _ _ hg st λ v h' tk hv J kk=>?_
  obtain⟨c,u,a0,rfl⟩:=hv
  have I1:Inv X B σ H { s with heap:=h',toks:=tk }:=I.turned (λ b o hb e=>kk b o (by simpa using hb) e) f0 f1 f3 f4 f5
  obtain⟨o,ho,a1,hd⟩:=id J
  exact⟨_,rfl,bq4 (s:={ s with heap:=h',toks:=tk }) (n:=G) ho a1 hd hn ⟨.str ⟨#[c]⟩,H,I1,⟨u,rfl⟩,⟨rfl,c,a0,rfl⟩,J,λ b hb=>(Z b hb).1⟩⟩
 done:=by
  intro X hP hw hK hc i B s σ H E I Z st hg
  subst hP hw hK
  obtain⟨f0,f1,f2,f3,f4,f5⟩:=Z y (by simp)
  have a2:x.cps.size<=i:=hg
  exact Y X.A s i _ E (I.ok.hd hc) st (by simp;omega) λ h' eb=>⟨rfl,I.turned (t':=s.toks) (λ b o hb e=>eb b o hb e) f0 f1 f3 f4 f5⟩
 self:=λ A i s Q E st h=>C A i s Q E st h
def cl8 (tl:TE):TI:=λ σ H R=>tl σ H λ v H1=>∃ x,v=.str x/\R (Its x) H1
theorem bR9 {X:Cx}{tg l:Expr}{J:TE}(hl:PE X l J):PI X tg l (cl8 J):=by
 intro y s σ H R I h
 refine thn (hl y s σ H _ I h) λ v s1 ⟨v0,Y,C,r1,q1⟩=>?_
 obtain⟨x,e,q⟩:=q1
 subst e
 obtain⟨t,rfl⟩:=r1
 have fin:∀(B:String) (o:Obj),o={ cls:=.type B,data:=.fields #[.str x t,.int 0 0] }->Turn X.prog X.w X.K tg (Its x) [s1.heap.objs.size] s1.heap.objs.size (λ i h=>h.IsStrIter s1.heap.objs.size B x t i)->PIE X y σ tg R (.ref s1.heap.objs.size) { s1 with heap:=s1.heap.push o }:=λ B o Z T=>by
  subst Z
  refine⟨s1.heap.objs.size,[s1.heap.objs.size],_,_,Y,rfl,C.kept (t':=s1.toks) λ b o e=>ab _ e,T,⟨_,aD _ rfl,rfl,rfl⟩,λ b hb=>?_,q⟩
  have e:b=s1.heap.objs.size:=by simpa using hb
  subst e
  exact C.fpOk (aj _) (C.hok.fresh (aj _))
 cases ha:x.cps.all (·<128)
 ·exact wpAny_pyIter_wide ha (fin "str_iterator" _ rfl (aP3 _ (by decide) (λ A hA=>Walks.strWide hA _ x t) (λ A s i Q E hA st hx G=>wpAny_pyNext_wide_end hA st hx G) λ A i s Q E st h=>wpAny_pyIter_striter_wide st h))
 ·exact wpAny_pyIter_ascii ha (fin "str_ascii_iterator" _ rfl (aP3 _ (by decide) (λ A hA=>Walks.strAscii hA _ x t) (λ A s i Q E hA st hx G=>wpAny_pyNext_ascii_end hA st hx G) λ A i s Q E st h=>wpAny_pyIter_striter_ascii st h))
section
variable {X:Cx} {K:ac} {T id:String} {name:Str} {o e:Expr} {es:List Expr} {to:TE} {t:TA} {r:V->List V->Hp->VK->Prop} {apos cpos:Pos}
theorem ca0 (Y:X.K=K)(Z:jL T)(slot:Slot T name id)(G:typeOf (.builtin id)=pure (.type "method_descriptor"))(J:MtR X id r)(ho:PE X o to)(ha:PA X (e::es) t)
  (B:fF o name X.env (eval o X.env)=eval o X.env:=by rfl)
  (C:((dD cpos (bf (e::es) X.env)).all (λ x=>!x.1)&&(backToKw cpos (keywordEach [] X.env)).all (λ x=>x.1.isSome)
   && decide ((e::es).length+([]:List jG).length+(if([]:List jG).isEmpty then 0 else 1)<30))=true:=by rfl)
  (y:(apos.endLine==cpos.line)=true:=by rfl) (hs:bf (e::es) X.env=(false,eval e X.env)::bf es X.env:=by rfl) (h:(dD cpos (bf es X.env)).any (·.1)=false:=by rfl) :
  PE X (.Call (.Attribute o name apos) (e::es) [] cpos) (tBM K T r to t):=by
 subst Y
 exact cf4 Z slot G J ho ha B C y hs h
end
structure Mach where
 letters:Int
 rooms:Int
 begins:List Int
 ends:List Int
 doors:List (Int×Str×Int×Int)
noncomputable def cc9 (q:Int×Str×Int×Int):D:=.tup [.int q.1,.str q.2.1,.int q.2.2.1,.int q.2.2.2]
noncomputable def Mach.D (M:Mach):D:=.tup [.int M.letters,.int M.rooms,.tup (M.begins.map .int),.tup (M.ends.map .int),.tup (M.doors.map cc9)]
noncomputable def ltr (i:Nat):Str:=⟨#[97+i]⟩
structure DoorOk (letters rooms:Int)(q:Int×Str×Int×Int):Prop where
 s0:0<=q.1
 s1:q.1<rooms
 l:∃ i:Nat,(i:Int)<letters/\q.2.1=ltr i
 g0:0<=q.2.2.1
 g1:q.2.2.1<rooms
 t0:0<=q.2.2.2
 t1:q.2.2.2<=3
structure RoomsOk (rooms:Int)(l:List Int):Prop where
 mem:∀ r∈l,0<=r/\r<rooms
 up:l.Pairwise (· < ·)
structure Mach.Ok (most:Nat)(M:Mach):Prop where
 l0:1<=M.letters
 l1:M.letters<=3
 r0:1<=M.rooms
 r1:M.rooms<=5
 b:RoomsOk M.rooms M.begins
 e:RoomsOk M.rooms M.ends
 d:∀ q∈M.doors,DoorOk M.letters M.rooms q
 m:M.doors.length<=most
mutual
noncomputable def D.tups:D->Bool
 | .lst _=>false
 | .tup l=>D.tupsL l
 | _=>true
noncomputable def D.tupsL:List D->Bool
 | []=>true
 | d::l=>D.tups d&&D.tupsL l
end
end L2
end
noncomputable section
namespace L2
end L2
end
noncomputable section
namespace L2
open PySem PySem.Spec PyProof.Rows
noncomputable def co6:Option Int->D
 | none=>.non
 | some i=>.int i
noncomputable def addO:Option Int->Option Int->Option Int
 | some a,some b=>some (a+b)
 | _,_=>none
noncomputable def minO:List Int->Option Int
 | []=>none
 | a::l=>some (match minO l with|none=>a|some b=>if b<a then b else a)
theorem al6:∀ {l:List Int},minO l=none↔l=[]
 | []=>by simp[minO]
 | a::l=>by simp[minO]
theorem aD7:∀ {l:List Int} {m:Int},minO l=some m->m∈l/\∀ y∈l,m<=y
 | [],m,h=>by cases h
 | a::l,m,h=>by
  unfold minO at h
  have h':=ar h
  cases e:minO l with
  | none =>
   rw[e]at h'
   have:l=[]:=al6.mp e
   subst this
   have:a=m:=h'
   subst this
   exact⟨aC,λ y hy=>by(have h0:y=a:=(by simpa using hy));omega⟩
  | some b =>
   rw[e]at h'
   obtain⟨G,C⟩:=aD7 e
   have B:(if b<a then b else a)=m:=h'
   split at B
   ·subst B
    exact⟨aw _ G,λ y hy=>by
     rcases au.mp hy with z|z
     ·omega
     ·exact C y z⟩
   ·subst B
    exact⟨aC,λ y hy=>by
     rcases au.mp hy with z|z
     ·omega
     ·have:=C y z;omega⟩
theorem aT7 {X:Cx}{Y tg iter:Expr}{Z:List Expr}{scope:Scope}{pos a0 py:Pos}{y:Str}{i:Nat}{wi:TI}{g:TG}{tc:TT}{te:TE}(N':List Str)(src:List (Option Nat))
  (hN:X.N.Nodup) (a8:X.N[i]?=some y) (a3:X.env.scope.names.lookup y=some .local)
  (b2:qr N' src scope X.N X.env.scope=true) (hi:PI X tg iter wi) (a2:X.calm=true)
  (b5:∀(C:Addr) (cells:List (Str×Addr)) (s:af) (H:Hp) (ex:List Addr),PG (z0 X N' scope C cells s H ex) tg g/\PIf (z0 X N' scope C cells s H ex) Z tc/\PE (z0 X N' scope C cells s H ex) Y te)
  (hs:∀ x,cY iter X.env x=pure x:=by intro _;rfl)
  (b0:eQ (.ListComp Y [⟨tg,iter,Z,0⟩] scope pos) (some (.Name y py)) a0.line X.env=pure true:=by rfl) :
  PS X (.Assign [.Name y py] (.ListComp Y [⟨tg,iter,Z,0⟩] scope pos) a0) (bm4 (tComp src wi g tc te) (aF3 i)):=by
 intro B s σ H D0 I h
 have ck:=bv7 b2
 rw[exec_Assign_Name_used _ _ _ _ b0]
 refine ag (ie (ag ?_))
 show wpAny _ X.A (do let _ <- comprehension (.ListComp Y [⟨tg,iter,Z,0⟩] scope pos) scope X.env _ (newList []) false (eval iter X.env) (some (fX (.Name y py) X.env))) _ _ s
 have a9:=qD (scope:=scope) (env:=X.env) λ y hy e=>I.ok.has y.1 (ck.fr y hy e)
 refine ag (cq (fG (use:=some (fX (.Name y py) X.env)) (Q:=λ _ s'=>SP X B D0 .next s') rfl hs a9 ck.kind ck.loc (thn (hi B s σ H _ I h) λ v s1 h1=>thn h1 λ c0 s2 h2=>?_)) (λ _ s' hq=>aK (aK hq)) λ _ _ e=>e)
 obtain⟨it,G,tn,J,H2,e,I2,T,a5,f2,W⟩:=h2
 subst e
 have hD:=I2.fresh
 obtain⟨W,⟨m0,w0⟩,turn⟩:=W _ hD
 have I3:=I2.lnew (its:=[]) (ys:=[]) (t':=s2.toks) .nil (dA _)
 have a6:∀ b∈G,b<s2.heap.objs.size:=λ b hb=>by obtain⟨o,q,_⟩:=T.obj _ _ a5 b hb;exact aA q
 have f3:∀ b∈G,FpOk X B (upd H2 s2.heap.objs.size (.lst [])) b:=λ b hb=>⟨by rw[zm (av (a6 b hb))];exact(f2 b hb).1,(f2 b hb).2⟩
 refine cg (ah5 ?_)
 generalize a1:({ s2 with heap:=s2.heap.push { cls:=.type "list",data:=.seq ([]:List Value).toArray },toks:=s2.toks }:af)=s3 at I3
 have b6:({ s2 with heap:=s2.heap.push { cls:=.type "list",data:=.seq ([]:List Value).toArray } }:af)=s3:=a1
 have b1:∀ b∈G,b<s3.heap.objs.size:=λ b hb=>by
  rw[<-a1]
  show b<(s2.heap.push _).objs.size
  rw[bC]
  exact fq (a6 b hb)
 have I4:=as7 (s4:={ s3 with heap:=dS (s3.heap.push { cls:=.type "dict",data:=.dict #[] }) scope.names }) ck I3 f3 b1 ⟨_,rfl⟩
 have a4:tn 0 (dS (s3.heap.push { cls:=.type "dict",data:=.dict #[] }) scope.names):=T.keep _ _ _ a5 λ b hb o e=>cR _ _ b o (ab _ (by rw[<-a1];exact ab _ e))
 obtain⟨hg,hif,he⟩:=b5 s3.heap.objs.size (aM (s3.heap.objs.size+1) scope.names (af6 X.env.cells scope.names [])) s3 (upd H2 s2.heap.objs.size (.lst [])) G
 have a7:∀ H':Hp,(∀ b∈G,H' b=none)->∀ b∈G,FpOk (z0 X N' scope s3.heap.objs.size (aM (s3.heap.objs.size+1) scope.names (af6 X.env.cells scope.names [])) s3 (upd H2 s2.heap.objs.size (.lst [])) G) [] H' b:=λ H' hn b hb =>
  ⟨hn b hb,(I4.ok.exf b hb).1,I4.ok.exfs b hb,.inl hb,λ x c e=>(I4.ok.exf b hb).2 x c e,λ p hp=>absurd (show p∈([]:List (Addr×Obj))from hp) (by simp)⟩
 have T':Turn X.prog X.w X.K tg J G it tn:=T
 have b3:∀ b∈G,upd H2 s2.heap.objs.size (.lst []) b=none:=λ b hb=>(f3 b hb).1
 have L:=az6 (X':=z0 X N' scope s3.heap.objs.size (aM (s3.heap.objs.size+1) scope.names (af6 X.env.cells scope.names [])) s3 (upd H2 s2.heap.objs.size (.lst [])) G) (R:=compPost (model X.prog X.w) X.A X.xe (some (fX (.Name y py) X.env)) (λ _ s'=>SP X B D0 .next s') (Value.ref s2.heap.objs.size) s3.heap.objs.size) (iter:=iter) (scope:=scope) (pos:=pos) (QD:=λ H'=>D0.nx (σ.set i (some (.ref s2.heap.objs.size))) H') rfl a2 I4 T' a4 a7 b3 w0 turn hg hif he
  (λ σ' H' s' J' q=>by
   have J2:=aN8 I3 f3 J' (Heap.SameBut.refl _ _)
   obtain⟨mm,hn,_⟩:=J'.loc
   have nL:s3.heap.objs.size≠X.env.locals:=bM I3.lt
   have nC:∀ x c,X.env.cells.lookup x=some c->c≠s3.heap.objs.size:=λ x c e=>by
    obtain⟨v,z⟩:=I3.cell x c e
    exact av z.lt
   show wpAny _ X.A (fX (.Name y py) X.env (.ref s2.heap.objs.size)) _ _ _
   refine iH (aC2 (v:=.ref s2.heap.objs.size) J2 hN a8 (.inl a3) rfl (λ s5 I5 sb=>?_) (.inr a3))
   obtain⟨aa,sb,ha⟩:=sb
   have na:s3.heap.objs.size≠aa:=by
    rcases ha with z|z
    ·rw[z];exact nL
    ·exact λ e=>nC _ _ z e.symm
   refine⟨mm,hn.sameBut sb na,λ h' b4=>⟨_,H',I5.turned (t':=s5.toks) (λ b o hb e=>(b4.2 b hb).trans e) J'.free nL (.inr I3.sz) nC λ p hp z=>?_,q⟩⟩
   exact absurd (aA (I3.pin p hp).1) (by rw[z];exact bq _))
 exact gh L (T.self _ _ _ _ _ a4 L)
section
variable {M:Model} {A:aV} {E:Value->af->Prop} {s₀ s:af} {m cm:Str->Option Value} {env:Env} {cs:List (Str×Addr)}
theorem bB4 {n:Str}{v:Value}{Q:Unit->af->Prop}(z:fi s₀ env.locals m cs cm s)(B:env.scope.kind=.function)(kl:env.kindOf n=some .local)
  (go:∀ s',fi s₀ env.locals (λ y=>if y=n then some v else m y) cs cm s'->Q () s'):wpAny M A (eP env n v) Q E s:=by
 refine gF kl z.toInCall.ns (λ g C h=>go _ ⟨⟨?a,C,λ b o e=>?b,z.toInCall.fresh⟩,λ k c e=>?c,z.apart,z.above⟩) (by rw[B];rfl)
 case a=>obtain⟨G,tk,e⟩:=z.toInCall.same;subst e;exact⟨g,_,rfl⟩
 case b=>exact h.extBut b o (av (ak (aA e) z.toInCall.fresh)) (z.toInCall.keep b o e)
 case c=>exact(z.cell k c e).sameBut h (bM (z.above k c (az e)))
theorem bz2 {n:Str}{c:Addr}{v:Value}{Q:Unit->af->Prop}(z:fi s₀ env.locals m cs cm s)(B:env.scope.kind=.function)(J:env.kindOf n=some .cell)
  (e1:env.cells.lookup n=some c) (e2:cs.lookup n=some c) (go:∀ s',fi s₀ env.locals m cs (λ y=>if y=n then some v else cm y) s'->Q () s'):wpAny M A (eP env n v) Q E s:=by
 have up:=z.above n c (az e2)
 refine gK B J e1 (z.cell n c e2) λ g G h=>go _ ⟨⟨?a,z.toInCall.ns.sameBut h (av up),λ b o e=>?b,z.toInCall.fresh⟩,λ k C e=>?c,z.apart,z.above⟩
 case a=>obtain⟨Y,tk,e⟩:=z.toInCall.same;subst e;exact⟨g,_,rfl⟩
 case b=>exact h.extBut b o (av (dI (ak (aA e) z.toInCall.fresh) up)) (z.toInCall.keep b o e)
 case c =>
  by_cases q:k=n
  ·subst q
   rw[e2]at e;cases e
   simpa using G
  ·rw[if_neg q]
   exact(z.cell k C e).sameBut h λ y=>q (fZ z.apart (az e) (y▸az e2))
theorem aG2 (f:Str×Value->PUnit->Sem (ForInStep PUnit))(Y:∀ n v u,f (n,v) u=(do eP env n v;pure (.yield ⟨⟩)))(C:env.scope.kind=.function)(sub:∀ n c,cs.lookup n=some c->env.cells.lookup n=some c) :
  ∀(bs:List (Str×Value)) (m G:Str->Option Value) (s:af) (Q:PUnit->af->Prop),fi s₀ env.locals m cs G s ->
   (∀ y∈bs,env.kindOf y.1=some .local\/(env.kindOf y.1=some .cell/\∃ c,cs.lookup y.1=some c)) ->
   (∀ s',fi s₀ env.locals (bindL env.kindOf bs m) cs (bindC env.kindOf bs G) s'->Q ⟨⟩ s')->wpAny M A (forIn bs ⟨⟩ f) Q E s
 | [],m,G,s,Q,z,_,go=>by rw[dG];exact aK (go s z)
 | (n,v)::r,m,G,s,Q,z,hy,go=>by
  rw[eD,Y]
  have hr:=λ y (q:y∈r)=>hy y (aw _ q)
  rcases hy (n,v) aC with kl|⟨kc,c,e2⟩
  ·refine ag (ag (bB4 z C kl λ s' J=>aK (aG2 f Y C sub r _ _ s' Q J hr λ h B=>go h ?_)))
   unfold bindL bindC;rw[if_pos kl,if_pos kl];exact B
  ·have Z:¬ env.kindOf n=some .local:=by rw[kc];decide
   refine ag (ag (bz2 z C kc (sub n c e2) e2 λ s' J=>aK (aG2 f Y C sub r _ _ s' Q J hr λ h B=>go h ?_)))
   unfold bindL bindC;rw[if_neg Z,if_neg Z];exact B
end
theorem at4 {M:Model}{A:aV}{E:Value->af->Prop}{s:af}{scope:Scope}{globals:Addr}{h:List (Str×Addr)}{binds:List (Str×Value)}{qual:Str}{func:Option Addr}{code:Value}{builtins:Addr}{Q:Env->af->Prop}
  (C:scope.kind=.function) (hy:∀ y∈binds,scope.names.lookup y.1=some .local\/(scope.names.lookup y.1=some .cell/\∃ c,(aM (s.heap.objs.size+1) scope.names []).lookup y.1=some c))
  (go:∀ env,env=newEnv scope s.heap.objs.size globals (aM (s.heap.objs.size+1) scope.names h) qual func code none builtins ->
   ∀ s',fi s env.locals (bindL env.kindOf binds λ _=>none) (aM (s.heap.objs.size+1) scope.names []) (bindC env.kindOf binds λ _=>none) s'->Q env s') :
  wpAny M A (eV scope globals h binds qual func code none builtins) Q E s:=by
 simp only[eV,iz,aJ,if_false]
 refine ag (wpAny_alloc (ag (wpAny_layCells _ (λ Y kd J=>by cases q:kd==NameKind.cell<;>simp[q]) _ _ _ _ ?_)))
 have ok:=cellsFrom_ok scope.names (s.heap.push { cls:=.type "frame",data:=.dict #[] }) (s.heap.objs.size+1) [] ⟨λ _ _ G=>(nomatch G),List.Pairwise.nil⟩ (by rw[bC];exact aj _)
 have B:({ s with heap:=s.heap.push { cls:=.type "frame",data:=.dict #[] } }:af).heap.objs.size=s.heap.objs.size+1:=bC ..
 rw[bC]at ok
 rw[B]
 refine ag (aG2 (s₀:=s) (cs:=aM (s.heap.objs.size+1) scope.names []) (env:=newEnv scope s.heap.objs.size globals (aM (s.heap.objs.size+1) scope.names h) qual func code none builtins)
  _ (λ _ _ _=>rfl) C (λ n c e=>?sub) binds (λ _=>none) (λ _=>none) _ _ ⟨⟨⟨_,_,rfl⟩,?ns,λ b o e=>?k,aj _⟩,λ n c e=>(ok.empty n c (az e)).1,ok.apart,λ n c e=>(ok.empty n c e).2⟩ hy λ s' x=>aK (go _ rfl s' x))
 case sub =>
  show(aM _ _ _).lookup n=some c
  rw[zw,zV,e];rfl
 case ns=>exact(kr s.heap (.type "frame")).keeps (cR _ _)
 case k=>exact cR _ _ b o (ab _ e)
noncomputable def qH (c:Addr)(qual:Str):HO:=.ext λ h=>h.CodeRec (.ref c) qual
noncomputable def av9 (f:Addr)(fd:bE):HO:=.ext λ h=>h.get? f=some { cls:=.type "function",data:=.func fd }
theorem aO5 {P:aL}{w:World}{H:Hp}{h:Heap}{c:Addr}{q:Str}(r:h.CodeRec (.ref c) q):ae4 P w H h c (qH c q):=by
 refine⟨r,?_,λ B C z k=>?_⟩
 ·obtain⟨y,o,vs,t,e,g,_⟩:=r
  cases e
  exact⟨o,g⟩
 ·obtain⟨y,o,vs,t,e,g,d⟩:=z
  cases e
  exact⟨c,o,vs,t,rfl,k o g,d⟩
theorem aE0 {P:aL}{w:World}{H:Hp}{h:Heap}{c:Addr}{q:Str}(x:HOk P w H h)(e:H c=some (qH c q)):h.CodeRec (.ref c) q:=(x c _ e).1
theorem av2 {P:aL}{w:World}{H:Hp}{h:Heap}{f:Addr}{y:bE}(r:h.get? f=some { cls:=.type "function",data:=.func y }):ae4 P w H h f (av9 f y) :=
 ⟨r,⟨_,r⟩,λ _ _ z k=>k _ z⟩
theorem ax8 {P:aL}{w:World}{H:Hp}{h:Heap}{f:Addr}{y:bE}(x:HOk P w H h)(e:H f=some (av9 f y)):h.get? f=some { cls:=.type "function",data:=.func y }:=(x f _ e).1
noncomputable def isC (cells:List (Str×Addr))(b:Addr):Bool:=cells.any λ p=>cells.lookup p.1==some b
theorem ag3 {cells:List (Str×Addr)}{b:Addr}:isC cells b=true↔∃ x,cells.lookup x=some b:=by
 unfold isC
 rw[iV]
 constructor
 ·rintro⟨p,_,e⟩;exact⟨p.1,by simpa using e⟩
 ·rintro⟨x,e⟩;exact⟨(x,b),az e,by simpa using e⟩
noncomputable def ad7 (cells:List (Str×Addr))(H:Hp):Hp:=λ b=>if isC cells b=true then none else H b
noncomputable def Put (cells:List (Str×Addr))(H H':Hp):Hp:=λ b=>if isC cells b=true then H b else H' b
theorem ad7.cell {cells:List (Str×Addr)}{H:Hp}{b:Addr}(h:isC cells b=true):ad7 cells H b=none:=if_pos h
theorem ad7.ne {cells:List (Str×Addr)}{H:Hp}{b:Addr}(h:isC cells b≠true):ad7 cells H b=H b:=if_neg h
theorem ad7.some {cells:List (Str×Addr)}{H:Hp}{b:Addr}{o:HO}(h:ad7 cells H b=some o):isC cells b≠true/\H b=some o:=by
 unfold ad7 at h
 split at h
 ·cases h
 ·rename_i z;exact⟨z,h⟩
theorem ad7.none {cells:List (Str×Addr)}{H:Hp}{b:Addr}(h:H b=none):ad7 cells H b=none:=by
 unfold ad7
 split
 ·rfl
 ·exact h
theorem Put.cell {cells:List (Str×Addr)}{H H':Hp}{b:Addr}(h:isC cells b=true):Put cells H H' b=H b:=if_pos h
theorem Put.ne {cells:List (Str×Addr)}{H H':Hp}{b:Addr}(h:isC cells b≠true):Put cells H H' b=H' b:=if_neg h
def Cells (clos:List (Str×Addr))(H:Hp):Prop:=∀ x c,clos.lookup x=some c->∃ o v,H c=some (.frz o (.own c))/\o.data=.cell v
theorem Cells.at {y:List (Str×Addr)}{H:Hp}(z:Cells y H){b:Addr}(h:isC y b=true):∃ o v,H b=some (.frz o (.own b))/\o.data=.cell v:=by
 obtain⟨x,e⟩:=ag3.mp h
 exact z x b e
def Cap (clos:List (Str×Addr))(H:Hp)(fr:List Str)(cap:List V):Prop:=∀(i:Nat) (x:Str) (v:V),fr[i]?=some x->cap[i]?=some v->∃ c o u,clos.lookup x=some c/\H c=some (.frz o (.own c))/\o.data=.cell (some u)/\RelV v u
structure LamScope (N ps fr:List Str)(sc:Scope):Prop where
 kind:sc.kind=.function
 co:sc.isCoroutine=false
 gen:sc.isGenerator=false
 nd:N.Nodup
 app:N=ps++fr
 par:∀ x∈ps,sc.names.lookup x=some .local\/sc.names.lookup x=some .cell
 frs:∀ x∈fr,sc.names.lookup x=some .free
 cel:∀ y∈sc.names,y.2=.cell->sc.names.lookup y.1=some .cell
noncomputable def aG6 (P:aL)(w:World)(K:ac)(mg:Str->Option Value)(base:Heap)(N:List Str)(qual:Str)(scope:Scope)(f:Addr)(cd:Value)(clos:List (Str×Addr))(A:aV)(outer:List Env)(s:af)(H:Hp):Cx where
 prog:=P
 w:=w
 K:=K
 mg:=mg
 base:=base
 A:=A.deeper (cO qual scope s.heap.objs.size f cd (aM (s.heap.objs.size+1) scope.names clos))
 N:=N
 s₀:=s
 H₀:=ad7 clos H
 env:=cO qual scope s.heap.objs.size f cd (aM (s.heap.objs.size+1) scope.names clos)
 outer:=outer
 stack:=cO qual scope s.heap.objs.size f cd (aM (s.heap.objs.size+1) scope.names clos)::outer
 ex:=[]
 fn:=λ x=>scope.names.lookup x==some .cell
 calm:=true
 pn:=[]
 xe:=λ _ _=>False
theorem HOk.drop {P:aL}{w:World}{H:Hp}{h:Heap}{B:List (Str×Addr)}(x:HOk P w H h)(z:Cells B H):HOk P w (ad7 B H) h:=λ b o e=>by
 obtain⟨_,e'⟩:=ad7.some e
 have C:∀ c u,H c=some u->(∀ o v,u≠.frz o v)->isC B c≠true:=λ c u q d y=>by
  obtain⟨o,v,G,_⟩:=z.at y
  rw[q]at G;cases G
  exact d _ _ rfl
 exact(x b o e').stay (λ _ _ _ q=>q) (λ c q=>by rw[ad7.ne (C c _ q λ _ _=>by nofun)];exact q) λ c J q=>by rw[ad7.ne (C c _ q λ _ _=>by nofun)];exact q
theorem aX4 {P:aL}{w:World}{K:ac}{mg:Str->Option Value}{C:Heap}{N ps fr:List Str}{qual:Str}{scope:Scope}{f:Addr}{cd:Value}{h:List (Str×Addr)}{A:aV}{outer:List Env}{s s1:af}{H:Hp}{us:List Value}{vs cap:List V}
  (S:LamScope N ps fr scope) (hd:A.handled=none) (B:Env0 P w K mg C A outer s H) (hl:vs.length=ps.length) (a4:cap.length=fr.length) (r:Vals vs us)
  (hc:Cells h H) (inj:∀ x y c,h.lookup x=some c->h.lookup y=some c->x=y) (a3:∀ x,scope.names.lookup x=some .free->∃ c,h.lookup x=some c) (a0:Cap h H fr cap)
  (x:fi s s.heap.objs.size (bindL (cO qual scope s.heap.objs.size f cd (aM (s.heap.objs.size+1) scope.names h)).kindOf (ps.zip us) λ _=>none) (aM (s.heap.objs.size+1) scope.names [])
   (bindC (cO qual scope s.heap.objs.size f cd (aM (s.heap.objs.size+1) scope.names h)).kindOf (ps.zip us) λ _=>none) s1) :
  Inv (aG6 P w K mg C N qual scope f cd h A outer s H) [] (vs.map some++cap.map some) (ad7 h H) s1:=by
 obtain⟨h1,tk,rfl,hk⟩:=x.done
 have J:∀ b:Addr,b ∉ (aG6 P w K mg C N qual scope f cd h A outer s H).ex:=λ b z=>absurd (show b∈([]:List Addr)from z) (by simp)
 have lk:∀ y c,(aM (s.heap.objs.size+1) scope.names h).lookup y=some c->(aM (s.heap.objs.size+1) scope.names []).lookup y=some c\/((aM (s.heap.objs.size+1) scope.names []).lookup y=none/\h.lookup y=some c):=λ y c e=>by
  rw[zw,zV]at e
  cases q:(aM (s.heap.objs.size+1) scope.names []).lookup y with
  | some d=>rw[q]at e;left;simpa using e
  | none=>rw[q]at e;right;exact⟨rfl,by simpa using e⟩
 have own:∀ y c,(aM (s.heap.objs.size+1) scope.names []).lookup y=some c->s.heap.objs.size<c:=λ y c e=>x.above y c (az e)
 have a1:∀ y c,h.lookup y=some c->c<s.heap.objs.size:=λ y c e=>by
  obtain⟨o,v,q,_⟩:=hc y c e
  exact B.hok.lt q
 have hx:∀ y c,h.lookup y=some c->scope.names.lookup y=some .free->(aM (s.heap.objs.size+1) scope.names h).lookup y=some c:=λ y c e k=>by
  rw[zw,zV]
  cases q:(aM (s.heap.objs.size+1) scope.names []).lookup y with
  | none=>exact e
  | some d =>
   rcases zP (az q)with z|z
   ·rw[S.cel _ z rfl]at k;cases k
   ·exact absurd z (by simp)
 have dn:∀ b,H b=none->ad7 h H b=none:=λ b e=>ad7.none e
 refine⟨⟨B.mod,S.kind,rfl,rfl,aj _,λ y z c a b=>?inj,λ y hy=>?has,λ y c hy e=>?cab,λ _=>hd,gR B.frames,.inr ⟨rfl,rfl⟩,λ b z=>absurd z (J b),λ b o e=>⟨(B.bs b o e).1,dn b (B.bs b o e).2⟩,B.bsz,λ b _ _=>J b,λ b z=>absurd z (J b),B.funs,λ b hb=>dn b (B.frf b hb)⟩,
  rfl,B.bare,Un.kept hk,⟨_,x.toInCall.ns,λ i y v q1 q2 q3=>?loc⟩,λ y c e=>?cell,dn _ (B.hok.fresh (aj _)),λ y c e=>?freeC,λ p Z=>absurd (show p∈([]:List (Addr×Obj))from Z) (by simp),(B.hok.drop hc).kept hk,?len⟩
 case inj =>
  rcases lk y c a with a|⟨_,a⟩<;>rcases lk z c b with b|⟨_,b⟩
  ·exact fZ x.apart (az a) (az b)
  ·exact absurd (dI (own _ _ a) (a1 _ _ b)) (bq _)
  ·exact absurd (dI (own _ _ b) (a1 _ _ a)) (bq _)
  ·exact inj y z c a b
 case has =>
  have hy:scope.names.lookup y=some .cell\/scope.names.lookup y=some .free:=hy
  rcases hy with hy|hy
  ·obtain⟨c,e⟩:=ql (n:=s.heap.objs.size+1) hy
   refine⟨c,?_⟩
   show(aM (s.heap.objs.size+1) scope.names h).lookup y=some c
   rw[zw,zV,e];rfl
  ·obtain⟨c,e⟩:=a3 y hy
   exact⟨c,hx y c e hy⟩
 case cab =>
  have hy:(scope.names.lookup y==some .cell)=true:=hy
  have a2:scope.names.lookup y=some .cell:=by simpa using hy
  rcases lk y c e with a|⟨a,_⟩
  ·exact c9 (own y c a)
  ·obtain⟨d,q⟩:=ql (n:=s.heap.objs.size+1) a2
   rw[q]at a;cases a
 case loc =>
  have Y:ps.Nodup:=by have:=S.nd;rw[S.app]at this;exact(List.nodup_append.mp this).1
  by_cases hi:i<vs.length
  ·have ha:vs[i]?=some v:=by
    rw[aI (by simpa using hi),aF]at q2
    cases e:vs[i]? with
    | none=>rw[e]at q2;cases q2
    | some a=>rw[e]at q2;cases q2;rfl
   obtain⟨u,hu,rv⟩:=r.get ha
   have Z:ps[i]?=some y:=by
    have G:N[i]?=some y:=q1
    rw[S.app,aI (by omega)]at G;exact G
   refine⟨u,rv,?_⟩
   rcases S.par y (aW Z)with k|k
   ·exact .inl ⟨k,ao9 Y Z hu k⟩
   ·obtain⟨c,e⟩:=ql (n:=s.heap.objs.size+1) k
    refine .inr ⟨.inl k,c,?_,?_⟩
    ·show(aM (s.heap.objs.size+1) scope.names h).lookup y=some c
     rw[zw,zV,e];rfl
    ·have q:=x.cell y c e
     rw[ap8 Y Z hu (by show scope.names.lookup y≠_;rw[k];decide)]at q
     exact q
  ·have hf:fr[i - vs.length]?=some y:=by
    have G:N[i]?=some y:=q1
    rw[S.app,ax (by omega)]at G;rw[hl];exact G
   have hv:cap[i - vs.length]?=some v:=by
    rw[ax (by simpa using hi),aF,aG]at q2
    cases e:cap[i - vs.length]? with
    | none=>rw[e]at q2;cases q2
    | some a=>rw[e]at q2;cases q2;rfl
   obtain⟨c,o,u,e1,e2,e3,e4⟩:=a0 _ y v hf hv
   have kf:=S.frs y (aW hf)
   refine⟨u,e4,.inr ⟨.inr kf,c,hx y c e1 kf,?_⟩⟩
   exact⟨o,hk c o (B.hok c _ e2).1,e3⟩
 case cell =>
  rcases lk y c e with a|⟨_,a⟩
  ·exact⟨_,x.cell y c a⟩
  ·obtain⟨o,v,q,d⟩:=hc y c a
   exact⟨v,o,hk c o (B.hok c _ q).1,d⟩
 case freeC =>
  rcases lk y c e with a|⟨_,a⟩
  ·exact dn c (B.hok.fresh (c9 (own y c a)))
  ·exact ad7.cell (ag3.mpr ⟨y,a⟩)
 case len =>
  show _=N.length
  rw[S.app]
  simp[hl,a4]
theorem bg5 {P:aL}{w:World}{outer:List Env}{H H':Hp}{s s':af}{h:List (Str×Addr)}(hok:HOk P w H s.heap)(hc:Cells h H)(frf:∀ b∈frs outer,H b=none)
  (un:Un (frs outer) [] (ad7 h H) H' s.heap s'.heap) (G:HOk P w H' s'.heap):Un (frs outer) [] H (Put h H H') s.heap s'.heap/\HOk P w (Put h H H') s'.heap:=by
 have nc:∀ b,H b=none->isC h b≠true:=λ b e y=>by
  obtain⟨o,v,q,_⟩:=hc.at y
  rw[e]at q;cases q
 have C:∀ c u,H c=some u->(∀ o v,u≠.frz o v)->isC h c≠true:=λ c u q d y=>by
  obtain⟨o,v,Y,_⟩:=hc.at y
  rw[q]at Y;cases Y
  exact d _ _ rfl
 have B:∀ b,isC h b=true->H' b=none:=λ b y=>by
  obtain⟨o,v,q,_⟩:=hc.at y
  exact un.free b o (hok b _ q).1 (ad7.cell y) (by simp)
 refine⟨⟨λ b o e n hb hx=>un.keep b o e (ad7.none n) hb hx,λ b o e n hb hx=>un.slot b o e (ad7.none n) hb hx,λ b o e n hx=>?_,λ b o e hx=>un.there b o e hx,λ b Z e=>?_,λ b o u e=>?_,λ b ps e=>?_⟩,λ b o e=>?_⟩
 ·rw[Put.ne (nc b n)];exact un.free b o e (ad7.none n) hx
 ·have z:=C b _ e λ _ _=>by nofun
  rw[Put.ne z];exact un.tups b Z (by rw[ad7.ne z];exact e)
 ·by_cases z:isC h b=true
  ·rw[Put.cell z];exact e
  ·rw[Put.ne z];exact un.frzs b o u (by rw[ad7.ne z];exact e)
 ·have z:=C b _ e λ _ _=>by nofun
  rw[Put.ne z];exact un.tbls b ps (by rw[ad7.ne z];exact e)
 ·by_cases z:isC h b=true
  ·rw[Put.cell z]at e
   obtain⟨ob,v,q,d⟩:=hc.at z
   rw[q]at e;cases e
   have g:=(hok b _ q).1
   have g':=un.keep b ob g (ad7.cell z) (λ y=>by rw[frf b y]at q;cases q) (by simp)
   exact⟨g',ob,g'⟩
  ·rw[Put.ne z]at e
   have J:∀ c u,H' c=some u->Put h H H' c=some u:=λ c u q=>by
    rw[Put.ne λ y=>by rw[B c y]at q;cases q];exact q
   exact(G b o e).stay (λ _ _ _ q=>q) (λ c q=>J c _ q) λ c Z q=>J c _ q
structure ClOk (P:aL)(w:World)(K:ac)(mg:Str->Option Value)(base:Heap)(k:Nat)(R:Hp->Prop)(f:Addr)(sp:Sp):Prop where
 run:∀(A:aV) (outer:List Env) (s:af) (H:Hp) (us:List Value) (vs:List V) (Q:VK),Room k A->Env0 P w K mg base A outer s H->R H->Vals vs us->sp vs H Q E0 ->
  fh (model P w) A (.call (.ref f) ⟨us,[]⟩) (CR CX0 outer P w H s Q E0) s
theorem ClOk.ofFn {P:aL}{w:World}{K:ac}{mg:Str->Option Value}{y:Heap}{k:Nat}{f:Addr}{C:bE}{ps:List Str}{sp:Sp}(F:FnOk P w K mg y CX0 k f C ps sp)(hb:Binds K C ps []):ClOk P w K mg y k (λ _=>True) f sp :=
 ⟨λ A outer s H us vs Q G B _ r h=>by
  have hl:=F.len _ _ _ _ h
  have:=hb s us (B.mod.kin.keeps λ b o e=>(B.bs b o e).1) (by rw[br,<-r.length];exact hl)
  rw[br]at this
  exact F.run A outer s H ⟨us,[]⟩ us vs Q E0 G B this r h⟩
def aD9 (H:Hp)(f:Addr)(qual:Str)(params:be)(body:Expr)(scope:Scope)(fr:List Str)(cap:List V)(clos:List (Str×Addr)):Prop :=
 ∃ pm c' ctv,H f=some (av9 f (bP "<lambda>" qual params body scope clos pm (.ref c') ctv))/\H c'=some (qH c' qual)/\Cells clos H /\
  (∀ x y c,clos.lookup x=some c->clos.lookup y=some c->x=y)/\(∀ x,scope.names.lookup x=some .free->∃ c,clos.lookup x=some c)/\Cap clos H fr cap
def BM (mg:Str->Option Value)(base:Heap):Prop:=∃ bm ob,mg "__builtins__"=some (.ref bm)/\bm≠fW/\base.get? bm=some ob/\ob.cls=.type "module"/\ob.dict=some fW/\ob.data=.plain
def cm4 (cells:List (Str×Addr))(P:Addr)(qual:Str)(params:be)(body:Expr)(scope:Scope)(pos:Pos):TE:=λ _ H Q =>
 ∃ ps:Array Value,H P=some (.tbl ps)/\g7 ps.toList /\
  (cL pos ps.toList=none->∀ c' f pm ctv,H c'=none->H f=none->c'≠f ->
   Q (.ref f) (upd (upd (upd H P (.tbl (ps++#[cz pos.line,cz pos.col,.ref c']))) c' (qH c' qual)) f (av9 f (bP "<lambda>" qual params body scope (af6 cells scope.names []) pm (.ref c') ctv)))) /\
  (∀ cv,cL pos ps.toList=some cv->∃ c',cv=.ref c'/\∀ f pm ctv,H f=none->Q (.ref f) (upd H f (av9 f (bP "<lambda>" qual params body scope (af6 cells scope.names []) pm (.ref c') ctv))))
noncomputable def lamCheck (scope xs:Scope):Bool:=scope.names.all λ y=>!(y.2==.free)||(xs.names.lookup y.1==some .cell||xs.names.lookup y.1==some .free)
theorem aV5 {X:Cx}{c P:Addr}{params:be}{body:Expr}{scope:Scope}{pos:Pos}(Y:X.env.code=.ref c)(C:bQ X.base c P)(hB:BM X.mg X.base)
  (c3:lamCheck scope X.env.scope=true) (a3:jP params X.env=([],[]):=by rfl) :
  PE X (.Lambda params body scope pos) (cm4 X.env.cells P (X.env.qual ++ "<lambda>") params body scope pos):=by
 intro c6 s σ H Q I h
 have c0:∀ y∈scope.names,y.2=.free->X.env.kindOf y.1=some .cell\/X.env.kindOf y.1=some .free:=λ y hy e=>by
  have z:=aO.mp c3 y hy
  have z':X.env.scope.names.lookup y.1=some .cell\/X.env.scope.names.lookup y.1=some .free:=by simpa [e]using z
  exact z'
 obtain⟨ps,Z,ht,a9,a4⟩:=h
 refine PySem.W.kla_eval a3 ?_
 have a1:=qD (scope:=scope) (env:=X.env) λ y hy e=>I.ok.has y.1 (c0 y hy e)
 have oP:s.heap.get? P=some (dJ ps):=I.hok P _ Z
 have a0:s.heap.Ns aX X.mg:=I.mod.glob.keeps I.bk
 have hC:bQ s.heap c P:=C.keeps I.bk
 have c5:aX≠P:=λ q=>by
  obtain⟨o,es,ep,e,d,_⟩:=a0
  rw[q,oP]at e;cases e;cases d
 have hb:s.heap.BuiltinsAt X.mg P:=by
  obtain⟨bm,ob,b1,b2,b3,b4,b5,b6⟩:=hB
  refine⟨bm,ob,b1,b2,λ q=>?_,λ q=>?_,I.bk _ _ b3,b4,b5,b6⟩
  ·obtain⟨o,es,ep,e,d,_⟩:=I.mod.glob
   rw[q,e]at b3;cases b3;rw[d]at b6;cases b6
  ·have e:=I.bk _ _ b3
   rw[q,oP]at e;cases e;cases b4
 cases q:cL pos ps.toList with
 | none =>
  refine PySem.W.kla_makeFunction (mg:=X.mg) a1 I.ok.glob a0 Y hC oP ht q c5 hb λ B G h' tk hx hge hlt a2 a7=>?_
  have a5:P<s.heap.objs.size:=aA oP
  have c4:B≠P:=bM (ak a5 hge)
  have b0:h'.objs.size≠P:=bM (dI (ak a5 hge) hlt)
  have c1:B≠h'.objs.size:=av hlt
  have hsz:s.heap.objs.size<=h'.objs.size:=aq hge (c9 hlt)
  have nP:∀ b,H b=none->b≠P:=λ b n z=>by rw[z,Z]at n;cases n
  have lt:∀ b o,H b=some o->b≠B/\b≠h'.objs.size:=λ b o e=>⟨av (ak (I.hok.lt e) hge),av (ak (I.hok.lt e) hsz)⟩
  have a6:∀ b o,s.heap.get? b=some o->b≠B/\b≠h'.objs.size:=λ b o e=>⟨av (ak (aA e) hge),av (ak (aA e) hsz)⟩
  have keep:∀ b o,b≠P->s.heap.get? b=some o->(h'.push (PySem.W.kla_obj "<lambda>" (X.env.qual ++ "<lambda>") params body scope (af6 X.env.cells scope.names []) ((X.mg "__name__").getD .none) B G)).get? b=some o:=λ b o n e=>ab _ (hx b o n e)
  have J:∀ b,b≠P->b≠B->b≠h'.objs.size->∀ o1 o2 o3,upd (upd (upd H P o1) B o2) h'.objs.size o3 b=H b:=λ b n1 n2 n3 o1 o2 o3=>by rw[zm n3,zm n2,zm n1]
  refine⟨.ref h'.objs.size,upd (upd (upd H P (.tbl (ps++#[cz pos.line,cz pos.col,.ref B]))) B (qH B (X.env.qual ++ "<lambda>"))) h'.objs.size (av9 h'.objs.size (bP "<lambda>" (X.env.qual ++ "<lambda>") params body scope (af6 X.env.cells scope.names []) ((X.mg "__name__").getD .none) (.ref B) G)),I.un (t':=tk) ⟨λ b o e n _ _=>keep b o (nP b n) e,λ b o e n _ _=>⟨o.slots,keep b o (nP b n) e⟩,λ b o e n _=>?fr,λ b o e _=>?th,λ b xs e=>?tu,λ b o u e=>?fz,λ b qs e=>?tb⟩ ?ok,rfl,a9 q B h'.objs.size _ G (I.hok.fresh hge) (I.hok.fresh hsz) c1⟩
  case fr=>rw[J b (nP b n) (a6 b o e).1 (a6 b o e).2];exact n
  case th =>
   by_cases z:b=P
   ·subst z;exact⟨_,ab _ a7⟩
   ·exact⟨o,keep b o z e⟩
  case tu=>rw[J b (λ z=>by rw[z,Z]at e;cases e) (lt b _ e).1 (lt b _ e).2];exact e
  case fz=>rw[J b (λ z=>by rw[z,Z]at e;cases e) (lt b _ e).1 (lt b _ e).2];exact e
  case tb =>
   by_cases z:b=P
   ·subst z
    rw[Z]at e;cases e
    exact⟨#[cz pos.line,cz pos.col,.ref B],by rw[zm (bS b0),zm (bS c4),zr]⟩
   ·exact⟨#[],by rw[J b z (lt b _ e).1 (lt b _ e).2,e];simp⟩
  case ok =>
   intro b o e
   by_cases zf:b=h'.objs.size
   ·subst zf
    rw[zr]at e;cases e
    exact av2 (aD _ rfl)
   ·rw[zm zf]at e
    by_cases zc:b=B
    ·subst zc
     rw[zr]at e;cases e
     obtain⟨c2,oc,vs,t,e1,e2,e3⟩:=a2
     exact aO5 ⟨c2,oc,vs,t,e1,ab _ e2,e3⟩
    ·rw[zm zc]at e
     by_cases zp:b=P
     ·subst zp
      rw[zr]at e;cases e
      exact ab _ a7
     ·rw[zm zp]at e
      have a8:∀ d u,H d=some u->(∀ ps,u≠.tbl ps)->upd (upd (upd H P (.tbl (ps++#[cz pos.line,cz pos.col,.ref B]))) B (qH B (X.env.qual ++ "<lambda>"))) h'.objs.size (av9 h'.objs.size (bP "<lambda>" (X.env.qual ++ "<lambda>") params body scope (af6 X.env.cells scope.names []) ((X.mg "__name__").getD .none) (.ref B) G)) d=some u:=λ d u e nt=>by
       rw[J d (λ z=>by rw[z,Z]at e;cases e;exact nt _ rfl) (lt d _ e).1 (lt d _ e).2];exact e
      refine(I.hok b o e).stay (λ d u hd q=>keep d u ?_ q) (λ d q=>a8 d _ q λ _=>by nofun) λ d xs q=>a8 d _ q λ _=>by nofun
      rintro rfl
      rcases hd with hd|hd
      ·exact zp hd.symm
      ·rw[Z]at hd;cases hd
 | some cv =>
  obtain⟨B,rfl,hq⟩:=a4 cv q
  refine PySem.W.kla_makeFunctionHit (mg:=X.mg) a1 I.ok.glob a0 Y hC oP ht q hb λ G h' tk hk hsz=>?_
  refine⟨.ref h'.objs.size,_,I.laid (t':=tk) (λ b o e=>ab _ (hk b o e)) hsz (av2 (aD _ rfl)),rfl,hq h'.objs.size _ G (I.hok.fresh hsz)⟩
structure Caught (cl:List (Str×Addr))(N:List Str)(kd:Str->Option bJ)(σ:St)(H1 H2:Hp):Prop where
 ne:∀ b,isC cl b≠true->H2 b=H1 b
 free:∀ b,isC cl b=true->H1 b=none
 cells:Cells cl H2
 cap:∀(i:Nat) (x:Str) (v:V) (c:Addr),N[i]?=some x->σ[i]?=some (some v)->(kd x=some .cell\/kd x=some .free)->cl.lookup x=some c->∃ o u,H2 c=some (.frz o (.own c))/\o.data=.cell (some u)/\RelV v u
 inj:∀ x y c,cl.lookup x=some c->cl.lookup y=some c->x=y
def bP0 (cl:List (Str×Addr))(N:List Str)(kd:Str->Option bJ)(sp:Sp)(t:TA):TE:=λ σ H Q=>t σ H λ vs H1=>∀ H2,Caught cl N kd σ H1 H2->sp vs H2 (λ v H3=>Q v (ad7 cl H3)) E0
theorem bI8 {X:Cx}{k:Nat}{f:Addr}{fd:bE}{ps:List Str}{sp:Sp}{G:List (Addr×Obj)}{σ:St}{H:Hp}{s:af}{Q:VK}{us:List Value}{vs:List V}(F:FnOk X.prog X.w X.K X.mg X.base CX0 k f fd ps sp)(hr:Room k X.A)(hb:Binds X.K fd ps [])
  (a7:∀ x,X.fn x=true) (I:Inv X G σ H s) (r:Vals vs us) (h:∀ H2,Caught X.env.cells X.N X.env.kindOf σ H H2->sp vs H2 (λ v Y=>Q v (ad7 X.env.cells Y)) E0):wpAny (model X.prog X.w) X.A (call (.ref f) us) (EP X G σ Q) X.xe s:=by
 let H2:Hp:=λ b=>if isC X.env.cells b=true then(s.heap.get? b).map λ o=>.frz o (.own b)else H b
 have B:∀ b,isC X.env.cells b≠true->H2 b=H b:=λ b z=>if_neg z
 have C:∀ b,isC X.env.cells b=true->∃ o v,s.heap.get? b=some o/\o.data=.cell v/\H2 b=some (.frz o (.own b)):=λ b z=>by
  obtain⟨x,e⟩:=ag3.mp z
  obtain⟨v,o,g,d⟩:=I.cell x b e
  exact⟨o,v,g,d,by show(if _ then _ else _)=_;rw[if_pos z,g];rfl⟩
 have fr:∀ b,isC X.env.cells b=true->H b=none:=λ b z=>by
  obtain⟨x,e⟩:=ag3.mp z
  exact I.freeC x b e
 have up:∀ b,isC X.env.cells b=true->X.s₀.heap.objs.size<=b:=λ b z=>by
  obtain⟨x,e⟩:=ag3.mp z
  exact I.ok.cab x b (a7 x) e
 have a5:∀ b o,X.s₀.heap.get? b=some o->isC X.env.cells b≠true:=λ b o e z=>absurd (ak (aA e) (up b z)) (bq _)
 have a4:∀ b∈frs X.stack,isC X.env.cells b≠true:=λ b hb z=>by
  rcases au.mp (I.stkSub b hb)with e|hb
  ·obtain⟨x,e2⟩:=ag3.mp z
   exact I.cne x b e2 e
  ·obtain⟨_,o,ho,_⟩:=I.ok.funs.mem hb
   exact a5 b o ho z
 have a6:HOk X.prog X.w H2 s.heap:=λ b o e=>by
  by_cases z:isC X.env.cells b=true
  ·obtain⟨ob,v,g,d,q⟩:=C b z
   rw[q]at e;cases e
   exact⟨g,ob,g⟩
  ·rw[B b z]at e
   have Z:∀ c u,H c=some u->H2 c=some u:=λ c u q=>by rw[B c λ y=>by rw[fr c y]at q;cases q];exact q
   exact(I.hok b o e).stay (λ _ _ _ q=>q) (λ c q=>Z c _ q) λ c xs q=>Z c _ q
 have nb:∀ b o,X.base.get? b=some o->isC X.env.cells b≠true:=λ b o e=>a5 b o (I.ok.bs b o e).1
 have e0:Env0 X.prog X.w X.K X.mg X.base X.A X.stack s H2:=⟨I.ok.frames,I.ok.mod,λ b o e=>⟨(I.bs b o e).1,by rw[B b (nb b o e)];exact(I.bs b o e).2⟩,aq I.ok.bsz I.sz,I.stack,λ b hb=>by rw[B b (a4 b hb)];exact I.stkFree b hb,a6,I.bare⟩
 have ca:Caught X.env.cells X.N X.env.kindOf σ H H2:=⟨B,fr,λ x c e=>by
   obtain⟨o,v,g,d,q⟩:=C c (ag3.mpr ⟨x,e⟩)
   exact⟨o,v,q,d⟩,λ i x v c e1 e2 e3 e4=>by
   obtain⟨m,hn,hl⟩:=I.loc
   have vis:Vis X.env.scope x:=e3.elim (λ z=>.inr (.inl z)) λ z=>.inr (.inr z)
   obtain⟨u,ru,lk⟩:=hl i x v e1 e2 vis
   rcases lk with⟨z,_⟩|⟨_,c2,z1,z2⟩
   ·rcases e3 with y|y<;>(rw[z]at y;cases y)
   ·rw[e4]at z1;cases z1
    obtain⟨o,w',g,d,q⟩:=C c (ag3.mpr ⟨x,e4⟩)
    obtain⟨o2,g2,d2⟩:=z2
    rw[g]at g2;cases g2
    exact⟨o,u,q,d2,ru⟩,I.ok.inj⟩
 have a1:=h H2 ca
 have hl:=F.len _ _ _ _ a1
 have a0:=hb s us I.kIn (by rw[br,<-r.length];exact hl)
 rw[br]at a0
 refine jK (eJ (F.run X.A X.stack s H2 ⟨us,[]⟩ us vs _ E0 hr e0 a0 r a1) λ r s' hq=>?_)
 cases r with
 | error e=>exact bB hq
 | ok fl =>
  cases fl with
  | next=>exact bB hq
  | brk=>exact bB hq
  | cont=>exact bB hq
  | ret u =>
   obtain⟨v,Y,os,bare,un,a2,rv,q⟩:=hq
   have a3:∀ b,isC X.env.cells b=true->∃ o,s.heap.get? b=some o/\s'.heap.get? b=some o/\Y b=some (.frz o (.own b)):=λ b z=>by
    obtain⟨o,v,g,d,q2⟩:=C b z
    have q3:=un.frzs b o _ q2
    exact⟨o,g,(a2 b _ q3).1,q3⟩
   have J:∀ b u,H b=some u->isC X.env.cells b≠true:=λ b u e y=>by rw[fr b y]at e;cases e
   refine⟨v,_,I.call' (H':=ad7 X.env.cells Y) (ch:=[]) os ⟨λ b o e n hb hx=>?k,λ b o e n hb hx=>?sl,λ b o e n hx=>?fr,λ b o e hx=>un.there b o e hx,λ b xs e=>?tu,λ b o u e=>?fz,λ b ps e=>?tb⟩ (λ b o e=>?hok) bare (λ b z=>absurd z (by simp)),rv,q⟩
   case k =>
    by_cases z:isC X.env.cells b=true
    ·obtain⟨o2,g,g',_⟩:=a3 b z
     rw[e]at g;cases g
     exact g'
    ·exact un.keep b o e (by rw[B b z];exact n) hb hx
   case sl=>exact un.slot b o e (by rw[B b (a4 b hb)];exact n) hb hx
   case fr =>
    by_cases z:isC X.env.cells b=true
    ·exact ad7.cell z
    ·exact ad7.none (un.free b o e (by rw[B b z];exact n) hx)
   case tu =>
    rw[ad7.ne (J b _ e)]
    exact un.tups b xs (by rw[B b (J b _ e)];exact e)
   case fz =>
    rw[ad7.ne (J b _ e)]
    exact un.frzs b o u (by rw[B b (J b _ e)];exact e)
   case tb =>
    rw[ad7.ne (J b _ e)]
    exact un.tbls b ps (by rw[B b (J b _ e)];exact e)
   case hok =>
    obtain⟨z,e3⟩:=ad7.some e
    have Z:∀ c u,Y c=some u->(∀ o w',u≠.frz o w')->ad7 X.env.cells Y c=some u:=λ c u q d=>by
     rw[ad7.ne λ y=>by obtain⟨o,_,_,q3⟩:=a3 c y;rw[q]at q3;cases q3;exact d _ _ rfl];exact q
    exact(a2 b o e3).stay (λ _ _ _ q=>q) (λ c q=>Z c _ q λ _ _=>by nofun) λ c xs q=>Z c _ q λ _ _=>by nofun
theorem aQ0 {X:Cx}{k:Nat}{f:Addr}{J:bE}{ps:List Str}{sp:Sp}{x:Str}{p pos:Pos}{e:Expr}{es:List Expr}{t:TA}(F:FnOk X.prog X.w X.K X.mg X.base CX0 k f J ps sp)(hr:Room k X.A)(hg:Gl X x)(Z:X.mg x=some (.ref f))(hk:cb X.K (.ref f)=true)(hb:Binds X.K J ps [])
  (C:∀ x,X.fn x=true) (ha:PA X (e::es) t) (G:(x==("__debug__":Str))=false:=by decide) (he:bf (e::es) X.env=(false,eval e X.env)::bf es X.env:=by rfl) (B:(dD pos (bf es X.env)).any (·.1)=false:=by rfl) :
  PE X (.Call (.Name x p) (e::es) [] pos) (bP0 X.env.cells X.N X.env.kindOf sp t):=by
 intro y s σ H Q I h
 refine b8 (az0 I hg Z ?_ G)
 refine iu (h₀:=X.base) I.ok.mod.kin hk (thn (ha pos y s σ H _ I h) λ us s1 ⟨vs,H1,Y,r,q⟩=>⟨Y.kIn,?_⟩) he B
 exact bI8 F hr hb C Y r q
def bE0 (K:ac)(H:Hp)(f:Addr):Prop:=(∃ fd,H f=some (av9 f fd))\/∃ oc od fd sl,K.lookup f=some ⟨oc,od,.func fd,sl⟩
theorem bE0.at {X:Cx}{y:List (Addr×Obj)}{σ:St}{H:Hp}{s:af}{f:Addr}(h:bE0 X.K H f)(I:Inv X y σ H s):PySem.W.FnAt f s.heap:=by
 rcases h with⟨B,h⟩|⟨oc,od,B,sl,h⟩
 ·exact⟨_,_,_,_,ax8 I.hok h⟩
 ·exact⟨_,_,_,_,I.kIn _ _ h⟩
def bW1 (P:aL)(w:World)(K:ac)(mg:Str->Option Value)(base:Heap)(k:Nat)(i:Nat)(t:TA):TE:=λ σ H Q=>∃ f,σ[i]?=some (some (.ref f))/\bE0 K H f/\t σ H λ vs H1=>bE0 K H1 f/\∃ R sp,ClOk P w K mg base k R f sp/\R H1/\sp vs H1 Q E0
theorem bP7 {X:Cx}{k:Nat}{f:Addr}{sp:Sp}{R:Hp->Prop}{y:List (Addr×Obj)}{σ:St}{H:Hp}{s:af}{Q:VK}{us:List Value}{vs:List V}(F:ClOk X.prog X.w X.K X.mg X.base k R f sp)(C:Room k X.A)(I:Inv X y σ H s)(B:R H)(r:Vals vs us)(h:sp vs H Q E0) :
  wpAny (model X.prog X.w) X.A (call (.ref f) us) (EP X y σ Q) X.xe s:=by
 refine jK (eJ (F.run X.A X.stack s H us vs Q C I.env0 B r h) λ r s' hq=>?_)
 cases r with
 | error e=>exact bB hq
 | ok fl =>
  cases fl with
  | ret u=>exact I.after hq
  | next=>exact bB hq
  | brk=>exact bB hq
  | cont=>exact bB hq
theorem bs0 {X:Cx}{P:aL}{w:World}{K:ac}{mg:Str->Option Value}{base:Heap}{k i:Nat}{x:Str}{p pos:Pos}{e:Expr}{es:List Expr}{t:TA}(Z:X.prog=P)(hw:X.w=w)(hK:X.K=K)(G:X.mg=mg)(B:X.base=base)(hr:Room k X.A)(hv:PE X (.Name x p) (bt6 i))(ha:PA X (e::es) t)
  (he:bf (e::es) X.env=(false,eval e X.env)::bf es X.env:=by rfl) (C:(dD pos (bf es X.env)).any (·.1)=false:=by rfl) :
  PE X (.Call (.Name x p) (e::es) [] pos) (bW1 P w K mg base k i t):=by
 subst Z hw hK G B
 intro y s σ H Q I h
 obtain⟨f,hσ,hf,ht⟩:=h
 refine b8 (thn (hv y s σ H (λ v H'=>v=.ref f/\H'=H) I ⟨.ref f,hσ,rfl,rfl⟩) λ u s0 ⟨v,H0,J,r0,ev,eH⟩=>?_)
 subst ev
 subst eH
 cases r0
 exact PySem.W.callWith_F (q:=f) (hf.at J) (thn (ha pos y s0 σ H0 _ J ht) λ us s1 ⟨vs,H1,Y,r,hF,R,sp,F,hR,q⟩=>⟨hF.at Y,bP7 F hr Y hR r q⟩) he C
noncomputable def aC3 (K:ac)(names:List Str):List (Str×Addr×Addr):=names.filterMap λ x=>(bj K x).map λ p=>(x,p)
theorem au2 {K:ac}{names:List Str}{y:Str×Addr×Addr}:y∈aC3 K names↔y.1∈names/\bj K y.1=some y.2:=by
 unfold aC3
 rw[b7]
 constructor
 ·rintro⟨x,hx,e⟩
  obtain⟨p,h,rfl⟩:=cQ.mp e
  exact⟨hx,h⟩
 ·rintro⟨hx,e⟩
  exact⟨y.1,hx,by rw[e];rfl⟩
def bx7 (K:ac)(names:List Str)(base:Heap):Prop:=∀ x∈names,∀ c P,bj K x=some (c,P)->bQ base c P
def bK9 (K:ac)(names:List Str)(H:Hp):Prop:=∀ x∈names,∀ c P,bj K x=some (c,P)->H P=some (.tbl #[])
noncomputable def bZ6 (K:ac)(names:List Str)(ts:List Addr):Bool:=names.all λ x=>match bj K x with
 | some (c,P)=>iW K c P&&ts.contains P
 | none=>true
theorem ax3 {K:ac}{x:Str}(h:(bj K x).isSome=true):bj K x=some (((bj K x).getD (0,0)).1,((bj K x).getD (0,0)).2):=by
 obtain⟨p,e⟩:=fD.mp h
 rw[e]
 rfl
def bS7 (H:Hp)(P:Addr)(q:Str):Prop:=∃ ps:Array Value,H P=some (.tbl ps)/\g7 ps.toList/\∀ pos cv,cL pos ps.toList=some cv->∃ c',cv=.ref c'/\H c'=some (qH c' q)
def TabsH (T:List (Addr×Str))(H:Hp):Prop:=∀ y∈T,bS7 H y.1 y.2
def bh5 (H H':Hp):Prop:=∀ b o,(∀ ps,o≠.tbl ps)->H b=some o->H' b=some o
theorem bh5.of {H y:Hp}(a:ah3 H y):bh5 H y:=λ c o _ h=>a c o h
theorem TabsH.keep {T:List (Addr×Str)}{H H':Hp}(h:TabsH T H)(k:∀ b o,(∀ C,o≠.lst C)->H b=some o->H' b=some o):TabsH T H':=λ y hy=>by
 obtain⟨ps,e,t,c⟩:=h y hy
 refine⟨ps,k _ _ (λ _=>by nofun) e,t,λ pos B q=>?_⟩
 obtain⟨G,e1,e2⟩:=c pos B q
 exact⟨G,e1,k _ _ (λ _=>by unfold qH;nofun) e2⟩
theorem TabsH.same {T:List (Addr×Str)}{H H':Hp}(h:TabsH T H)(s:ah3 H H'):TabsH T H':=h.keep λ b o _ e=>s b o e
theorem TabsH.new {T:List (Addr×Str)}{H:Hp}{a:Addr}{o:HO}(h:TabsH T H)(n:H a=none):TabsH T (upd H a o):=h.same ((ah3.refl H).new n)
theorem TabsH.put {T:List (Addr×Str)}{H:Hp}{a:Addr}{o:HO}{y:List V}(h:TabsH T H)(n:H a=some (.lst y)):TabsH T (upd H a o):=h.keep λ b u d e=>by
 rw[zm λ z=>by subst z;rw[n]at e;cases e;exact d _ rfl];exact e
theorem TabsH.init {T:List (Addr×Str)}{H:Hp}(h:∀ p∈T.map (·.1),H p=some (.tbl #[])):TabsH T H:=λ y hy =>
 ⟨#[],h _ (bo hy),trivial,λ pos B e=>by simp[cL]at e⟩
theorem codeAmong_add {pos:Pos}{a b:Int}{c B:Value}:∀(l:List Value),g7 l->cL pos (l++[cz a,cz b,c])=some B->cL pos l=some B\/B=c:=by
 intro l
 fun_induction g7 l with
 | case1 =>
  intro _ e
  simp only[gy,cL,cz]at e
  split at e
  ·exact .inr (ar e).symm
  ·cases e
 | case2 x t y u z rest ih =>
  intro h e
  simp only[fR,cL]at e ⊢
  split at e
  ·rename_i q
   left;rw[if_pos q];exact e
  ·rename_i q
   rw[if_neg q];exact ih h e
 | case3 l h1 h2=>intro h;exact h.elim
theorem br3 {cells:List (Str×Addr)}{N:List Str}{kd:Str->Option bJ}{σ:St}{Y H2:Hp}{f:Addr}{q:Str}{params:be}{body:Expr}{scope:Scope}{fr:List Str}{cap:List V}(J:Caught cells N kd σ Y H2)
  (hf:∃ Z B h,Y f=some (av9 f (bP "<lambda>" q params body scope (af6 cells scope.names []) Z (.ref B) h))/\Y B=some (qH B q))
  (C:∀ x,scope.names.lookup x=some .free->∃ c,cells.lookup x=some c)
  (G:∀(i:Nat) (x:Str) (v:V),fr[i]?=some x->cap[i]?=some v->scope.names.lookup x=some .free/\(kd x=some .cell\/kd x=some .free)/\∃ j:Nat,N[j]?=some x/\σ[j]?=some (some v)) :
  aD9 H2 f q params body scope fr cap (af6 cells scope.names []):=by
 obtain⟨Z,B,h,h1,h2⟩:=hf
 have up:∀ b o,Y b=some o->H2 b=some o:=λ b o e=>by
  rw[J.ne b λ z=>by rw[J.free b z]at e;cases e];exact e
 have sub:∀ x c,(af6 cells scope.names []).lookup x=some c->cells.lookup x=some c:=λ x c e=>by
  rcases clOf_mem (az e)with z|z
  ·exact z
  ·exact absurd z (by simp)
 refine⟨Z,B,h,up _ _ h1,up _ _ h2,λ x c e=>J.cells x c (sub x c e),λ x y c e1 e2=>J.inj x y c (sub x c e1) (sub y c e2),λ x k=>?_,λ i x v e1 e2=>?_⟩
 ·obtain⟨c,e⟩:=C x k
  exact⟨c,qF e (az k)⟩
 ·obtain⟨k,kk,j,e3,e4⟩:=G i x v e1 e2
  obtain⟨c,e⟩:=C x k
  obtain⟨o,u,e5,e6,e7⟩:=J.cap j x v c e3 e4 kk e
  exact⟨c,o,u,qF e (az k),e5,e6,e7⟩
theorem Caught.same {cells:List (Str×Addr)}{N:List Str}{kd:Str->Option bJ}{σ:St}{h H2:Hp}(y:Caught cells N kd σ h H2):ah3 h H2:=λ b o e=>by
 rw[y.ne b λ z=>by rw[y.free b z]at e;cases e];exact e
theorem Fun.okC {P:aL}{w:World}{K:ac}{mg:Str->Option Value}{y:Heap}{x qual:Str}{st:Stmt}{f c:Addr}{Y:bE}{N ps:List Str}{k:Nat}{sp:Sp}(F:Fun K x qual st f Y)(G:Y.code=.ref c)(S:FnScope N ps (defScope st))(len:∀ vs H Q E,sp vs H Q E->vs.length=ps.length)
  (B:∀(A:aV) (outer:List Env) (s:af) (H:Hp) (vs:List V) (Q:VK) (E:XK),Room k (A.deeper (fC qual (defScope st) s.heap.objs.size f (.ref c)))->sp vs H Q E ->
   ∃ t,PSs (bn9 CX0 P w K mg y N qual (defScope st) f (.ref c) A outer s H E).nox (qa st) t/\t { nx:=λ _ H'=>Q .non H',rt:=Q } (aj9 N vs) H):FnOk P w K mg y CX0 (k+1) f Y ps sp:=by
 obtain⟨oc,od,kV,Z,pm,an,J,ct,a0,rfl,lk,hc⟩:=F.ex
 have e:J=.ref c:=G
 subst e
 refine bO9 lk hc S len λ A outer s H vs Q E hr C=>?_
 obtain⟨t,h,q⟩:=B A outer s H vs Q E hr C
 exact⟨t,h.nox,q⟩
noncomputable def rowO (r:List (Option Int)):D:=.tup (r.map co6)
theorem aW8 {X:Cx}{K:ac}(hc:X.calm=true)(hK:X.K=K):ae5 X (.builtin "min") (λ xs H Q=>∃ a ns,xs=[.ref a]/\SqL K H a (ns.map V.int)/\ns≠[]/\∀ m∈ns,(∀ y∈ns,m<=y)->Q (.int m) H):=by
 subst hK
 intro a0 s σ H xs us Q I r h
 obtain⟨a,ns,rfl,hS,hne,q⟩:=h
 obtain⟨u,rfl,ru⟩:=am1 r
 cases ru
 obtain⟨its,Y,J,hz⟩:=I.list hS
 have hl:=Y.length
 rw[aG]at hl
 have a1:0<ns.length:=List.length_pos_iff.mpr hne
 refine call_min_walk (cW J.isList ?_)
 have C:a<s.heap.objs.size:=by obtain⟨o,_,e,_⟩:=J;exact aA e
 have W:=jO (prog:=X.prog) (w:=X.w) (A:=X.A.in1) (I.ok.hd hc) s.heap.objs.size a (av C) its.toArray
 let val:Nat->Int:=λ i=>ns.getD i 0
 have B:∀ i v,its.toArray[i]?=some v->∃ t,v=Value.int (val i) t:=λ i v e=>by
  obtain⟨z,t,e1,e2⟩:=aw4 Y (i:=i) (v:=v) (by rw[cD]at e;exact e)
  refine⟨t,?_⟩
  rw[e2]
  show Value.int z t=Value.int (ns.getD i 0) t
  rw[aS,e1]
  rfl
 refine⟨_,_,_,_,_,_,_,rfl,W,⟨⟨_,aD _ rfl,rfl,rfl⟩,?_⟩,λ b hb=>?_,by rw[aB];omega,j3 val B,λ v h' tk Z k=>?_⟩
 ·obtain⟨o,e,r⟩:=J.isList
  exact⟨o,ab _ e,r⟩
 ·show b<(s.heap.push _).objs.size
  rw[bC]
  rcases au.mp hb with z|z
  ·rw[z];exact dU _
  ·have G:b=a:=by simpa using z
   rw[G];exact fq C
 ·obtain⟨z,t,e1,e2⟩:=aw4 Y (i:=da (λ i j=>decide (val i<val j)) (its.toArray.size - 1)) (v:=v) (by rw[cD]at Z;exact Z)
  subst e2
  have hv:val (da (λ i j=>decide (val i<val j)) (its.toArray.size - 1))=z:=by
   show ns.getD _ 0=z
   rw[aS,e1]
   rfl
  refine⟨.int z,H,I.kept (h':=h') (t':=tk) λ b o q=>k b o ?_ (ab _ q),⟨t,rfl⟩,q z (aW e1) λ y hy=>?_⟩
  ·intro z
   have G:b=s.heap.objs.size:=by simpa using z
   exact absurd (aA q) (by rw[G];exact bq _)
  ·obtain⟨j,hj,e3⟩:=cI.mp hy
   have:=jw val (its.toArray.size - 1) j (by simp only[aB];omega)
   rw[hv]at this
   have e4:val j=y:=by
    show ns.getD j 0=y
    rw[aS,ai hj]
    exact e3
   omega
noncomputable def mx (a b:Int):Int:=if b > a then b else a
theorem bj5 {a b x:Int}:mx a b<=x↔a<=x/\b<=x:=by unfold mx;split<;>omega
noncomputable def sgn (s:Nat->Nat->Int):Nat->Nat->Option Int:=λ i j=>some (s i j)
noncomputable def aH7 (n:Nat)(s t:Nat->Nat->Int)(i j:Nat):Int:=(minO ((ah n).map λ k=>mx (s i k) (t k j))).getD 3
theorem bg8 {l:List Int}{m x:Int}(h:minO l=some m):m<=x↔∃ y∈l,y<=x:=by
 obtain⟨B,C⟩:=aD7 h
 exact⟨λ z=>⟨m,B,z⟩,λ⟨y,hy,z⟩=>bW (C y hy) z⟩
theorem aF1 {l:List Int}(h:l≠[]):∃ m,minO l=some m:=by
 cases e:minO l with
 | none=>exact absurd (al6.mp e) h
 | some m=>exact⟨m,rfl⟩
theorem am6 {n:Nat}(hn:1<=n){s t:Nat->Nat->Int}{i j:Nat}{x:Int}:aH7 n s t i j<=x↔∃ k,k<n/\s i k<=x/\t k j<=x:=by
 obtain⟨m,h⟩:=aF1 (l:=(ah n).map λ k=>mx (s i k) (t k j)) (by
  intro z
  have:=congrArg gQ z
  rw[aG,ci]at this
  simp at this
  omega)
 unfold aH7
 rw[h]
 show m<=x↔_
 rw[bg8 h]
 constructor
 ·rintro⟨y,hy,hx⟩
  obtain⟨k,hk,rfl⟩:=ay.mp hy
  exact⟨k,aU.mp hk,bj5.mp hx⟩
 ·rintro⟨k,hk,hx⟩
  exact⟨_,ay.mpr ⟨k,aU.mpr hk,rfl⟩,bj5.mpr hx⟩
theorem ag6 {a b:Int}(h:∀ x,a<=x↔b<=x):a=b:=by
 have y:=(h b).mpr (bH _)
 have B:=(h a).mp (bH _)
 omega
theorem aK8 {n:Nat}(hn:1<=n){s t:Nat->Nat->Int}(h:∀ i j,i<n->j<n->0<=s i j/\s i j<=3)(h':∀ i j,i<n->j<n->0<=t i j/\t i j<=3){i j:Nat}(y:i<n)(hj:j<n):0<=aH7 n s t i j/\aH7 n s t i j<=3:=by
 constructor
 ·obtain⟨k,hk,B,C⟩:=(am6 hn (s:=s) (t:=t) (i:=i) (j:=j)).mp (bH _)
  have:=h i k y hk
  omega
 ·exact(am6 hn).mpr ⟨0,by omega,(h i 0 y (by omega)).2,(h' 0 j (by omega) hj).2⟩
section
variable {X:Cx}
end
noncomputable def mx3 (a b c:Int):Int:=mx (mx a b) c
theorem bt7 {a b c x:Int}:mx3 a b c<=x↔a<=x/\b<=x/\c<=x:=by unfold mx3;rw[bj5,bj5,and_assoc]
theorem aX0 {X:Cx}(hc:X.calm=true):ae5 X (.builtin "max") (λ B H Q=>∃ i j k,B=[.int i,.int j,.int k]/\Q (.int (mx3 i j k)) H):=by
 intro y s σ H B us Q I r h
 obtain⟨i,j,k,rfl,q⟩:=h
 cases r with
 | cons r1 r =>
  cases r with
  | cons r2 r =>
   cases r with
   | cons r3 r =>
    cases r
    obtain⟨G,rfl⟩:=r1
    obtain⟨J,rfl⟩:=r2
    obtain⟨Y,rfl⟩:=r3
    refine max_three_ints (I.ok.hd hc) λ h' tk C=>⟨_,H,I.kept C,?_,q⟩
    unfold mx3 mx
    by_cases h1:j > i
    ·rw[if_pos h1,if_pos h1]
     by_cases h2:k > j
     ·rw[if_pos h2,if_pos h2];exact⟨_,rfl⟩
     ·rw[if_neg h2,if_neg h2];exact⟨_,rfl⟩
    ·rw[if_neg h1,if_neg h1]
     by_cases h2:k > i
     ·rw[if_pos h2,if_pos h2];exact⟨_,rfl⟩
     ·rw[if_neg h2,if_neg h2];exact⟨_,rfl⟩
theorem bw2:∀(B:Nat) (f:Nat->Nat),(∀ i,i<=B->f i<B)->∃ i j,i<j/\j<=B/\f i=f j
 | 0,f,h=>absurd (h 0 (aj _)) (dm _)
 | B+1,f,h=>by
  by_cases hex:∃ i,i<=B/\f i=f (B+1)
  ·obtain⟨i,y,e⟩:=hex
   exact⟨i,B+1,by omega,aj _,e⟩
  ·have hne:∀ i,i<=B->f i≠f (B+1):=λ i y e=>hex ⟨i,y,e⟩
   have hv:=h (B+1) (aj _)
   obtain⟨i,j,hij,hj,e⟩:=bw2 B (λ i=>if f i=B then f (B+1)else f i) (λ i y=>by
    show(if f i=B then f (B+1)else f i)<B
    have C:=h i (by omega)
    have J:=hne i y
    split
    ·rename_i e;omega
    ·omega)
   have e':(if f i=B then f (B+1)else f i)=(if f j=B then f (B+1)else f j):=e
   refine⟨i,j,hij,by omega,?_⟩
   have G:=hne i (by omega)
   have n2:=hne j (by omega)
   split at e'<;>split at e'<;>omega
def InT (n:Nat)(s:Nat->Nat->Int):Prop:=∀ i j,i<n->j<n->0<=s i j/\s i j<=3
def EqT (n:Nat)(s t:Nat->Nat->Int):Prop:=∀ i j,i<n->j<n->s i j=t i j
noncomputable def pw (n:Nat)(s:Nat->Nat->Int):Nat->Nat->Nat->Int
 | 0=>s
 | m+1=>aH7 n (pw n s m) s
theorem pw_in {n:Nat}(hn:1<=n){s:Nat->Nat->Int}(h:InT n s):∀ m,InT n (pw n s m)
 | 0=>h
 | m+1=>λ i j y hj=>aK8 hn (pw_in hn h m) h y hj
def Std (n:Nat)(s:Nat->Nat->Int):Prop:=EqT n (aH7 n s s) s
noncomputable def rnd (x:Int):Int:=if x=0\/x=3 then x else 2
noncomputable def sharp (n:Nat)(s:Nat->Nat->Int)(i j:Nat):Int:=(minO ((ah n).map λ k=>mx3 (s i k) (rnd (s k k)) (s k j))).getD 3
theorem aF0 {n:Nat}(hn:1<=n){s:Nat->Nat->Int}(h:Std n s){i j:Nat}(y:i<n)(hj:j<n){x:Int}:s i j<=x↔∃ k,k<n/\s i k<=x/\s k j<=x:=by
 rw[<-h i j y hj,am6 hn]
theorem bd5 {n:Nat}(hn:1<=n){s:Nat->Nat->Int}(h:Std n s){i j:Nat}(Y:i<n)(hj:j<n){x:Int}(hx:s i j<=x):∃ k,k<n/\s i k<=x/\s k k<=x/\s k j<=x:=by
 have step:∀ k:{k:Nat // k<n/\s i k<=x/\s k j<=x},∃ l:{k:Nat // k<n/\s i k<=x/\s k j<=x},s k.1 l.1<=x:=λ⟨k,hk,B,G⟩=>by
  obtain⟨l,hl,h3,h4⟩:=(aF0 hn h hk hj).mp G
  exact⟨⟨l,hl,(aF0 hn h Y hl).mpr ⟨k,hk,B,h3⟩,h4⟩,h3⟩
 obtain⟨Z,J,B,G⟩:=(aF0 hn h Y hj).mp hx
 let f:Nat->{k:Nat // k<n/\s i k<=x/\s k j<=x}:=λ m=>Nat.rec ⟨Z,J,B,G⟩ (λ _ k=>Classical.choose (step k)) m
 have fs:∀ m,s (f m).1 (f (m+1)).1<=x:=λ m=>Classical.choose_spec (step (f m))
 obtain⟨a,b,hab,_,e⟩:=bw2 n (λ m=>(f m).1) λ m _=>(f m).2.1
 have C:∀ d,s (f a).1 (f (a+d+1)).1<=x:=by
  intro d
  induction d with
  | zero=>exact fs a
  | succ d ih=>exact(aF0 hn h (f a).2.1 (f (a+(d+1)+1)).2.1).mpr ⟨(f (a+d+1)).1,(f (a+d+1)).2.1,ih,fs (a+d+1)⟩
 have e':(f a).1=(f b).1:=e
 have y:=C (b - a - 1)
 rw[show a+(b - a - 1)+1=b by omega,<-e']at y
 exact⟨(f a).1,(f a).2.1,(f a).2.2.1,y,(f a).2.2.2⟩
theorem af8 {n:Nat}(hn:1<=n){s:Nat->Nat->Int}{i j:Nat}{x:Int}:sharp n s i j<=x↔∃ k,k<n/\s i k<=x/\rnd (s k k)<=x/\s k j<=x:=by
 obtain⟨m,h⟩:=aF1 (l:=(ah n).map λ k=>mx3 (s i k) (rnd (s k k)) (s k j)) (by
  intro z
  have:=congrArg gQ z
  rw[aG,ci]at this
  simp at this
  omega)
 unfold sharp
 rw[h]
 show m<=x↔_
 rw[bg8 h]
 constructor
 ·rintro⟨y,hy,hx⟩
  obtain⟨k,hk,rfl⟩:=ay.mp hy
  exact⟨k,aU.mp hk,bt7.mp hx⟩
 ·rintro⟨k,hk,hx⟩
  exact⟨_,ay.mpr ⟨k,aU.mpr hk,rfl⟩,bt7.mpr hx⟩
theorem bw6 {y:Int}(h:0<=y)(h3:y<=3):0<=rnd y/\rnd y<=3:=by unfold rnd;split<;>omega
theorem au9 {n:Nat}(hn:1<=n){s:Nat->Nat->Int}(h:InT n s):InT n (sharp n s):=λ i j y hj=>by
 constructor
 ·obtain⟨k,hk,B,_⟩:=(af8 hn (s:=s) (i:=i) (j:=j)).mp (bH _)
  have:=h i k y hk
  omega
 ·exact(af8 hn).mpr ⟨0,by omega,(h i 0 y (by omega)).2,(bw6 (h 0 0 (by omega) (by omega)).1 (h 0 0 (by omega) (by omega)).2).2,(h 0 j (by omega) hj).2⟩
section
variable {n:Nat} {s:Nat->Nat->Int}
theorem av1 (hn:1<=n)(h:Std n s){i j:Nat}(y:i<n)(hj:j<n):s i j<=sharp n s i j:=by
 obtain⟨l,hl,a,_,c⟩:=(af8 hn (s:=s) (i:=i) (j:=j)).mp (bH _)
 exact(aF0 hn h y hj).mpr ⟨l,hl,a,c⟩
theorem aQ6 (hn:1<=n)(hs:InT n s)(h:Std n s){i j:Nat}(y:i<n)(hj:j<n):sharp n s i j=0↔s i j=0:=by
 have e1:=hs i j y hj
 have e2:=au9 hn hs i j y hj
 have B:=av1 hn h y hj
 constructor
 ·intro e;omega
 ·intro e
  obtain⟨k,hk,a,b,c⟩:=bd5 hn h y hj (x:=0) (by omega)
  have:sharp n s i j<=0:=(af8 hn).mpr ⟨k,hk,a,by have:=hs k k hk hk;unfold rnd;rw[if_pos (by omega)];exact b,c⟩
  omega
theorem aK1 (hn:1<=n)(hs:InT n s)(h:Std n s){i j:Nat}(y:i<n)(hj:j<n):sharp n s i j=3↔s i j=3:=by
 have e1:=hs i j y hj
 have e2:=au9 hn hs i j y hj
 have B:=av1 hn h y hj
 constructor
 ·intro e
  rcases Int.lt_or_le (s i j) 3 with z|z
  ·obtain⟨k,hk,a,b,c⟩:=bd5 hn h y hj (x:=2) (by omega)
   have:sharp n s i j<=2:=(af8 hn).mpr ⟨k,hk,a,by unfold rnd;split<;>omega,c⟩
   omega
  ·omega
 ·intro e;omega
end
def cl5 (cells:List (Str×Addr))(P:Addr)(name q:Str)(params:be)(body:List Stmt)(scope:Scope)(pos:Pos)(i:Nat):TS:=λ D σ H =>
 ∃ ps:Array Value,H P=some (.tbl ps)/\g7 ps.toList /\
  (cL pos ps.toList=none->∀ c' f doc pm ctv,H c'=none->H f=none->c'≠f ->
   D.nx (σ.set i (some (.ref f))) (upd (upd (upd H P (.tbl (ps++#[cz pos.line,cz pos.col,.ref c']))) c' (qH c' q)) f (av9 f (cw name q params body scope (af6 cells scope.names []) .none .none doc pm none (.ref c') ctv)))) /\
  (∀ cv,cL pos ps.toList=some cv->∃ c',cv=.ref c'/\∀ f doc pm ctv,H f=none->D.nx (σ.set i (some (.ref f))) (upd H f (av9 f (cw name q params body scope (af6 cells scope.names []) .none .none doc pm none (.ref c') ctv))))
theorem bY5 {X:Cx}{c P:Addr}{name q:Str}{i:Nat}{params:be}{body:List Stmt}{scope:Scope}{pos:Pos}(hN:X.N.Nodup)(hi:X.N[i]?=some name)(hx:Loc X.env.scope name)(Y:X.env.code=.ref c)(C:bQ X.base c P)(hB:BM X.mg X.base)
  (c3:lamCheck scope X.env.scope=true) (hq:jQ X.env name name=q:=by rfl) (d1:params.defaults=[]:=by rfl) (d0:params.kw_defaults=[]:=by rfl) (ha:annTrees params none X.env=[]:=by rfl) (hf:X.fn name=true\/X.env.scope.names.lookup name=some .local:=by first|exact .inl rfl|exact .inr rfl) :
  PS X (.FunctionDef name params body [] none [] scope none name pos) (cl5 X.env.cells P name q params body scope pos i):=by
 intro a0 s σ H D I h
 have c0:∀ y∈scope.names,y.2=.free->X.env.kindOf y.1=some .cell\/X.env.kindOf y.1=some .free:=λ y hy e=>by
  have z:=aO.mp c3 y hy
  have z':X.env.scope.names.lookup y.1=some .cell\/X.env.scope.names.lookup y.1=some .free:=by simpa [e]using z
  exact z'
 obtain⟨ps,hP,ht,a4,a9⟩:=h
 refine PySem.W.nestDef_K d1 d0 ha ?_
 rw[hq]
 have fin:∀ {H2:Hp} {f:Addr} {s2:af},Inv X a0 σ H2 s2->D.nx (σ.set i (some (.ref f))) H2->wpAny (model X.prog X.w) X.A (eP X.env name (.ref f)) (λ _ s3=>SP X a0 D .next s3) X.xe s2:=λ {H2 f s2} I2 q2=>am3 (v:=.ref f) I2 hN hi hx rfl (λ s3 I3=>⟨_,H2,I3,q2⟩) hf
 have a2:=qD (scope:=scope) (env:=X.env) λ y hy e=>I.ok.has y.1 (c0 y hy e)
 have oP:s.heap.get? P=some (dJ ps):=I.hok P _ hP
 have a1:s.heap.Ns aX X.mg:=I.mod.glob.keeps I.bk
 have hC:bQ s.heap c P:=C.keeps I.bk
 have b0:aX≠P:=λ q=>by
  obtain⟨o,es,ep,e,d,_⟩:=a1
  rw[q,oP]at e;cases e;cases d
 have hb:s.heap.BuiltinsAt X.mg P:=by
  obtain⟨bm,ob,b1,b2,b3,b4,b5,b6⟩:=hB
  refine⟨bm,ob,b1,b2,λ q=>?_,λ q=>?_,I.bk _ _ b3,b4,b5,b6⟩
  ·obtain⟨o,es,ep,e,d,_⟩:=I.mod.glob
   rw[q,e]at b3;cases b3;rw[d]at b6;cases b6
  ·have e:=I.bk _ _ b3
   rw[q,oP]at e;cases e;cases b4
 cases qq:cL pos ps.toList with
 | none =>
  refine PySem.W.makeFunction_K (mg:=X.mg) a2 I.ok.glob a1 Y hC oP ht qq b0 hb λ B J G h' tk hx hge hlt a8 a3=>?_
  have a6:P<s.heap.objs.size:=aA oP
  have c6:B≠P:=bM (ak a6 hge)
  have c4:h'.objs.size≠P:=bM (dI (ak a6 hge) hlt)
  have c1:B≠h'.objs.size:=av hlt
  have hsz:s.heap.objs.size<=h'.objs.size:=aq hge (c9 hlt)
  have nP:∀ b,H b=none->b≠P:=λ b n z=>by rw[z,hP]at n;cases n
  have lt:∀ b o,H b=some o->b≠B/\b≠h'.objs.size:=λ b o e=>⟨av (ak (I.hok.lt e) hge),av (ak (I.hok.lt e) hsz)⟩
  have a5:∀ b o,s.heap.get? b=some o->b≠B/\b≠h'.objs.size:=λ b o e=>⟨av (ak (aA e) hge),av (ak (aA e) hsz)⟩
  have keep:∀ b o,b≠P->s.heap.get? b=some o->(h'.push (PySem.W.fnMade name q params body scope (af6 X.env.cells scope.names []) G ((X.mg "__name__").getD .none) B J)).get? b=some o:=λ b o n e=>ab _ (hx b o n e)
  have Z:∀ b,b≠P->b≠B->b≠h'.objs.size->∀ o1 o2 o3,upd (upd (upd H P o1) B o2) h'.objs.size o3 b=H b:=λ b n1 n2 n3 o1 o2 o3=>by rw[zm n3,zm n2,zm n1]
  refine fin (H2:=upd (upd (upd H P (.tbl (ps++#[cz pos.line,cz pos.col,.ref B]))) B (qH B q)) h'.objs.size (av9 h'.objs.size (cw name q params body scope (af6 X.env.cells scope.names []) .none .none G ((X.mg "__name__").getD .none) none (.ref B) J))) (I.un (t':=tk) ⟨λ b o e n _ _=>keep b o (nP b n) e,λ b o e n _ _=>⟨o.slots,keep b o (nP b n) e⟩,λ b o e n _=>?fr,λ b o e _=>?th,λ b xs e=>?tu,λ b o u e=>?fz,λ b qs e=>?tb⟩ ?ok) (a4 qq B h'.objs.size G _ J (I.hok.fresh hge) (I.hok.fresh hsz) c1)
  case fr=>rw[Z b (nP b n) (a5 b o e).1 (a5 b o e).2];exact n
  case th =>
   by_cases z:b=P
   ·subst z;exact⟨_,ab _ a3⟩
   ·exact⟨o,keep b o z e⟩
  case tu=>rw[Z b (λ z=>by rw[z,hP]at e;cases e) (lt b _ e).1 (lt b _ e).2];exact e
  case fz=>rw[Z b (λ z=>by rw[z,hP]at e;cases e) (lt b _ e).1 (lt b _ e).2];exact e
  case tb =>
   by_cases z:b=P
   ·subst z
    rw[hP]at e;cases e
    exact⟨#[cz pos.line,cz pos.col,.ref B],by rw[zm (bS c4),zm (bS c6),zr]⟩
   ·exact⟨#[],by rw[Z b z (lt b _ e).1 (lt b _ e).2,e];simp⟩
  case ok =>
   intro b o e
   by_cases zf:b=h'.objs.size
   ·subst zf
    rw[zr]at e;cases e
    exact av2 (aD _ rfl)
   ·rw[zm zf]at e
    by_cases zc:b=B
    ·subst zc
     rw[zr]at e;cases e
     obtain⟨c2,oc,vs,t,e1,e2,e3⟩:=a8
     exact aO5 ⟨c2,oc,vs,t,e1,ab _ e2,e3⟩
    ·rw[zm zc]at e
     by_cases zp:b=P
     ·subst zp
      rw[zr]at e;cases e
      exact ab _ a3
     ·rw[zm zp]at e
      have a7:∀ d u,H d=some u->(∀ ps,u≠.tbl ps)->upd (upd (upd H P (.tbl (ps++#[cz pos.line,cz pos.col,.ref B]))) B (qH B q)) h'.objs.size (av9 h'.objs.size (cw name q params body scope (af6 X.env.cells scope.names []) .none .none G ((X.mg "__name__").getD .none) none (.ref B) J)) d=some u:=λ d u e nt=>by
       rw[Z d (λ z=>by rw[z,hP]at e;cases e;exact nt _ rfl) (lt d _ e).1 (lt d _ e).2];exact e
      refine(I.hok b o e).stay (λ d u hd q=>keep d u ?_ q) (λ d q=>a7 d _ q λ _=>by nofun) λ d xs q=>a7 d _ q λ _=>by nofun
      rintro rfl
      rcases hd with hd|hd
      ·exact zp hd.symm
      ·rw[hP]at hd;cases hd
 | some cv =>
  obtain⟨B,rfl,c5⟩:=a9 cv qq
  refine PySem.W.makeFunction_hit (mg:=X.mg) a2 I.ok.glob a1 Y hC oP ht qq hb λ J G h' tk hk hsz=>?_
  exact fin (I.laid (t':=tk) (λ b o e=>ab _ (hk b o e)) hsz (av2 (aD _ rfl))) (c5 h'.objs.size G _ J (I.hok.fresh hsz))
def ap1 (H:Hp)(f:Addr)(name qual:Str)(params:be)(body:List Stmt)(scope:Scope)(fr:List Str)(cap:List V)(clos:List (Str×Addr)):Prop :=
 ∃ doc pm c' ctv,H f=some (av9 f (cw name qual params body scope clos .none .none doc pm none (.ref c') ctv))/\H c'=some (qH c' qual)/\Cells clos H /\
  (∀ x y c,clos.lookup x=some c->clos.lookup y=some c->x=y)/\(∀ x,scope.names.lookup x=some .free->∃ c,clos.lookup x=some c)/\Cap clos H fr cap
theorem bl6 {cells:List (Str×Addr)}{N:List Str}{kd:Str->Option bJ}{σ:St}{Z H2:Hp}{f:Addr}{q:Str}{name:Str}{params:be}{body:List Stmt}{scope:Scope}{fr:List Str}{cap:List V}(Y:Caught cells N kd σ Z H2)
  (hf:∃ B pm C h,Z f=some (av9 f (cw name q params body scope (af6 cells scope.names []) .none .none B pm none (.ref C) h))/\Z C=some (qH C q))
  (G:∀ x,scope.names.lookup x=some .free->∃ c,cells.lookup x=some c)
  (J:∀(i:Nat) (x:Str) (v:V),fr[i]?=some x->cap[i]?=some v->scope.names.lookup x=some .free/\(kd x=some .cell\/kd x=some .free)/\∃ j:Nat,N[j]?=some x/\σ[j]?=some (some v)) :
  ap1 H2 f name q params body scope fr cap (af6 cells scope.names []):=by
 obtain⟨B,pm,C,h,h1,h2⟩:=hf
 have up:∀ b o,Z b=some o->H2 b=some o:=λ b o e=>by
  rw[Y.ne b λ z=>by rw[Y.free b z]at e;cases e];exact e
 have sub:∀ x c,(af6 cells scope.names []).lookup x=some c->cells.lookup x=some c:=λ x c e=>by
  rcases clOf_mem (az e)with z|z
  ·exact z
  ·exact absurd z (by simp)
 refine⟨B,pm,C,h,up _ _ h1,up _ _ h2,λ x c e=>Y.cells x c (sub x c e),λ x y c e1 e2=>Y.inj x y c (sub x c e1) (sub y c e2),λ x k=>?_,λ i x v e1 e2=>?_⟩
 ·obtain⟨c,e⟩:=G x k
  exact⟨c,qF e (az k)⟩
 ·obtain⟨k,kk,j,e3,e4⟩:=J i x v e1 e2
  obtain⟨c,e⟩:=G x k
  obtain⟨o,u,e5,e6,e7⟩:=Y.cap j x v c e3 e4 kk e
  exact⟨c,o,u,qF e (az k),e5,e6,e7⟩
theorem ap1.fn {K:ac}{H:Hp}{f:Addr}{name qual:Str}{params:be}{body:List Stmt}{scope:Scope}{fr:List Str}{cap:List V}{y:List (Str×Addr)}(h:ap1 H f name qual params body scope fr cap y):bE0 K H f:=by
 obtain⟨B,J,Y,C,G,_⟩:=h
 exact .inl ⟨_,G⟩
end L2
end
noncomputable section
namespace L2
open PySem PySem.Spec PyProof.Rows Builtin
section
variable {P:aL} {w:World} {A:aV} {E:Value->af->Prop} {s:af}
theorem aJ4 {h t:Addr}{i:Nat}{l:Array Value}{v:Value}{Q:Value->af->Prop}(B:s.heap.IsTupleIter h t i)(J:s.heap.IsTuple t l)(hv:l[i]?=some v)
  (k:∀ h',h'.IsTupleIter h t (i+1)->bT h s.heap h'->Q v { s with heap:=h' }):wpAny (model P w) A (aY (.ref h)) Q E s:=by
 obtain⟨o,e1,e2,y⟩:=id B
 obtain⟨p,C,_,n,G⟩:=J
 unfold aY
 refine ag (cM (name:=cH "__next__") B.typeIs cB (db cB B.typeIs eN ?_ (eF _)))
 show wpAny _ _ (field (.ref h) 0 >>= _) _ _ _
 refine ag (cc e1 y (x:=.ref t) rfl ?_)
 show wpAny _ _ (if(Value.ref t==Value.none)=true then _ else _) _ _ _
 rw[if_neg (show ¬((Value.ref t==Value.none)=true)from λ z=>nomatch z)]
 show wpAny _ _ (field (.ref h) 1 >>= _) _ _ _
 refine ag (cc e1 y (x:=.int i 0) rfl ?_)
 show wpAny _ _ (g6 (.ref t) >>= _) _ _ _
 refine ag (bO C G ?_)
 simp only[dL,hv]
 refine ag (wpAny_setField e1 y (by simp) (aK ⟨v,rfl,aK (k _ ⟨_,cU _ e1 (Obj.isFreed_of_fields (iA y _)),(Obj.cls_mapFields ..).trans e2,by rw[iA y];simp[cz]⟩ (hX ..))⟩))
theorem aR0 {h t:Addr}{i:Nat}{l:Array Value}{Q:Value->af->Prop}(C:A.handled=none)(B:s.heap.IsTupleIter h t i)(Y:s.heap.IsTuple t l)(hv:l[i]?=none)
  (k:∀ h' e,fu h s.heap h'->(∃ o,h'.get? e=some o/\o.cls=.type "StopIteration")->E (.ref e) { s with heap:=h' }):wpAny (model P w) A (aY (.ref h)) Q E s:=by
 obtain⟨o,e1,e2,y⟩:=id B
 obtain⟨p,G,_,n,J⟩:=Y
 unfold aY
 refine ag (cM (name:=cH "__next__") B.typeIs cB (db cB B.typeIs eN ?_ (eF _)))
 show wpAny _ _ (field (.ref h) 0 >>= _) _ _ _
 refine ag (cc e1 y (x:=.ref t) rfl ?_)
 show wpAny _ _ (if(Value.ref t==Value.none)=true then _ else _) _ _ _
 rw[if_neg (show ¬((Value.ref t==Value.none)=true)from λ z=>nomatch z)]
 show wpAny _ _ (field (.ref h) 1 >>= _) _ _ _
 refine ag (cc e1 y (x:=.int i 0) rfl ?_)
 show wpAny _ _ (g6 (.ref t) >>= _) _ _ _
 refine ag (bO G J ?_)
 simp only[dL,hv]
 refine ag (gi (ag (wpAny_setField e1 y (by simp) ?_)))
 show wpAny _ _ (newExc (.type "StopIteration") [] >>= _) _ _ (_:af)
 refine ag ?_
 simp only[newExc,newTuple]
 refine ag (cg ?_ (by size_fits))
 refine ag (m:=firstArgMember _ _) (wpAny_of_eq (a:=Value.none) (by first|rfl|(simp only[firstArgMember];rfl)) (cg ?_ (by size_fits)))
 simp only[raiseNew]
 refine ag (wpAny_handled ?_)
 first|rw[show A.in1.handled=none from C]|rw[C]
 exact ag (aK (wpAny_throw (k _ _ (((hX ..).extBut.push _).push _) ⟨_,aD _ rfl,rfl⟩)))
end
structure Dw (P:aL)(w:World)(K:ac)(J:It)(it:Addr)(tn:Nat->Heap->Prop):Prop where
 obj:∀ i h,tn i h->∃ o,h.get? it=some o/\∀ v,o.data≠.cell v
 keep:∀ i h h',tn i h->(∀ o,h.get? it=some o->h'.get? it=some o)->tn i h'
 item:∀(X:Cx),X.prog=P->X.w=w->X.K=K->∀(A:aV) (i:Nat) (pins:List (Addr×Obj)) (s:af) (σ:St) (H:Hp) (Q:Value->af->Prop) (E:Value->af->Prop),Inv X pins σ H s->tn i s.heap->J.go i H ->
  (∀ x u h' tk,RelV x u->J.yld i H x H->tn (i+1) h'->bT it s.heap h'->Q u { s with heap:=h',toks:=tk })->wpAny (model P w) A (aY (.ref it)) Q E s
 done:∀(X:Cx),X.prog=P->X.w=w->X.K=K->∀(A:aV) (i:Nat) (pins:List (Addr×Obj)) (s:af) (σ:St) (H:Hp) (Q:Value->af->Prop) (E:Value->af->Prop),A.handled=none->Inv X pins σ H s->tn i s.heap->J.stop i H ->
  (∀ h' e,fu it s.heap h'->(∃ o,h'.get? e=some o/\o.cls=.type "StopIteration")->E (.ref e) { s with heap:=h' })->wpAny (model P w) A (aY (.ref it)) Q E s
theorem bz7 {P:aL}{w:World}{K:ac}(a Z:Addr):Dw P w K (Itl K a) Z (λ i h=>h.IsListIter Z a i) where
 obj:=λ i h st=>by
  obtain⟨o,e,c,d⟩:=st
  exact⟨o,e,λ v z=>by rw[d]at z;cases z⟩
 keep:=λ i h h' st k=>st.at k
 item:=by
  intro X B hw Y A i y s σ H Q E I st C k
  subst B hw Y
  obtain⟨xs,x,hq,hx⟩:=C
  obtain⟨its,J,p,hz⟩:=I.list hq
  obtain⟨u,hu,ru⟩:=J.get hx
  exact wpAny_nextOf_list_item st p.isList (x:=u) (by simpa using hu) λ h' G sb=>k x u h' s.toks ru ⟨rfl,λ ys hy=>by rw[I.list_inj hy hq];exact hx⟩ G sb
 done:=by
  intro X B hw Y A i y s σ H Q E hA I st C k
  subst B hw Y
  obtain⟨xs,hq,hx⟩:=C
  obtain⟨its,J,p,hz⟩:=I.list hq
  have hl:=J.length
  exact wpAny_nextOf_list_end hA st p.isList (by simp;omega) k
theorem bQ1 {P:aL}{w:World}{K:ac}(a Z:Addr):Dw P w K (Itt K a) Z (λ i h=>h.IsTupleIter Z a i) where
 obj:=λ i h st=>by
  obtain⟨o,e,c,d⟩:=st
  exact⟨o,e,λ v z=>by rw[d]at z;cases z⟩
 keep:=λ i h h' st k=>st.at k
 item:=by
  intro X B hw Y A i y s σ H Q E I st C k
  subst B hw Y
  obtain⟨xs,x,hq,hx⟩:=C
  obtain⟨its,J,p,hz⟩:=I.tuple hq
  obtain⟨u,hu,ru⟩:=J.get hx
  exact aJ4 st (show s.heap.IsTuple a its.toArray from p) (v:=u) (by simpa using hu) λ h' G sb=>k x u h' s.toks ru ⟨rfl,λ ys hy=>by rw[I.tuple_inj hy hq];exact hx⟩ G sb
 done:=by
  intro X B hw Y A i y s σ H Q E hA I st C k
  subst B hw Y
  obtain⟨xs,hq,hx⟩:=C
  obtain⟨its,J,p,hz⟩:=I.tuple hq
  have hl:=J.length
  exact aR0 hA st (show s.heap.IsTuple a its.toArray from p) (by simp;omega) k
theorem bR8 {P:aL}{w:World}{K:ac}(x:Str)(t:Tok)(it:Addr):Dw P w K (Its x) it (λ i h=>h.IsStrIter it (gT x) x t i) where
 obj:=λ i h st=>by
  obtain⟨o,e,c,d⟩:=st
  exact⟨o,e,λ v z=>by rw[d]at z;cases z⟩
 keep:=λ i h h' st k=>by
  obtain⟨o,ho,r⟩:=st
  exact⟨o,k _ ho,r⟩
 item:=by
  intro X G hw Z A i C s σ H Q E I st J k
  subst G hw Z
  have y:i<x.cps.size:=J
  have hc:x.cps[i]?=some x.cps[i]:=by simp[y]
  unfold gT at st k
  cases ha:x.cps.all (·<128)
  ·rw[ha]at st k
   exact wpAny_nextOf_wide_item st hc λ h' B Y=>k (.str ⟨#[x.cps[i]]⟩) _ h' (s.toks+1) ⟨_,rfl⟩ ⟨rfl,_,hc,rfl⟩ B Y
  ·rw[ha]at st k
   exact wpAny_nextOf_ascii_item st hc λ h' B Y=>k (.str ⟨#[x.cps[i]]⟩) _ h' (s.toks+1) ⟨_,rfl⟩ ⟨rfl,_,hc,rfl⟩ B Y
 done:=by
  intro X G hw Z A i C s σ H Q E hA I st J k
  subst G hw Z
  have y:x.cps.size<=i:=J
  have hc:x.cps[i]?=none:=by simp[y]
  unfold gT at st
  cases ha:x.cps.all (·<128)
  ·rw[ha]at st
   exact wpAny_nextOf_wide_end hA st hc k
  ·rw[ha]at st
   exact wpAny_nextOf_ascii_end hA st hc k
theorem Inv.turnedL {X:Cx}{h:List (Addr×Obj)}{σ:St}{H:Hp}{s:af}{h':Heap}{t':Nat}{B:List Addr}(I:Inv X h σ H s)(f:∀ b∈B,FpOk X h H b)(k:∀ b o,b ∉ B->s.heap.get? b=some o->h'.get? b=some o):Inv X h σ H { s with heap:=h',toks:=t' }:=by
 have y:∀ b u,H b=some u->b ∉ B:=λ b u e z=>by rw[(f b z).1]at e;cases e
 refine I.step (g':=s.gens) (d':=s.drawn) (ch:=B) (λ b hb=>?_) (λ b o _ _ hc e _=>k b o hc e) (λ b o _ _ hc e _=>⟨o.slots,k b o hc e⟩) (λ _ _ _ _ n=>n)
  (λ b o hc e=>⟨o,k b o hc e⟩) (λ _ _ e=>e) (λ _ _ _ e=>e) (λ b ps e=>⟨#[],by rw[e];simp⟩) (λ m J=>?_) (λ b u e=>?_) I.bare
 ·obtain⟨f0,Y,f2,f3,G,Z⟩:=f b hb
  exact⟨f3,Y,G,Z⟩
 ·obtain⟨o,es,C,ho,r⟩:=J
  exact⟨o,es,C,k _ o (λ z=>(f _ z).2.1 rfl) ho,r⟩
 ·refine(I.hok b u e).stay (λ c v hc q=>k c v ?_ q) (λ _ q=>q) λ _ _ q=>q
  rcases hc with z|z
  ·rw[z];exact y b u e
  ·exact y c _ z
structure Ap (z ti to i1 i2:Addr):Prop where
 a1:ti≠z
 a2:to≠z
 a3:i1≠z
 a4:i2≠z
 a5:ti≠to
 a6:ti≠i1
 a7:ti≠i2
 a8:to≠i1
 a9:to≠i2
 b1:i1≠i2
section
variable {X:Cx} {pins:List (Addr×Obj)} {σ:St} {H:Hp} {s:af} {A:aV} {E:Value->af->Prop} {J1 J2:It} {t1 t2:Nat->Heap->Prop} {z ti to i1 i2:Addr} {n:Nat} {a b:Value}
theorem bh3 {Q:Value->af->Prop}(D1:Dw X.prog X.w X.K J1 i1 t1)(D2:Dw X.prog X.w X.K J2 i2 t2)(D:Ap z ti to i1 i2)(I:Inv X pins σ H s)(f:∀ b∈[z,ti,to,i1,i2],FpOk X pins H b)
  (hz:IsZip s.heap z ti to .none) (hI:dv s.heap ti (.ref i1) (.ref i2)) (hO:dv s.heap to a b) (h1:t1 n s.heap) (h2:t2 n s.heap) (g1:J1.go n H) (g2:J2.go n H)
  (k:∀ x y u v h' tk,RelV x u->RelV y v->J1.yld n H x H->J2.yld n H y H->IsZip h' z ti to (cz s.heap.objs.size)->dv h' to u v->t1 (n+1) h'->t2 (n+1) h'->dv h' s.heap.objs.size u v ->
   (∀ c o,c≠z->c≠to->c≠i1->c≠i2->s.heap.get? c=some o->h'.get? c=some o)->Q (.ref s.heap.objs.size) { s with heap:=h',toks:=tk }) :
  wpAny (model X.prog X.w) A (ke.«zip.__next__» ⟨[.ref z],[]⟩) (λ fin s'=>∃ v,fin=.done (.ret v)/\Q v s') E s:=by
 show wpAny _ _ (field (.ref z) 2 >>= _) _ _ (_:af)
 refine ag (cc hz rfl (x:=.bool false) rfl ?_)
 show wpAny _ _ (field (.ref z) 3 >>= _) _ _ (_:af)
 refine ag (cc hz rfl (x:=.ref ti) rfl ?_)
 refine ag (bO hI rfl ?_)
 show wpAny _ _ (bR (.ref z) >>= _) _ _ (_:af)
 refine ag ?_
 unfold bR
 refine ag (cc hz rfl (x:=.none) rfl (aK ?_))
 simp only[if_true]
 refine ag (gi (ag (cc hz rfl (x:=.ref to) rfl ?_)))
 refine ag (cC hz (by simp) λ p1 z1 s1=>?_)
 replace z1:IsZip p1 z ti to .ellipsis:=z1
 have q1:Inv X pins σ H { s with heap:=p1,toks:=s.toks }:=I.turnedL f λ c o hc e=>s1.extBut _ _ (λ y=>hc (by simp[y])) e
 refine ag ?_
 simp only[iX,i5,eD,dG]
 refine ag (ag (fI ?_))
 show wpAny _ _ (aY (.ref i1) >>= _) _ _ (_:af)
 refine ag (D1.item X rfl rfl rfl _ n pins { s with heap:=p1 } σ H _ _ q1 (D1.keep _ _ _ h1 λ o e=>s1.extBut _ _ D.a3 e) g1 λ x u p2 J rx yx a6 s2=>aK ?_)
 replace s2:bT i1 p1 p2:=s2
 have o2:dv p2 to a b:=s2.extBut _ _ D.a8 (s1.extBut _ _ D.a2 hO)
 refine ag (bO o2 rfl ?_)
 refine ag (d8 o2 λ G o3 s3=>?_)
 replace o3:dv G to u b:=o3
 replace s3:bT to p2 G:=s3
 refine ag (dB (aK ?_))
 have q3:Inv X pins σ H { s with heap:=G,toks:=J }:=I.turnedL f λ c o hc e=>s3.extBut _ _ (λ y=>hc (by simp[y])) (s2.extBut _ _ (λ y=>hc (by simp[y])) (s1.extBut _ _ (λ y=>hc (by simp[y])) e))
 refine ag (ag (fI ?_))
 show wpAny _ _ (aY (.ref i2) >>= _) _ _ (_:af)
 refine ag (D2.item X rfl rfl rfl _ n pins { s with heap:=G,toks:=J } σ H _ _ q3 (D2.keep _ _ _ h2 λ o e=>s3.extBut _ _ D.a9.symm (s2.extBut _ _ D.b1.symm (s1.extBut _ _ D.a4 e))) g2 λ y v p4 a5 ry yy a0 s4=>aK ?_)
 replace s4:bT i2 G p4:=s4
 have o4:dv p4 to u b:=s4.extBut _ _ D.a9 o3
 refine ag (bO o4 rfl ?_)
 refine ag (d8 o4 λ h o5 s5=>?_)
 replace o5:dv h to u v:=o5
 replace s5:bT to p4 h:=s5
 refine ag (dB (aK (aK ?_)))
 refine ag (bO o5 rfl ?_)
 refine ag (wpAny_newTuple ?_)
 have hsz:h.objs.size=s.heap.objs.size:=by rw[s5.1,s4.1,s3.1,s2.1,s1.1]
 have z5:IsZip h z ti to .ellipsis:=s5.extBut _ _ D.a2.symm (s4.extBut _ _ D.a4.symm (s3.extBut _ _ D.a2.symm (s2.extBut _ _ D.a3.symm z1)))
 have k5:∀ c o,c≠z->c≠to->c≠i1->c≠i2->s.heap.get? c=some o->h.get? c=some o:=λ c o B c2 c3 c4 e =>
  s5.extBut _ _ c2 (s4.extBut _ _ c4 (s3.extBut _ _ c2 (s2.extBut _ _ c3 (s1.extBut _ _ B e))))
 have a7:t1 (n+1) h:=D1.keep _ _ _ a6 λ o e=>s5.extBut _ _ D.a8.symm (s4.extBut _ _ D.b1 (s3.extBut _ _ D.a8.symm e))
 have a1:t2 (n+1) h:=D2.keep _ _ _ a0 λ o e=>s5.extBut _ _ D.a9.symm e
 have C:z<h.objs.size:=aA z5
 show wpAny _ _ (dg (.ref z) (.ref h.objs.size) >>= _) _ _ (_:af)
 refine ag ?_
 unfold dg
 have z6:IsZip (h.push { cls:=.type "tuple",data:=.seq #[u,v] }) z ti to .ellipsis:=ab _ z5
 refine ag (cC z6 (by simp) λ p7 z7 s7=>?_)
 replace z7:IsZip p7 z ti to (cz h.objs.size):=z7
 refine cC z7 (by simp) λ Y Z s8=>?_
 replace Z:IsZip Y z ti to (cz h.objs.size):=Z
 have up:∀ c o,c≠z->h.get? c=some o->Y.get? c=some o:=λ c o B e=>s8.extBut _ _ B (s7.extBut _ _ B (ab _ e))
 have T8:dv Y h.objs.size u v:=s8.extBut _ _ (bM C) (s7.extBut _ _ (bM C) (aD _ rfl))
 rw[hsz]at Z T8
 refine aK ⟨_,rfl,?_⟩
 show Q (.ref h.objs.size) _
 rw[hsz]
 exact k x y u v Y a5 rx ry yx yy Z (up _ _ D.a2 o5) (D1.keep _ _ _ a7 λ o e=>up _ o D.a3 e) (D2.keep _ _ _ a1 λ o e=>up _ o D.a4 e) T8 λ c o B c2 c3 c4 e=>up c o B (k5 c o B c2 c3 c4 e)
theorem bl8 {Q:Fin->af->Prop}(hA:A.handled=none)(D1:Dw X.prog X.w X.K J1 i1 t1)(D2:Dw X.prog X.w X.K J2 i2 t2)(D:Ap z ti to i1 i2)(I:Inv X pins σ H s)(f:∀ b∈[z,ti,to,i1,i2],FpOk X pins H b)
  (hz:IsZip s.heap z ti to .none) (hI:dv s.heap ti (.ref i1) (.ref i2)) (hO:dv s.heap to a b) (h1:t1 n s.heap) (h2:t2 n s.heap) (g:J1.stop n H\/J1.go n H/\J2.stop n H)
  (k:∀ h' tk e,(∀ c o,c≠z->c≠to->c≠i1->c≠i2->s.heap.get? c=some o->h'.get? c=some o)->(∃ o,h'.get? e=some o/\o.cls=.type "StopIteration")->E (.ref e) { s with heap:=h',toks:=tk }) :
  wpAny (model X.prog X.w) A (ke.«zip.__next__» ⟨[.ref z],[]⟩) Q E s:=by
 show wpAny _ _ (field (.ref z) 2 >>= _) _ _ (_:af)
 refine ag (cc hz rfl (x:=.bool false) rfl ?_)
 show wpAny _ _ (field (.ref z) 3 >>= _) _ _ (_:af)
 refine ag (cc hz rfl (x:=.ref ti) rfl ?_)
 refine ag (bO hI rfl ?_)
 show wpAny _ _ (bR (.ref z) >>= _) _ _ (_:af)
 refine ag ?_
 unfold bR
 refine ag (cc hz rfl (x:=.none) rfl (aK ?_))
 simp only[if_true]
 refine ag (gi (ag (cc hz rfl (x:=.ref to) rfl ?_)))
 refine ag (cC hz (by simp) λ B z1 s1=>?_)
 replace z1:IsZip B z ti to .ellipsis:=z1
 have q1:Inv X pins σ H { s with heap:=B,toks:=s.toks }:=I.turnedL f λ c o hc e=>s1.extBut _ _ (λ y=>hc (by simp[y])) e
 refine ag ?_
 simp only[iX,i5,eD,dG]
 refine ag (ag (fI ?_))
 show wpAny _ _ (aY (.ref i1) >>= _) _ _ (_:af)
 have Y:=D1.keep _ _ B h1 λ o e=>s1.extBut _ _ D.a3 e
 rcases g with g|⟨g,g2⟩
 ·refine ag (D1.done X rfl rfl rfl _ n pins { s with heap:=B } σ H _ _ hA q1 Y g λ G e s2 he=>?_)
  obtain⟨Z,e1,e2⟩:=he
  replace s2:fu i1 B G:=s2
  have z2:IsZip G z ti to .ellipsis:=s2 _ _ D.a3.symm z1
  have ez:e≠z:=λ x=>by subst x;rw[z2]at e1;cases e1;simp at e2
  exact cC z2 (by simp) λ C _ s3=>k C s.toks e (λ c o J _ c3 _ x=>s3.extBut _ _ J (s2 _ _ c3 (s1.extBut _ _ J x))) ⟨Z,s3.extBut _ _ ez e1,e2⟩
 ·refine ag (D1.item X rfl rfl rfl _ n pins { s with heap:=B } σ H _ _ q1 Y g λ x u G h rx yx a0 s2=>aK ?_)
  replace s2:bT i1 B G:=s2
  have o2:dv G to a b:=s2.extBut _ _ D.a8 (s1.extBut _ _ D.a2 hO)
  refine ag (bO o2 rfl ?_)
  refine ag (d8 o2 λ C o3 s3=>?_)
  replace s3:bT to G C:=s3
  refine ag (dB (aK ?_))
  have q3:Inv X pins σ H { s with heap:=C,toks:=h }:=I.turnedL f λ c o hc e=>s3.extBut _ _ (λ y=>hc (by simp[y])) (s2.extBut _ _ (λ y=>hc (by simp[y])) (s1.extBut _ _ (λ y=>hc (by simp[y])) e))
  refine ag (ag (fI ?_))
  show wpAny _ _ (aY (.ref i2) >>= _) _ _ (_:af)
  refine ag (D2.done X rfl rfl rfl _ n pins { s with heap:=C,toks:=h } σ H _ _ hA q3 (D2.keep _ _ _ h2 λ o e=>s3.extBut _ _ D.a9.symm (s2.extBut _ _ D.b1.symm (s1.extBut _ _ D.a4 e))) g2 λ p4 e s4 he=>?_)
  obtain⟨Z,e1,e2⟩:=he
  replace s4:fu i2 C p4:=s4
  have z4:IsZip p4 z ti to .ellipsis:=s4 _ _ D.a4.symm (s3.extBut _ _ D.a2.symm (s2.extBut _ _ D.a3.symm z1))
  have ez:e≠z:=λ x=>by subst x;rw[z4]at e1;cases e1;simp at e2
  exact cC z4 (by simp) λ p5 _ s5=>k p5 h e (λ c o J c2 c3 c4 x=>s5.extBut _ _ J (s4 _ _ c4 (s3.extBut _ _ c2 (s2.extBut _ _ c3 (s1.extBut _ _ J x))))) ⟨Z,s5.extBut _ _ ez e1,e2⟩
end
noncomputable def Jz (J1 J2:It):It:=⟨λ i H=>J1.go i H/\J2.go i H,
 λ i H x H'=>∃ a x1 x2,J1.yld i H x1 H/\J2.yld i H x2 H/\H a=none/\x=.ref a/\H'=upd H a (.tup [x1,x2]),λ i H=>J1.stop i H\/J1.go i H/\J2.stop i H⟩
theorem br5 {P:aL}{w:World}{K:ac}{elts:List Expr}{ek:Nat}{epos:Pos}{J1 J2:It}{t1 t2:Nat->Heap->Prop}{z ti to i1 i2:Addr}(D1:Dw P w K J1 i1 t1)(D2:Dw P w K J2 i2 t2)(D:Ap z ti to i1 i2) :
  Turn P w K (.Tuple elts ek epos) (Jz J1 J2) [z,ti,to,i1,i2] z (λ i h=>IsZip h z ti to .none/\dv h ti (.ref i1) (.ref i2)/\(∃ a b,dv h to a b)/\t1 i h/\t2 i h) where
 mem:=by simp
 obj:=λ i h st b hb=>by
  obtain⟨hz,G,⟨a,c,Y⟩,J,Z⟩:=st
  simp only[au,aP,or_false]at hb
  rcases hb with rfl|rfl|rfl|rfl|rfl
  ·exact⟨_,hz,λ v y=>by cases y⟩
  ·exact⟨_,G,λ v y=>by cases y⟩
  ·exact⟨_,Y,λ v y=>by cases y⟩
  ·exact D1.obj _ _ J
  ·exact D2.obj _ _ Z
 keep:=λ i h h' st k=>by
  obtain⟨hz,G,⟨a,c,Y⟩,J,Z⟩:=st
  exact⟨k _ (by simp) _ hz,k _ (by simp) _ G,⟨a,c,k _ (by simp) _ Y⟩,D1.keep _ _ _ J λ o e=>k _ (by simp) o e,D2.keep _ _ _ Z λ o e=>k _ (by simp) o e⟩
 item:=by
  intro X hP hw hK hc i C s σ H E I hf st hg
  subst hP hw hK
  obtain⟨hz,G,⟨a,c,Y⟩,J,Z⟩:=st
  have hT:s.TypeIs (.ref z) "zip":=⟨_,hz,rfl⟩
  unfold gN
  refine ag (wpAny_attempt (cM (name:=cH "__next__") hT eG (db eG hT iY
   (bh3 D1 D2 D I hf hz G Y J Z hg.1 hg.2 λ x y u v h' tk rx ry yx yy z' o' b0 a9 T' kk=>aK ?_) (iO _))))
  refine⟨_,rfl,wpAny_letOwnedTupleGo_zip (s:={ s with heap:=h',toks:=tk }) z' λ a0 b2 B=>?_⟩
  replace B:bT z h' a0:=B
  have lt:∀ {c o},s.heap.get? c=some o->s.heap.objs.size≠c:=λ e=>bM (aA e)
  obtain⟨o1,e1,_⟩:=D1.obj _ _ J
  obtain⟨o2,e2,_⟩:=D2.obj _ _ Z
  have Tz:=lt hz
  have I1:Inv X C σ (upd H s.heap.objs.size (.tup [x,y])) { s with heap:=s.heap.push { cls:=.type "tuple",data:=.seq #[u,v] },toks:=tk } :=
   I.laid (λ b u e=>ab _ e) (aj _) ⟨by simp[aN],[u,v],.cons rx (.cons ry .nil),_,aD _ rfl,rfl,_,rfl⟩
  have a8:∀ b∈[z,ti,to,i1,i2],FpOk X C (upd H s.heap.objs.size (.tup [x,y])) b:=λ b hb=>by
   have q:=hf b hb
   refine⟨?_,q.2⟩
   unfold upd
   rw[if_neg ?_]
   ·exact q.1
   ·simp only[au,aP,or_false]at hb
    rcases hb with rfl|rfl|rfl|rfl|rfl
    ·exact(lt hz).symm
    ·exact(lt G).symm
    ·exact(lt Y).symm
    ·exact(lt e1).symm
    ·exact(lt e2).symm
  have I2:Inv X C σ (upd H s.heap.objs.size (.tup [x,y])) { s with heap:=a0,toks:=tk }:=by
   refine I1.turnedL (s:={ s with heap:=s.heap.push { cls:=.type "tuple",data:=.seq #[u,v] },toks:=tk }) a8 λ b o hb e=>?_
   simp only[au,aP,or_false,not_or]at hb
   refine B.extBut _ _ hb.1 ?_
   by_cases hbT:b=s.heap.objs.size
   ·subst hbT
    have:=aD s.heap (o:={ cls:=.type "tuple",data:=.seq #[u,v] }) rfl
    rw[show(s.heap.push { cls:=.type "tuple",data:=.seq #[u,v] }).get? s.heap.objs.size=some o from e]at this
    cases this
    exact T'
   ·exact kk b o hb.1 hb.2.2.1 hb.2.2.2.1 hb.2.2.2.2 (by
     have e':(s.heap.push { cls:=.type "tuple",data:=.seq #[u,v] }).get? b=some o:=e
     rw[Heap.get?_push_ne _ _ _ hbT]at e'
     exact e')
  exact⟨.ref s.heap.objs.size,_,I2,rfl,⟨_,x,y,yx,yy,I.hok.fresh (aj _),rfl,rfl⟩,⟨b2,B.extBut _ _ D.a1 (kk _ _ D.a1 D.a5 D.a6 D.a7 G),⟨_,_,B.extBut _ _ D.a2 o'⟩,
   D1.keep _ _ _ b0 λ o e=>B.extBut _ _ D.a3 e,D2.keep _ _ _ a9 λ o e=>B.extBut _ _ D.a4 e⟩,λ b hb=>(a8 b hb).1⟩
 done:=by
  intro X hP hw hK hc i C s σ H E I hf st hg
  subst hP hw hK
  obtain⟨hz,G,⟨a,c,Y⟩,J,Z⟩:=st
  have hT:s.TypeIs (.ref z) "zip":=⟨_,hz,rfl⟩
  unfold gN
  refine ag (wpAny_attempt (cM (name:=cH "__next__") hT eG (db eG hT iY
   (bl8 (I.ok.hd hc) D1 D2 D I hf hz G Y J Z hg λ h' tk e kk he=>?_) (iO _))))
  obtain⟨o,ho,b1⟩:=he
  refine ag (wpAny_isInstance (T := "StopIteration") (b:=true) ⟨o,ho,b1⟩ isSubtype_stop ?_)
  exact aK ⟨rfl,I.turnedL hf λ b o hb e=>by
   simp only[au,aP,or_false,not_or]at hb
   exact kk b o hb.1 hb.2.2.1 hb.2.2.2.1 hb.2.2.2.2 e⟩
 self:=λ A i s Q E st h=>iZ st.1 h
def Mkr (v:Value)(o:Obj)(h:Heap):Prop:=∀(P:aL) (w:World) (A:aV) (E:Value->af->Prop) (s:af) (Q:Value->af->Prop),(∀ b u,h.get? b=some u->s.heap.get? b=some u) ->
 Q (.ref s.heap.objs.size) { s with heap:=s.heap.push o }->wpAny (model P w) A (iT v) Q E s
noncomputable abbrev zH2 (h:Heap)(o1 o2:Obj):Heap:=(h.push o1).push o2
noncomputable abbrev zH3 (h:Heap)(o1 o2:Obj):Heap:=(zH2 h o1 o2).push { cls:=.type "tuple",data:=.seq #[.ref h.objs.size,.ref (h.push o1).objs.size] }
noncomputable abbrev zH4 (h:Heap)(o1 o2:Obj):Heap:=(zH3 h o1 o2).push { cls:=.type "tuple",data:=.seq #[.none,.none] }
noncomputable abbrev zH5 (h:Heap)(o1 o2:Obj):Heap:=(zH4 h o1 o2).push { cls:=.type "zip",data:=.fields #[.none,.bool false,.bool false,.ref (zH2 h o1 o2).objs.size,.ref (zH3 h o1 o2).objs.size] }
theorem aT0 (v1 v2 : Value) (o1 o2 : Obj) : Meets (Builtin.«zip.__new__» ⟨[.type "zip", v1, v2], []⟩) (λ _ R s => Mkr v1 o1 s.heap /\ Mkr v2 o2 s.heap /\
      R (.ok (.ret (.ref (zH4 s.heap o1 o2).objs.size))) { s with heap := zH5 s.heap o1 o2 }) :=
  .of_wp λ prog w A R s h => by
    obtain⟨hp, g, d, tk, os⟩ := s; obtain⟨m1, m2, h⟩ := h
    have hsub := sub_zip
    have r1 : ∀ {P : aL} {w : World} {A : aV} {E : Value -> af -> Prop} {Q : Value -> af -> Prop}, Q (.ref hp.objs.size) ⟨hp.push o1, g, d, tk, os⟩ -> wpAny (model P w) A (iT v1) Q E ⟨hp, g, d, tk, os⟩ := λ {P w A E Q} q => m1 P w A E ⟨hp, g, d, tk, os⟩ Q (λ b u e => e) q
    have r2 : ∀ {P : aL} {w : World} {A : aV} {E : Value -> af -> Prop} {Q : Value -> af -> Prop}, Q (.ref (hp.push o1).objs.size) ⟨(hp.push o1).push o2, g, d, tk, os⟩ -> wpAny (model P w) A (iT v2) Q E ⟨hp.push o1, g, d, tk, os⟩ := λ {P w A E Q} q => m2 P w A E ⟨hp.push o1, g, d, tk, os⟩ Q (λ b u e => ab _ e) q
    wp_walk using r1, r2
    exact⟨_, rfl, h⟩
theorem aZ3 {P:aL}{w:World}{A:aV}{E:Value->af->Prop}{s:af}{G Z:Value}{h y:Obj}{Q:Value->af->Prop}(f1:h.isFreed=false)(f2:y.isFreed=false)(m1:Mkr G h s.heap)(m2:Mkr Z y s.heap)
  (k:∀ h',IsZip h' (s.heap.objs.size+4) (s.heap.objs.size+2) (s.heap.objs.size+3) .none->dv h' (s.heap.objs.size+2) (.ref s.heap.objs.size) (.ref (s.heap.objs.size+1)) ->
   dv h' (s.heap.objs.size+3) .none .none->h'.get? s.heap.objs.size=some h->h'.get? (s.heap.objs.size+1)=some y->(∀ c o,s.heap.get? c=some o->h'.get? c=some o)->Q (.ref (s.heap.objs.size+4)) { s with heap:=h' }) :
  wpAny (model P w) A (call (.type "zip") [G,Z]) Q E s:=by
 refine callType_new F.called_zip (by decide) (F.typeCall_zip_2 _ _) (F.newCall_zip_2 _ _) (λ obj=>F.args_object_init_3 obj _ _) F.entry_zip_new (aT0 G Z h y) ⟨m1,m2,?_⟩
 have J:(s.heap.push h).objs.size=s.heap.objs.size+1:=bC ..
 have B:(zH2 s.heap h y).objs.size=s.heap.objs.size+2:=by rw[bC,J]
 have Y:(zH3 s.heap h y).objs.size=s.heap.objs.size+3:=by rw[bC,B]
 have y4:(zH4 s.heap h y).objs.size=s.heap.objs.size+4:=by rw[bC,Y]
 have C:(zH5 s.heap h y).get? (zH4 s.heap h y).objs.size=some _:=aD _ rfl
 have g4:(zH5 s.heap h y).get? (zH3 s.heap h y).objs.size=some _:=ab _ (aD _ rfl)
 have g3:(zH5 s.heap h y).get? (zH2 s.heap h y).objs.size=some _:=ab _ (ab _ (aD _ rfl))
 have g2:(zH5 s.heap h y).get? (s.heap.push h).objs.size=some y:=ab _ (ab _ (ab _ (aD _ f2)))
 have g1:(zH5 s.heap h y).get? s.heap.objs.size=some h:=ab _ (ab _ (ab _ (ab _ (aD _ f1))))
 show _/\_
 rw[B,Y,y4]at C
 rw[J,B]at g3
 rw[Y]at g4
 rw[J]at g2
 rw[y4]
 exact⟨⟨_,C,rfl⟩,k _ C g3 g4 g1 g2 λ c o x=>ab _ (ab _ (ab _ (ab _ (ab _ x))))⟩
def Sr (K:ac)(H:Hp)(x:V)(J:It):Prop:=(∃ a,x=.ref a/\(∃ xs,SqL K H a xs)/\J=Itl K a)\/(∃ a,x=.ref a/\(∃ xs,SqT K H a xs)/\J=Itt K a)\/∃ y,x=.str y/\J=Its y
theorem Sr.mk {X:Cx}{C:List (Addr×Obj)}{σ:St}{H:Hp}{s:af}{x:V}{u:Value}{J:It}(I:Inv X C σ H s)(h:Sr X.K H x J)(r:RelV x u) :
  ∃(o:Obj) (G:Addr->Nat->Heap->Prop),o.isFreed=false/\Mkr u o s.heap/\(∀ B,Dw X.prog X.w X.K J B (G B))/\∀ B h',h'.get? B=some o->G B 0 h':=by
 rcases h with⟨a,e,⟨Z,hq⟩,e'⟩|⟨a,e,⟨Z,hq⟩,e'⟩|⟨y,e,e'⟩
 ·subst e e';cases r
  obtain⟨its,Y,p,hz⟩:=I.list hq
  exact⟨_,λ B i h=>h.IsListIter B a i,rfl,λ P w A E s' Q hk q=>cW (p.isList.at λ o e=>hk _ _ e) q,λ B=>bz7 a B,λ B h' e=>⟨_,e,rfl,rfl⟩⟩
 ·subst e e';cases r
  obtain⟨its,Y,p,hz⟩:=I.tuple hq
  exact⟨_,λ B i h=>h.IsTupleIter B a i,rfl,λ P w A E s' Q hk q=>iq (Heap.IsTuple.at (show s.heap.IsTuple a its.toArray from p) λ o e=>hk _ _ e) q,λ B=>bQ1 a B,λ B h' e=>⟨_,e,rfl,rfl⟩⟩
 ·subst e e';obtain⟨t,rfl⟩:=r
  exact⟨_,λ B i h=>h.IsStrIter B (gT y) y t i,rfl,λ P w A E s' Q hk q=>wpAny_pyIter_strU q,λ B=>bR8 y t B,λ B h' e=>⟨_,e,rfl,rfl⟩⟩
theorem ce5 (n:Nat):Ap (n+4) (n+2) (n+3) n (n+1):=by
 constructor
 ·exact av (by omega)
 ·exact av (by omega)
 ·exact av (by omega)
 ·exact av (by omega)
 ·exact av (by omega)
 ·exact bM (by omega)
 ·exact bM (by omega)
 ·exact bM (by omega)
 ·exact bM (by omega)
 ·exact av (by omega)
def cm3 (K:ac)(ta:TA):TI:=λ σ H R=>ta σ H λ vs H1=>∃ x y J1 J2,vs=[x,y]/\Sr K H1 x J1/\Sr K H1 y J2/\R (Jz J1 J2) H1
theorem bW8 {X:Cx}{elts:List Expr}{ek:Nat}{epos:Pos}{a b:Expr}{Y:TA}{p pos:Pos}(hg:Gl X "zip")(hm:X.mg "zip"=none)(ha:PA X [a,b] Y)(hs:bf [a,b] X.env=[(false,eval a X.env),(false,eval b X.env)]:=by rfl)(G:bf [b] X.env=[(false,eval b X.env)]:=by rfl) :
  PI X (.Tuple elts ek epos) (.Call (.Name "zip" p) [a,b] [] pos) (cm3 X.K Y):=by
 intro C s σ H R I h
 refine Call_ (as9 I hg hm boot_zip (cX (thn (ha pos C s σ H _ I h) λ us s1 ⟨vs,H1,J,r1,q1⟩=>?_) (by rw[hs,G]) (by rw[G];rfl)))
 obtain⟨x,y,J1,J2,e,S1,S2,q⟩:=q1
 subst e
 cases r1 with
 | cons r rr =>
  cases rr with
  | cons r' rr =>
   cases rr
   obtain⟨o1,n1,f1,m1,d1,z1⟩:=S1.mk J r
   obtain⟨o2,n2,f2,Z,d2,z2⟩:=S2.mk J r'
   refine aZ3 f1 f2 m1 Z λ h' hz hI hO g1 g2 kk=>iZ hz ?_
   have D:=ce5 s1.heap.objs.size
   refine⟨s1.heap.objs.size+4,[s1.heap.objs.size+4,s1.heap.objs.size+2,s1.heap.objs.size+3,s1.heap.objs.size,s1.heap.objs.size+1],_,_,H1,rfl,J.kept (t':=s1.toks) kk,br5 (d1 _) (d2 _) D,⟨hz,hI,⟨_,_,hO⟩,z1 _ _ g1,z2 _ _ g2⟩,λ b hb=>?_,q⟩
   have B:s1.heap.objs.size<=b:=by
    simp only[au,aP,or_false]at hb
    rcases hb with e|e|e|e|e<;>rw[e]<;>first|exact aj _|exact Nat.le_add_right _ _
   exact J.fpOk B (J.hok.fresh B)
end L2
end
noncomputable section
namespace L2
open PySem PySem.Spec PyProof.Rows Builtin
open AutoSeq1 (wpAny_loadPart')
section
variable {X:Cx} {pins:List (Addr×Obj)} {σ:St} {H:Hp} {s:af} {A:aV} {E:Value->af->Prop} {J1:It} {t1:Nat->Heap->Prop} {z it:Addr} {n:Nat} {old:Value}
end
end L2
end
noncomputable section
namespace L2
open PySem PySem.Spec PyProof.Rows Builtin
open AutoSeq1 (wpAny_loadPart')
theorem aH0:fillsNumberSlot (.type "tuple") "mul"=pure false :=
 PySem.fillsNumberSlot_seq (id := "tuple.__mul__") (r:=some (.builtin "tuple.__rmul__")) dM.lookup (by decide +kernel) fT.lookup (by decide +kernel)
theorem aQ5:seqRepeat? (.type "tuple")=pure (some (.builtin "tuple.__mul__")):=by
 unfold seqRepeat?
 rw[i0 (T := "tuple") (name := "__mul__") (id := "tuple.__mul__") dM.lookup (by decide +kernel),i0 (T := "tuple") (name := "__rmul__") (id := "tuple.__rmul__") fT.lookup (by decide +kernel)]
 rfl
theorem aC1 (a:Int)(t:Tok)(l:Addr)(o:Obj)(y:Array Value)(n:Nat)(B:Option Addr)(sl:Array (Option Value)) :
  Meets (ke.«int.__rmul__» ⟨[.int a t,.ref l],[]⟩) (λ _ R s=>s.heap.get? l=some { cls:=.type "tuple",dict:=B,data:=.seq y n,slots:=sl }/\R (.ok (.ret Value.notImplemented)) s) :=
 .of_wp λ prog w A R s h=>by obtain⟨C,g,d,tk,os⟩:=s;obtain⟨hl,h⟩:=h;wp_walk;exact⟨_,rfl,h⟩
noncomputable def au1 {α:Type}:Nat->List α->List α
 | 0,_=>[]
 | n+1,a=>a++au1 n a
theorem aP2 {α:Type}(l:List α):∀(n:Nat) (h:Array α),(am n l.toArray).foldl (·++·) h=h++(au1 n l).toArray
 | 0,h=>by simp[au1]
 | n+1,h=>by rw[bG,cu,aP2 l n];simp[au1]
theorem aB8 {α:Type}(a:Array α):∀(n:Nat) (h:Array α),((am n a).foldl (·++·) h).size=h.size+a.size*n
 | 0,h=>by simp
 | n+1,h=>by rw[bG,cu,aB8 a n,Array.size_append,Nat.mul_succ];omega
def TmA (items:Array Value)(k:Int)(l:Addr)(R:Value->af->Prop)(s:af):Prop :=
 ((items.isEmpty||k==1)=true->R (.ref l) s)/\((items.isEmpty||k==1)=false->R (.ref s.heap.objs.size) { s with heap:=s.heap.push { cls:=.type "tuple",data:=.seq ((am k.toNat items).foldl (·++·) #[]) } })
theorem bh1 {P:aL}{w:World}{A:aV}{E:Value->af->Prop}{s:af}{l:Addr}{y:Array Value}{k:Int}{t:Tok}{Q:Value->af->Prop}(h0:0<=k)(G:k<=1000000)(hz:y.size*k.toNat<=1000000)(hl:IsTup s.heap l y)
  (h:TmA y k l Q s):wpAny (model P w) A (call (.builtin "tuple.__mul__") [.ref l,.int k t]) Q E s:=by
 refine db dM hl.typeIs PySem.F.entry_tuple_mul ?_ (PySem.F.args_tuple_mul_2 _ _)
 obtain⟨q1,q2⟩:=h
 show wpAny _ _ (asIndex (.int k t) >>= _) _ _ _
 refine ag (aK ?_)
 rw[if_neg (by rw[decide_eq_false (by omega),decide_eq_false (by omega)];decide)]
 show wpAny _ _ (jR (.ref l) >>= _) _ _ _
 refine ag (tupleItemsOf_ hl ?_)
 have B:(y.size:Int)*k<=1000000:=by
  have:((y.size*k.toNat:Nat):Int)<=1000000:=by omega
  rw[gC,hZ h0]at this
  exact this
 cases hb:(y.isEmpty||k==1)with
 | true =>
  rw[if_pos rfl]
  unfold jS
  refine ag (ag (wpAny_typeOf hl.typeIs (aK ?_)))
  rw[if_pos (by decide)]
  exact ag (gi (aK ⟨_,rfl,q1 hb⟩))
 | false =>
  rw[if_neg aR]
  have C:y.isEmpty=false:=by
   rw[d9]at hb;exact hb.1
  have q:=q2 hb
  show wpAny _ _ (if(decide (k<=0)||y.isEmpty)=true then _ else _) _ _ _
  by_cases hk:k<=0
  ·rw[if_pos (by rw[decide_eq_true hk];rfl)]
   have:k.toNat=0:=by omega
   rw[this]at q
   exact ag (cg (aK ⟨_,rfl,q⟩) (by size_fits))
  ·rw[if_neg (by rw[decide_eq_false hk,C];decide)]
   show wpAny _ _ (if(y.size:Int)*k > (2^63 - 1) / 8 then _ else _) _ _ _
   rw[if_neg (by omega)]
   show wpAny _ _ (if eX ((y.size:Int)*k)=true then _ else _) _ _ _
   rw[if_neg (by unfold eX;rw[decide_eq_false (by unfold aN;omega)];decide)]
   refine ag (cg (aK ⟨_,rfl,q⟩) ?_)
   show Array.size _<=aN
   rw[aB8]
   show 0+_<=_
   rw[bU]
   have h3:y.size*k.toNat<=aN:=aq hz (by decide)
   exact h3
theorem aL0 {α:Type}:∀ n,au1 n ([]:List α)=[]
 | 0=>rfl
 | n+1=>by simp[au1,aL0 n]
theorem bp1 {α:Type}(l:List α):au1 1 l=l:=by simp[au1]
theorem aK7 {α:Type}(l:List α):∀ n,(au1 n l).length=l.length*n
 | 0=>by simp[au1]
 | n+1=>by simp[au1,aK7 l n,fv];omega
theorem Vals.repT {h:List V}{us:List Value}(r:Vals h us):∀ n,Vals (au1 n h) (au1 n us)
 | 0=>.nil
 | n+1=>r.append (Vals.repT r n)
def cd3 (K:ac):R2:=λ x y H Q=>∃ a xs n,x=.ref a/\y=.int n/\SqT K H a xs/\(0<=n/\n<=1000000/\xs.length*n.toNat<=1000000)/\∀ p H',ah3 H H'->SqT K H' p (au1 n.toNat xs)->Q (.ref p) H'
theorem bH1 {X:Cx}{K:ac}(hK:X.K=K):OpR X (bZ .Mult) (cd3 K):=by
 subst hK
 intro G s σ H x y v u Q I rx ry h
 obtain⟨a,C,n,rfl,rfl,ha,⟨h0,Y,hz⟩,q⟩:=h
 cases rx
 obtain⟨t,rfl⟩:=ry
 obtain⟨its,r1,B,a0⟩:=I.tuple ha
 have hlen:=r1.length
 obtain⟨⟨cls,dd,data,sl⟩,ho,hc,Z,hd⟩:=id B
 simp only at hc hd
 subst hc hd
 refine eZ (T := "tuple") (U := "int") (by decide) B.typeIs (λ s'=>f9 s' n t) aH0 iy du aQ5 hU.lookup
  (iw du (f9 s n t) hV (gS _ _) (aC1 n t a default its.toArray Z dd sl) ⟨ho,⟨rfl,B.typeIs,bh1 h0 Y (by rw[aB,<-hlen];exact hz) B ⟨λ hb=>?_,λ hb=>?_⟩⟩⟩)
 ·refine⟨.ref a,H,I,rfl,q a H (ah3.refl H) ?_⟩
  rw[bL]at hb
  rcases hb with hb|hb
  ·have hi:its=[]:=by simpa using hb
   have hx:C=[]:=r1.nil_iff.mp hi
   rw[hx,aL0];rw[hx]at ha;exact ha
  ·have:n=1:=by simpa using hb
   subst this
   show SqT _ _ _ (au1 1 C)
   rw[bp1];exact ha
 ·have J:=I.hok.fresh (aj s.heap.objs.size)
  refine⟨.ref s.heap.objs.size,_,I.laid (t':=s.toks) (o:=.tup (au1 n.toNat C)) (λ b ob q=>ab _ q) (aj _) ?_,rfl,q _ _ ((ah3.refl H).new J) (SqT.of zr)⟩
  refine⟨by rw[aK7];exact aq hz (by decide),au1 n.toNat its,r1.repT _,?_⟩
  rw[show(au1 n.toNat its).toArray=(am n.toNat its.toArray).foldl (·++·) #[]by rw[aP2];simp]
  exact⟨_,aD _ rfl,rfl,_,rfl⟩
end L2
end
noncomputable section
namespace L2
open PySem PySem.Spec PyProof.Rows
section
variable {κ:Type} [DecidableEq κ]
noncomputable def aP8 (kvs:List (κ×V))(k:κ):Option V:=(kvs.find? λ kv=>decide (kv.1=k)).map (·.2)
noncomputable def az5 (kvs:List (κ×V))(k:κ)(v:V):List (κ×V) :=
 if(kvs.any λ kv=>decide (kv.1=k))=true then kvs.map (λ kv=>if kv.1=k then(kv.1,v)else kv)else kvs++[(k,v)]
theorem am4 {p:κ×V}{r:List (κ×V)}{k:κ}(e:p.1=k):aP8 (p::r) k=some p.2:=by simp[aP8,cS,e]
theorem am5 {p:κ×V}{r:List (κ×V)}{k:κ}(e:¬ p.1=k):aP8 (p::r) k=aP8 r k:=by simp[aP8,cS,e]
theorem ay2 (k:κ):∀ h:List (κ×V),(h.any λ y=>decide (y.1=k))=(aP8 h k).isSome
 | []=>rfl
 | p::r=>by
  rw[fJ]
  by_cases e:p.1=k
  ·simp only[am4 e,decide_eq_true e,Bool.true_or,eW]
  ·rw[am5 e,decide_eq_false e,j2];exact ay2 k r
theorem jA (h:List (κ×V))(k:κ)(v:V):(az5 h k v).length<=h.length+1:=by
 unfold az5
 split
 ·rw[aG];omega
 ·rw[bn,aQ,dq];omega
theorem aV6.isSome_eq {o:Option V}{u:Option Value}(r:aV6 o u):o.isSome=u.isSome:=by
 cases o with
 | none=>cases u with
  | none=>rfl
  | some _=>exact(show False from r).elim
 | some _=>cases u with
  | none=>exact(show False from r).elim
  | some _=>rfl
theorem KV.val {y:List (κ×V)}{vs:List (κ×Value)}(r:KV y vs)(k:κ):aV6 (aP8 y k) (g8 vs k):=by
 unfold KV at r
 induction r with
 | nil=>exact True.intro
 | @cons p q ps qs h t ih =>
  obtain⟨B,C⟩:=h
  by_cases e:p.1=k
  ·have e':q.1=k:=B.symm.trans e
   have b:g8 (q::qs) k=some q.2:=by simp[g8,cS,e']
   rw[am4 e,b];exact C
  ·have e':¬ q.1=k:=λ z=>e (B.trans z)
   have b:g8 (q::qs) k=g8 qs k:=by simp[g8,cS,e']
   rw[am5 e,b];exact ih
theorem KV.any {y:List (κ×V)}{vs:List (κ×Value)}(r:KV y vs)(k:κ):(y.any λ B=>decide (B.1=k))=vs.any λ B=>decide (B.1=k):=by
 unfold KV at r
 induction r with
 | nil=>rfl
 | cons h t ih=>rw[fJ,fJ,ih,h.1]
theorem KV.repl {C:List (κ×V)}{vs:List (κ×Value)}(r:KV C vs)(k:κ){y:V}{u:Value}(Y:RelV y u) :
  KV (C.map λ B=>if B.1=k then(B.1,y)else B) (vs.map λ B=>if B.1=k then(B.1,u)else B):=by
 unfold KV at r ⊢
 induction r with
 | nil=>exact .nil
 | @cons p q ps qs h t ih =>
  rw[aH,aH]
  refine .cons ?_ ih
  obtain⟨G,J⟩:=h
  by_cases e:p.1=k
  ·rw[if_pos e,if_pos (G.symm.trans e)];exact⟨G,Y⟩
  ·rw[if_neg e,if_neg (λ z=>e (G.trans z))];exact⟨G,J⟩
theorem KV.put {h:List (κ×V)}{vs:List (κ×Value)}(r:KV h vs)(k:κ){y:V}{u:Value}(B:RelV y u):KV (az5 h k y) (stored vs k u):=by
 unfold az5 stored
 rw[r.any k]
 by_cases e:(vs.any λ C=>decide (C.1=k))=true
 ·rw[if_pos e,if_pos e];exact r.repl k B
 ·rw[if_neg e,if_neg e];exact kt r ⟨rfl,B⟩
theorem KV.length {h:List (κ×V)}{vs:List (κ×Value)}(r:KV h vs):h.length=vs.length:=ib r
end
theorem aQ7 {P:aL}{w:World}{k:Key}{u:Value}(r:RelV (kV k) u):(qb P w).is k u=true:=by
 cases k with
 | inl i=>obtain⟨t,e⟩:=(show ∃ t,u=Value.int i t from r);subst e;exact aI8 P w i t
 | inr x=>obtain⟨t,e⟩:=(show ∃ t,u=Value.str x t from r);subst e;exact aG5 P w x t
theorem aB7 {P:aL}{w:World}:∀ {y:List Key} {us:List Value},Vals (y.map kV) us->ItemsAre (qb P w) y us
 | [],_,r=>by rw[cG]at r;cases r;exact .nil
 | k::y,_,r=>by
  rw[aH]at r
  cases r with
  | cons h t=>exact .cons (aQ7 h) (aB7 t)
abbrev KT (H:Hp):List (List Key×V)->List (List Key×Addr×Value)->Prop:=fB λ p q=>p.1=q.1/\H q.2.1=some (.tup (p.1.map kV))/\RelV p.2 q.2.2
theorem KT.val {H:Hp}{y:List (List Key×V)}{B:List (List Key×Addr×Value)}(r:KT H y B)(k:List Key):aV6 (aP8 y k) ((atKey B k).map (·.2)):=by
 induction r with
 | nil=>exact True.intro
 | @cons p q ps qs h t ih =>
  obtain⟨C,_,G⟩:=h
  by_cases e:p.1=k
  ·have e':q.1=k:=C.symm.trans e
   have b:atKey (q::qs) k=some q.2:=by simp[atKey,cS,e']
   rw[am4 e,b];exact G
  ·have e':¬ q.1=k:=λ z=>e (C.trans z)
   have b:atKey (q::qs) k=atKey qs k:=by simp[atKey,cS,e']
   rw[am5 e,b];exact ih
theorem KT.repl {H:Hp}{B:List (List Key×V)}{J:List (List Key×Addr×Value)}(r:KT H B J)(k:List Key){y:V}{u:Value}(Z:RelV y u) :
  KT H (B.map λ G=>if G.1=k then(G.1,y)else G) (J.map (putAt k u)):=by
 induction r with
 | nil=>exact .nil
 | @cons p q ps qs h t ih =>
  rw[aH,aH]
  refine .cons ?_ ih
  obtain⟨C,Y,h3⟩:=h
  unfold putAt
  by_cases e:p.1=k
  ·rw[if_pos e,if_pos (C.symm.trans e)];exact⟨C,Y,Z⟩
  ·rw[if_neg e,if_neg (λ z=>e (C.trans z))];exact⟨C,Y,h3⟩
theorem KT.put {H:Hp}{h:List (List Key×V)}{B:List (List Key×Addr×Value)}(r:KT H h B)(k:List Key){b:Addr}{y:V}{u:Value}(hb:H b=some (.tup (k.map kV)))(C:RelV y u) :
  KT H (az5 h k y) (storedH B k b u):=by
 have e:(h.any λ G=>decide (G.1=k))=(atKey B k).isSome:=by
  rw[ay2,(r.val k).isSome_eq,fw]
 unfold az5 storedH
 rw[e]
 by_cases q:(atKey B k).isSome=true
 ·rw[if_pos q,if_pos q];exact r.repl k C
 ·rw[if_neg q,if_neg q];exact kt r ⟨rfl,hb,C⟩
theorem KT.keeps {H H':Hp}{h:List (List Key×V)}{y:List (List Key×Addr×Value)}(r:KT H h y)(ht:∀ b ys,H b=some (.tup ys)->H' b=some (.tup ys)):KT H' h y :=
 fB.mapP r λ _ _ z=>⟨z.1,ht _ _ z.2.1,z.2.2⟩
section
variable {P:aL} {w:World} {H:Hp} {h:Heap} {a:Addr}
theorem bO3 {u:HO}(ok:HOk P w H h)(e:Rd H a u):ae4 P w H h a u:=e.ok ok
theorem aZ6 {y:List (Key×V)}(ok:HOk P w H h)(e:Rd H a (.dK y)):y.length<=aN/\(a==c7)=false/\∃ vs,KV y vs/\h.DictOf (qb P w) a vs :=
 show ae4 P w H h a (.dK y)from bO3 ok e
theorem bO1 {y:List (Key×V)}(ok:HOk P w H h)(e:H a=some (.dK y)):y.length<=aN/\(a==c7)=false/\∃ vs,KV y vs/\h.DictOf (qb P w) a vs:=aZ6 ok (.inl e)
theorem aB0 {y:List Key}(ok:HOk P w H h)(e:H a=some (.tup (y.map kV))):(gY (qb P w)).is h y a:=by
 obtain⟨_,its,r,o,B,C,n,h3⟩:=(show ae4 P w H h a (.tup (y.map kV))from ok a _ e)
 exact⟨o,its.toArray,n,B,C,h3,by simpa using aB7 r⟩
theorem aX2 {B:List (List Key×V)}(ok:HOk P w H h)(e:Rd H a (.dT B)):B.length<=aN/\(a==c7)=false /\
  ∃ C,KT H B C/\h.DictOfH (gY (qb P w)) a C:=by
 obtain⟨z,y,C,r,o,es,ep,Y,Z,h3,G,J⟩:=(show ae4 P w H h a (.dT B)from bO3 ok e)
 refine⟨z,y,C,r,o,es,ep,Y,Z,h3,G,λ x hx=>?_,J⟩
 have all:∀ {l:List (List Key×V)} {m:List (List Key×Addr×Value)},KT H l m->∀ x∈m,(gY (qb P w)).is h x.1 x.2.1:=by
  intro l m q
  induction q with
  | nil=>intro x hx;exact nomatch hx
  | @cons p q ps qs hq t ih =>
   intro x hx
   rcases au.mp hx with e|hx
   ·subst e
    exact aB0 ok (by rw[<-hq.1];exact hq.2.1)
   ·exact ih x hx
 exact all r x hx
theorem ck2 {y:List (List Key×V)}(ok:HOk P w H h)(e:H a=some (.dT y)):y.length<=aN/\(a==c7)=false /\
  ∃ B,KT H y B/\h.DictOfH (gY (qb P w)) a B:=aX2 ok (.inl e)
end
def bj1 (H:Hp)(a:Addr)(y:V)(r:Option V):Prop :=
 (∃ kvs k,Rd H a (.dK kvs)/\y=kV k/\r=aP8 kvs k)\/∃ kvs k b,Rd H a (.dT kvs)/\y=.ref b/\H b=some (.tup (k.map kV))/\r=aP8 kvs k
def cb7 (H:Hp)(a:Addr)(y v:V)(H':Hp):Prop :=
 (∃ kvs k,H a=some (.dK kvs)/\y=kV k/\kvs.length<aN/\H'=upd H a (.dK (az5 kvs k v))) \/
 ∃ kvs k b,H a=some (.dT kvs)/\y=.ref b/\H b=some (.tup (k.map kV))/\kvs.length<aN/\H'=upd H a (.dT (az5 kvs k v))
theorem bj1.k {H:Hp}{a:Addr}{h:List (Key×V)}{k:Key}(e:H a=some (.dK h)):bj1 H a (kV k) (aP8 h k):=.inl ⟨h,k,.inl e,rfl,rfl⟩
theorem cb7.k {H:Hp}{a:Addr}{h:List (Key×V)}{k:Key}{v:V}(e:H a=some (.dK h))(hl:h.length<aN):cb7 H a (kV k) v (upd H a (.dK (az5 h k v))):=.inl ⟨h,k,e,rfl,hl,rfl⟩
section
variable {X:Cx} {pins:List (Addr×Obj)} {σ:St} {H:Hp} {s:af} {a:Addr} {y v:V} {u r:Value} {o:Option V} {A:aV} {E:Value->af->Prop}
theorem Inv.big (I:Inv X pins σ H s):c7<s.heap.objs.size:=by
 have h:aX<s.heap.objs.size:=(I.mod.glob.keeps I.bk).lt
 exact dI (by decide) h
theorem ba4 {Q:Value->af->Prop}(hu:A.units+1<cLine)(I:Inv X pins σ H s)(g:bj1 H a y (some v))(Z:RelV y u)(h:∀ w' s',Inv X pins σ H s'->RelV v w'->Q w' s') :
  wpAny (model X.prog X.w) A (getItem (.ref a) u) Q E s:=by
 rcases g with⟨J,k,e,G,l⟩|⟨J,k,b,e,G,eb,l⟩
 ·subst G
  obtain⟨z,hd,vs,B,dd⟩:=aZ6 I.hok e
  obtain⟨w',hw,C⟩:=aV6.some_of (v:=v) (o:=g8 vs k) (by rw[l];exact B.val k)
  exact wpAny_getItem_of (aQ7 Z) dd.mapOf hw (h w' _ (I.tok _) C)
 ·subst G
  cases(show u=Value.ref b from Z)
  obtain⟨z,hd,xs,B,dd⟩:=aX2 I.hok e
  obtain⟨w',hw,C⟩:=aV6.some_of (v:=v) (o:=(atKey xs k).map (·.2)) (by rw[l];exact B.val k)
  obtain⟨p,hp,Y⟩:=cQ.mp hw
  refine wpAny_getItem_heap (dw hu) (aB0 I.hok eb) dd hp ?_
  rw[Y]
  exact h w' _ (I.tok _) C
theorem cp9 {Q:Value->af->Prop}(Y:A.units+1<cLine)(I:Inv X pins σ H s)(g:bj1 H a y o)(J:RelV y u)(h:∀ s',Inv X pins σ H s'->Q (.bool o.isSome) s') :
  wpAny (model X.prog X.w) A (cf .In u (.ref a)) Q E s:=by
 rcases g with⟨G,k,e,C,l⟩|⟨G,k,b,e,C,eb,l⟩
 ·subst C
  obtain⟨z,hd,vs,B,dd⟩:=aZ6 I.hok e
  refine wpAny_in_of (aQ7 J) hd dd.mapOf ?_
  rw[<-(B.val k).isSome_eq,<-l]
  exact h _ (I.tok _)
 ·subst C
  cases(show u=Value.ref b from J)
  obtain⟨z,hd,Z,B,dd⟩:=aX2 I.hok e
  refine wpAny_in_heap (dw Y) (aB0 I.hok eb) hd dd ?_
  have q:=(B.val k).isSome_eq
  rw[fw]at q
  rw[<-q,<-l]
  exact h _ (I.tok _)
theorem bD2 {Q:Value->af->Prop}(Y:A.units+1<cLine)(I:Inv X pins σ H s)(g:bj1 H a y o)(J:RelV y u)(h:∀ s',Inv X pins σ H s'->Q (.bool (!o.isSome)) s') :
  wpAny (model X.prog X.w) A (cf .NotIn u (.ref a)) Q E s:=by
 rcases g with⟨G,k,e,C,l⟩|⟨G,k,b,e,C,eb,l⟩
 ·subst C
  obtain⟨z,hd,vs,B,dd⟩:=aZ6 I.hok e
  refine wpAny_notIn_of (aQ7 J) hd dd.mapOf ?_
  rw[<-(B.val k).isSome_eq,<-l]
  exact h _ (I.tok _)
 ·subst C
  cases(show u=Value.ref b from J)
  obtain⟨z,hd,Z,B,dd⟩:=aX2 I.hok e
  refine wpAny_notIn_heap (dw Y) (aB0 I.hok eb) hd dd ?_
  have q:=(B.val k).isSome_eq
  rw[fw]at q
  rw[<-q,<-l]
  exact h _ (I.tok _)
theorem aJ8 {h':Heap}{t':Nat}{ob:HO}(I:Inv X pins σ H s)(mu:Mut (H a))(hs:bT a s.heap h')(h:∃ q,h'.get? a=some q)(new:ae4 X.prog X.w (upd H a ob) h' a ob) :
  Inv X pins σ (upd H a ob) { s with heap:=h',toks:=t' } :=
 I.write (x:=a) (e:=a) mu (.inl rfl) (λ b q hb z=>(hs.2 b hb).trans z) h new
theorem bw3 {P:aL}{w:World}{H':Hp}{h':Heap}{h:List (Key×V)}{vs:List (Key×Value)}(z:h.length<=aN)(hd:(a==c7)=false)(y:KV h vs)(dd:h'.DictOf (qb P w) a vs) :
  ae4 P w H' h' a (.dK h):=⟨z,hd,vs,y,dd⟩
theorem aY6 {H':Hp}{Q:Unit->af->Prop}(hu:A.units+1<cLine)(I:Inv X pins σ H s)(g:cb7 H a y v H')(ry:RelV y u)(rv:RelV v r)(h:∀ s',Inv X pins σ H' s'->Q () s') :
  wpAny (model X.prog X.w) A (setItem (.ref a) u r) Q E s:=by
 rcases g with⟨B,k,e,J,l,Y⟩|⟨B,k,b,e,J,eb,l,Y⟩
 ·subst J Y
  obtain⟨z,hd,vs,C,dd⟩:=bO1 I.hok e
  have hz:vs.length<=aN:=by rw[<-C.length];exact z
  have hl:(az5 B k v).length<=aN:=by have:=jA B k v;omega
  refine wpAny_setItem_pairs (hsz:=hz) (aQ7 ry) dd λ h' G hs=>h _ ?_
  have he:∃ q,h'.get? a=some q:=let⟨q,_,_,hq,_⟩:=G;⟨q,hq⟩
  exact aJ8 I (by rw[e];exact True.intro) hs he (bw3 hl hd (C.put k rv) G)
 ·subst J Y
  cases(show u=Value.ref b from ry)
  obtain⟨z,hd,xs,C,dd⟩:=ck2 I.hok e
  have hz:xs.length<=aN:=by rw[<-ib C];exact z
  have hl:(az5 B k v).length<=aN:=by have:=jA B k v;omega
  refine wpAny_setItem_heap (hsz:=hz) (dw hu) (aB0 I.hok eb) dd λ h' G hs=>h _ ?_
  obtain⟨q,es,ep,hq,h2,h3,h4,_,h5⟩:=G
  refine aJ8 I (by rw[e];exact True.intro) hs ⟨q,hq⟩ ⟨hl,hd,_,(C.put k eb rv).keeps λ c ys Z=>?_,q,es,ep,hq,h2,h3,h4,h5⟩
  rw[zm (cg6 Z e (λ z=>nomatch z))]
  exact Z
end
section
variable {X:Cx} {pins:List (Addr×Obj)} {σ:St} {H:Hp} {s:af} {a:Addr} {kvs:List (Key×V)} {k:Key} {u:Value} {A:aV} {E:Value->af->Prop}
end
theorem aJ6 {X:Cx}{h:List (Addr×Obj)}{σ:St}{H:Hp}{s:af}{a:Addr}{y:V}{o:Option V}(I:Inv X h σ H s)(g:bj1 H a y o):s.TypeIs (.ref a) "dict":=by
 rcases g with⟨B,k,e,_,_⟩|⟨B,k,b,e,_,_,_⟩
 ·obtain⟨_,_,vs,_,dd⟩:=aZ6 I.hok e
  exact dd.typeIs
 ·obtain⟨_,_,C,_,dd⟩:=aX2 I.hok e
  exact dd.typeIs
section
variable {X:Cx} {o i e value:Expr} {pos pos' tpos:Pos} {td ty tv:TE}
end
theorem aL2 {P:aL}{w:World}{H:Hp}(h:Heap)(hb:c7<h.objs.size):ae4 P w H (h.push { cls:=.type "dict",data:=.dict #[] }) h.objs.size (.dK []) :=
 ⟨dA _,beq_eq_false_iff_ne.mpr (bS (av hb)),[],.nil,Heap.DictOf.new h⟩
def bs7:TE:=λ _ H Q=>∀ p,H p=none->Q (.ref p) (upd H p (.dK []))
section
variable {X:Cx} {pos:Pos}
theorem bo8:PE X (.Dict [] [] pos) bs7:=λ y s σ H Q I h =>
 wpAny_Dict_empty ⟨.ref s.heap.objs.size,_,I.laid (a:=s.heap.objs.size) (o:=.dK []) (t':=s.toks) (λ _ _ q=>ab _ q) (aj _) (aL2 s.heap I.big),rfl,h _ (I.hok.fresh (aj _))⟩
end
noncomputable def be5:List (TE×TE)->St->Hp->(List (V×V)->Hp->Prop)->Prop
 | [],_,H,Q=>Q [] H
 | (tk,tv)::r,σ,H,Q=>tk σ H λ x H1=>tv σ H1 λ y H2=>be5 r σ H2 λ ps H3=>Q ((x,y)::ps) H3
abbrev VV:List (V×V)->List (Value×Value)->Prop:=fB λ p q=>RelV p.1 q.1/\RelV p.2 q.2
def PPs (X:Cx)(pos:Pos)(keys:List (Option Expr))(values:List Expr)(trs:List (TE×TE)):Prop :=
 ∀(pins:List (Addr×Obj)) (s:af) (σ:St) (H:Hp) (Q:List (V×V)->Hp->Prop),Inv X pins σ H s->be5 trs σ H Q ->
  wpAny (model X.prog X.w) X.A (evalPairs (pairTrees keys values X.env pos)) (λ vs s'=>∃ ps H',Inv X pins σ H' s'/\VV ps vs/\Q ps H') X.xe s
theorem bI9 {X:Cx}{pos:Pos}:PPs X pos [] [] []:=λ y s σ H Q I h=>pairTrees_nil_walk ⟨[],H,I,.nil,h⟩
theorem bq1 {X:Cx}{pos:Pos}{k v:Expr}{J:List (Option Expr)}{vs:List Expr}{tk Y:TE}{C:List (TE×TE)}(hk:PE X k tk)(hv:PE X v Y)(hr:PPs X pos J vs C) :
  PPs X pos (some k::J) (v::vs) ((tk,Y)::C):=λ B s σ H Q I h =>
 pairTrees_cons_walk (thn (hk B s σ H _ I h) λ u s1 ⟨x,Z,I1,rx,q1⟩=>thn (hv B s1 σ Z _ I1 q1) λ w2 s2 ⟨y,H2,I2,ry,q2⟩ =>
  thn (hr B s2 σ H2 _ I2 q2) λ ws s3 ⟨ps,H3,I3,G,q3⟩=>⟨(x,y)::ps,H3,I3,.cons ⟨rx,ry⟩ G,q3⟩)
noncomputable def aF5 (kvs more:List (Key×V)):List (Key×V):=more.foldl (λ acc kv=>az5 acc kv.1 kv.2) kvs
theorem KV.merge:∀ {B:List (Key×V)} {C:List (Key×Value)} {y:List (Key×V)} {vs:List (Key×Value)},KV B C->KV y vs->KV (aF5 y B) (merged vs C):=by
 intro B C y vs r
 unfold KV at r
 induction r generalizing y vs with
 | nil=>intro q;exact q
 | @cons p q ps qs h t ih =>
  intro r0
  have e:KV (az5 y p.1 p.2) (stored vs q.1 q.2):=by
   have:=r0.put p.1 h.2
   rw[<-h.1];exact this
  exact ih e
theorem ah4:∀(y h:List (Key×V)),(aF5 h y).length<=h.length+y.length
 | [],h=>by show h.length<=h.length+0;omega
 | p::r,h=>by
  have B:=ah4 r (az5 h p.1 p.2)
  have C:=jA h p.1 p.2
  show(aF5 (az5 h p.1 p.2) r).length<=_
  rw[aQ];omega
theorem at1 {P:aL}{w:World}:∀ {y:List (Key×V)} {ws:List (Value×Value)},VV (y.map λ C=>(kV C.1,C.2)) ws->∃ B,Carries (qb P w) ws B/\KV y B
 | [],_,r=>by rw[cG]at r;cases r;exact⟨[],True.intro,.nil⟩
 | p::y,_,r=>by
  rw[aH]at r
  cases r with
  | @cons a b as bs h t =>
   obtain⟨B,c,q⟩:=at1 (P:=P) (w:=w) t
   obtain⟨b1,G⟩:=b
   exact⟨(p.1,G)::B,⟨aQ7 h.1,rfl,c⟩,.cons ⟨rfl,h.2⟩ q⟩
def bX1 (trs:List (TE×TE)):TE:=λ σ H Q=>∀ p,H p=none->be5 trs σ (upd H p (.dK [])) λ ps H2=>H2 p=some (.dK [])/\∃ kvs:List (Key×V),ps=kvs.map (λ kv=>(kV kv.1,kv.2))/\kvs.length<=15/\Q (.ref p) (upd H2 p (.dK (aF5 [] kvs)))
theorem bA9 {X:Cx}{pos:Pos}{y:List (Option Expr)}{B:List Expr}{Y:List (TE×TE)}(h:PPs X pos y B Y)(C:y.all (·.isSome)=true)(hl:y.length=B.length)(h0:y≠[])
  (a1:y.length<=15):PE X (.Dict y B pos) (bX1 Y):=by
 intro Z s σ H Q I q
 have hn:=I.hok.fresh (aj s.heap.objs.size)
 have I1:=I.laid (a:=s.heap.objs.size) (o:=.dK []) (h':=s.heap.push { cls:=.type "dict",data:=.dict #[] }) (t':=s.toks) (λ _ _ q=>ab _ q) (aj _) (aL2 s.heap I.big)
 refine wpAny_Dict_walk (knd:=qb X.prog X.w) C hl h0 a1 (thn (h Z _ σ _ _ I1 (q _ hn)) λ ws s2 ⟨ps,H2,I2,a0,e,G,ep,lk,q2⟩=>?_)
 subst ep
 obtain⟨rs,c,rk⟩:=at1 (P:=X.prog) (w:=X.w) a0
 obtain⟨z,hd,a2,r0,dd⟩:=bO1 I2.hok e
 cases r0
 refine⟨rs,c,dd,λ h' J hs=>⟨.ref s.heap.objs.size,_,?_,rfl,q2⟩⟩
 have hz:(aF5 [] G).length<=aN:=by
  have h1:=ah4 G []
  rw[dq]at h1
  rw[fg];omega
 have he:∃ q,h'.get? s.heap.objs.size=some q:=let⟨q,_,_,hq,_⟩:=J;⟨q,hq⟩
 exact aJ8 I2 (by rw[e];exact True.intro) hs he (bw3 hz hd (rk.merge .nil) J)
section
variable {X:Cx} {pins:List (Addr×Obj)} {σ:St} {H:Hp} {s:af} {a:Addr} {y d:V} {u r:Value} {o:Option V} {A:aV} {E:Value->af->Prop}
end
section
variable {X:Cx} {o e f:Expr} {apos cpos:Pos} {td ty tx:TE}
end
end L2
end
noncomputable section
namespace DV
inductive D where
 | non|bl (b:Bool)|int (i:Int)|str (x:List Nat)|tup (l:List D)|ref (n:Nat)|fn (f:String)|clo (f:String) (cs:List D)
noncomputable instance:DecidableEq D:=λ a b=>fU (a=b)
noncomputable instance (x:D):Decidable (x=.non):=match x with
 | .non=>.isTrue rfl
 | .bl _=>.isFalse nofun
 | .int _=>.isFalse nofun
 | .str _=>.isFalse nofun
 | .tup _=>.isFalse nofun
 | .ref _=>.isFalse nofun
 | .fn _=>.isFalse nofun
 | .clo _ _=>.isFalse nofun
inductive O where
 | lst (l:List D)|ro (l:List D)|dic (l:List (D×D))|ins (c:String) (fs:List (String×D))
noncomputable instance:DecidableEq O:=λ a b=>fU (a=b)
noncomputable abbrev Sto:=List O
noncomputable def O.kd:O->Nat
 | .lst _=>0|.ro _=>1|.dic _=>2|.ins _ _=>3
inductive R (α:Type) where
 | ok (a:α) (s:Sto)|exc (e:D) (s:Sto)|bad
noncomputable abbrev M (α:Type):=Sto->R α
noncomputable def R.bind {α β:Type}(r:R α)(f:α->Sto->R β):R β:=match r with
 | .ok a s=>f a s
 | .exc e s=>.exc e s
 | .bad=>.bad
@[simp] theorem R.bind_ok {α β:Type} (a:α) (s:Sto) (f:α->Sto->R β):(R.ok a s).bind f=f a s:=rfl
@[simp] theorem R.bind_bad {α β:Type} (f:α->Sto->R β):(R.bad:R α).bind f=.bad:=rfl
@[simp] theorem R.bind_exc {α β:Type} (e:D) (s:Sto) (f:α->Sto->R β):(R.exc e s:R α).bind f=.exc e s:=rfl
theorem R.bind_inv {α β:Type}{r:R α}{f:α->Sto->R β}{b:β}{t:Sto}(h:r.bind f=.ok b t):∃ a s,r=.ok a s/\f a s=.ok b t:=by
 cases r with
 | ok a s=>exact⟨a,s,rfl,h⟩
 | exc e s=>cases h
 | bad=>cases h
@[simp] theorem R.bind_assoc {α β γ:Type} (r:R α) (f:α->Sto->R β) (g:β->Sto->R γ):(r.bind f).bind g=r.bind λ a s=>(f a s).bind g:=by cases r<;>rfl
mutual
noncomputable def D.bnd (n:Nat):D->Bool
 | .tup l=>D.bndL n l
 | .ref k=>decide (k<n)
 | .clo _ l=>D.bndL n l
 | _=>true
noncomputable def D.bndL (n:Nat):List D->Bool
 | []=>true
 | d::l=>D.bnd n d&&D.bndL n l
end
noncomputable def O.bnd (n:Nat):O->Bool
 | .lst l=>D.bndL n l
 | .ro l=>D.bndL n l
 | .dic l=>D.bndL n (l.map (·.1))&&D.bndL n (l.map (·.2))
 | .ins _ fs=>D.bndL n (fs.map (·.2))
mutual
noncomputable def D.plain:D->Bool
 | .non=>true|.int _=>true|.str _=>true
 | .tup l=>D.plainL l
 | _=>false
noncomputable def D.plainL:List D->Bool
 | []=>true
 | d::l=>D.plain d&&D.plainL l
end
mutual
noncomputable def D.ncl:D->Bool
 | .tup l=>D.nclL l
 | .clo _ _=>false
 | _=>true
noncomputable def D.nclL:List D->Bool
 | []=>true
 | d::l=>D.ncl d&&D.nclL l
end
noncomputable def O.ncl:O->Bool
 | .lst l=>D.nclL l
 | .ro l=>D.nclL l
 | .dic l=>D.nclL (l.map (·.2))
 | _=>false
noncomputable def D.key:D->Bool
 | .int _=>true|.str _=>true|_=>false
noncomputable def LIM:Nat:=1000000
@[irreducible] noncomputable def BIG:Nat:=2^60000
@[irreducible] noncomputable def DIVL:Nat:=2^4096
inductive BOp where
 | add|sub|mul|fdiv|mod|pow|shl|shr|band|bor
 deriving DecidableEq
inductive COp where
 | eq|ne|lt|le|gt|ge|isin|notin
 deriving DecidableEq
inductive Cn where
 | non|bl (b:Bool)|int (i:Int)|str (x:List Nat)
 deriving DecidableEq
noncomputable def Cn.d:Cn->D
 | .non=>.non|.bl b=>.bl b|.int i=>.int i|.str x=>.str x
inductive Bi where
 | len|abs|int|str|min2|max2|max3|min3|isInt|isBool|isStr|isTup|isList|ord
 deriving DecidableEq
inductive Mk where
 | tuple|list|all|any|sum|min|max|sorted|lenset
 deriving DecidableEq
inductive Mt where
 | append|pop|index|count|reverse|clear|bitlen|get1|get2|setdefault|update|split|partition
 deriving DecidableEq
inductive Tg where
 | one (i:Nat)|tup (is:List Nat)
 deriving DecidableEq
mutual
inductive E where
 | var (i:Nat)|cst (c:Cn)|glob (x:String)
 | bin (op:BOp) (a b:E)|neg (a:E)|not (a:E)
 | cmp (op:COp) (a b:E)|chain (o p:COp) (a b c:E)
 | isN (a:E)|notN (a:E)|isB (a:E) (b:Bool)|notB (a:E) (b:Bool)
 | and (a b:E)|or (a b:E)|ite (c a b:E)
 | tup (es:Es)|lst (es:Es)|dic (ks vs:Es)
 | ix (a b:E)|slL (a lo:E)|slU (a hi:E)|slLU (a lo hi:E)|rev (a:E)
 | call (f:String) (as:As)|callC (f:String) (as:As)|callV (i:Nat) (es:Es)
 | bi (b:Bi) (es:Es)|mk (k:Mk) (l:L)|mkD (k:Mk) (l:L) (d:E)
 | meth (m:Mt) (o:E) (es:Es)|ext (o:E) (l:L)|extS (o e:E)|join (o e:E)|mks (k:Mk) (e:E)|mkDs (k:Mk) (e d:E)
inductive Es where
 | nil|cons (e:E) (es:Es)
inductive As where
 | nil|ex (e:E) (as:As)|lam (id:String) (caps:List Nat) (as:As)|fn (f:String) (as:As)
inductive I where
 | seq (e:E)|rng1 (a:E)|rng2 (a b:E)|rng3 (a b:E) (c:Int)|enum (it:I)|zip (a b:I)|items (e:E)
inductive L where
 | comp (tg:Tg) (it:I) (e:E) (caps:List (Option Nat))|compIf (tg:Tg) (it:I) (c e:E) (caps:List (Option Nat))|disp (es:Es)|seq (e:E)
end
mutual
inductive S where
 | asg (tg:Tg) (e:E)|setIx (o i e:E)|aug (i:Nat) (e:E)|ex (e:E)|ret (e:E)|retN
 | ite (c:E) (a b:Ss)|whl (c:E) (b:Ss)|for_ (tg:Tg) (it:I) (b:Ss)|pass|cont|brk|raise|und (i:Nat)
inductive Ss where
 | nil|cons (s:S) (ss:Ss)
end
noncomputable abbrev Env:=List (Option D)
noncomputable def af7 (o:O):M D:=λ s=>.ok (.ref s.length) (s++[o])
noncomputable def pur (d:D):M D:=λ s=>.ok d s
noncomputable def bad {α:Type}:M α:=λ _=>.bad
noncomputable def mulOk (a b:Int):Bool:=decide (a.natAbs<2^64)||decide (b.natAbs<2^64)||(decide (a.natAbs<BIG)&&decide (b.natAbs<BIG))
noncomputable def rep:Nat->List Nat->List Nat
 | 0,_=>[]
 | n+1,a=>a++rep n a
noncomputable def bA1:Nat->List D->List D
 | 0,_=>[]
 | n+1,a=>a++bA1 n a
noncomputable def qK:BOp->D->D->M D
 | .add,.int a,.int b=>pur (.int (a+b))
 | .add,.str a,.str b=>if a.length+b.length<=LIM then pur (.str (a++b))else bad
 | .add,.tup a,.tup b=>if a.length+b.length<=LIM then pur (.tup (a++b))else bad
 | .add,.ref a,.ref b=>λ s=>match s[a]?,s[b]? with
  | some (.lst l),some (.lst m)=>if l.length+m.length<=LIM then af7 (.lst (l++m)) s else .bad
  | _,_=>.bad
 | .sub,.int a,.int b=>pur (.int (a - b))
 | .mul,.int a,.int b=>if mulOk a b then pur (.int (a*b))else bad
 | .mul,.str a,.int n=>if 0<=n/\n<=1000000/\a.length*n.toNat<=LIM then pur (.str (rep n.toNat a))else bad
 | .mul,.tup a,.int n=>if 0<=n/\n<=1000000/\a.length*n.toNat<=LIM then pur (.tup (bA1 n.toNat a))else bad
 | .mul,.ref a,.int n=>λ s=>match s[a]? with
  | some (.lst l)=>if 0<=n/\n<=1000000/\l.length*n.toNat<=LIM then af7 (.lst (bA1 n.toNat l)) s else .bad
  | _=>.bad
 | .fdiv,.int a,.int b=>if 0<b/\b<(DIVL:Int)then pur (.int (a / b))else bad
 | .mod,.int a,.int b=>if 0<b then pur (.int (a % b))else bad
 | .pow,.int a,.int b=>if 0<=b/\b<=1000000/\a.natAbs<2^64 then pur (.int (a^b.toNat))else bad
 | .shl,.int a,.int b=>if 0<=b/\b<=1000000/\a.natAbs<2^64 then pur (.int (a*2^b.toNat))else bad
 | .shr,.int a,.int b=>if 0<=b then pur (.int (a / 2^b.toNat))else bad
 | _,_,_=>bad
noncomputable def kd (s:Sto):D->Nat
 | .non=>0|.bl _=>1|.int _=>1|.str _=>2|.tup _=>3
 | .ref r=>match s[r]? with|some (.lst _)=>4|_=>9
 | _=>9
noncomputable def aH8 (a b:Nat):Bool:=a==9||b==9||a==b
noncomputable def b2i (b:Bool):Int:=if b then 1 else 0
noncomputable def aS2:D->D->Option Bool
 | .non,.non=>some true
 | .bl a,.bl b=>some (a==b)
 | .int a,.int b=>some (a==b)
 | .bl a,.int b=>some (b2i a==b)
 | .int a,.bl b=>some (a==b2i b)
 | .str a,.str b=>some (a==b)
 | _,_=>none
noncomputable def ae7 (s:Sto)(a b:D):Option Bool:=match aS2 a b with
 | some z=>some z
 | none=>if aH8 (kd s a) (kd s b)then none else some false
noncomputable def eqL (f:D->D->Option Bool):List D->List D->Option Bool
 | [],[]=>some true
 | [],_::_=>some false
 | _::_,[]=>some false
 | a::l,b::m=>match f a b,eqL f l m with
  | some x,some y=>some (x&&y)
  | _,_=>none
noncomputable def eqv (s:Sto):Nat->D->D->Option Bool
 | 0,a,b=>ae7 s a b
 | n+1,a,b=>match a,b with
  | .tup l,.tup m=>eqL (eqv s n) l m
  | .ref x,.ref y=>match s[x]?,s[y]? with
   | some (.lst l),some (.lst m)=>if l.length=m.length then eqL (eqv s n) l m else some false
   | _,_=>none
  | a,b=>ae7 s a b
noncomputable def DEEP:Nat:=30
noncomputable def eqM (a b:D):M D:=λ s=>match eqv s DEEP a b with
 | some r=>.ok (.bl r) s
 | none=>.bad
noncomputable def inL (s:Sto)(x:D):List D->Option Bool
 | []=>some false
 | y::l=>match eqv s DEEP y x,inL s x l with
  | some a,some b=>some (a||b)
  | _,_=>none
noncomputable def look (k:D):List (D×D)->Option D
 | []=>none
 | (a,v)::l=>if a=k then some v else look k l
noncomputable def inM (a b:D):M Bool:=λ s=>match b with
 | .tup l=>match inL s a l with|some r=>.ok r s|none=>.bad
 | .ref r=>match s[r]? with
  | some (.lst l)=>match inL s a l with|some r=>.ok r s|none=>.bad
  | some (.dic l)=>if a.key then .ok (look a l).isSome s else .bad
  | _=>.bad
 | .str y=>match a with|.str [c]=>.ok (decide (c∈y)) s|_=>.bad
 | _=>.bad
noncomputable def qJ:COp->D->D->M D
 | .eq,a,b=>eqM a b
 | .ne,a,b=>λ s=>match eqv s DEEP a b with|some r=>.ok (.bl (!r)) s|none=>.bad
 | .lt,.int a,.int b=>pur (.bl (decide (a<b)))
 | .le,.int a,.int b=>pur (.bl (decide (a<=b)))
 | .gt,.int a,.int b=>pur (.bl (decide (b<a)))
 | .ge,.int a,.int b=>pur (.bl (decide (b<=a)))
 | .isin,a,b=>λ s=>(inM a b s).bind λ r s=>.ok (.bl r) s
 | .notin,a,b=>λ s=>(inM a b s).bind λ r s=>.ok (.bl (!r)) s
 | _,_,_=>bad
noncomputable def ixn (n:Nat)(i:Int):Option Nat:=if 0<=i then(if i<n then some i.toNat else none)else if -(n:Int)<=i then some (i+n).toNat else none
noncomputable def sbd (n:Nat)(i:Int):Nat:=if 0<=i then min i.toNat n else(i+n).toNat
noncomputable def loB (n:Nat):Option Int->Nat
 | none=>0
 | some i=>sbd n i
noncomputable def hiB (n:Nat):Option Int->Nat
 | none=>n
 | some i=>sbd n i
noncomputable def ce2 {α:Type}(l:List α)(lo hi:Option Int):List α:=(l.drop (loB l.length lo)).take (hiB l.length hi - loB l.length lo)
noncomputable def ixM (a b:D):M D:=λ s=>match a,b with
 | .tup l,.int i=>match(ixn l.length i).bind λ j=>l[j]? with|some d=>.ok d s|none=>.bad
 | .str l,.int i=>match(ixn l.length i).bind λ j=>l[j]? with|some c=>.ok (.str [c]) s|none=>.bad
 | .ref r,b=>match s[r]? with
  | some (.lst l)=>match b with
   | .int i=>match(ixn l.length i).bind λ j=>l[j]? with|some d=>.ok d s|none=>.bad
   | _=>.bad
  | some (.ro l)=>match b with
   | .int i=>match(ixn l.length i).bind λ j=>l[j]? with|some d=>.ok d s|none=>.bad
   | _=>.bad
  | some (.dic l)=>if b.key then match look b l with|some d=>.ok d s|none=>.bad else .bad
  | _=>.bad
 | _,_=>.bad
noncomputable def slM (a:D)(lo hi:Option Int):M D:=λ s=>match a with
 | .tup l=>.ok (.tup (ce2 l lo hi)) s
 | .str l=>.ok (.str (ce2 l lo hi)) s
 | .ref r=>match s[r]? with
  | some (.lst l)=>af7 (.lst (ce2 l lo hi)) s
  | _=>.bad
 | _=>.bad
noncomputable def co0 (a:D):M D:=λ s=>match a with
 | .str l=>.ok (.str l.reverse) s
 | _=>.bad
noncomputable def ar8:List D->Option (List Bool)
 | []=>some []
 | .bl b::l=>(ar8 l).map (b::·)
 | _=>none
noncomputable def qx:List D->Option (List Int)
 | []=>some []
 | .int i::l=>(qx l).map (i::·)
 | _=>none
noncomputable def bt9:List D->Option (List (List Nat))
 | []=>some []
 | .str i::l=>(bt9 l).map (i::·)
 | _=>none
noncomputable def bL9 (d:D):M D:=λ s=>match d with
 | .tup l=>.ok (.int l.length) s
 | .str l=>.ok (.int l.length) s
 | .ref r=>match s[r]? with
  | some (.lst l)=>.ok (.int l.length) s
  | some (.ro l)=>.ok (.int l.length) s
  | _=>.bad
 | _=>.bad
noncomputable def isK (k:Nat)(d:D):M D:=λ s=>match d with
 | .non=>.ok (.bl false) s
 | .bl _=>.ok (.bl (k==1||k==2)) s
 | .int _=>.ok (.bl (k==1)) s
 | .str _=>.ok (.bl (k==3)) s
 | .tup _=>.ok (.bl (k==4)) s
 | .ref r=>match s[r]? with
  | some (.lst _)=>.ok (.bl (k==5)) s
  | _=>.bad
 | _=>.bad
noncomputable def bi1 (f:D->M D):List D->M D
 | [d]=>f d
 | _=>bad
noncomputable def bi:Bi->List D->M D
 | .len,l=>bi1 bL9 l
 | .abs,l=>λ s=>match qx l with|some [i]=>.ok (.int (if i<0 then -i else i)) s|_=>.bad
 | .int,l=>λ s=>match ar8 l with|some [b]=>.ok (.int (if b then 1 else 0)) s|_=>.bad
 | .min2,l=>λ s=>match qx l with|some [a,b]=>.ok (.int (if b<a then b else a)) s|_=>.bad
 | .max2,l=>λ s=>match qx l with|some [a,b]=>.ok (.int (if b > a then b else a)) s|_=>.bad
 | .max3,l=>λ s=>match qx l with|some [a,b,c]=>.ok (.int (max (max a b) c)) s|_=>.bad
 | .isInt,l=>bi1 (isK 1) l
 | .isBool,l=>bi1 (isK 2) l
 | .isStr,l=>bi1 (isK 3) l
 | .isTup,l=>bi1 (isK 4) l
 | .isList,l=>bi1 (isK 5) l
 | _,_=>bad
noncomputable def minI:List Int->Option Int
 | []=>none
 | a::l=>some (l.foldl min a)
noncomputable def cn7:List Int->Option Int
 | []=>none
 | a::l=>some (l.foldl max a)
noncomputable def ins (a:Int):List Int->List Int
 | []=>[a]
 | b::l=>if a<=b then a::b::l else b::ins a l
noncomputable def bU3:List Int->List Int
 | []=>[]
 | a::l=>ins a (bU3 l)
noncomputable def cp7 (is:List Int):Bool:=is.all (λ i=>decide (-1000000000<=i/\i<=1000000000))&&decide (is.length<=1000000)
noncomputable def mk:Mk->List D->M D
 | .tuple,l=>λ s=>.ok (.tup l) s
 | .list,l=>af7 (.lst l)
 | .all,l=>λ s=>match ar8 l with|some bs=>.ok (.bl (bs.all id)) s|none=>.bad
 | .any,l=>λ s=>match ar8 l with|some bs=>.ok (.bl (bs.any id)) s|none=>.bad
 | .sum,l=>λ s=>match qx l with|some is=>if cp7 is then .ok (.int is.sum) s else .bad|none=>.bad
 | .min,l=>λ s=>match(qx l).bind minI with|some m=>.ok (.int m) s|none=>.bad
 | .max,l=>λ s=>match(qx l).bind cn7 with|some m=>.ok (.int m) s|none=>.bad
 | .sorted,l=>λ s=>match qx l with|some is=>af7 (.lst ((bU3 is).map D.int)) s|none=>.bad
 | .lenset,l=>bad
noncomputable def mkD (k:Mk)(l:List D)(d:D):M D:=λ s=>match k with
 | .min=>match qx l with|some is=>(match minI is with|some m=>.ok (.int m) s|none=>.ok d s)|none=>.bad
 | .max=>match qx l with|some is=>(match cn7 is with|some m=>.ok (.int m) s|none=>.ok d s)|none=>.bad
 | _=>.bad
noncomputable def aU5 (k v:D)(l:List (D×D)):List (D×D):=if(look k l).isSome then l.map (λ p=>if p.1=k then(p.1,v)else p)else l++[(k,v)]
noncomputable def setIx (o i v:D):Sto->R Unit:=λ s=>match o with
 | .ref r=>match s[r]? with
  | some (.lst l)=>match i with
   | .int i=>match ixn l.length i with|some j=>.ok () (s.set r (.lst (l.set j v)))|none=>.bad
   | _=>.bad
  | some (.dic l)=>if i.key&&decide (l.length<LIM)then .ok () (s.set r (.dic (aU5 i v l)))else .bad
  | _=>.bad
 | _=>.bad
noncomputable def idx (s:Sto)(x:D):Nat->List D->Option Nat
 | _,[]=>none
 | n,y::l=>match eqv s DEEP y x with
  | some true=>some n
  | some false=>idx s x (n+1) l
  | none=>none
noncomputable def meth:Mt->D->List D->M D
 | .append,.ref r,[d]=>λ s=>match s[r]? with
  | some (.lst l)=>if l.length<LIM then .ok .non (s.set r (.lst (l++[d])))else .bad
  | _=>.bad
 | .pop,.ref r,[]=>λ s=>match s[r]? with
  | some (.lst l)=>match l.getLast? with|some d=>.ok d (s.set r (.lst l.dropLast))|none=>.bad
  | _=>.bad
 | .reverse,.ref r,[]=>λ s=>match s[r]? with
  | some (.lst l)=>.ok .non (s.set r (.lst l.reverse))
  | _=>.bad
 | .clear,.ref r,[]=>λ s=>match s[r]? with
  | some (.lst l)=>.ok .non (s.set r (.lst []))
  | _=>.bad
 | .index,.ref r,[d]=>λ s=>match s[r]? with
  | some (.lst l)=>match inL s d l,idx s d 0 l with|some true,some n=>.ok (.int n) s|_,_=>.bad
  | _=>.bad
 | _,_,_=>bad
noncomputable def bS6 (o:D)(l:List D):M D:=λ s=>match o with
 | .ref r=>match s[r]? with
  | some (.lst m)=>if m.length+l.length<=LIM then .ok .non (s.set r (.lst (m++l)))else .bad
  | _=>.bad
 | _=>.bad
noncomputable def bG2 (x y:D):M D:=λ s=>match x with
 | .str []=>match y with
  | .ref r=>match s[r]? with
   | some (.lst l)=>match bt9 l with
    | some ss=>if ss.flatten.length<=LIM then .ok (.str ss.flatten) s else .bad
    | none=>.bad
   | _=>.bad
  | _=>.bad
 | _=>.bad
noncomputable def extS (o d:D):M D:=λ s=>match d with
 | .ref k=>match s[k]? with
  | some (.lst l)=>bS6 o l s
  | _=>.bad
 | _=>.bad
structure Fns where
 call:String->List D->M D
 lam:String->List D->List D->M D
 con:String->Option D
noncomputable def aK3 (ρ:Env)(i:Nat):M D:=λ s=>match ρ[i]? with|some (some d)=>.ok d s|_=>.bad
noncomputable def ag7 (ρ:Env):List Nat->Option (List D)
 | []=>some []
 | i::is=>match ρ[i]?,ag7 ρ is with|some (some d),some l=>some (d::l)|_,_=>none
noncomputable def qp (ρ:Env)(caps:List (Option Nat)):Env:=caps.map λ o=>match o with|none=>none|some j=>(ρ[j]?).join
noncomputable def au3 (ρ:Env)(i:Nat)(d:D):Option Env:=if i < ρ.length then some (ρ.set i (some d))else none
noncomputable def ag9 (ρ:Env)(i:Nat):Option Env:=if i < ρ.length then some (ρ.set i none)else none
noncomputable def am2 (ρ:Env):List Nat->List D->Option Env
 | [],[]=>some ρ
 | i::is,d::l=>(au3 ρ i d).bind λ ρ=>am2 ρ is l
 | _,_=>none
noncomputable def ae8 (ρ:Env):Tg->D->Option Env
 | .one i,d=>au3 ρ i d
 | .tup is,.tup l=>am2 ρ is l
 | _,_=>none
structure Sq where
 its:List D
 src:List Nat
noncomputable def aK5 (d:D):M Sq:=λ s=>match d with
 | .tup l=>.ok ⟨l,[]⟩ s
 | .str l=>.ok ⟨l.map λ c=>.str [c],[]⟩ s
 | .ref r=>match s[r]? with
  | some (.lst l)=>.ok ⟨l,[r]⟩ s
  | some (.ro l)=>.ok ⟨l,[]⟩ s
  | _=>.bad
 | _=>.bad
noncomputable def ah6 (d:D):M Sq:=λ s=>match d with
 | .tup l=>.ok ⟨l,[]⟩ s
 | .str l=>.ok ⟨l.map λ c=>.str [c],[]⟩ s
 | .ref r=>match s[r]? with
  | some (.lst l)=>.ok ⟨l,[r]⟩ s
  | some (.ro l)=>.ok ⟨l,[]⟩ s
  | _=>.bad
 | _=>.bad
noncomputable def bp6 (d:D):M Sq:=λ s=>match d with
 | .tup l=>.ok ⟨l,[]⟩ s
 | .ref r=>match s[r]? with
  | some (.lst l)=>.ok ⟨l,[r]⟩ s
  | some (.ro l)=>.ok ⟨l,[]⟩ s
  | _=>.bad
 | _=>.bad
noncomputable def bf2 (d:D):Sto->R (List D):=λ s=>match d with
 | .tup l=>.ok l s
 | .str l=>.ok (l.map λ c=>.str [c]) s
 | .ref r=>match s[r]? with
  | some (.lst l)=>.ok l s
  | some (.ro l)=>.ok l s
  | _=>.bad
 | _=>.bad
noncomputable def bM1 (d:D):Sto->R (List D):=λ s=>match d with
 | .ref r=>match s[r]? with
  | some (.lst l)=>.ok l s
  | _=>.bad
 | _=>.bad
noncomputable def W62:Int:=4611686018427387904
noncomputable def ag8 (a b:Int):List D:=(ah (b - a).toNat).map λ(k:Nat)=>.int (a+k)
noncomputable def cp1 (a b c:Int):List D:=if 0<c then(ah ((b - a+c - 1) / c).toNat).map λ(k:Nat)=>.int (a+c*k)else(ah ((a - b+(-c) - 1) / (-c)).toNat).map λ(k:Nat)=>.int (a+c*k)
noncomputable def bz9 (n:Nat):List D->List D
 | []=>[]
 | d::l=>.tup [.int n,d]::bz9 (n+1) l
noncomputable def az4:List D->List D->List D
 | a::l,b::m=>.tup [a,b]::az4 l m
 | _,_=>[]
noncomputable def chk (s0 s:Sto)(src:List Nat):Bool:=src.all λ r=>decide (s[r]?=s0[r]?)
noncomputable def tru {α:Type}(r:R D)(f:Bool->Sto->R α):R α:=r.bind λ d s=>match d with|.bl b=>f b s|_=>.bad
@[simp] theorem zE {α:Type} (b:Bool) (s:Sto) (f:Bool->Sto->R α):tru (.ok (.bl b) s) f=f b s:=rfl
noncomputable def jr (ok:Sto->Bool)(g:D->Env->Sto->R (Option D×Env)):List D->Env->Sto->R (List D)
 | [],_,s=>if ok s then .ok [] s else .bad
 | d::l,ρ,s=>if ok s then(g d ρ s).bind λ p s=>(jr ok g l p.2 s).bind λ r s=>.ok (match p.1 with|some v=>v::r|none=>r) s else .bad
mutual
noncomputable def ev (F:Fns):E->Env->Sto->R D
 | .var i,ρ,s=>aK3 ρ i s
 | .cst c,_,s=>.ok c.d s
 | .glob x,_,s=>match F.con x with|some d=>.ok d s|none=>.bad
 | .bin op a b,ρ,s=>(ev F a ρ s).bind λ x s=>(ev F b ρ s).bind λ y s=>qK op x y s
 | .neg a,ρ,s=>(ev F a ρ s).bind λ x s=>match x with|.int i=>.ok (.int (-i)) s|_=>.bad
 | .not a,ρ,s=>tru (ev F a ρ s) λ b s=>.ok (.bl (!b)) s
 | .cmp op a b,ρ,s=>(ev F a ρ s).bind λ x s=>(ev F b ρ s).bind λ y s=>qJ op x y s
 | .chain o p a b c,ρ,s=>(ev F a ρ s).bind λ x s=>(ev F b ρ s).bind λ y s=>tru (qJ o x y s) λ k s=>if k then(ev F c ρ s).bind λ z s=>qJ p y z s else .ok (.bl false) s
 | .isN a,ρ,s=>(ev F a ρ s).bind λ x s=>.ok (.bl (decide (x=.non))) s
 | .notN a,ρ,s=>(ev F a ρ s).bind λ x s=>.ok (.bl (!decide (x=.non))) s
 | .isB a b,ρ,s=>(ev F a ρ s).bind λ x s=>match x with|.bl c=>.ok (.bl (c==b)) s|_=>.bad
 | .notB a b,ρ,s=>(ev F a ρ s).bind λ x s=>match x with|.bl c=>.ok (.bl (!(c==b))) s|_=>.bad
 | .and a b,ρ,s=>tru (ev F a ρ s) λ c s=>if c then tru (ev F b ρ s) λ c s=>.ok (.bl c) s else .ok (.bl false) s
 | .or a b,ρ,s=>tru (ev F a ρ s) λ c s=>if c then .ok (.bl true) s else tru (ev F b ρ s) λ c s=>.ok (.bl c) s
 | .ite c a b,ρ,s=>tru (ev F c ρ s) λ k s=>if k then ev F a ρ s else ev F b ρ s
 | .tup es,ρ,s=>(evs F es ρ s).bind λ l s=>.ok (.tup l) s
 | .lst es,ρ,s=>(evs F es ρ s).bind λ l s=>af7 (.lst l) s
 | .dic .nil .nil,ρ,s=>af7 (.dic []) s
 | .dic (.cons k .nil) (.cons v .nil),ρ,s=>(ev F k ρ (s++[.dic []])).bind λ kd s1=>(ev F v ρ s1).bind λ vd s2=>if kd.key=true/\s2[s.length]?=some (.dic [])then .ok (.ref s.length) (s2.set s.length (.dic [(kd,vd)]))else .bad
 | .dic _ _,ρ,s=>.bad
 | .ix a b,ρ,s=>(ev F a ρ s).bind λ x s=>(ev F b ρ s).bind λ y s=>ixM x y s
 | .slL a lo,ρ,s=>(ev F a ρ s).bind λ x s=>(ev F lo ρ s).bind λ y s=>match y with|.int i=>slM x (some i) none s|_=>.bad
 | .slU a hi,ρ,s=>(ev F a ρ s).bind λ x s=>(ev F hi ρ s).bind λ y s=>match y with|.int i=>slM x none (some i) s|_=>.bad
 | .slLU a lo hi,ρ,s=>(ev F a ρ s).bind λ x s=>(ev F lo ρ s).bind λ y s=>match y with|.int i=>(ev F hi ρ s).bind (λ z s=>match z with|.int j=>slM x (some i) (some j) s|_=>.bad)|_=>.bad
 | .rev a,ρ,s=>(ev F a ρ s).bind λ x s=>co0 x s
 | .call f as,ρ,s=>(aq6 F as ρ s).bind λ l s=>F.call f l s
 | .callC f as,ρ,s=>(aq6 F as ρ s).bind λ l s=>(F.call f l s).bind λ d s'=>if(d.ncl&&s'.all O.ncl)=true then .ok d s' else .bad
 | .callV i es,ρ,s=>(evs F es ρ s).bind λ l s=>match ρ[i]? with
  | some (some (.fn f))=>F.call f l s
  | some (some (.clo id cs))=>F.lam id cs l s
  | _=>.bad
 | .bi b es,ρ,s=>(evs F es ρ s).bind λ l s=>bi b l s
 | .mk k it,ρ,s=>(evL F it ρ s).bind λ q s=>mk k q s
 | .mkD k it d,ρ,s=>(evL F it ρ s).bind λ q s=>(ev F d ρ s).bind λ d s=>mkD k q d s
 | .meth m o es,ρ,s=>(ev F o ρ s).bind λ x s=>(evs F es ρ s).bind λ l s=>meth m x l s
 | .ext o it,ρ,s=>(ev F o ρ s).bind λ x s=>(evL F it ρ s).bind λ q s=>bS6 x q s
 | .extS o e,ρ,s=>(ev F o ρ s).bind λ x s=>(ev F e ρ s).bind λ y s=>extS x y s
 | .join o e,ρ,s=>(ev F o ρ s).bind λ x s=>(ev F e ρ s).bind λ y s=>bG2 x y s
 | .mks k e,ρ,s=>(ev F e ρ s).bind λ x s=>(bM1 x s).bind λ q s=>mk k q s
 | .mkDs k e d,ρ,s=>(ev F e ρ s).bind λ x s=>(ev F d ρ s).bind λ z s=>(bM1 x s).bind λ q s=>mkD k q z s
noncomputable def evs (F:Fns):Es->Env->Sto->R (List D)
 | .nil,_,s=>.ok [] s
 | .cons e es,ρ,s=>(ev F e ρ s).bind λ d s=>(evs F es ρ s).bind λ l s=>.ok (d::l) s
noncomputable def aq6 (F:Fns):As->Env->Sto->R (List D)
 | .nil,_,s=>.ok [] s
 | .ex e as,ρ,s=>(ev F e ρ s).bind λ d s=>(aq6 F as ρ s).bind λ l s=>.ok (d::l) s
 | .lam id caps as,ρ,s=>match ag7 ρ caps with
  | some cs=>(aq6 F as ρ s).bind λ l s=>.ok (.clo id cs::l) s
  | none=>.bad
 | .fn f as,ρ,s=>(aq6 F as ρ s).bind λ l s=>.ok (.fn f::l) s
noncomputable def evI (F:Fns):I->Env->Sto->R Sq
 | .seq e,ρ,s=>(ev F e ρ s).bind λ d s=>aK5 d s
 | .rng1 a,ρ,s=>(ev F a ρ s).bind λ x s=>match x with|.int i=>if -W62<=i/\i<W62 then .ok ⟨ag8 0 i,[]⟩ s else .bad|_=>.bad
 | .rng2 a b,ρ,s=>(ev F a ρ s).bind λ x s=>(ev F b ρ s).bind λ y s=>match x,y with|.int i,.int j=>if(-W62<=i/\i<W62)/\-W62<=j/\j<W62 then .ok ⟨ag8 i j,[]⟩ s else .bad|_,_=>.bad
 | .rng3 a b c,ρ,s=>(ev F a ρ s).bind λ x s=>(ev F b ρ s).bind λ y s=>match x,y with|.int i,.int j=>if c=2/\(0<=i/\i<1048576)/\0<=j/\j<1048576 then .ok ⟨cp1 i j c,[]⟩ s else .bad|_,_=>.bad
 | .enum (.seq e),ρ,s=>(ev F e ρ s).bind λ d s=>(bp6 d s).bind λ q s=>.ok ⟨bz9 0 q.its,q.src⟩ s
 | .zip (.seq a) (.seq b),ρ,s=>(ev F a ρ s).bind λ x s=>(ev F b ρ s).bind λ y s=>(ah6 x s).bind λ p s=>(ah6 y s).bind λ q s=>.ok ⟨az4 p.its q.its,p.src++q.src⟩ s
 | .enum _,_,_=>.bad
 | .zip _ _,_,_=>.bad
 | .items e,ρ,s=>.bad
noncomputable def evL (F:Fns):L->Env->Sto->R (List D)
 | .comp tg it e caps,ρ,s=>(evI F it ρ s).bind λ q s0=>if q.its.length<=LIM then jr (λ s=>chk s0 s q.src) (λ d ρ s=>match ae8 ρ tg d with
   | some ρ=>(ev F e ρ s).bind λ v s=>.ok (some v,ρ) s
   | none=>.bad) q.its (qp ρ caps) s0 else .bad
 | .compIf tg it c e caps,ρ,s=>(evI F it ρ s).bind λ q s0=>if q.its.length<=LIM then jr (λ s=>chk s0 s q.src) (λ d ρ s=>match ae8 ρ tg d with
   | some ρ=>tru (ev F c ρ s) λ k s=>if k then(ev F e ρ s).bind λ v s=>.ok (some v,ρ) s else .ok (none,ρ) s
   | none=>.bad) q.its (qp ρ caps) s0 else .bad
 | .disp es,ρ,s=>evs F es ρ s
 | .seq e,ρ,s=>(ev F e ρ s).bind λ d s=>bf2 d s
end
inductive Ct where
 | next (ρ:Env)|ret (d:D)|cont (ρ:Env)|brk (ρ:Env)
noncomputable def aT6 (ok:Sto->Bool)(g:D->Env->Sto->R Ct):List D->Env->Sto->R Ct
 | [],ρ,s=>if ok s then .ok (.next ρ) s else .bad
 | d::l,ρ,s=>if ok s then(g d ρ s).bind λ c s=>match c with
   | .next ρ=>aT6 ok g l ρ s
   | .cont ρ=>aT6 ok g l ρ s
   | .brk ρ=>.ok (.next ρ) s
   | .ret d=>.ok (.ret d) s
  else .bad
noncomputable def jB (c:Env->Sto->R D)(g:Env->Sto->R Ct):Nat->Env->Sto->R Ct
 | 0,_,_=>.bad
 | n+1,ρ,s=>tru (c ρ s) λ b s=>if b then(g ρ s).bind λ c' s=>match c' with
   | .next ρ=>jB c g n ρ s
   | .cont ρ=>jB c g n ρ s
   | .brk ρ=>.ok (.next ρ) s
   | .ret d=>.ok (.ret d) s
  else .ok (.next ρ) s
open Classical in
noncomputable def whl (c:Env->Sto->R D)(g:Env->Sto->R Ct)(ρ:Env)(s:Sto):R Ct :=
 if h:∃ n,jB c g n ρ s≠.bad then jB c g h.choose ρ s else .bad
mutual
noncomputable def ex (F:Fns):S->Env->Sto->R Ct
 | .asg tg e,ρ,s=>(ev F e ρ s).bind λ d s=>match ae8 ρ tg d with|some ρ=>.ok (.next ρ) s|none=>.bad
 | .setIx o i e,ρ,s=>(ev F e ρ s).bind λ d s=>(ev F o ρ s).bind λ x s=>(ev F i ρ s).bind λ y s=>(setIx x y d s).bind λ _ s=>.ok (.next ρ) s
 | .aug i e,ρ,s=>(aK3 ρ i s).bind λ x s=>(ev F e ρ s).bind λ y s=>match x,y with
  | .int a,.int b=>match au3 ρ i (.int (a+b))with|some ρ=>.ok (.next ρ) s|none=>.bad
  | _,_=>.bad
 | .ex e,ρ,s=>(ev F e ρ s).bind λ _ s=>.ok (.next ρ) s
 | .ret e,ρ,s=>(ev F e ρ s).bind λ d s=>.ok (.ret d) s
 | .retN,_,s=>.ok (.ret .non) s
 | .ite c a b,ρ,s=>tru (ev F c ρ s) λ k s=>if k then exs F a ρ s else exs F b ρ s
 | .whl c b,ρ,s=>whl (ev F c) (exs F b) ρ s
 | .for_ tg it b,ρ,s=>(evI F it ρ s).bind λ q s0=>aT6 (λ s=>chk s0 s q.src) (λ d ρ s=>match ae8 ρ tg d with
   | some ρ=>exs F b ρ s
   | none=>.bad) q.its ρ s0
 | .pass,ρ,s=>.ok (.next ρ) s
 | .cont,ρ,s=>.ok (.cont ρ) s
 | .brk,ρ,s=>.ok (.brk ρ) s
 | .raise,_,_=>.bad
 | .und i,ρ,s=>match ag9 ρ i with|some ρ=>.ok (.next ρ) s|none=>.bad
noncomputable def exs (F:Fns):Ss->Env->Sto->R Ct
 | .nil,ρ,s=>.ok (.next ρ) s
 | .cons st ss,ρ,s=>(ex F st ρ s).bind λ c s=>match c with|.next ρ=>exs F ss ρ s|c=>.ok c s
end
structure Df where
 name:String
 ps:Nat
 vs:Nat
 body:Ss
structure Lm where
 id:String
 ps:Nat
 cs:Nat
 body:E
structure Pr where
 df:String->Option Df
 lm:String->Option Lm
 con:String->Option D
noncomputable def ar7 (st st':Sto):Bool:=(ah st.length).all λ i=>decide (st'[i]?=st[i]?)||(match st'[i]? with|some o=>o.bnd st.length|none=>false)
noncomputable def zN (st:Sto)(d:D)(st':Sto):R D :=
 if ar7 st st' then
  match d with
  | .ref r=>if r<st.length then .ok d (st'.take st.length)else match st'[r]? with
   | some o=>if o.bnd st.length then .ok (.ref st.length) (st'.take st.length++[o])else .ok d st'
   | none=>.bad
  | d=>if d.bnd st.length then .ok d (st'.take st.length)else .ok d st'
 else .ok d st'
noncomputable def aa1 (P:Pr):Nat->Fns
 | 0=>⟨λ _ _ _=>.bad,λ _ _ _ _=>.bad,P.con⟩
 | n+1=>⟨λ f l s=>match P.df f with
   | some d=>if l.length=d.ps then(exs (aa1 P n) d.body (l.map some++am d.vs none) s).bind λ c s'=>match c with
     | .ret v=>zN s v s'
     | .next _=>zN s .non s'
     | _=>.bad else .bad
   | none=>.bad,
  λ id cs l s=>match P.lm id with
   | some d=>if l.length=d.ps/\cs.length=d.cs/\(D.nclL l&&D.nclL cs&&s.all O.ncl)=true then(ev (aa1 P n) d.body (l.map some++cs.map some) s).bind λ v s'=>zN s v s' else .bad
   | none=>.bad,P.con⟩
def KP (s s':Sto):Prop:=∀(i:Nat) (o:O),s[i]?=some o->∃ o',s'[i]?=some o'/\o'.kd=o.kd
theorem KP.refl (s:Sto):KP s s:=λ i o h=>⟨o,h,rfl⟩
theorem KP.trans {a b c:Sto}(h:KP a b)(g:KP b c):KP a c:=λ i o e=>by
 obtain⟨y,e1,B⟩:=h i o e
 obtain⟨G,e2,C⟩:=g i y e1
 exact⟨G,e2,C.trans B⟩
theorem KP.app (s t:Sto):KP s (s++t):=λ i o e=>⟨o,by rw[aI (ae.mp e).1];exact e,rfl⟩
theorem KP.set {s:Sto}{r:Nat}{o y:O}(h:s[r]?=some y)(k:o.kd=y.kd):KP s (s.set r o):=λ i u e=>by
 by_cases z:r=i
 ·subst z
  rw[h]at e;cases e
  exact⟨o,bp (ae.mp h).1,k⟩
 ·exact⟨u,by rw[bz z];exact e,rfl⟩
def KR {α:Type}(s:Sto)(r:R α):Prop:=∀ a s',r=.ok a s'->KP s s'
theorem KR.bad {α:Type}{s:Sto}:KR s (.bad:R α):=λ _ _ h=>by cases h
theorem KR.ok {α:Type}{s:Sto}{a:α}:KR s (.ok a s):=λ _ _ h=>by cases h;exact KP.refl _
theorem KR.bind {α β:Type}{s:Sto}{r:R α}{f:α->Sto->R β}(h:KR s r)(g:∀ a s1,KR s1 (f a s1)):KR s (r.bind f):=λ b s' e=>by
 obtain⟨a,s1,e1,e2⟩:=R.bind_inv e
 exact(h a s1 e1).trans (g a s1 b s' e2)
theorem KR.tru {α:Type}{s:Sto}{r:R D}{f:Bool->Sto->R α}(h:KR s r)(g:∀ a s1,KR s1 (f a s1)):KR s (tru r f):=KR.bind h λ a s1=>by
 cases a with
 | bl b=>exact g b s1
 | _=>exact KR.bad
theorem KR.if {α:Type}{s:Sto}{c:Prop}[Decidable c]{a b:R α}(h:KR s a)(g:KR s b):KR s (if c then a else b):=by split;exact h;exact g
theorem KR.al {s:Sto}{o:O}:KR s (af7 o s):=λ _ _ h=>by cases h;exact KP.app _ _
theorem KR.pu {s:Sto}{d:D}:KR s (pur d s):=λ _ _ h=>by cases h;exact KP.refl _
theorem KR.bd {s:Sto}:KR s ((DV.bad:M D) s):=λ _ _ h=>by cases h
theorem KR.im {s:Sto}{c:Prop}{_:Decidable c}{d:D}:KR s ((if c then pur d else DV.bad:M D) s):=by split;exact KR.pu;exact KR.bd
theorem KR.ia {s:Sto}{c:Prop}{_:Decidable c}{o:O}:KR s (if c then af7 o s else .bad):=KR.if KR.al KR.bd
theorem bp2 (op:BOp)(x y:D)(s:Sto):KR s (qK op x y s):=by
 cases op with
 | add=>cases x with
  | int a=>cases y with
   | int b=>exact KR.pu
   | _=>exact KR.bd
  | str a=>cases y with
   | str b=>exact KR.im
   | _=>exact KR.bd
  | tup a=>cases y with
   | tup b=>exact KR.im
   | _=>exact KR.bd
  | ref a=>cases y with
   | ref b =>
    show KR s (match s[a]?,s[b]? with|some (.lst l),some (.lst m)=>if l.length+m.length<=LIM then af7 (.lst (l++m)) s else .bad|_,_=>.bad)
    split
    ·exact KR.ia
    ·exact KR.bd
   | _=>exact KR.bd
  | _=>exact KR.bd
 | sub=>cases x with
  | int a=>cases y with
   | int b=>exact KR.pu
   | _=>exact KR.bd
  | _=>exact KR.bd
 | mul=>cases x with
  | int a=>cases y with
   | int b=>exact KR.im
   | _=>exact KR.bd
  | str a=>cases y with
   | int b=>exact KR.im
   | _=>exact KR.bd
  | tup a=>cases y with
   | int b=>exact KR.im
   | _=>exact KR.bd
  | ref a=>cases y with
   | int n =>
    show KR s (match s[a]? with|some (.lst l)=>if 0<=n/\n<=1000000/\l.length*n.toNat<=LIM then af7 (.lst (bA1 n.toNat l)) s else .bad|_=>.bad)
    split
    ·exact KR.ia
    ·exact KR.bd
   | _=>exact KR.bd
  | _=>exact KR.bd
 | fdiv=>cases x with
  | int a=>cases y with
   | int b=>exact KR.im
   | _=>exact KR.bd
  | _=>exact KR.bd
 | mod=>cases x with
  | int a=>cases y with
   | int b=>exact KR.im
   | _=>exact KR.bd
  | _=>exact KR.bd
 | pow=>cases x with
  | int a=>cases y with
   | int b=>exact KR.im
   | _=>exact KR.bd
  | _=>exact KR.bd
 | shl=>cases x with
  | int a=>cases y with
   | int b=>exact KR.im
   | _=>exact KR.bd
  | _=>exact KR.bd
 | shr=>cases x with
  | int a=>cases y with
   | int b=>exact KR.im
   | _=>exact KR.bd
  | _=>exact KR.bd
 | _=>exact KR.bd
theorem aY3 (op:COp)(x y:D)(s:Sto):KR s (qJ op x y s):=by
 have B:∀ a b:D,KR s (inM a b s):=λ a b=>by
  intro r s' h
  unfold inM at h
  split at h
  ·split at h<;>cases h;exact KP.refl _
  ·split at h
   ·split at h<;>cases h;exact KP.refl _
   ·split at h<;>cases h;exact KP.refl _
   ·cases h
  ·split at h<;>cases h;exact KP.refl _
  ·cases h
 cases op with
 | isin=>exact KR.bind (B x y) λ _ _=>KR.ok
 | notin=>exact KR.bind (B x y) λ _ _=>KR.ok
 | eq=>intro a s' h;change eqM x y s=_ at h;unfold eqM at h;split at h<;>cases h;exact KP.refl _
 | ne =>
  intro a s' h
  change(match eqv s DEEP x y with|some r=>R.ok (D.bl (!r)) s|none=>.bad)=_ at h
  split at h<;>cases h;exact KP.refl _
 | _ =>
  intro a s' h
  cases x with
  | int i=>(cases y with
   | int j=>cases h;exact KP.refl _
   | _=>cases h)
  | _=>cases h
theorem ci4 (x y:D)(s:Sto):KR s (ixM x y s):=by
 intro a s' h
 unfold ixM at h
 repeat' split at h
 all_goals first|(cases h;exact KP.refl _;done)|(cases h;done)
theorem bI1 (x:D)(y B:Option Int)(s:Sto):KR s (slM x y B s):=by
 intro a s' h
 unfold slM at h
 repeat' split at h
 all_goals first|(cases h;exact KP.refl _;done)|(cases h;exact KP.app _ _;done)|(cases h;done)
theorem bH2 (x:D)(s:Sto):KR s (bf2 x s):=by
 intro a s' h
 unfold bf2 at h
 repeat' split at h
 all_goals first|(cases h;exact KP.refl _;done)|(cases h;done)
theorem ba0 (x:D)(s:Sto):KR s (bM1 x s):=by
 intro a s' h
 unfold bM1 at h
 repeat' split at h
 all_goals first|(cases h;exact KP.refl _;done)|(cases h;done)
theorem bz5 (x:D)(s:Sto):KR s (aK5 x s):=by
 intro a s' h
 unfold aK5 at h
 repeat' split at h
 all_goals first|(cases h;exact KP.refl _;done)|(cases h;done)
theorem aO4 (x:D)(s:Sto):KR s (ah6 x s):=by
 intro a s' h
 unfold ah6 at h
 repeat' split at h
 all_goals first|(cases h;exact KP.refl _;done)|(cases h;done)
theorem bl7 (x:D)(s:Sto):KR s (bp6 x s):=by
 intro a s' h
 unfold bp6 at h
 repeat' split at h
 all_goals first|(cases h;exact KP.refl _;done)|(cases h;done)
theorem bJ0 (x y:D)(s:Sto):KR s (bG2 x y s):=by
 intro a s' h
 unfold bG2 at h
 repeat' split at h
 all_goals first|(cases h;exact KP.refl _;done)|(cases h;done)
theorem cj5 (b:Bi)(l:List D)(s:Sto):KR s (bi b l s):=by
 have y:∀ f:D->M D,(∀ d,KR s (f d s))->KR s (bi1 f l s):=λ f C=>by
  cases l with
  | nil=>exact KR.bad
  | cons d t=>(cases t with
   | nil=>exact C d
   | cons _ _=>exact KR.bad)
 have B:∀ k d,KR s (isK k d s):=λ k d=>by
  intro a s' h
  unfold isK at h
  repeat' split at h
  all_goals first|(cases h;exact KP.refl _;done)|(cases h;done)
 have G:∀ d,KR s (bL9 d s):=λ d=>by
  intro a s' h
  unfold bL9 at h
  repeat' split at h
  all_goals first|(cases h;exact KP.refl _;done)|(cases h;done)
 cases b with
 | len=>exact y _ G
 | isInt=>exact y _ (B 1)
 | isBool=>exact y _ (B 2)
 | isStr=>exact y _ (B 3)
 | isTup=>exact y _ (B 4)
 | isList=>exact y _ (B 5)
 | _ =>
  intro a s' h
  unfold bi at h
  first|(cases h;done)|(simp only at h;split at h<;>first|(cases h;exact KP.refl _;done)|(cases h;done))
theorem bM5 (k:Mk)(l:List D)(s:Sto):KR s (mk k l s):=by
 cases k with
 | tuple=>exact KR.ok
 | list=>exact KR.al
 | lenset=>exact KR.bad
 | _ =>
  intro a s' h
  unfold mk at h
  simp only at h
  repeat' split at h
  all_goals first|(cases h;exact KP.refl _;done)|(cases h;exact KP.app _ _;done)|(cases h;done)
theorem bw5 (k:Mk)(l:List D)(d:D)(s:Sto):KR s (mkD k l d s):=by
 intro a s' h
 unfold mkD at h
 repeat' split at h
 all_goals first|(cases h;exact KP.refl _;done)|(cases h;done)
theorem bz6 (m:Mt)(o:D)(l:List D)(s:Sto):KR s (meth m o l s):=by
 intro a s' h
 unfold meth at h
 repeat' split at h
 all_goals first|(cases h;done)|(cases h;exact KP.refl _;done)|(rename_i e _;cases h;exact KP.set e rfl;done)|(rename_i e _ _ _;cases h;exact KP.set e rfl;done)|(rename_i e;cases h;exact KP.set e rfl;done)|(rename_i e _ _;cases h;exact KP.set e rfl;done)
theorem bh2 (o:D)(l:List D)(s:Sto):KR s (bS6 o l s):=by
 intro a s' h
 unfold bS6 at h
 repeat' split at h
 all_goals first|(cases h;done)|(rename_i e _;cases h;exact KP.set e rfl;done)
theorem bj3 (o i v:D)(s:Sto):KR s (setIx o i v s):=by
 intro a s' h
 unfold setIx at h
 cases o with
 | ref r =>
  simp only at h
  cases e:s[r]? with
  | none=>rw[e]at h;cases h
  | some ob =>
   rw[e]at h
   cases ob with
   | lst l =>
    cases i with
    | int k=>simp only at h;split at h<;>cases h;exact KP.set e rfl
    | _=>cases h
   | dic l=>simp only at h;split at h<;>cases h;exact KP.set e rfl
   | _=>cases h
 | _=>cases h
structure FK (F:Fns):Prop where
 call:∀ f l s,KR s (F.call f l s)
 lam:∀ id cs l s,KR s (F.lam id cs l s)
theorem ay3 {ok:Sto->Bool}{g:D->Env->Sto->R (Option D×Env)}(h:∀ d ρ s,KR s (g d ρ s)):∀(l:List D) (ρ:Env) (s:Sto),KR s (jr ok g l ρ s)
 | [],ρ,s=>KR.if KR.ok KR.bad
 | d::l,ρ,s=>KR.if (KR.bind (h d ρ s) λ p s1=>KR.bind (ay3 h l p.2 s1) λ r s2=>KR.ok) KR.bad
section
variable {F:Fns} (hF:FK F)
theorem aY0 (ρ:Env)(i:Nat)(s:Sto):KR s (aK3 ρ i s):=by
 intro a s' h
 unfold aK3 at h
 split at h<;>cases h;exact KP.refl _
include hF
mutual
theorem zu:∀(e:E) (ρ:Env) (s:Sto),KR s (ev F e ρ s)
 | .var i,ρ,s=>aY0 ρ i s
 | .cst c,ρ,s=>KR.ok
 | .glob x,ρ,s=>by
  intro a s' h
  change(match F.con x with|some d=>R.ok d s|none=>.bad)=_ at h
  split at h<;>cases h;exact KP.refl _
 | .bin op a b,ρ,s=>KR.bind (zu a ρ s) λ x s=>KR.bind (zu b ρ s) λ y s=>bp2 op x y s
 | .neg a,ρ,s=>KR.bind (zu a ρ s) λ x s=>by
  cases x with
  | int i=>exact KR.ok
  | _=>exact KR.bad
 | .not a,ρ,s=>KR.tru (zu a ρ s) λ b s=>KR.ok
 | .cmp op a b,ρ,s=>KR.bind (zu a ρ s) λ x s=>KR.bind (zu b ρ s) λ y s=>aY3 op x y s
 | .chain o p a b c,ρ,s=>KR.bind (zu a ρ s) λ x s=>KR.bind (zu b ρ s) λ y s=>KR.tru (aY3 o x y s) λ k s=>KR.if (KR.bind (zu c ρ s) λ z s=>aY3 p y z s) KR.ok
 | .isN a,ρ,s=>KR.bind (zu a ρ s) λ x s=>KR.ok
 | .notN a,ρ,s=>KR.bind (zu a ρ s) λ x s=>KR.ok
 | .isB a b,ρ,s=>KR.bind (zu a ρ s) λ x s=>by
  cases x with
  | bl i=>exact KR.ok
  | _=>exact KR.bad
 | .notB a b,ρ,s=>KR.bind (zu a ρ s) λ x s=>by
  cases x with
  | bl i=>exact KR.ok
  | _=>exact KR.bad
 | .and a b,ρ,s=>KR.tru (zu a ρ s) λ c s=>KR.if (KR.tru (zu b ρ s) λ c s=>KR.ok) KR.ok
 | .or a b,ρ,s=>KR.tru (zu a ρ s) λ c s=>KR.if KR.ok (KR.tru (zu b ρ s) λ c s=>KR.ok)
 | .ite c a b,ρ,s=>KR.tru (zu c ρ s) λ k s=>KR.if (zu a ρ s) (zu b ρ s)
 | .tup es,ρ,s=>KR.bind (ak6 es ρ s) λ l s=>KR.ok
 | .lst es,ρ,s=>KR.bind (ak6 es ρ s) λ l s=>KR.al
 | .dic .nil .nil,ρ,s=>KR.al
 | .dic (.cons k .nil) (.cons v .nil),ρ,s=>by
  intro a s' h
  obtain⟨kd,s1,e1,h⟩:=R.bind_inv (show(ev F k ρ (s++[.dic []])).bind _=_ from h)
  obtain⟨B,s2,e2,h⟩:=R.bind_inv h
  split at h
  case isFalse=>cases h
  rename_i hc
  cases h
  exact((KP.app _ _).trans ((zu k ρ _ _ _ e1).trans (zu v ρ _ _ _ e2))).trans (KP.set hc.2 rfl)
 | .dic .nil (.cons _ _),ρ,s=>KR.bad
 | .dic (.cons _ .nil) .nil,ρ,s=>KR.bad
 | .dic (.cons _ .nil) (.cons _ (.cons _ _)),ρ,s=>KR.bad
 | .dic (.cons _ (.cons _ _)) _,ρ,s=>KR.bad
 | .ix a b,ρ,s=>KR.bind (zu a ρ s) λ x s=>KR.bind (zu b ρ s) λ y s=>ci4 x y s
 | .slL a lo,ρ,s=>KR.bind (zu a ρ s) λ x s=>KR.bind (zu lo ρ s) λ y s=>by
  cases y with
  | int i=>exact bI1 _ _ _ _
  | _=>exact KR.bad
 | .slU a hi,ρ,s=>KR.bind (zu a ρ s) λ x s=>KR.bind (zu hi ρ s) λ y s=>by
  cases y with
  | int i=>exact bI1 _ _ _ _
  | _=>exact KR.bad
 | .slLU a lo hi,ρ,s=>KR.bind (zu a ρ s) λ x s=>KR.bind (zu lo ρ s) λ y s=>by
  cases y with
  | int i =>
   refine KR.bind (zu hi ρ s) λ z s=>?_
   cases z with
   | int j=>exact bI1 _ _ _ _
   | _=>exact KR.bad
  | _=>exact KR.bad
 | .rev a,ρ,s=>KR.bind (zu a ρ s) λ x s=>by
  cases x with
  | str l=>exact KR.ok
  | _=>exact KR.bad
 | .call f as,ρ,s=>KR.bind (an8 as ρ s) λ l s=>hF.call f l s
 | .callC f as,ρ,s=>KR.bind (an8 as ρ s) λ l s=>KR.bind (hF.call f l s) λ d s'=>KR.if KR.ok KR.bad
 | .callV i es,ρ,s=>KR.bind (ak6 es ρ s) λ l s=>by
  intro a s' h
  split at h
  ·exact hF.call _ _ _ _ _ h
  ·exact hF.lam _ _ _ _ _ _ h
  ·cases h
 | .bi b es,ρ,s=>KR.bind (ak6 es ρ s) λ l s=>cj5 b l s
 | .mk k it,ρ,s=>KR.bind (ba2 it ρ s) λ q s=>bM5 k q s
 | .mkD k it d,ρ,s=>KR.bind (ba2 it ρ s) λ q s=>KR.bind (zu d ρ s) λ d s=>bw5 k q d s
 | .meth m o es,ρ,s=>KR.bind (zu o ρ s) λ x s=>KR.bind (ak6 es ρ s) λ l s=>bz6 m x l s
 | .ext o it,ρ,s=>KR.bind (zu o ρ s) λ x s=>KR.bind (ba2 it ρ s) λ q s=>bh2 x q s
 | .extS o e,ρ,s=>KR.bind (zu o ρ s) λ x s=>KR.bind (zu e ρ s) λ y s=>by
  intro a s' h
  unfold extS at h
  repeat' split at h
  all_goals first|(cases h;done)|exact bh2 _ _ _ _ _ h
 | .join o e,ρ,s=>KR.bind (zu o ρ s) λ x s=>KR.bind (zu e ρ s) λ y s=>bJ0 x y s
 | .mks k e,ρ,s=>KR.bind (zu e ρ s) λ x s=>KR.bind (ba0 x s) λ q s=>bM5 k q s
 | .mkDs k e d,ρ,s=>KR.bind (zu e ρ s) λ x s=>KR.bind (zu d ρ s) λ z s=>KR.bind (ba0 x s) λ q s=>bw5 k q z s
theorem ak6:∀(es:Es) (ρ:Env) (s:Sto),KR s (evs F es ρ s)
 | .nil,ρ,s=>KR.ok
 | .cons e es,ρ,s=>KR.bind (zu e ρ s) λ d s=>KR.bind (ak6 es ρ s) λ l s=>KR.ok
theorem an8:∀(y:As) (ρ:Env) (s:Sto),KR s (aq6 F y ρ s)
 | .nil,ρ,s=>KR.ok
 | .ex e y,ρ,s=>KR.bind (zu e ρ s) λ d s=>KR.bind (an8 y ρ s) λ l s=>KR.ok
 | .lam id caps y,ρ,s=>by
  intro a s' h
  change(match ag7 ρ caps with|some cs=>(aq6 F y ρ s).bind λ l s=>R.ok (D.clo id cs::l) s|none=>.bad)=_ at h
  split at h
  ·exact KR.bind (an8 y ρ s) (λ l s=>KR.ok) _ _ h
  ·cases h
 | .fn f y,ρ,s=>KR.bind (an8 y ρ s) λ l s=>KR.ok
theorem ba1:∀(h:I) (ρ:Env) (s:Sto),KR s (evI F h ρ s)
 | .seq e,ρ,s=>KR.bind (zu e ρ s) λ d s=>bz5 d s
 | .rng1 a,ρ,s=>KR.bind (zu a ρ s) λ x s=>by
  cases x with
  | int i=>exact KR.if KR.ok KR.bad
  | _=>exact KR.bad
 | .rng2 a b,ρ,s=>KR.bind (zu a ρ s) λ x s=>KR.bind (zu b ρ s) λ y s=>by
  cases x with
  | int i=>(cases y with
   | int j=>exact KR.if KR.ok KR.bad
   | _=>exact KR.bad)
  | _=>exact KR.bad
 | .rng3 a b c,ρ,s=>KR.bind (zu a ρ s) λ x s=>KR.bind (zu b ρ s) λ y s=>by
  cases x with
  | int i=>(cases y with
   | int j=>exact KR.if KR.ok KR.bad
   | _=>exact KR.bad)
  | _=>exact KR.bad
 | .enum (.seq e),ρ,s=>KR.bind (zu e ρ s) λ d s=>KR.bind (bl7 d s) λ q s=>KR.ok
 | .zip (.seq a) (.seq b),ρ,s=>KR.bind (zu a ρ s) λ x s=>KR.bind (zu b ρ s) λ y s=>KR.bind (aO4 x s) λ p s=>KR.bind (aO4 y s) λ q s=>KR.ok
 | .enum (.rng1 _),ρ,s=>KR.bad
 | .enum (.rng2 _ _),ρ,s=>KR.bad
 | .enum (.rng3 _ _ _),ρ,s=>KR.bad
 | .enum (.enum _),ρ,s=>KR.bad
 | .enum (.zip _ _),ρ,s=>KR.bad
 | .enum (.items _),ρ,s=>KR.bad
 | .zip (.rng1 _) _,ρ,s=>KR.bad
 | .zip (.rng2 _ _) _,ρ,s=>KR.bad
 | .zip (.rng3 _ _ _) _,ρ,s=>KR.bad
 | .zip (.enum _) _,ρ,s=>KR.bad
 | .zip (.zip _ _) _,ρ,s=>KR.bad
 | .zip (.items _) _,ρ,s=>KR.bad
 | .zip (.seq _) (.rng1 _),ρ,s=>KR.bad
 | .zip (.seq _) (.rng2 _ _),ρ,s=>KR.bad
 | .zip (.seq _) (.rng3 _ _ _),ρ,s=>KR.bad
 | .zip (.seq _) (.enum _),ρ,s=>KR.bad
 | .zip (.seq _) (.zip _ _),ρ,s=>KR.bad
 | .zip (.seq _) (.items _),ρ,s=>KR.bad
 | .items e,ρ,s=>KR.bad
theorem ba2:∀(y:L) (ρ:Env) (s:Sto),KR s (evL F y ρ s)
 | .comp tg y e caps,ρ,s=>KR.bind (ba1 y ρ s) λ q s0=>KR.if (ay3 (λ d ρ s=>by
   intro a s' h
   split at h
   ·exact KR.bind (zu e _ s) (λ v s=>KR.ok) _ _ h
   ·cases h) _ _ _) KR.bad
 | .compIf tg y c e caps,ρ,s=>KR.bind (ba1 y ρ s) λ q s0=>KR.if (ay3 (λ d ρ s=>by
   intro a s' h
   split at h
   ·exact KR.tru (zu c _ s) (λ k s=>KR.if (KR.bind (zu e _ s) λ v s=>KR.ok) KR.ok) _ _ h
   ·cases h) _ _ _) KR.bad
 | .disp es,ρ,s=>ak6 es ρ s
 | .seq e,ρ,s=>KR.bind (zu e ρ s) λ d s=>bH2 d s
end
theorem aI3 {ok:Sto->Bool}{g:D->Env->Sto->R Ct}(h:∀ d ρ s,KR s (g d ρ s)):∀(l:List D) (ρ:Env) (s:Sto),KR s (aT6 ok g l ρ s)
 | [],ρ,s=>KR.if KR.ok KR.bad
 | d::l,ρ,s=>KR.if (KR.bind (h d ρ s) λ c s=>by
   cases c with
   | next ρ=>exact aI3 h l ρ s
   | cont ρ=>exact aI3 h l ρ s
   | brk ρ=>exact KR.ok
   | ret d=>exact KR.ok) KR.bad
theorem aI4 {c:Env->Sto->R D}{g:Env->Sto->R Ct}(hc:∀ ρ s,KR s (c ρ s))(h:∀ ρ s,KR s (g ρ s)):∀(n:Nat) (ρ:Env) (s:Sto),KR s (jB c g n ρ s)
 | 0,ρ,s=>KR.bad
 | n+1,ρ,s=>KR.tru (hc ρ s) λ b s=>KR.if (KR.bind (h ρ s) λ y s=>by
   cases y with
   | next ρ=>exact aI4 hc h n ρ s
   | cont ρ=>exact aI4 hc h n ρ s
   | brk ρ=>exact KR.ok
   | ret d=>exact KR.ok) KR.ok
mutual
theorem ch4:∀(st:S) (ρ:Env) (s:Sto),KR s (ex F st ρ s)
 | .asg tg e,ρ,s=>KR.bind (zu hF e ρ s) λ d s=>by
  intro a s' h
  split at h<;>cases h;exact KP.refl _
 | .setIx o i e,ρ,s=>KR.bind (zu hF e ρ s) λ d s=>KR.bind (zu hF o ρ s) λ x s=>KR.bind (zu hF i ρ s) λ y s=>KR.bind (bj3 x y d s) λ _ s=>KR.ok
 | .aug i e,ρ,s=>KR.bind (aY0 ρ i s) λ x s=>KR.bind (zu hF e ρ s) λ y s=>by
  intro a s' h
  repeat' split at h
  all_goals first|(cases h;exact KP.refl _;done)|(cases h;done)
 | .ex e,ρ,s=>KR.bind (zu hF e ρ s) λ d s=>KR.ok
 | .ret e,ρ,s=>KR.bind (zu hF e ρ s) λ d s=>KR.ok
 | .retN,ρ,s=>KR.ok
 | .ite c a b,ρ,s=>KR.tru (zu hF c ρ s) λ k s=>KR.if (au5 a ρ s) (au5 b ρ s)
 | .whl c b,ρ,s=>by
  intro r s' h
  change whl (ev F c) (exs F b) ρ s=_ at h
  unfold whl at h
  split at h
  ·exact aI4 hF (λ ρ s=>zu hF c ρ s) (λ ρ s=>au5 b ρ s) _ ρ s _ _ h
  ·cases h
 | .for_ tg it b,ρ,s=>KR.bind (ba1 hF it ρ s) λ q s0=>aI3 hF (λ d ρ s=>by
   intro a s' h
   split at h
   ·exact au5 b _ _ _ _ h
   ·cases h) _ _ _
 | .pass,ρ,s=>KR.ok
 | .cont,ρ,s=>KR.ok
 | .brk,ρ,s=>KR.ok
 | .raise,ρ,s=>KR.bad
 | .und i,ρ,s=>by
  intro a s' h
  change(match ag9 ρ i with|some ρ=>R.ok (Ct.next ρ) s|none=>.bad)=_ at h
  split at h<;>cases h;exact KP.refl _
theorem au5:∀(h:Ss) (ρ:Env) (s:Sto),KR s (exs F h ρ s)
 | .nil,ρ,s=>KR.ok
 | .cons st h,ρ,s=>KR.bind (ch4 st ρ s) λ c s=>by
  cases c with
  | next ρ=>exact au5 h ρ s
  | _=>exact KR.ok
end
end
theorem ax7 {s st:Sto}{d:D}(h:KP s st):KR s (zN s d st):=by
 have tk:∀ t,KP s (st.take s.length++t):=λ t i o e=>by
  obtain⟨B,e',k⟩:=h i o e
  have C:=(ae.mp e).1
  have G:=(ae.mp e').1
  refine⟨B,?_,k⟩
  rw[aI (by rw[dR];omega),iB,if_pos C];exact e'
 have y:KP s (st.take s.length):=by have:=tk [];rwa [br]at this
 intro a s' e
 unfold zN at e
 repeat' split at e
 all_goals first|(cases e;exact y;done)|(cases e;exact tk _;done)|(cases e;exact h;done)|(cases e;done)
theorem an6 (P:Pr):∀ n,FK (aa1 P n)
 | 0=>⟨λ _ _ _=>KR.bad,λ _ _ _ _=>KR.bad⟩
 | n+1=>by
  refine⟨λ f l s=>?_,λ id cs l s=>?_⟩
  ·intro a s' h
   unfold aa1 at h
   simp only at h
   split at h
   case h_2=>cases h
   split at h
   case isFalse=>cases h
   obtain⟨c,s1,e1,h⟩:=R.bind_inv h
   have y:=au5 (an6 P n) _ _ _ _ _ e1
   cases c with
   | ret v=>exact ax7 y _ _ h
   | next ρ=>exact ax7 y _ _ h
   | _=>cases h
  ·intro a s' h
   unfold aa1 at h
   simp only at h
   split at h
   case h_2=>cases h
   split at h
   case isFalse=>cases h
   obtain⟨v,s1,e1,h⟩:=R.bind_inv h
   exact ax7 (zu (an6 P n) _ _ _ _ _ e1) _ _ h
end DV
end
open DV renaming Sto->kz,D->kA,Env->kC,R->kD,ev->kE,eqv->kH,LIM->kI,aa1->kJ,tru->kK,DEEP->kL,eqL->kM,rep->kN,az4->kO,kd->kP,Pr->kQ,ae7->kR,chk->kS,ae8->kT,Es->kU,O->kW,Fns->kX,evs->kY,ag7->kZ,aU5->k6,au3->k7,look->k8,Bi->k9,Tg->la,Ct->lb,qx->lc,af7->lf,inL->lh,ixn->li,Sq->ln,As->lp,minI->lq,aH8->lr,ar8->ls,ag8->lu,E->lv,aq6->lw,M->lx,qp->ly,mk->lz,Lm->lA,Df->lB,COp->lC,am2->lD,meth->lE,jr->lF,Mk->lG,Mt->lH,Ss->lI,aS2->lJ,pur->lK,inM->lL,bi1->lM,aK3->lN,ah6->lO,aT6->lP,evI->lQ,bi->lR,BOp->lS,bA1->lT,isK->lU,W62->lX,S->lY,exs->lZ,ag9->l6,ar7->l7
open DV.D renaming bndL->kB,bnd->kF,nclL->lj,ncl->lV
open DV.O renaming bnd->kG,ncl->lW
noncomputable section
namespace L2
theorem fb {α:Type}{d:α}{s:kz}{p:Prop}(h:(DV.R.bad:kD α)=.ok d s):p:=nomatch h
open PySem PySem.Spec PyProof.Rows
structure LamI where
 qual:Str
 params:be
 body:Expr
 scope:Scope
 ps:List Str
 fr:List Str
 nm:Option (Str×Pos)
def CloAt (H:Hp)(f:Addr)(J:LamI)(cap:List V)(clos:List (Str×Addr)):Prop:=match J.nm with
 | none=>aD9 H f J.qual J.params J.body J.scope J.fr cap clos
 | some p=>ap1 H f p.1 J.qual J.params [.Return (some J.body) p.2] J.scope J.fr cap clos
def ai7 (H:Hp)(f:Addr)(J:LamI)(clos:List (Str×Addr)):Prop:=match J.nm with
 | none=>∃ pm c' ctv,H f=some (av9 f (bP "<lambda>" J.qual J.params J.body J.scope clos pm (.ref c') ctv))/\H c'=some (qH c' J.qual)
 | some p=>∃ doc pm c' ctv,H f=some (av9 f (cw p.1 J.qual J.params [.Return (some J.body) p.2] J.scope clos .none .none doc pm none (.ref c') ctv))/\H c'=some (qH c' J.qual)
structure Gm where
 K:ac
 fa:String->Option Addr
 lg:String->LamI->Prop
 T:List (Addr×Str)
variable (Γ:Gm)
mutual
noncomputable def RV (φ:Nat->Addr)(H:Hp):kA->V->Prop
 | .non,v=>v=.non
 | .bl b,v=>v=.bl b
 | .int i,v=>v=.int i
 | .str x,v=>v=.str ⟨x.toArray⟩/\x.length<=kI
 | .tup l,v=>∃ a xs,v=.ref a/\SqT Γ.K H a xs/\RVL φ H l xs
 | .ref n,v=>v=.ref (φ n)
 | .fn f,v=>∃ a,Γ.fa f=some a/\v=.ref a
 | .clo id cs,v=>∃ f cap J clos,v=.ref f/\Γ.lg id J/\CloAt H f J cap clos/\cap.length=J.fr.length/\RVL φ H cs cap
noncomputable def RVL (φ:Nat->Addr)(H:Hp):List kA->List V->Prop
 | [],xs=>xs=[]
 | d::l,xs=>∃ x r,xs=x::r/\RV φ H d x/\RVL φ H l r
end
noncomputable def cb6:HO->Bool
 | .tup _=>true
 | .frz _ _=>true
 | .ext _=>true
 | _=>false
def Kp (H H':Hp):Prop:=∀ b o,H b=some o->cb6 o=true->H' b=some o
theorem Kp.refl (H:Hp):Kp H H:=λ _ _ h _=>h
theorem Kp.trans {H y H2:Hp}(a:Kp H y)(b:Kp y H2):Kp H H2:=λ c o h f=>b c o (a c o h f) f
theorem Kp.new {H y:Hp}{p:Addr}{o:HO}(a:Kp H y)(h:y p=none):Kp H (upd y p o):=λ c u e f=>by
 have e1:=a c u e f
 rw[zm (zH e1 h)];exact e1
theorem Kp.put {H y:Hp}{p:Addr}{o u:HO}(a:Kp H y)(h:y p=some u)(B:cb6 u=false):Kp H (upd y p o):=λ c v e f=>by
 have e1:=a c v e f
 rw[zm (λ z=>by subst z;rw[h]at e1;cases e1;rw[B]at f;cases f)];exact e1
theorem Kp.sqT {K:ac}{H H':Hp}{a:Addr}{y:List V}(e:Kp H H')(h:SqT K H a y):SqT K H' a y:=by
 rcases h with(h|⟨o,h⟩)|h
 ·exact .inl (.inl (e _ _ h rfl))
 ·exact .inl (.inr ⟨o,e _ _ h rfl⟩)
 ·exact .inr h
theorem aD9.kp {H H':Hp}{f:Addr}{qual:Str}{params:be}{body:Expr}{scope:Scope}{fr:List Str}{cap:List V}{y:List (Str×Addr)}(h:aD9 H f qual params body scope fr cap y)(e:Kp H H'):aD9 H' f qual params body scope fr cap y:=by
 obtain⟨pm,G,B,Y,h2,h3,h4,J,Z⟩:=h
 refine⟨pm,G,B,e _ _ Y rfl,e _ _ h2 rfl,λ x c q=>?_,h4,J,λ i x v a b=>?_⟩
 ·obtain⟨o,v,z,d⟩:=h3 x c q
  exact⟨o,v,e _ _ z rfl,d⟩
 ·obtain⟨c,o,u,z1,z2,C⟩:=Z i x v a b
  exact⟨c,o,u,z1,e _ _ z2 rfl,C⟩
theorem ap1.kp {H H':Hp}{f:Addr}{name qual:Str}{params:be}{body:List Stmt}{scope:Scope}{fr:List Str}{cap:List V}{y:List (Str×Addr)}(h:ap1 H f name qual params body scope fr cap y)(e:Kp H H'):ap1 H' f name qual params body scope fr cap y:=by
 obtain⟨C,pm,J,B,Z,h2,h3,h4,Y,h6⟩:=h
 refine⟨C,pm,J,B,e _ _ Z rfl,e _ _ h2 rfl,λ x c q=>?_,h4,Y,λ i x v a b=>?_⟩
 ·obtain⟨o,v,z,d⟩:=h3 x c q
  exact⟨o,v,e _ _ z rfl,d⟩
 ·obtain⟨c,o,u,z1,z2,G⟩:=h6 i x v a b
  exact⟨c,o,u,z1,e _ _ z2 rfl,G⟩
theorem CloAt.kp {H H':Hp}{f:Addr}{J:LamI}{cap:List V}{y:List (Str×Addr)}(h:CloAt H f J cap y)(e:Kp H H'):CloAt H' f J cap y:=by
 unfold CloAt at h ⊢
 cases q:J.nm with
 | none=>rw[q]at h;exact aD9.kp h e
 | some p=>rw[q]at h;exact ap1.kp h e
theorem ai7.kp {H H':Hp}{f:Addr}{J:LamI}{y:List (Str×Addr)}(h:ai7 H f J y)(e:Kp H H'):ai7 H' f J y:=by
 unfold ai7 at h ⊢
 cases q:J.nm with
 | none =>
  rw[q]at h
  obtain⟨G,c',B,Y,Z⟩:=h
  exact⟨G,c',B,e _ _ Y rfl,e _ _ Z rfl⟩
 | some p =>
  rw[q]at h
  obtain⟨C,G,c',B,Y,Z⟩:=h
  exact⟨C,G,c',B,e _ _ Y rfl,e _ _ Z rfl⟩
theorem CloAt.fn {K:ac}{H:Hp}{f:Addr}{J:LamI}{cap:List V}{y:List (Str×Addr)}(h:CloAt H f J cap y):bE0 K H f:=by
 unfold CloAt at h
 cases q:J.nm with
 | none=>rw[q]at h;obtain⟨G,Y,B,C,_⟩:=h;exact .inl ⟨_,C⟩
 | some p=>rw[q]at h;exact ap1.fn h
structure Gw (φ:Nat->Addr)(n:Nat)(H:Hp)(φ':Nat->Addr)(H':Hp):Prop where
 map:∀ i,i<n->φ' i=φ i
 kp:Kp H H'
variable {Γ:Gm}
mutual
theorem RV.monoW {φ φ':Nat->Addr}{n:Nat}{H H':Hp}(g:Gw φ n H φ' H'):∀(d:kA) (v:V),d.bnd n=true->RV Γ φ H d v->RV Γ φ' H' d v
 | .non,_,_,h=>by unfold RV at h ⊢;exact h
 | .bl _,_,_,h=>by unfold RV at h ⊢;exact h
 | .int _,_,_,h=>by unfold RV at h ⊢;exact h
 | .str _,_,_,h=>by unfold RV at h ⊢;exact h
 | .tup l,_,b,h=>by
  unfold RV at h ⊢
  unfold kF at b
  obtain⟨a,B,e,q,r⟩:=h
  exact⟨a,B,e,g.kp.sqT q,RVL.monoW g l B b r⟩
 | .ref k,_,b,h=>by
  unfold RV at h ⊢
  unfold kF at b
  rw[g.map k (of_decide_eq_true b)];exact h
 | .fn _,_,_,h=>by unfold RV at h ⊢;exact h
 | .clo id cs,_,b,h=>by
  unfold RV at h ⊢
  unfold kF at b
  obtain⟨f,cap,J,y,e,G,Y,h3,C⟩:=h
  exact⟨f,cap,J,y,e,G,Y.kp g.kp,h3,RVL.monoW g cs cap b C⟩
theorem RVL.monoW {φ φ':Nat->Addr}{n:Nat}{H H':Hp}(g:Gw φ n H φ' H'):∀(l:List kA) (y:List V),kB n l=true->RVL Γ φ H l y->RVL Γ φ' H' l y
 | [],_,_,h=>by unfold RVL at h ⊢;exact h
 | d::l,_,b,h=>by
  unfold RVL at h ⊢
  unfold kB at b
  rw[ao]at b
  obtain⟨x,r,e,q,t⟩:=h
  exact⟨x,r,e,RV.monoW g d x b.1 q,RVL.monoW g l r b.2 t⟩
end
mutual
theorem zy {n m:Nat}(h:n<=m):∀ d:kA,d.bnd n=true->d.bnd m=true
 | .non,_=>rfl
 | .bl _,_=>rfl
 | .int _,_=>rfl
 | .str _,_=>rfl
 | .tup l,b=>by unfold kF at b ⊢;exact ab9 h l b
 | .ref k,b=>by unfold kF at b ⊢;exact decide_eq_true (ak (of_decide_eq_true b) h)
 | .fn _,_=>rfl
 | .clo _ l,b=>by unfold kF at b ⊢;exact ab9 h l b
theorem ab9 {n m:Nat}(h:n<=m):∀ l:List kA,kB n l=true->kB m l=true
 | [],_=>rfl
 | d::l,b=>by
  unfold kB at b ⊢
  rw[ao]at b ⊢
  exact⟨zy h d b.1,ab9 h l b.2⟩
end
theorem ab6 {n:Nat}:∀ {l:List kA},kB n l=true↔∀ d∈l,d.bnd n=true
 | []=>by unfold kB;simp
 | d::l=>by
  unfold kB
  rw[ao,ab6 (l:=l)]
  simp
theorem qj {n:Nat}{l m:List kA}(h:kB n l=true)(h':kB n m=true):kB n (l++m)=true :=
 ab6.mpr λ d hd=>(cj.mp hd).elim (ab6.mp h d) (ab6.mp h' d)
theorem an3 {n:Nat}{l:List kA}{i:Nat}{d:kA}(h:kB n l=true)(e:l[i]?=some d):d.bnd n=true:=ab6.mp h d (aW e)
section
variable {φ:Nat->Addr} {H:Hp}
theorem RVL.nil:RVL Γ φ H [] []:=by unfold RVL;rfl
theorem RVL.cons {d:kA}{l:List kA}{x:V}{h:List V}(a:RV Γ φ H d x)(b:RVL Γ φ H l h):RVL Γ φ H (d::l) (x::h):=by unfold RVL;exact⟨x,h,rfl,a,b⟩
theorem RVL.unnil {y:List V}(h:RVL Γ φ H [] y):y=[]:=by unfold RVL at h;exact h
theorem RVL.uncons {d:kA}{l:List kA}{y:List V}(h:RVL Γ φ H (d::l) y):∃ x r,y=x::r/\RV Γ φ H d x/\RVL Γ φ H l r:=by unfold RVL at h;exact h
theorem RVL.length:∀ {l:List kA} {y:List V},RVL Γ φ H l y->y.length=l.length
 | [],_,h=>by rw[h.unnil];rfl
 | d::l,_,h=>by
  obtain⟨x,r,rfl,_,t⟩:=h.uncons
  rw[aQ,aQ,RVL.length t]
theorem RVL.get:∀ {l:List kA} {B:List V} {i:Nat} {d:kA},RVL Γ φ H l B->l[i]?=some d->∃ x,B[i]?=some x/\RV Γ φ H d x
 | [],_,_,_,_,e=>by simp at e
 | d::l,_,0,d',h,e=>by
  obtain⟨x,r,rfl,q,t⟩:=h.uncons
  have e':d=d':=by simpa using e
  subst e'
  exact⟨x,rfl,q⟩
 | d::l,_,i+1,_,h,e=>by
  obtain⟨x,r,rfl,q,t⟩:=h.uncons
  obtain⟨y,e1,e2⟩:=RVL.get (i:=i) t (by simpa using e)
  exact⟨y,by simpa using e1,e2⟩
theorem RVL.append:∀ {l m:List kA} {y ys:List V},RVL Γ φ H l y->RVL Γ φ H m ys->RVL Γ φ H (l++m) (y++ys)
 | [],_,_,_,h,h'=>by rw[h.unnil];exact h'
 | d::l,_,_,_,h,h'=>by
  obtain⟨x,r,rfl,q,t⟩:=h.uncons
  exact .cons q (RVL.append t h')
theorem RVL.drop:∀ {l:List kA} {y:List V} (n:Nat),RVL Γ φ H l y->RVL Γ φ H (l.drop n) (y.drop n)
 | _,_,0,h=>h
 | [],_,n+1,h=>by rw[h.unnil];exact .nil
 | d::l,_,n+1,h=>by
  obtain⟨x,r,rfl,q,t⟩:=h.uncons
  exact RVL.drop n t
theorem RVL.take:∀ {l:List kA} {y:List V} (n:Nat),RVL Γ φ H l y->RVL Γ φ H (l.take n) (y.take n)
 | _,_,0,h=>.nil
 | [],_,n+1,h=>by rw[h.unnil];exact .nil
 | d::l,_,n+1,h=>by
  obtain⟨x,r,rfl,q,t⟩:=h.uncons
  exact .cons q (RVL.take n t)
theorem RVL.set:∀ {l:List kA} {y:List V} {d:kA} {x:V} (i:Nat),RVL Γ φ H l y->RV Γ φ H d x->RVL Γ φ H (l.set i d) (y.set i x)
 | [],_,_,_,_,h,_=>by rw[h.unnil];exact .nil
 | d::l,_,_,_,0,h,q=>by
  obtain⟨x,r,rfl,_,t⟩:=h.uncons
  exact .cons q t
 | d::l,_,_,_,i+1,h,q=>by
  obtain⟨x,r,rfl,B,t⟩:=h.uncons
  exact .cons B (RVL.set i t q)
theorem RVL.reverse:∀ {l:List kA} {y:List V},RVL Γ φ H l y->RVL Γ φ H l.reverse y.reverse
 | [],_,h=>by rw[h.unnil];exact .nil
 | d::l,_,h=>by
  obtain⟨x,r,rfl,q,t⟩:=h.uncons
  rw[dF,dF]
  exact(RVL.reverse t).append (.cons q .nil)
theorem RV.intE {i:Int}{v:V}(h:RV Γ φ H (.int i) v):v=.int i:=by unfold RV at h;exact h
theorem RV.blE {i:Bool}{v:V}(h:RV Γ φ H (.bl i) v):v=.bl i:=by unfold RV at h;exact h
theorem RV.nonE {v:V}(h:RV Γ φ H .non v):v=.non:=by unfold RV at h;exact h
theorem RV.strE {x:List Nat}{v:V}(h:RV Γ φ H (.str x) v):v=.str ⟨x.toArray⟩:=by unfold RV at h;exact h.1
theorem RV.strL {x:List Nat}{v:V}(h:RV Γ φ H (.str x) v):x.length<=kI:=by unfold RV at h;exact h.2
theorem RV.tupE {l:List kA}{v:V}(h:RV Γ φ H (.tup l) v):∃ a y,v=.ref a/\SqT Γ.K H a y/\RVL Γ φ H l y:=by unfold RV at h;exact h
theorem RV.refE {n:Nat}{v:V}(h:RV Γ φ H (.ref n) v):v=.ref (φ n):=by unfold RV at h;exact h
theorem RV.intI {i:Int}:RV Γ φ H (.int i) (.int i):=by unfold RV;rfl
theorem RV.blI {i:Bool}:RV Γ φ H (.bl i) (.bl i):=by unfold RV;rfl
theorem RV.nonI:RV Γ φ H .non .non:=by unfold RV;rfl
theorem RV.strI {x:List Nat}(h:x.length<=kI):RV Γ φ H (.str x) (.str ⟨x.toArray⟩):=by unfold RV;exact⟨rfl,h⟩
theorem RV.tupI {l:List kA}{a:Addr}{y:List V}(h:SqT Γ.K H a y)(q:RVL Γ φ H l y):RV Γ φ H (.tup l) (.ref a):=by unfold RV;exact⟨a,y,rfl,h,q⟩
theorem RV.refI {n:Nat}:RV Γ φ H (.ref n) (.ref (φ n)):=by unfold RV;rfl
end
def SqF (K:ac)(H:Hp)(a:Addr)(xs:List V):Prop:=SqL K H a xs/\∀ H',Kp H H'->SqL K H' a xs
noncomputable def av7:kA->Option Key
 | .int i=>some (.inl i)
 | .str x=>some (.inr ⟨x.toArray⟩)
 | _=>none
noncomputable def RVD (Γ:Gm)(φ:Nat->Addr)(H:Hp):List (kA×kA)->List (Key×V)->Prop
 | [],kvs=>kvs=[]
 | (d,e)::l,kvs=>∃ k v r,kvs=(k,v)::r/\av7 d=some k/\RV Γ φ H e v/\RVD Γ φ H l r
variable (Γ)
noncomputable def RO (φ:Nat->Addr)(H:Hp)(a:Addr):kW->Prop
 | .lst l=>∃ xs,H a=some (.lst xs)/\RVL Γ φ H l xs
 | .ro l=>∃ xs,SqF Γ.K H a xs/\RVL Γ φ H l xs
 | .dic l=>∃ kvs,H a=some (.dK kvs)/\RVD Γ φ H l kvs
 | .ins _ _=>False
noncomputable abbrev okd:kW->Nat:=DV.O.kd
noncomputable def isMut:kW->Bool
 | .ro _=>false
 | _=>true
structure Rp (φ:Nat->Addr)(H:Hp)(s:kz):Prop where
 inj:∀(i j:Nat) (o o':kW),s[i]?=some o->s[j]?=some o'->isMut o=true->isMut o'=true->φ i=φ j->i=j
 obj:∀(i:Nat) (o:kW),s[i]?=some o->RO Γ φ H (φ i) o
 wf:∀(i:Nat) (o:kW),s[i]?=some o->o.bnd s.length=true
 tab:TabsH Γ.T H
structure RE (φ:Nat->Addr)(H:Hp)(n:Nat)(ρ:kC)(σ:St):Prop where
 len:ρ.length=σ.length
 val:∀(i:Nat) (d:kA),ρ[i]?=some (some d)->d.bnd n=true/\∃ v,σ[i]?=some (some v)/\RV Γ φ H d v
structure Gr (φ:Nat->Addr)(s:kz)(H:Hp)(φ':Nat->Addr)(s':kz)(H':Hp):Prop where
 w:Gw φ s.length H φ' H'
 le:s.length<=s'.length
 new:∀ i:Nat,s.length<=i->i<s'.length->H (φ' i)=none
 kd:∀(i:Nat) (o o':kW),s[i]?=some o->s'[i]?=some o'->okd o'=okd o
 st:∀ b,H b≠none->H' b≠none
 fr:∀ b o,H b=some o->(∀ ps,o≠.tbl ps)->(∀(i:Nat) (ob:kW),s[i]?=some ob->isMut ob=true->φ i≠b)->H' b=some o
variable {Γ}
theorem bx0 {o y:kW}(h:okd y=okd o)(m:isMut y=true):isMut o=true:=by
 cases o with
 | ro _=>cases y with
  | ro _=>cases m
  | _=>cases h
 | _=>rfl
theorem Gr.mu {φ φ':Nat->Addr}{s s':kz}{H H':Hp}(g:Gr φ s H φ' s' H')(i:Nat)(o h:kW)(e:s[i]?=some o)(e':s'[i]?=some h)(m:isMut h=true):isMut o=true:=bx0 (g.kd i o h e e') m
theorem Gr.refl (φ:Nat->Addr)(s:kz)(H:Hp):Gr φ s H φ s H:=⟨⟨λ _ _=>rfl,Kp.refl H⟩,aj _,λ i C y=>absurd y (by omega),λ i o B e e'=>by rw[e]at e';cases e';rfl,λ _ h=>h,λ _ _ h _ _=>h⟩
theorem Gr.trans {φ φ1 φ2:Nat->Addr}{s s1 s2:kz}{H G H2:Hp}(a:Gr φ s H φ1 s1 G)(b:Gr φ1 s1 G φ2 s2 H2)(_h:s.length<=s1.length):Gr φ s H φ2 s2 H2:=by
 refine⟨⟨λ i y=>(b.w.map i (ak y a.le)).trans (a.w.map i y),a.w.kp.trans b.w.kp⟩,aq a.le b.le,λ i h1 h2=>?_,λ i o Z e e'=>?_,λ c h=>b.st c (a.st c h),λ c o h Y ne=>?_⟩
 ·by_cases y:i<s1.length
  ·rw[b.w.map i y];exact a.new i h1 y
  ·have e:=b.new i (by omega) h2
   cases q:H (φ2 i)with
   | none=>rfl
   | some o=>exact absurd e (a.st _ (by rw[q];simp))
 ·have hl:i<s1.length:=ak (ae.mp e).1 a.le
  obtain⟨C,e1⟩:∃ C,s1[i]?=some C:=⟨s1[i],ai hl⟩
  exact(b.kd i C Z e1 e').trans (a.kd i o C e e1)
 ·refine b.fr c o (a.fr c o h Y ne) Y λ i ob e m z=>?_
  by_cases y:i<s.length
  ·obtain⟨B,J⟩:∃ B,s[i]?=some B:=⟨s[i],ai y⟩
   exact ne i B J (a.mu i B ob J e m) (by rw[<-a.w.map i y];exact z)
  ·have:=a.new i (by omega) (ae.mp e).1
   rw[z,h]at this;cases this
theorem RV.mono {φ φ':Nat->Addr}{s s':kz}{H H':Hp}(g:Gr φ s H φ' s' H')(d:kA)(v:V)(b:d.bnd s.length=true)(h:RV Γ φ H d v):RV Γ φ' H' d v:=RV.monoW g.w d v b h
theorem RVL.mono {φ φ':Nat->Addr}{s s':kz}{H H':Hp}(g:Gr φ s H φ' s' H')(d:List kA)(v:List V)(b:kB s.length d=true)(h:RVL Γ φ H d v):RVL Γ φ' H' d v:=RVL.monoW g.w d v b h
theorem RE.mono {φ φ':Nat->Addr}{s s':kz}{H H':Hp}{ρ:kC}{σ:St}(h:RE Γ φ H s.length ρ σ)(g:Gr φ s H φ' s' H')(hn:s.length<=s'.length):RE Γ φ' H' s'.length ρ σ :=
 ⟨h.len,λ i d e=>by
  obtain⟨b,v,e1,e2⟩:=h.val i d e
  exact⟨zy hn d b,v,e1,RV.mono g d v b e2⟩⟩
def ag1 (Γ:Gm)(φ:Nat->Addr)(s:kz)(H:Hp)(d:kA)(s':kz)(Q:VK):Prop :=
 ∀ v φ' H',Gr φ s H φ' s' H'->s.length<=s'.length->d.bnd s'.length=true->RV Γ φ' H' d v->Rp Γ φ' H' s'->Q v H'
theorem ag1.trans {φ φ1:Nat->Addr}{s s1 s':kz}{H y:Hp}{d:kA}{Q:VK}(h:ag1 Γ φ s H d s' Q)(g:Gr φ s H φ1 s1 y)(l:s.length<=s1.length):ag1 Γ φ1 s1 y d s' Q :=
 λ v φ' H' g' B b r p=>h v φ' H' (g.trans g' l) (aq l B) b r p
theorem ag1.here {φ:Nat->Addr}{s:kz}{H:Hp}{d:kA}{Q:VK}{v:V}(h:ag1 Γ φ s H d s Q)(p:Rp Γ φ H s)(b:d.bnd s.length=true)(r:RV Γ φ H d v):Q v H :=
 h v φ H (Gr.refl φ s H) (aj _) b r p
theorem RVD.monoW {φ φ':Nat->Addr}{n:Nat}{H H':Hp}(g:Gw φ n H φ' H'):∀(l:List (kA×kA)) (y:List (Key×V)),kB n (l.map (·.2))=true->RVD Γ φ H l y->RVD Γ φ' H' l y
 | [],_,_,h=>h
 | (d,e)::l,_,b,h=>by
  obtain⟨k,v,r,e1,e2,B,C⟩:=h
  rw[aH]at b
  unfold kB at b
  rw[ao]at b
  exact⟨k,v,r,e1,e2,RV.monoW g e v b.1 B,RVD.monoW g l r b.2 C⟩
theorem RO.mono {φ φ':Nat->Addr}{n:Nat}{H H':Hp}{a:Addr}{o:kW}(h:RO Γ φ H a o)(g:Gw φ n H φ' H')(b:o.bnd n=true)(hl:isMut o=true->∀ u,H a=some u->H' a=some u):RO Γ φ' H' a o:=by
 cases o with
 | lst l =>
  unfold kG at b
  obtain⟨B,e,r⟩:=h
  exact⟨B,hl rfl _ e,RVL.monoW g l B b r⟩
 | ro l =>
  unfold kG at b
  obtain⟨B,e,r⟩:=h
  exact⟨B,⟨e.2 _ g.kp,λ H2 k=>e.2 _ (g.kp.trans k)⟩,RVL.monoW g l B b r⟩
 | dic l =>
  unfold kG at b
  rw[ao]at b
  obtain⟨y,e,r⟩:=h
  exact⟨y,hl rfl _ e,RVD.monoW g l y b.2 r⟩
 | ins _ _=>exact h.elim
theorem RO.there {φ:Nat->Addr}{H:Hp}{a:Addr}{o:kW}(h:RO Γ φ H a o)(m:isMut o=true):∃ u,H a=some u/\cb6 u=false/\∀ ps,u≠.tbl ps:=by
 cases o with
 | lst l=>obtain⟨y,e,_⟩:=h;exact⟨_,e,rfl,by nofun⟩
 | ro l=>cases m
 | dic l=>obtain⟨y,e,_⟩:=h;exact⟨_,e,rfl,by nofun⟩
 | ins _ _=>exact h.elim
theorem Rp.addr {φ:Nat->Addr}{H:Hp}{s:kz}(p:Rp Γ φ H s){i:Nat}{l:List kA}(e:s[i]?=some (.lst l)):∃ h,H (φ i)=some (.lst h)/\RVL Γ φ H l h:=p.obj i _ e
theorem qE {n m:Nat}(h:n<=m)(o:kW)(b:o.bnd n=true):o.bnd m=true:=by
 cases o with
 | lst l=>unfold kG at b ⊢;exact ab9 h l b
 | ro l=>unfold kG at b ⊢;exact ab9 h l b
 | dic l =>
  unfold kG at b ⊢
  rw[ao]at b ⊢
  exact⟨ab9 h _ b.1,ab9 h _ b.2⟩
 | ins c l=>unfold kG at b ⊢;exact ab9 h _ b
theorem TabsH.keepF {T:List (Addr×Str)}{H H':Hp}(h:TabsH T H)(k:∀ b o,(cb6 o=true\/∃ ps,o=.tbl ps)->H b=some o->H' b=some o):TabsH T H':=λ y hy=>by
 obtain⟨ps,e,t,c⟩:=h y hy
 refine⟨ps,k _ _ (.inr ⟨_,rfl⟩) e,t,λ pos B q=>?_⟩
 obtain⟨C,e1,e2⟩:=c pos B q
 exact⟨C,e1,k _ _ (.inl rfl) e2⟩
theorem Rp.new {φ:Nat->Addr}{H:Hp}{s:kz}{p:Addr}{u:HO}{o:kW}(r:Rp Γ φ H s)(C:H p=none)(hb:o.bnd s.length=true)
  (ho:∀ φ' H',Gw φ s.length H φ' H'->H' p=some u->RO Γ φ' H' p o):Gr φ s H (λ i=>if i=s.length then p else φ i) (s++[o]) (upd H p u)/\Rp Γ (λ i=>if i=s.length then p else φ i) (upd H p u) (s++[o]):=by
 have g:Gw φ s.length H (λ i=>if i=s.length then p else φ i) (upd H p u):=⟨λ i y=>if_neg (av y),(Kp.refl H).new C⟩
 have key:∀ i B,(s++[o])[i]?=some B->(i<s.length/\s[i]?=some B)\/(i=s.length/\B=o):=λ i B e=>by
  rcases fx i s.length with h|h|h
  ·rw[aI h]at e;exact .inl ⟨h,e⟩
  ·subst h;simp at e;exact .inr ⟨rfl,e.symm⟩
  ·rw[dN (by simp;omega)]at e;cases e
 refine⟨⟨g,by simp,λ i h1 h2=>?_,λ i o1 o2 e1 e2=>?_,λ b hb=>?_,λ b ob hb _ _=>by rw[zm (zH hb C)];exact hb⟩,λ i j Y Z J ej mi mj e=>?_,λ i B e=>?_,λ i B e=>?_,r.tab.new C⟩
 ·rw[bn,cV]at h2
  rw[if_pos (by omega)];exact C
 ·rcases key i o2 e2 with⟨_,e⟩|⟨y,_⟩
  ·rw[e1]at e;cases e;rfl
  ·have:=(ae.mp e1).1;omega
 ·unfold upd;split
  ·simp
  ·exact hb
 ·rcases key i Y J with⟨y,J⟩|⟨y,rfl⟩<;>rcases key j Z ej with⟨hj,ej⟩|⟨hj,ej'⟩
  ·rw[if_neg (av y),if_neg (av hj)]at e
   exact r.inj i j Y Z J ej mi mj e
  ·rw[if_neg (av y),if_pos hj]at e
   obtain⟨u,G,_,_⟩:=(r.obj i Y J).there mi
   rw[e,C]at G;cases G
  ·rw[if_neg (av hj),if_pos y]at e
   obtain⟨u,G,_,_⟩:=(r.obj j Z ej).there mj
   rw[<-e,C]at G;cases G
  ·rw[y,hj]
 ·rcases key i B e with⟨y,e⟩|⟨y,rfl⟩
  ·show RO Γ _ _ (if i=s.length then p else φ i) B
   rw[if_neg (av y)]
   exact(r.obj i B e).mono g (r.wf i B e) λ _ v hv=>by rw[zm (zH hv C)];exact hv
  ·show RO Γ _ _ (if i=s.length then p else φ i) B
   rw[if_pos y]
   exact ho _ _ g zr
 ·rw[bn,cV]
  rcases key i B e with⟨y,e⟩|⟨y,rfl⟩
  ·exact qE (c8 _) _ (r.wf i B e)
  ·exact qE (c8 _) _ hb
theorem Rp.set {φ:Nat->Addr}{H:Hp}{s:kz}{k:Nat}{u:HO}{o B:kW}(r:Rp Γ φ H s)(hk:s[k]?=some B)(J:isMut B=true)(hb:o.bnd s.length=true)
  (ho:∀ H',Gw φ s.length H φ H'->H' (φ k)=some u->RO Γ φ H' (φ k) o) (a0:okd o=okd B:=by rfl):Gr φ s H φ (s.set k o) (upd H (φ k) u)/\Rp Γ φ (upd H (φ k) u) (s.set k o):=by
 obtain⟨v0,G,f0,Z⟩:=(r.obj k B hk).there J
 have a1:k<s.length:=(ae.mp hk).1
 have g:Gw φ s.length H φ (upd H (φ k) u):=⟨λ _ _=>rfl,(Kp.refl H).put G f0⟩
 have key:∀ i y,(s.set k o)[i]?=some y->(i≠k/\s[i]?=some y)\/(i=k/\y=o):=λ i y e=>by
  by_cases h:i=k
  ·subst h;rw[bp a1]at e;exact .inr ⟨rfl,(ar e).symm⟩
  ·rw[bz (bS h)]at e;exact .inl ⟨h,e⟩
 have mm:∀ i y,(s.set k o)[i]?=some y->isMut y=true->∃ C,s[i]?=some C/\isMut C=true:=λ i y e m=>by
  rcases key i y e with⟨_,e⟩|⟨h,_⟩
  ·exact⟨y,e,m⟩
  ·exact⟨B,by rw[h];exact hk,J⟩
 refine⟨⟨g,by simp,λ i h1 h2=>by rw[bA]at h2;omega,λ i o1 Y e1 e2=>?_,λ b hb=>?_,λ b ob hb nt ne=>by rw[zm (bS (ne k B hk J))];exact hb⟩,λ i j oi oj ei ej mi mj e=>?_,λ i y e=>?_,λ i y e=>?_,r.tab.keepF λ b v hv q=>?_⟩
 ·rcases key i Y e2 with⟨_,e⟩|⟨h,rfl⟩
  ·rw[e1]at e;cases e;rfl
  ·subst h;rw[hk]at e1;cases e1;exact a0
 ·unfold upd;split
  ·simp
  ·exact hb
 ·obtain⟨o1,e1,m1⟩:=mm i oi ei mi
  obtain⟨Y,e2,m2⟩:=mm j oj ej mj
  exact r.inj i j o1 Y e1 e2 m1 m2 e
 ·rcases key i y e with⟨h,e⟩|⟨h,rfl⟩
  ·refine(r.obj i y e).mono g (r.wf i y e) λ m v hv=>?_
   rw[zm λ z=>h (r.inj i k y B e hk m J z)];exact hv
  ·subst h
   exact ho _ g zr
 ·rw[bA]
  rcases key i y e with⟨_,e⟩|⟨_,rfl⟩
  ·exact r.wf i y e
  ·exact hb
 ·rw[zm λ z=>by
   subst z;rw[G]at q;cases q
   rcases hv with h|⟨ps,h⟩
   ·rw[f0]at h;cases h
   ·exact Z _ h]
  exact q
theorem Rp.same {φ:Nat->Addr}{H H':Hp}{s:kz}(r:Rp Γ φ H s)(e:ah3 H H'):Gr φ s H φ s H'/\Rp Γ φ H' s:=by
 have g:Gw φ s.length H φ H':=⟨λ _ _=>rfl,λ b o h _=>e b o h⟩
 exact⟨⟨g,aj _,λ i G B=>absurd B (by omega),λ i o C e e'=>by rw[e]at e';cases e';rfl,λ b hb=>by
  cases q:H b with
  | none=>exact absurd q hb
  | some o=>rw[e b o q];simp,λ b o h _ _=>e b o h⟩,r.inj,λ i o h=>(r.obj i o h).mono g (r.wf i o h) λ _ u y=>e _ u y,r.wf,r.tab.same e⟩
section
variable {φ:Nat->Addr} {H:Hp} {s:kz} {Q:VK}
theorem ag1.alloc {l:List kA}{y:List V}(h:ag1 Γ φ s H (.ref s.length) (s++[.lst l]) Q)(r:Rp Γ φ H s)(hl:RVL Γ φ H l y)(hb:kB s.length l=true){p:Addr}(B:H p=none):Q (.ref p) (upd H p (.lst y)):=by
 obtain⟨g,C⟩:=r.new (o:=.lst l) (u:=.lst y) B hb λ φ' H' g e=>⟨y,e,RVL.monoW g l y hb hl⟩
 have:=h (.ref p) _ _ g (by simp) (by unfold kF;simp) (by unfold RV;simp) C
 exact this
theorem ag1.tup {l:List kA}{y:List V}(h:ag1 Γ φ s H (.tup l) s Q)(r:Rp Γ φ H s)(hl:RVL Γ φ H l y)(hb:kB s.length l=true){p:Addr}(B:H p=none):Q (.ref p) (upd H p (.tup y)):=by
 obtain⟨g,C⟩:=r.same (H':=upd H p (.tup y)) ((ah3.refl H).new B)
 exact h _ _ _ g (aj _) (by unfold kF;exact hb) (RV.tupI (SqT.of zr) (RVL.mono g l y hb hl)) C
theorem ag1.put {k:Nat}{l l0:List kA}{y:List V}{d:kA}{v:V}(h:ag1 Γ φ s H d (s.set k (.lst l)) Q)(r:Rp Γ φ H s)(hk:s[k]?=some (.lst l0))(hl:RVL Γ φ H l y)(hb:kB s.length l=true)
  (hd:d.bnd s.length=true) (hv:RV Γ φ H d v):Q v (upd H (φ k) (.lst y)):=by
 obtain⟨g,B⟩:=r.set (o:=.lst l) (u:=.lst y) hk rfl hb λ H' g e=>⟨y,e,RVL.monoW g l y hb hl⟩
 exact h _ _ _ g (by simp) (by rw[bA];exact hd) (RV.mono g d v hd hv) B
end
variable {Γ:Gm}
theorem aD8 {a b:kA}{k:Key}(ha:av7 a=some k)(hb:av7 b=some k):a=b:=by
 cases a with
 | int i =>
  cases ha
  cases b with
  | int j=>cases hb;rfl
  | str y=>cases hb
  | _=>cases hb
 | str x =>
  cases ha
  cases b with
  | int j=>cases hb
  | str y =>
   have h:=ar hb
   injection h with h
   injection h with h
   have B:y=x:=by simpa using h
   rw[B]
  | _=>cases hb
 | _=>cases ha
theorem an4 {d:kA}(h:d.key=true):∃ k,av7 d=some k:=by
 cases d with
 | int i=>exact⟨_,rfl⟩
 | str x=>exact⟨_,rfl⟩
 | _=>cases h
theorem aN7 {φ:Nat->Addr}{H:Hp}{d:kA}{k:Key}{v:V}(h:av7 d=some k)(r:RV Γ φ H d v):v=kV k:=by
 cases d with
 | int i=>cases h;exact r.intE
 | str x=>cases h;exact r.strE
 | _=>cases h
theorem RVD.val {φ:Nat->Addr}{H:Hp}{d:kA}{k:Key}(hk:av7 d=some k):∀ {l:List (kA×kA)} {y:List (Key×V)},RVD Γ φ H l y->(k8 d l=none/\aP8 y k=none)\/∃ e v,k8 d l=some e/\aP8 y k=some v/\RV Γ φ H e v/\e∈l.map (·.2)
 | [],y,h=>by
  have h:y=[]:=h
  subst h
  exact .inl ⟨rfl,rfl⟩
 | (a,e)::l,y,h=>by
  obtain⟨B,v,r,rfl,e2,C,G⟩:=h
  by_cases z:a=d
  ·subst z
   rw[hk]at e2;cases e2
   exact .inr ⟨e,v,by unfold k8;rw[if_pos rfl],am4 rfl,C,by simp⟩
  ·have J:¬ B=k:=λ q=>z (aD8 e2 (by rw[q];exact hk))
   have Y:k8 d ((a,e)::l)=k8 d l:=by
    conv=>lhs;unfold k8
    rw[if_neg z]
   rw[Y,am5 (show ¬(B,v).1=k from J)]
   rcases RVD.val hk G with q|⟨e',v',q1,q2,q3,q4⟩
   ·exact .inl q
   ·exact .inr ⟨e',v',q1,q2,q3,by simp at q4 ⊢;exact .inr q4⟩
theorem RVD.repl {φ:Nat->Addr}{H:Hp}{d e:kA}{k:Key}{v:V}(hk:av7 d=some k)(hv:RV Γ φ H e v):∀ {l:List (kA×kA)} {y:List (Key×V)},RVD Γ φ H l y->RVD Γ φ H (l.map λ p=>if p.1=d then(p.1,e)else p) (y.map λ B=>if B.1=k then(B.1,v)else B)
 | [],y,h=>by
  have h:y=[]:=h
  subst h;exact(rfl:([]:List (Key×V))=[])
 | (a,e0)::l,y,h=>by
  obtain⟨C,v0,r,rfl,e2,J,G⟩:=h
  rw[aH,aH]
  by_cases z:a=d
  ·subst z
   rw[hk]at e2;cases e2
   rw[if_pos rfl,if_pos rfl]
   exact⟨k,v,_,rfl,hk,hv,RVD.repl hk hv G⟩
  ·have Y:¬ C=k:=λ q=>z (aD8 e2 (by rw[q];exact hk))
   rw[if_neg z,if_neg Y]
   exact⟨C,v0,_,rfl,e2,J,RVD.repl hk hv G⟩
theorem RVD.snoc {φ:Nat->Addr}{H:Hp}{d e:kA}{k:Key}{v:V}(hk:av7 d=some k)(hv:RV Γ φ H e v):∀ {l:List (kA×kA)} {y:List (Key×V)},RVD Γ φ H l y->RVD Γ φ H (l++[(d,e)]) (y++[(k,v)])
 | [],y,h=>by
  have h:y=[]:=h
  subst h;exact⟨k,v,[],rfl,hk,hv,rfl⟩
 | (a,e0)::l,y,h=>by
  obtain⟨C,v0,r,rfl,e2,B,G⟩:=h
  exact⟨C,v0,_,rfl,e2,B,RVD.snoc hk hv G⟩
theorem RVD.put {φ:Nat->Addr}{H:Hp}{d e:kA}{k:Key}{v:V}{l:List (kA×kA)}{y:List (Key×V)}(hk:av7 d=some k)(hv:RV Γ φ H e v)(h:RVD Γ φ H l y):RVD Γ φ H (k6 d e l) (az5 y k v):=by
 unfold k6 az5
 rw[ay2]
 rcases h.val hk with⟨q1,q2⟩|⟨e',v',q1,q2,_⟩
 ·rw[q1,q2];exact h.snoc hk hv
 ·rw[q1,q2];exact h.repl hk hv
theorem RVD.length {φ:Nat->Addr}{H:Hp}:∀ {l:List (kA×kA)} {y:List (Key×V)},RVD Γ φ H l y->y.length=l.length
 | [],y,h=>by
  have h:y=[]:=h
  subst h;rfl
 | (a,e)::l,y,h=>by
  obtain⟨G,v,r,rfl,e2,C,B⟩:=h
  rw[aQ,aQ,RVD.length B]
theorem bm8 {n:Nat}{d e:kA}{l:List (kA×kA)}(h:(DV.O.dic l).bnd n=true)(hd:d.bnd n=true)(B:e.bnd n=true):(DV.O.dic (k6 d e l)).bnd n=true:=by
 unfold kG at h ⊢
 rw[ao]at h ⊢
 obtain⟨G,J⟩:=h
 have g1:=ab6.mp G
 have C:=ab6.mp J
 unfold k6
 refine⟨ab6.mpr λ x hx=>?_,ab6.mpr λ x hx=>?_⟩
 ·obtain⟨p,y,rfl⟩:=ay.mp hx
  split at y
  ·obtain⟨q,hq,rfl⟩:=ay.mp y
   split
   ·exact g1 _ (bo (f:=(·.1)) hq)
   ·exact g1 _ (bo (f:=(·.1)) hq)
  ·rcases cj.mp y with q|q
   ·exact g1 _ (bo (f:=(·.1)) q)
   ·rw[bK.mp q];exact hd
 ·obtain⟨p,y,rfl⟩:=ay.mp hx
  split at y
  ·obtain⟨q,hq,rfl⟩:=ay.mp y
   split
   ·exact B
   ·exact C _ (bo (f:=(·.2)) hq)
  ·rcases cj.mp y with q|q
   ·exact C _ (bo (f:=(·.2)) q)
   ·rw[bK.mp q];exact B
theorem am9 {f:kA->kA->Option Bool}{a b:kA}{l m:List kA}{z:Bool}(h:kM f (a::l) (b::m)=some z):∃ x y,f a b=some x/\kM f l m=some y/\z=(x&&y):=by
 unfold kM at h
 cases e1:f a b with
 | none=>rw[e1]at h;cases h
 | some x =>
  cases e2:kM f l m with
  | none=>rw[e1,e2]at h;cases h
  | some y=>rw[e1,e2]at h;exact⟨x,y,rfl,rfl,(ar h).symm⟩
theorem aU9 {f:kA->kA->Option Bool}:∀ {l m:List kA} {z:Bool},kM f l m=some z->∃ e:Nat->Bool,(∀ j d d',l[j]?=some d->m[j]?=some d'->f d d'=some (e j))/\((l.length==m.length)&&(ah (min l.length m.length)).all e)=z
 | [],[],z,h=>by
  unfold kM at h
  cases h
  exact⟨λ _=>true,λ j d d' h=>by simp at h,by simp⟩
 | [],b::m,z,h=>by
  unfold kM at h
  cases h
  exact⟨λ _=>true,λ j d d' h=>by simp at h,by simp⟩
 | a::l,[],z,h=>by
  unfold kM at h
  cases h
  exact⟨λ _=>true,λ j d d' G B=>by simp at B,by simp⟩
 | a::l,b::m,z,h=>by
  obtain⟨x,y,e1,e2,J⟩:=am9 h
  obtain⟨e,G,B⟩:=aU9 e2
  refine⟨λ j=>match j with|0=>x|j+1=>e j,λ j d d' g1 C=>?_,?_⟩
  ·cases j with
   | zero=>simp at g1 C;subst g1;subst C;exact e1
   | succ j=>exact G j d d' (by simpa using g1) (by simpa using C)
  ·rw[aQ,aQ,show min (l.length+1) (m.length+1)=min l.length m.length+1 by omega,gj,fK,List.all_map,J,<-B]
   have:((l.length+1==m.length+1)=(l.length==m.length)):=by
    by_cases q:l.length=m.length
    ·simp[q]
    ·have:¬ l.length+1=m.length+1:=by omega
     simp[q]
   rw[this]
   show((l.length==m.length)&&(x&&(ah _).all e))=_
   cases x<;>cases(l.length==m.length)<;>simp
section
variable {X:Cx} {pins:List (Addr×Obj)} {σ:St} {H:Hp} {sh:af} {φ:Nat->Addr} {s:kz}
theorem ao3 (I:Inv X pins σ H sh){a:Addr}{y ys:List V}(h:H a=some (.lst y))(h':SqT X.K H a ys):False:=by
 rcases h' with(z|⟨o,z⟩)|⟨o,its,n,hk,_⟩
 ·rw[h]at z;cases z
 ·rw[h]at z;cases z
 ·have:=(I.bs a o (I.mod.kin a o hk)).2
  rw[h]at this;cases this
theorem rv_two (I:Inv X pins σ H sh)(hK:X.K=Γ.K)(R:Rp Γ φ H s){a b:kA}{x:V}(C:RV Γ φ H a x)(y:RV Γ φ H b x)(n1:kP s a≠9)(n2:kP s b≠9):a=b\/∃ l m p G,a=.tup l/\b=.tup m/\x=.ref p/\RVL Γ φ H l G/\RVL Γ φ H m G:=by
 have B:∀ {r:Nat},kP s (.ref r)≠9->∃ l,s[r]?=some (.lst l):=λ {r} h=>by
  have h:(match s[r]? with|some (DV.O.lst l)=>4|_=>9:Nat)≠9:=h
  cases hs:s[r]? with
  | none=>rw[hs]at h;exact absurd rfl h
  | some o =>
   rw[hs]at h
   cases o with
   | lst l=>exact⟨l,rfl⟩
   | _=>exact absurd rfl h
 cases a with
 | non=>have e:=C.nonE;subst e;cases b with
  | non=>exact .inl rfl
  | bl _=>cases y.blE
  | int _=>cases y.intE
  | str _=>cases y.strE
  | tup _=>obtain⟨_,_,e,_⟩:=y.tupE;cases e
  | ref _=>cases y.refE
  | fn _=>exact absurd rfl n2
  | clo _ _=>exact absurd rfl n2
 | bl p=>have e:=C.blE;subst e;cases b with
  | non=>cases y.nonE
  | bl _=>cases y.blE;exact .inl rfl
  | int _=>cases y.intE
  | str _=>cases y.strE
  | tup _=>obtain⟨_,_,e,_⟩:=y.tupE;cases e
  | ref _=>cases y.refE
  | fn _=>exact absurd rfl n2
  | clo _ _=>exact absurd rfl n2
 | int p=>have e:=C.intE;subst e;cases b with
  | non=>cases y.nonE
  | bl _=>cases y.blE
  | int _=>cases y.intE;exact .inl rfl
  | str _=>cases y.strE
  | tup _=>obtain⟨_,_,e,_⟩:=y.tupE;cases e
  | ref _=>cases y.refE
  | fn _=>exact absurd rfl n2
  | clo _ _=>exact absurd rfl n2
 | str p=>have e:=C.strE;subst e;cases b with
  | non=>cases y.nonE
  | bl _=>cases y.blE
  | int _=>cases y.intE
  | str q =>
   have e':p.toArray=q.toArray:=Str.mk.inj (V.str.inj y.strE)
   have J:p=q:=by simpa using congrArg iG e'
   subst J;exact .inl rfl
  | tup _=>obtain⟨_,_,e,_⟩:=y.tupE;cases e
  | ref _=>cases y.refE
  | fn _=>exact absurd rfl n2
  | clo _ _=>exact absurd rfl n2
 | tup l =>
  obtain⟨p,G,e,q1,d1⟩:=C.tupE;subst e;cases b with
  | non=>cases y.nonE
  | bl _=>cases y.blE
  | int _=>cases y.intE
  | str _=>cases y.strE
  | tup m =>
   obtain⟨p',ys,e,q2,Z⟩:=y.tupE
   cases e
   rw[<-hK]at q1 q2
   rw[I.tuple_inj q2 q1]at Z
   exact .inr ⟨l,m,p,G,rfl,rfl,rfl,d1,Z⟩
  | ref r =>
   cases y.refE
   obtain⟨m,Y⟩:=B n2
   obtain⟨ys,hy,_⟩:=R.addr Y
   rw[<-hK]at q1
   exact(ao3 I hy q1).elim
  | fn _=>exact absurd rfl n2
  | clo _ _=>exact absurd rfl n2
 | ref r =>
  have e:=C.refE;subst e
  obtain⟨l,hl⟩:=B n1
  obtain⟨G,hx,_⟩:=R.addr hl
  cases b with
  | non=>cases y.nonE
  | bl _=>cases y.blE
  | int _=>cases y.intE
  | str _=>cases y.strE
  | tup m =>
   obtain⟨p',ys,e,q2,Z⟩:=y.tupE
   cases e
   rw[<-hK]at q2
   exact(ao3 I hx q2).elim
  | ref r' =>
   obtain⟨m,Y⟩:=B n2
   have e:φ r=φ r':=V.ref.inj y.refE
   rw[R.inj r r' _ _ hl Y rfl rfl e]
   exact .inl rfl
  | fn _=>exact absurd rfl n2
  | clo _ _=>exact absurd rfl n2
 | fn _=>exact absurd rfl n1
 | clo _ _=>exact absurd rfl n1
theorem jp {a b:kA}{z:Bool}(h:kR s a b=some z):lJ a b=some z\/(lJ a b=none/\lr (kP s a) (kP s b)=false/\z=false):=by
 unfold kR at h
 cases e:lJ a b with
 | some w=>rw[e]at h;exact .inl h
 | none =>
  rw[e]at h
  cases q:lr (kP s a) (kP s b)with
  | true=>rw[q]at h;cases h
  | false=>rw[q]at h;exact .inr ⟨rfl,rfl,(ar h).symm⟩
theorem br4 {a b:kA}{z:Bool}(h:lJ a b=some z):kP s a≠9/\kP s b≠9:=by
 cases a<;>cases b<;>first|(cases h;done)|(constructor<;>(intro z;cases z))
theorem aj7 {a b:kA}{z:Bool}(h:kR s a b=some z):kP s a≠9/\kP s b≠9:=by
 rcases jp h with h|⟨_,h,_⟩
 ·exact br4 h
 ·unfold lr at h
  simp only[d9,beq_eq_false_iff_ne]at h
  exact⟨h.1.1,h.1.2⟩
theorem aK2 {a:kA}{z:Bool}(h:kR s a a=some z):z=true:=by
 rcases jp h with h|⟨_,h,_⟩
 ·cases a<;>cases h<;>first|rfl|exact beq_self_eq_true _
 ·unfold lr at h;simp at h
theorem aO7 (I:Inv X pins σ H sh)(Z:X.K=Γ.K)(R:Rp Γ φ H s):∀(n:Nat) (a b:kA) (x:V) (z:Bool),kH s n a b=some z->RV Γ φ H a x->RV Γ φ H b x->z=true:=by
 have G:∀(a b:kA) (x:V) (z:Bool),kR s a b=some z->RV Γ φ H a x->RV Γ φ H b x->z=true:=by
  intro a b x z h y B
  rcases rv_two I Z R y B (aj7 h).1 (aj7 h).2 with e|⟨l,m,_,_,rfl,rfl,_⟩
  ·subst e;exact aK2 h
  ·rcases jp h with h|⟨_,h,_⟩
   ·cases h
   ·unfold lr at h;simp[kP]at h
 intro n
 induction n with
 | zero=>intro a b x z h;unfold kH at h;exact G a b x z h
 | succ n ih =>
  have Y:∀(l m:List kA) (C:List V) (z:Bool),kM (kH s n) l m=some z->RVL Γ φ H l C->RVL Γ φ H m C->z=true:=by
   intro l
   induction l with
   | nil =>
    intro m C z h y B
    cases m with
    | nil=>unfold kM at h;exact(ar h).symm
    | cons b m=>obtain⟨x,r,e,_⟩:=B.uncons;rw[y.unnil]at e;cases e
   | cons a l ihl =>
    intro m C z h y B
    cases m with
    | nil=>obtain⟨x,r,e,_⟩:=y.uncons;rw[B.unnil]at e;cases e
    | cons b m =>
     obtain⟨p,q,e1,e2,ez⟩:=am9 h
     obtain⟨v,r,rfl,g1,g2⟩:=y.uncons
     obtain⟨v',r',e,g3,g4⟩:=B.uncons
     cases e
     rw[ez,ih a b v p e1 g1 g3,ihl m r q e2 g2 g4];rfl
  intro a b x z h y B
  unfold kH at h
  split at h
  ·rename_i l m
   obtain⟨a,C,rfl,q1,d1⟩:=y.tupE
   obtain⟨b,ys,e,q2,J⟩:=B.tupE
   cases e
   rw[<-Z]at q1 q2
   rw[I.tuple_inj q2 q1]at J
   exact Y l m C z h d1 J
  ·rename_i p q
   split at h
   ·rename_i l m hl hm
    obtain⟨C,e1,d1⟩:=R.addr hl
    obtain⟨ys,e2,J⟩:=R.addr hm
    have e:=y.refE.symm.trans B.refE
    have e':φ p=φ q:=V.ref.inj e
    rw[e',e2]at e1
    have e3:ys=C:=by injection (ar e1)
    subst e3
    split at h
    ·exact Y l m ys z h d1 J
    ·rename_i hlen;exact absurd (d1.length.symm.trans J.length) hlen
   ·cases h
  ·exact G a b x z h y B
end
variable {Γ:Gm}
inductive Vw (sh:af):Nat->Value->Prop where
 | non:Vw sh 0 .none
 | bl (b:Bool):Vw sh 1 (.bool b)
 | int (i:Int) (t:Tok):Vw sh 1 (.int i t)
 | str (x:Str) (t:Tok):Vw sh 2 (.str x t)
 | tup {l:Addr} {items:Array Value} (h:sh.heap.IsTuple l items):Vw sh 3 (.ref l)
 | lst {l:Addr} {items:Array Value} (h:sh.heap.IsList l items):Vw sh 4 (.ref l)
theorem Vw.eq {A:aV}{sh:af}{k B:Nat}{u v:Value}(a:Vw sh k u)(b:Vw sh B v)(hne:k≠B)(y:A.units<cLine):gk A sh u v false:=by
 cases a with
 | non=>cases b with
  | non=>exact absurd rfl hne
  | bl b=>exact SeqAt.EqAt.none_bool b
  | int i t=>exact SeqAt.EqAt.none_int i t
  | str x t=>exact SeqAt.EqAt.none_str x t
  | tup h=>exact SeqAt.EqAt.none_tuple h y
  | lst h=>exact SeqAt.EqAt.none_list h y
 | bl a=>cases b with
  | non=>exact SeqAt.EqAt.bool_none a
  | bl b=>exact absurd rfl hne
  | int i t=>exact absurd rfl hne
  | str x t=>exact SeqAt.EqAt.bool_str a x t
  | tup h=>exact SeqAt.EqAt.bool_tuple a h y
  | lst h=>exact SeqAt.EqAt.bool_list a h y
 | int a q=>cases b with
  | non=>exact SeqAt.EqAt.int_none a q
  | bl b=>exact absurd rfl hne
  | int i t=>exact absurd rfl hne
  | str x t=>exact ik a q x t
  | tup h=>exact SeqAt.EqAt.int_tuple a q h y
  | lst h=>exact SeqAt.EqAt.int_list a q h y
 | str a q=>cases b with
  | non=>exact SeqAt.EqAt.str_none a q
  | bl b=>exact SeqAt.EqAt.str_bool a q b
  | int i t=>exact io a q i t
  | str x t=>exact absurd rfl hne
  | tup h=>exact SeqAt.EqAt.str_tuple a q h y
  | lst h=>exact SeqAt.EqAt.str_list a q h y
 | tup g=>cases b with
  | non=>exact SeqAt.EqAt.tuple_none g y
  | bl b=>exact SeqAt.EqAt.tuple_bool b g y
  | int i t=>exact SeqAt.EqAt.tuple_int i t g y
  | str x t=>exact SeqAt.EqAt.tuple_str x t g y
  | tup h=>exact absurd rfl hne
  | lst h=>exact SeqAt.EqAt.tuple_list g h y
 | lst g=>cases b with
  | non=>exact SeqAt.EqAt.list_none g y
  | bl b=>exact SeqAt.EqAt.list_bool b g y
  | int i t=>exact SeqAt.EqAt.list_int i t g y
  | str x t=>exact SeqAt.EqAt.list_str x t g y
  | tup h=>exact SeqAt.EqAt.list_tuple g h y
  | lst h=>exact absurd rfl hne
theorem Vw.rc {A:aV}{sh:af}{k B:Nat}{u v:Value}(a:Vw sh k u)(b:Vw sh B v)(hne:k≠B)(y:A.units<cLine):kx A sh u v false:=by
 cases a with
 | non=>cases b with
  | non=>exact absurd rfl hne
  | bl b=>exact SeqAt.RcAt.none_bool b
  | int i t=>exact SeqAt.RcAt.none_int i t
  | str x t=>exact SeqAt.RcAt.none_str x t
  | tup h=>exact SeqAt.RcAt.none_tuple h y
  | lst h=>exact SeqAt.RcAt.none_list h y
 | bl a=>cases b with
  | non=>exact SeqAt.RcAt.bool_none a
  | bl b=>exact absurd rfl hne
  | int i t=>exact absurd rfl hne
  | str x t=>exact SeqAt.RcAt.bool_str a x t
  | tup h=>exact SeqAt.RcAt.bool_tuple a h y
  | lst h=>exact SeqAt.RcAt.bool_list a h y
 | int a q=>cases b with
  | non=>exact SeqAt.RcAt.int_none a q
  | bl b=>exact absurd rfl hne
  | int i t=>exact absurd rfl hne
  | str x t=>exact SeqAt.RcAt.int_str a q x t
  | tup h=>exact SeqAt.RcAt.int_tuple a q h y
  | lst h=>exact SeqAt.RcAt.int_list a q h y
 | str a q=>cases b with
  | non=>exact SeqAt.RcAt.str_none a q
  | bl b=>exact SeqAt.RcAt.str_bool a q b
  | int i t=>exact SeqAt.RcAt.str_int a q i t
  | str x t=>exact absurd rfl hne
  | tup h=>exact SeqAt.RcAt.str_tuple a q h y
  | lst h=>exact SeqAt.RcAt.str_list a q h y
 | tup g=>cases b with
  | non=>exact SeqAt.RcAt.tuple_none g y
  | bl b=>exact SeqAt.RcAt.tuple_bool b g y
  | int i t=>exact SeqAt.RcAt.tuple_int i t g y
  | str x t=>exact SeqAt.RcAt.tuple_str x t g y
  | tup h=>exact absurd rfl hne
  | lst h=>exact SeqAt.RcAt.tuple_list g h y
 | lst g=>cases b with
  | non=>exact SeqAt.RcAt.list_none g y
  | bl b=>exact SeqAt.RcAt.list_bool b g y
  | int i t=>exact SeqAt.RcAt.list_int i t g y
  | str x t=>exact SeqAt.RcAt.list_str x t g y
  | tup h=>exact SeqAt.RcAt.list_tuple g h y
  | lst h=>exact absurd rfl hne
theorem Vw.ne {A:aV}{sh:af}{k B:Nat}{u v:Value}(a:Vw sh k u)(b:Vw sh B v)(hne:k≠B)(y:A.units<cLine):kg A sh u v true:=by
 cases a with
 | non=>cases b with
  | non=>exact absurd rfl hne
  | bl b=>exact SeqAt.RcNeAt.none_bool b
  | int i t=>exact SeqAt.RcNeAt.none_int i t
  | str x t=>exact SeqAt.RcNeAt.none_str x t
  | tup h=>exact SeqAt.RcNeAt.none_tuple h y
  | lst h=>exact SeqAt.RcNeAt.none_list h y
 | bl a=>cases b with
  | non=>exact SeqAt.RcNeAt.bool_none a
  | bl b=>exact absurd rfl hne
  | int i t=>exact absurd rfl hne
  | str x t=>exact SeqAt.RcNeAt.bool_str a x t
  | tup h=>exact SeqAt.RcNeAt.bool_tuple a h y
  | lst h=>exact SeqAt.RcNeAt.bool_list a h y
 | int a q=>cases b with
  | non=>exact SeqAt.RcNeAt.int_none a q
  | bl b=>exact absurd rfl hne
  | int i t=>exact absurd rfl hne
  | str x t=>exact SeqAt.RcNeAt.int_str a q x t
  | tup h=>exact SeqAt.RcNeAt.int_tuple a q h y
  | lst h=>exact SeqAt.RcNeAt.int_list a q h y
 | str a q=>cases b with
  | non=>exact SeqAt.RcNeAt.str_none a q
  | bl b=>exact SeqAt.RcNeAt.str_bool a q b
  | int i t=>exact SeqAt.RcNeAt.str_int a q i t
  | str x t=>exact absurd rfl hne
  | tup h=>exact SeqAt.RcNeAt.str_tuple a q h y
  | lst h=>exact SeqAt.RcNeAt.str_list a q h y
 | tup g=>cases b with
  | non=>exact SeqAt.RcNeAt.tuple_none g y
  | bl b=>exact SeqAt.RcNeAt.tuple_bool b g y
  | int i t=>exact SeqAt.RcNeAt.tuple_int i t g y
  | str x t=>exact SeqAt.RcNeAt.tuple_str x t g y
  | tup h=>exact absurd rfl hne
  | lst h=>exact SeqAt.RcNeAt.tuple_list g h y
 | lst g=>cases b with
  | non=>exact SeqAt.RcNeAt.list_none g y
  | bl b=>exact SeqAt.RcNeAt.list_bool b g y
  | int i t=>exact SeqAt.RcNeAt.list_int i t g y
  | str x t=>exact SeqAt.RcNeAt.list_str x t g y
  | tup h=>exact SeqAt.RcNeAt.list_tuple g h y
  | lst h=>exact absurd rfl hne
theorem bX2 (a b:List Nat):((⟨a.toArray⟩:Str)==⟨b.toArray⟩)=(a==b):=by
 by_cases e:a=b
 ·subst e;simp
 ·have:(⟨a.toArray⟩:Str)≠⟨b.toArray⟩:=λ q=>e (by simpa using congrArg (λ z=>z.cps.toList) q)
  rw[beq_eq_false_iff_ne.mpr this,beq_eq_false_iff_ne.mpr e]
structure Cmp (A:aV)(sh:af)(u v:Value)(z:Bool):Prop where
 rc:kx A sh u v z
 ne:kg A sh u v (!z)
section
variable {X:Cx} {pins:List (Addr×Obj)} {σ:St} {H:Hp} {sh:af} {φ:Nat->Addr} {s:kz}
theorem bR0 (I:Inv X pins σ H sh)(C:X.K=Γ.K)(R:Rp Γ φ H s){d:kA}{x:V}{u:Value}(h:RV Γ φ H d x)(r:RelV x u)(hk:kP s d≠9):Vw sh (kP s d) u:=by
 cases d with
 | non=>have e:=h.nonE;subst e;cases r;exact .non
 | bl b=>have e:=h.blE;subst e;cases r;exact .bl b
 | int i=>have e:=h.intE;subst e;obtain⟨t,rfl⟩:=r;exact .int i t
 | str y=>have e:=h.strE;subst e;obtain⟨t,rfl⟩:=r;exact .str _ t
 | tup l =>
  obtain⟨a,B,e,q,_⟩:=h.tupE
  subst e;cases r
  rw[<-C]at q
  obtain⟨its,_,t,_⟩:=I.tuple q
  exact .tup t
 | ref n =>
  have e:=h.refE;subst e;cases r
  have hk:(match s[n]? with|some (DV.O.lst l)=>4|_=>9:Nat)≠9:=hk
  show Vw sh (match s[n]? with|some (DV.O.lst l)=>4|_=>9:Nat) _
  cases hs:s[n]? with
  | none=>rw[hs]at hk;exact absurd rfl hk
  | some o =>
   rw[hs]at hk
   cases o with
   | lst l =>
    obtain⟨B,e,_⟩:=R.addr hs
    obtain⟨its,_,t,_⟩:=I.list (SqL.of e)
    exact .lst t.isList
   | _=>exact absurd rfl hk
 | fn _=>exact absurd rfl hk
 | clo _ _=>exact absurd rfl hk
theorem aE5 (I:Inv X pins σ H sh)(Z:X.K=Γ.K)(R:Rp Γ φ H s){a b:kA}{x y:V}{u v:Value}{A:aV}{z:Bool}(h:kR s a b=some z)(B:RV Γ φ H a x)(G:RV Γ φ H b y)(r1:RelV x u)(C:RelV y v)(J:A.units<cLine) :
  gk A sh u v z/\Cmp A sh u v z:=by
 rcases jp h with h|⟨_,hn,hz⟩
 ·cases a<;>cases b<;>try cases h
  ·cases B.nonE;cases G.nonE;cases r1;cases C
   exact⟨gD _,SeqAt.RcAt.none_none,SeqAt.RcNeAt.none_none⟩
  ·cases B.blE;cases G.blE;cases r1;cases C
   exact⟨SeqAt.EqAt.bool_bool _ _,SeqAt.RcAt.bool_bool _ _,SeqAt.RcNeAt.bool_bool _ _⟩
  ·cases B.blE;cases G.intE;cases r1;obtain⟨t',rfl⟩:=C
   exact⟨SeqAt.EqAt.bool_int _ _ _,SeqAt.RcAt.bool_int _ _ _,SeqAt.RcNeAt.bool_int _ _ _⟩
  ·cases B.intE;cases G.blE;obtain⟨t,rfl⟩:=r1;cases C
   exact⟨SeqAt.EqAt.int_bool _ _ _,SeqAt.RcAt.int_bool _ _ _,SeqAt.RcNeAt.int_bool _ _ _⟩
  ·cases B.intE;cases G.intE;obtain⟨t,rfl⟩:=r1;obtain⟨t',rfl⟩:=C
   exact⟨SeqAt.EqAt.int_int _ _ _ _,SeqAt.RcAt.int_int _ _ _ _,SeqAt.RcNeAt.int_int _ _ _ _⟩
  ·cases B.strE;cases G.strE;obtain⟨t,rfl⟩:=r1;obtain⟨t',rfl⟩:=C
   rw[<-bX2]
   exact⟨SeqAt.EqAt.str_str _ _ _ _,SeqAt.RcAt.str_str _ _ _ _,SeqAt.RcNeAt.str_str _ _ _ _⟩
 ·subst hz
  unfold lr at hn
  simp only[d9,beq_eq_false_iff_ne]at hn
  have Y:=bR0 I Z R B r1 hn.1.1
  have w2:=bR0 I Z R G C hn.1.2
  exact⟨Y.eq w2 hn.2 J,Y.rc w2 hn.2 J,Y.ne w2 hn.2 J⟩
theorem aU7 (I:Inv X pins σ H sh)(hK:X.K=Γ.K)(R:Rp Γ φ H s):∀(n:Nat) (a b:kA) (x y:V) (u v:Value) (A:aV) (z:Bool),kH s n a b=some z->RV Γ φ H a x->RV Γ φ H b y->RelV x u->RelV y v->Room n A ->
  gk A sh u v z/\Cmp A sh u v z:=by
 intro n
 induction n with
 | zero=>intro a b x y u v A z h h1 h2 r1 r2 C;unfold kH at h;exact aE5 I hK R h h1 h2 r1 r2 C.units0
 | succ n ih =>
  have B:∀ {l m:List kA} {xs ys:List V} {its its':List Value} {A:aV} {e:Nat->Bool},RVL Γ φ H l xs->RVL Γ φ H m ys->Vals xs its->Vals ys its'->Room n A->(∀ j d d',l[j]?=some d->m[j]?=some d'->kH s n d d'=some (e j)) ->
    ∀ j (h1:j<its.toArray.size) (h2:j<its'.toArray.size),gk A sh its.toArray[j] its'.toArray[j] (e j):=by
   intro l m xs ys its its' A e d1 Z Y v2 C he j h1 h2
   have l1:=Y.length
   have l2:=v2.length
   have e1:=d1.length
   have e2:=Z.length
   have a1:j<its.length:=by simpa using h1
   have a2:j<its'.length:=by simpa using h2
   have hj:j<l.length:=by omega
   have a0:j<m.length:=by omega
   obtain⟨x,ex,dx⟩:=d1.get (ai hj)
   obtain⟨y,ey,dy⟩:=Z.get (ai a0)
   obtain⟨u,eu,ru⟩:=Y.get ex
   obtain⟨w,ew,a3⟩:=v2.get ey
   have g1:its.toArray[j]=u:=by
    have:=ai a1
    rw[eu]at this
    simpa using(ar this).symm
   have g2:its'.toArray[j]=w:=by
    have:=ai a2
    rw[ew]at this
    simpa using(ar this).symm
   rw[g1,g2]
   exact(ih _ _ x y u w A (e j) (he j _ _ (ai hj) (ai a0)) dx dy ru a3 C).1
  intro a b x y u v A z h h1 h2 r1 r2 C
  have hz:=h
  unfold kH at h
  split at h
  ·rename_i l m
   obtain⟨p,xs,ex,q1,d1⟩:=id h1.tupE
   obtain⟨q,ys,ey,q2,Z⟩:=id h2.tupE
   subst ex;subst ey
   cases r1;cases r2
   rw[<-hK]at q1 q2
   obtain⟨its,Y,t1,_⟩:=I.tuple q1
   obtain⟨its',v2,t2,_⟩:=I.tuple q2
   obtain⟨e,he,G⟩:=aU9 h
   have l1:=Y.length
   have l2:=v2.length
   have e1:=d1.length
   have e2:=Z.length
   have sz:((ah (min its.toArray.size its'.toArray.size)).all e&&its.toArray.size==its'.toArray.size)=z:=by
    rw[<-G,Bool.and_comm,show its.toArray.size=l.length by simp;omega,show its'.toArray.size=m.length by simp;omega]
   have key:=SeqAt.RcAt.tuples (A:=A) (s:=sh) (e:=e) t1 t2 C.units0 (B d1 Z Y v2 C.in1 he)
   have J:=SeqAt.RcNeAt.tuples (A:=A) (s:=sh) (e:=e) t1 t2 C.units0 (B d1 Z Y v2 C.in1 he)
   rw[sz]at key J
   refine⟨?_,key,J⟩
   by_cases hab:p=q
   ·subst hab
    rw[aO7 I hK R _ _ _ _ _ hz h1 h2]
    exact gD _
   ·exact iC hab key
  ·rename_i p q
   split at h
   ·rename_i l m hl hm
    obtain⟨xs,e1,d1⟩:=R.addr hl
    obtain⟨ys,e2,Z⟩:=R.addr hm
    have ex:=h1.refE
    have ey:=h2.refE
    subst ex;subst ey
    cases r1;cases r2
    obtain⟨its,Y,t1,_⟩:=I.list (SqL.of e1)
    obtain⟨its',v2,t2,_⟩:=I.list (SqL.of e2)
    have l1:=Y.length
    have l2:=v2.length
    have c1:=d1.length
    have c2:=Z.length
    have fin:Cmp A sh (.ref (φ p)) (.ref (φ q)) z:=by
     split at h
     ·rename_i hlen
      obtain⟨e,he,G⟩:=aU9 h
      have sz:(ah its.toArray.size).all e=z:=by
       rw[<-G,show its.toArray.size=l.length by simp;omega,hlen]
       simp
      have key:=SeqAt.RcAt.lists (A:=A) (s:=sh) (e:=e) t1.isList t2.isList (by simp;omega) C.units0 (B d1 Z Y v2 C.in1 he)
      have J:=SeqAt.RcNeAt.lists (A:=A) (s:=sh) (e:=e) t1.isList t2.isList (by simp;omega) C.units0 (B d1 Z Y v2 C.in1 he)
      rw[sz]at key J
      exact⟨key,J⟩
     ·rename_i hlen
      cases h
      have hs:(its.toArray.size != its'.toArray.size)=true:=by simp;omega
      exact⟨SeqAt.RcAt.lists_lengths t1.isList t2.isList hs C.units0,SeqAt.RcNeAt.lists_lengths t1.isList t2.isList hs C.units0⟩
    refine⟨?_,fin⟩
    by_cases hab:φ p=φ q
    ·rw[aO7 I hK R _ _ _ _ _ hz RV.refI (by rw[hab];exact RV.refI),hab]
     exact gD _
    ·exact iC hab fin.rc
   ·cases h
  ·exact aE5 I hK R h h1 h2 r1 r2 C.units0
end
variable {Γ:Gm} {X:Cx}
noncomputable def cf0:lS->jJ
 | .add=>.Add|.sub=>.Sub|.mul=>.Mult|.fdiv=>.FloorDiv|.mod=>.Mod|.pow=>.Pow|.shl=>.LShift|.shr=>.RShift|.band=>.BitAnd|.bor=>.BitOr
noncomputable def ar6:lC->CmpOp
 | .eq=>.Eq|.ne=>.NotEq|.lt=>.Lt|.le=>.LtE|.gt=>.Gt|.ge=>.GtE|.isin=>.In|.notin=>.NotIn
def rOp (Γ:Gm)(f:kA->kA->kz->kD kA):R2:=λ x y H Q=>∃ φ s a b d s',Rp Γ φ H s/\RV Γ φ H a x/\RV Γ φ H b y/\a.bnd s.length=true/\b.bnd s.length=true/\f a b s=.ok d s'/\ag1 Γ φ s H d s' Q
theorem qv {d e:kA}{s t:kz}(h:lK d s=.ok e t):d=e/\s=t:=by
 unfold lK at h
 cases h
 exact⟨rfl,rfl⟩
theorem qQ {o:kW}{e:kA}{s t:kz}(h:lf o s=.ok e t):e=.ref s.length/\t=s++[o]:=by
 unfold lf at h
 cases h
 exact⟨rfl,rfl⟩
theorem bB2 (a b:List Nat):(⟨a.toArray⟩:Str)++⟨b.toArray⟩=⟨(a++b).toArray⟩:=by
 show Str.append _ _=_
 unfold Str.append
 simp
theorem qP:kI<=aN:=by rw[fg];decide
theorem bA0:OpR X (bZ .Mult) (rI (λ i j=>DV.mulOk i j=true) λ i j=>.int (i*j)):=opI λ i j _ _ _ _ _ hc q=>mul_int q (by
 unfold DV.mulOk at hc
 simp only[bL,ao,decide_eq_true_eq]at hc
 rcases hc with(h|h)|⟨B,y⟩
 ·exact cb4.ok (.inl (by omega))
 ·exact cb4.ok (.inr (by omega))
 ·unfold DV.BIG at B y
  exact IntMulOk.of_le (m:=60000) (n:=60000) (intBits_le_iff.mpr B) (intBits_le_iff.mpr y) (by decide))
theorem aL3 (l:List Nat):∀(n:Nat) (h:Array Nat),(am n l.toArray).foldl (·++·) h=h++(kN n l).toArray
 | 0,h=>by simp[kN]
 | n+1,h=>by
  rw[bG,cu,aL3 l n]
  simp[kN,ip]
theorem bE5 (l:List Nat):kN 1 l=l:=by simp[kN]
theorem aU8:∀ n,kN n []=[]
 | 0=>rfl
 | n+1=>by simp[kN,aU8 n]
theorem rep_len (l:List Nat):∀ n,(kN n l).length=l.length*n
 | 0=>by simp[kN]
 | n+1=>by simp[kN,rep_len l n,fv];omega
theorem bK4:OpR X (bZ .Mult) (λ x y H Q=>∃(l:List Nat) (n:Int),x=.str ⟨l.toArray⟩/\y=.int n/\(0<=n/\n<=1000000/\l.length*n.toNat<=kI)/\Q (.str ⟨(kN n.toNat l).toArray⟩) H):=by
 intro C s σ H x y v u Q I rx ry h
 obtain⟨l,n,rfl,rfl,⟨h0,G,Z⟩,q⟩:=h
 obtain⟨t,rfl⟩:=rx
 obtain⟨t',rfl⟩:=ry
 have hlen:(⟨l.toArray⟩:Str).length=l.length:=by show l.toArray.size=_;simp
 have hL:=qP
 have J:=aq0
 refine SB.mul ⟨?_,λ hn _=>?_,λ hn _=>?_⟩ λ t2 k=>?_
 ·rw[decide_eq_false (by omega),decide_eq_false (by omega)];rfl
 ·rw[hlen]
  have B:1<=n:=by omega
  intro Y
  have h3:(l.length:Int)*n<=1000000:=by
   have:((l.length*n.toNat:Nat):Int)<=(kI:Nat):=Int.ofNat_le.mpr Z
   rw[gC,hZ h0]at this
   have e:((kI:Nat):Int)=1000000:=by unfold kI;rfl
   omega
  have h4:(l.length:Int)<=1000000:=by
   have:(l.length:Int)*1<=(l.length:Int)*n:=ee B (by omega)
   omega
  have h5:(1000000:Int)<=(2^63 - 1) / n:=by
   rw[Int.le_ediv_iff_mul_le (by omega)]
   have:(1000000:Int)*n<=1000000*1000000:=ee G (by omega)
   omega
  omega
 ·rw[hlen]
  unfold jZ
  exact decide_eq_false (by omega)
 ·have e:Txt.mul ⟨l.toArray⟩ n=⟨(kN n.toNat l).toArray⟩:=by
   unfold Txt.mul
   split
   ·have:n.toNat=0:=by omega
    rw[this];rfl
   ·split
    ·rename_i hc
     rw[bL]at hc
     rcases hc with hc|hc
     ·have:n=1:=by simpa using hc
      subst this
      show(⟨l.toArray⟩:Str)=⟨(kN 1 l).toArray⟩
      rw[bE5]
     ·have:l=[]:=by
       have:=eq_of_beq hc
       rw[hlen]at this
       exact dC.mp this
      subst this
      rw[aU8]
    ·show(⟨(am n.toNat l.toArray).foldl (·++·) #[]⟩:Str)=_
     rw[aL3];simp
  rw[e]
  exact⟨.str _,H,I.tok _,⟨_,rfl⟩,q⟩
theorem ao8 {n:Nat}{l:List kA}(h:kB n l=true):∀ k,kB n (lT k l)=true
 | 0=>rfl
 | k+1=>qj h (ao8 h k)
theorem RVL.repD {φ:Nat->Addr}{H:Hp}{l:List kA}{y:List V}(h:RVL Γ φ H l y):∀ k,RVL Γ φ H (lT k l) (au1 k y)
 | 0=>RVL.nil
 | k+1=>h.append (RVL.repD h k)
theorem aD2 {α:Type}(h:List α):∀ k,au1 k h=(am k h).flatten
 | 0=>rfl
 | k+1=>by rw[bG,cZ,<-aD2 h k];rfl
theorem bN8 (hK:X.K=Γ.K)(op:lS):OpR X (bZ (cf0 op)) (rOp Γ (DV.qK op)):=by
 intro C s σ H x y v u Q I Y J h
 obtain⟨φ,st,a,b,d,a0,R,ha,hb,na,nb,B,q⟩:=h
 cases op with
 | add =>
  cases a with
  | int a =>
   cases b with
   | int b =>
    change(lK _) st=_ at B
    obtain⟨rfl,rfl⟩:=qv B
    have ex:=ha.intE;have G:=hb.intE;subst ex;subst G
    exact bT0 C s σ H _ _ v u Q I Y J ⟨_,_,rfl,rfl,q.here R rfl RV.intI⟩
   | _=>exact fb B
  | str a =>
   cases b with
   | str b =>
    change(if _ then _ else _:lx kA) st=_ at B
    split at B
    ·rename_i hl
     obtain⟨rfl,rfl⟩:=qv B
     have ex:=ha.strE;have G:=hb.strE;subst ex;subst G
     refine aU3 C s σ H _ _ v u Q I Y J ⟨_,_,rfl,rfl,?_,?_⟩
     ·show a.toArray.size+b.toArray.size<=_
      simp only[aB]
      exact aq hl qP
     ·rw[bB2];exact q.here R rfl (RV.strI (by rw[bn];exact hl))
    ·exact fb B
   | _=>exact fb B
  | tup a =>
   cases b with
   | tup b =>
    change(if _ then _ else _:lx kA) st=_ at B
    split at B
    ·rename_i hl
     obtain⟨rfl,rfl⟩:=qv B
     obtain⟨p,xs,rfl,Z,d1⟩:=ha.tupE
     obtain⟨p',ys,rfl,h2,d2⟩:=hb.tupE
     refine bG3 hK C s σ H _ _ v u Q I Y J ⟨p,p',xs,ys,rfl,rfl,Z,h2,?_,λ t H' e ht=>?_⟩
     ·rw[d1.length,d2.length];exact aq hl qP
     ·obtain⟨g,r'⟩:=R.same e
      unfold kF at na nb
      exact q _ _ _ g (aj _) (by unfold kF;exact qj na nb) (RV.tupI ht ((RVL.mono g _ _ na d1).append (RVL.mono g _ _ nb d2))) r'
    ·exact fb B
   | _=>exact fb B
  | ref a =>
   cases b with
   | ref b =>
    change(match st[a]?,st[b]? with|some (DV.O.lst l),some (DV.O.lst m)=>if l.length+m.length<=kI then lf (.lst (l++m)) st else .bad|_,_=>.bad:kD kA)=_ at B
    split at B
    ·rename_i l m Z h2
     split at B
     ·rename_i hl
      obtain⟨rfl,rfl⟩:=qQ B
      obtain⟨xs,e1,d1⟩:=R.addr Z
      obtain⟨ys,e2,d2⟩:=R.addr h2
      have ex:=ha.refE;have G:=hb.refE;subst ex;subst G
      have b1:=R.wf _ _ Z
      have b2:=R.wf _ _ h2
      unfold kG at b1 b2
      refine bQ4 C s σ H _ _ v u Q I Y J ⟨φ a,φ b,xs,ys,rfl,rfl,e1,e2,?_,λ p hp=>?_⟩
      ·rw[d1.length,d2.length];exact aq hl qP
      ·exact q.alloc R (d1.append d2) (qj b1 b2) hp
     ·exact fb B
    ·exact fb B
   | _=>exact fb B
  | _=>exact fb B
 | sub =>
  cases a with
  | int a =>
   cases b with
   | int b =>
    change(lK _) st=_ at B
    obtain⟨rfl,rfl⟩:=qv B
    have ex:=ha.intE;have G:=hb.intE;subst ex;subst G
    exact bX4 C s σ H _ _ v u Q I Y J ⟨_,_,rfl,rfl,q.here R rfl RV.intI⟩
   | _=>exact fb B
  | _=>exact fb B
 | mul =>
  cases a with
  | int a =>
   cases b with
   | int b =>
    change(if _ then _ else _:lx kA) st=_ at B
    split at B
    ·rename_i hc
     obtain⟨rfl,rfl⟩:=qv B
     have ex:=ha.intE;have G:=hb.intE;subst ex;subst G
     exact bA0 C s σ H _ _ v u Q I Y J ⟨_,_,rfl,rfl,hc,q.here R rfl RV.intI⟩
    ·exact fb B
   | _=>exact fb B
  | str a =>
   cases b with
   | int b =>
    change(if _ then _ else _:lx kA) st=_ at B
    split at B
    ·rename_i hc
     obtain⟨rfl,rfl⟩:=qv B
     have ex:=ha.strE;have G:=hb.intE;subst ex;subst G
     exact bK4 C s σ H _ _ v u Q I Y J ⟨_,_,rfl,rfl,hc,q.here R rfl (RV.strI (by rw[rep_len];exact hc.2.2))⟩
    ·exact fb B
   | _=>exact fb B
  | tup a =>
   cases b with
   | int b =>
    change(if _ then _ else _:lx kA) st=_ at B
    split at B
    ·rename_i hc
     obtain⟨rfl,rfl⟩:=qv B
     obtain⟨p,xs,rfl,Z,d1⟩:=ha.tupE
     have G:=hb.intE;subst G
     refine bH1 hK C s σ H _ _ v u Q I Y J ⟨p,xs,_,rfl,rfl,Z,⟨hc.1,hc.2.1,by rw[d1.length];exact hc.2.2⟩,λ t H' e ht=>?_⟩
     obtain⟨g,r'⟩:=R.same e
     unfold kF at na
     exact q _ _ _ g (aj _) (by unfold kF;exact ao8 na _) (RV.tupI ht (RVL.repD (RVL.mono g _ _ na d1) _)) r'
    ·exact fb B
   | _=>exact fb B
  | ref a =>
   cases b with
   | int b =>
    change(match st[a]? with|some (DV.O.lst l)=>if 0<=b/\b<=1000000/\l.length*b.toNat<=kI then lf (.lst (lT b.toNat l)) st else .bad|_=>.bad:kD kA)=_ at B
    split at B
    ·rename_i l Z
     split at B
     ·rename_i hc
      obtain⟨rfl,rfl⟩:=qQ B
      obtain⟨xs,e1,d1⟩:=R.addr Z
      have ex:=ha.refE;have G:=hb.intE;subst ex;subst G
      have b1:=R.wf _ _ Z
      unfold kG at b1
      refine bM6 C s σ H _ _ v u Q I Y J ⟨φ a,b,xs,rfl,rfl,e1,by omega,by omega,?_,λ p hp=>?_⟩
      ·rw[d1.length];exact aq hc.2.2 qP
      ·rw[<-aD2];exact q.alloc R (RVL.repD d1 _) (ao8 b1 _) hp
     ·exact fb B
    ·exact fb B
   | _=>exact fb B
  | _=>exact fb B
 | fdiv =>
  cases a with
  | int a =>
   cases b with
   | int b =>
    change(if _ then _ else _:lx kA) st=_ at B
    split at B
    ·rename_i hc
     obtain⟨rfl,rfl⟩:=qv B
     have ex:=ha.intE;have G:=hb.intE;subst ex;subst G
     refine bj7 C s σ H _ _ v u Q I Y J ⟨_,_,rfl,rfl,⟨hc.1,?_⟩,q.here R rfl RV.intI⟩
     have:=hc.2
     unfold DV.DIVL at this
     simpa using this
    ·exact fb B
   | _=>exact fb B
  | _=>exact fb B
 | mod =>
  cases a with
  | int a =>
   cases b with
   | int b =>
    change(if _ then _ else _:lx kA) st=_ at B
    split at B
    ·rename_i hc
     obtain⟨rfl,rfl⟩:=qv B
     have ex:=ha.intE;have G:=hb.intE;subst ex;subst G
     exact ca7 C s σ H _ _ v u Q I Y J ⟨_,_,rfl,rfl,hc,q.here R rfl RV.intI⟩
    ·exact fb B
   | _=>exact fb B
  | _=>exact fb B
 | pow =>
  cases a with
  | int a =>
   cases b with
   | int b =>
    change(if _ then _ else _:lx kA) st=_ at B
    split at B
    ·rename_i hc
     obtain⟨rfl,rfl⟩:=qv B
     have ex:=ha.intE;have G:=hb.intE;subst ex;subst G
     exact bT8 C s σ H _ _ v u Q I Y J ⟨_,_,rfl,rfl,hc,q.here R rfl RV.intI⟩
    ·exact fb B
   | _=>exact fb B
  | _=>exact fb B
 | shl =>
  cases a with
  | int a =>
   cases b with
   | int b =>
    change(if _ then _ else _:lx kA) st=_ at B
    split at B
    ·rename_i hc
     obtain⟨rfl,rfl⟩:=qv B
     have ex:=ha.intE;have G:=hb.intE;subst ex;subst G
     exact bX3 C s σ H _ _ v u Q I Y J ⟨_,_,rfl,rfl,hc,q.here R rfl RV.intI⟩
    ·exact fb B
   | _=>exact fb B
  | _=>exact fb B
 | shr =>
  cases a with
  | int a =>
   cases b with
   | int b =>
    change(if _ then _ else _:lx kA) st=_ at B
    split at B
    ·rename_i hc
     obtain⟨rfl,rfl⟩:=qv B
     have ex:=ha.intE;have G:=hb.intE;subst ex;subst G
     exact bN0 C s σ H _ _ v u Q I Y J ⟨_,_,rfl,rfl,hc,q.here R rfl RV.intI⟩
    ·exact fb B
   | _=>exact fb B
  | _=>exact fb B
 | band=>exact fb B
 | bor=>exact fb B
variable {Γ:Gm} {X:Cx} {pins:List (Addr×Obj)} {σ:St} {H:Hp} {sh:af} {φ:Nat->Addr} {s:kz}
theorem aO0 {n:Nat}{a b:kA}{z:Bool}(h:kH s n a b=some z):kP s a≠9:=by
 cases n with
 | zero=>unfold kH at h;exact(aj7 h).1
 | succ n =>
  unfold kH at h
  split at h
  ·simp[kP]
  ·split at h
   ·rename_i y _;simp[kP,y]
   ·cases h
  ·exact(aj7 h).1
theorem be3 (I:Inv X pins σ H sh)(G:X.K=Γ.K)(R:Rp Γ φ H s):∀(n:Nat) (a b c:kA) (x:V) (p q:Bool),RV Γ φ H a x->RV Γ φ H b x->kH s n a c=some p->kH s n b c=some q->p=q:=by
 intro n
 induction n with
 | zero =>
  intro a b c x p q y h e1 e2
  rcases rv_two I G R y h (aO0 e1) (aO0 e2)with e|⟨l,m,_,_,rfl,rfl,_⟩
  ·subst e;rw[e1]at e2;exact ar e2
  ·unfold kH at e1 e2
   have:kR s (.tup l) c=kR s (.tup m) c:=by unfold kR;cases c<;>rfl
   rw[this,e2]at e1;exact(ar e1).symm
 | succ n ih =>
  have C:∀(l m k:List kA) (B:List V) (p q:Bool),RVL Γ φ H l B->RVL Γ φ H m B->kM (kH s n) l k=some p->kM (kH s n) m k=some q->p=q:=by
   intro l
   induction l with
   | nil =>
    intro m k B p q y h e1 e2
    have:=y.unnil;subst this
    have hm:m=[]:=by have:=h.length;exact dC.mp this.symm
    subst hm
    rw[e1]at e2;exact ar e2
   | cons a l ihl =>
    intro m k B p q y h e1 e2
    obtain⟨x,r,rfl,g1,Y⟩:=y.uncons
    cases m with
    | nil=>have:=h.unnil;cases this
    | cons b m =>
     obtain⟨x',r',e,J,Z⟩:=h.uncons
     cases e
     cases k with
     | nil=>unfold kM at e1 e2;rw[<-ar e1,<-ar e2]
     | cons c k =>
      obtain⟨p1,p2,a1,a2,a3⟩:=am9 e1
      obtain⟨q1,q2,b1,b2,b3⟩:=am9 e2
      rw[a3,b3,ih a b c x p1 q1 g1 J a1 b1,ihl m k r p2 q2 Y Z a2 b2]
  intro a b c x p q y h e1 e2
  rcases rv_two I G R y h (aO0 e1) (aO0 e2)with e|⟨l,m,_,B,rfl,rfl,_,d1,d2⟩
  ·subst e;rw[e1]at e2;exact ar e2
  ·cases c with
   | tup k=>unfold kH at e1 e2;exact C l m k B p q d1 d2 e1 e2
   | _ =>
    unfold kH at e1 e2
    simp only at e1 e2
    have e3:kR s (.tup l)=kR s (.tup m):=by funext c;unfold kR;cases c<;>rfl
    rw[e3]at e1
    exact ar (e1.symm.trans e2)
theorem bv8 {x:kA}:∀ {l:List kA} {z:Bool},lh s x l=some z->∃ e:Nat->Bool,(∀ j d,l[j]?=some d->kH s kL d x=some (e j))/\(z=true↔∃ j,j<l.length/\e j=true)
 | [],z,h=>by
  unfold lh at h
  cases h
  exact⟨λ _=>true,λ j d h=>by simp at h,by simp⟩
 | y::l,z,h=>by
  unfold lh at h
  cases e1:kH s kL y x with
  | none=>rw[e1]at h;cases h
  | some a =>
   cases e2:lh s x l with
   | none=>rw[e1,e2]at h;cases h
   | some b =>
    rw[e1,e2]at h
    obtain⟨e,B,C⟩:=bv8 e2
    refine⟨λ j=>match j with|0=>a|j+1=>e j,λ j d g=>?_,?_⟩
    ·cases j with
     | zero=>simp at g;subst g;exact e1
     | succ j=>exact B j d (by simpa using g)
    ·have hz:(a||b)=z:=ar h
     rw[<-hz,bL,C]
     constructor
     ·rintro(q|⟨j,hj,q⟩)
      ·exact⟨0,by simp,q⟩
      ·exact⟨j+1,by simpa using hj,q⟩
     ·rintro⟨j,hj,q⟩
      cases j with
      | zero=>exact .inl q
      | succ j=>exact .inr ⟨j,by simpa using hj,q⟩
theorem bw7 (I:Inv X pins σ H sh)(hK:X.K=Γ.K)(R:Rp Γ φ H s){x:kA}{xv:V}{xu:Value}(hx:RV Γ φ H x xv)(rx:RelV xv xu){l:List kA}{ys:List V}{its:List Value}(hl:RVL Γ φ H l ys)(hv:Vals ys its){z:Bool}(h:lh s x l=some z){A:aV}(hr:Room kL A) :
  ∃ e:Value->Bool,(∀ y,y∈its.toArray->gk A sh y xu (e y))/\its.toArray.any e=z:=by
 obtain⟨e,h1,h2⟩:=bv8 h
 have len:its.length=l.length:=by rw[<-hv.length];exact hl.length
 have B:∀ j u,its[j]?=some u->∃ d y,l[j]?=some d/\ys[j]?=some y/\RV Γ φ H d y/\RelV y u:=λ j u g=>by
  have hj:j<l.length:=by rw[<-len];exact(ae.mp g).1
  obtain⟨y,g1,Z⟩:=hl.get (ai hj)
  obtain⟨u',C,G⟩:=hv.get g1
  rw[g]at C;cases C
  exact⟨_,y,ai hj,g1,Z,G⟩
 classical
 let f:Value->Bool:=λ u=>decide (∃ j,its[j]?=some u/\e j=true)
 have hf:∀ j u,its[j]?=some u->f u=e j:=λ j u g=>by
  obtain⟨d,y,g1,Z,C,G⟩:=B j u g
  cases q:e j with
  | true=>exact decide_eq_true ⟨j,g,q⟩
  | false =>
   refine decide_eq_false λ⟨k,g',q'⟩=>?_
   obtain⟨d',y',k1,k2,k3,k4⟩:=B k u g'
   have ey:y'=y:=k4.inj G
   subst ey
   have:=be3 I hK R _ d d' x _ _ _ C k3 (h1 j d g1) (h1 k d' k1)
   rw[q,q']at this;cases this
 refine⟨f,λ u Y=>?_,?_⟩
 ·obtain⟨j,hj,g⟩:=cI.mp (by simpa using Y:u∈its)
  have g':its[j]?=some u:=by rw[ai hj,g]
  obtain⟨d,y,g1,Z,C,G⟩:=B j u g'
  rw[hf j u g']
  exact(aU7 I hK R _ d x y xv u xu A _ (h1 j d g1) C hx G rx hr).1
 ·have e1:its.toArray.any f=true↔z=true:=by
   rw[h2,List.any_toArray,iV]
   constructor
   ·rintro⟨u,Y,q⟩
    obtain⟨j,hj,g⟩:=cI.mp Y
    have g':its[j]?=some u:=by rw[ai hj,g]
    exact⟨j,by omega,by rw[<-hf j u g'];exact q⟩
   ·rintro⟨j,hj,q⟩
    have J:j<its.length:=by omega
    exact⟨its[j],dW J,by rw[hf j _ (ai J)];exact q⟩
  cases z<;>cases q:its.toArray.any f
  ·rfl
  ·have:=e1.mp q;cases this
  ·rw[q]at e1;have:=e1.mpr rfl;cases this
  ·rfl
variable {Γ:Gm} {X:Cx}
theorem aa0 {α β:Type}{r:kD α}{f:α->kz->kD β}{b:β}{t:kz}(h:r.bind f=.ok b t):∃ a s,r=.ok a s/\f a s=.ok b t:=DV.R.bind_inv h
theorem bv1 (hK:X.K=Γ.K)(hr:Room (kL+1) X.A)(neg:Bool){B:List (Addr×Obj)}{sh:af}{σ:St}{H:Hp}{x y:V}{v u:Value}{φ:Nat->Addr}{st G:kz}{a b:kA}{z:Bool}
  (I:Inv X B σ H sh) (rx:RelV x v) (ry:RelV y u) (R:Rp Γ φ H st) (ha:RV Γ φ H a x) (hb:RV Γ φ H b y) (h:lL a b st=.ok z G) :
  G=st/\∀ Q:Value->af->Prop,(∀ J,Inv X B σ H J->Q (.bool (if neg then !z else z)) J)->wpAny (model X.prog X.w) X.A (cf (if neg then .NotIn else .In) v u) Q X.xe sh:=by
 unfold lL at h
 cases b with
 | tup l =>
  simp only at h
  cases e:lh st a l with
  | none=>rw[e]at h;cases h
  | some w =>
   rw[e]at h
   cases h
   obtain⟨p,ys,rfl,q,d⟩:=hb.tupE
   cases ry
   rw[<-hK]at q
   obtain⟨its,rv,t,_⟩:=I.tuple q
   obtain⟨f,C,Y⟩:=bw7 I hK R ha rx d rv e (A:=X.A.in1) hr.in1
   refine⟨rfl,λ Q hq=>?_⟩
   cases neg with
   | false=>exact SeqAt.in_tupleAt f t C (by rw[Y];exact hq _ I)
   | true=>exact SeqAt.notIn_tupleAt f t C (by rw[Y];exact hq _ I)
 | str y0 =>
  simp only at h
  split at h
  case h_2=>exact fb h
  rename_i c
  cases h
  refine⟨rfl,λ Q hq=>?_⟩
  have e1:=ha.strE
  have e2:=hb.strE
  subst e1 e2
  obtain⟨t1,rfl⟩:=rx
  obtain⟨t2,rfl⟩:=ry
  have a0:=ka (⟨y0.toArray⟩:Str) c
  cases neg with
  | false=>exact in_str (by rw[show(⟨[c].toArray⟩:Str)=⟨#[c]⟩from rfl,a0];simpa using hq _ I)
  | true=>exact notIn_str (by rw[show(⟨[c].toArray⟩:Str)=⟨#[c]⟩from rfl,a0];simpa using hq _ I)
 | ref r =>
  simp only at h
  cases hs:st[r]? with
  | none=>rw[hs]at h;cases h
  | some o =>
   rw[hs]at h
   cases o with
   | lst l =>
    simp only at h
    cases e:lh st a l with
    | none=>rw[e]at h;cases h
    | some w =>
     rw[e]at h
     cases h
     obtain⟨ys,e1,d⟩:=R.addr hs
     have ey:=hb.refE;subst ey
     cases ry
     obtain⟨its,rv,t,_⟩:=I.list (SqL.of e1)
     obtain⟨f,C,Y⟩:=bw7 I hK R ha rx d rv e (A:=X.A.in1) hr.in1
     refine⟨rfl,λ Q hq=>?_⟩
     cases neg with
     | false=>exact SeqAt.in_listAt f t.isList C (by rw[Y];exact hq _ I)
     | true=>exact SeqAt.notIn_listAt f t.isList C (by rw[Y];exact hq _ I)
   | dic l =>
    simp only at h
    split at h
    case isFalse=>exact fb h
    rename_i Z
    cases h
    obtain⟨k,hk⟩:=an4 Z
    obtain⟨a1,e1,d⟩:=R.obj r _ hs
    have ey:=hb.refE;subst ey
    cases ry
    have ex:=aN7 hk ha;subst ex
    have ez:(k8 a l).isSome=(aP8 a1 k).isSome:=by
     rcases d.val hk with⟨q1,q2⟩|⟨_,_,q1,q2,_⟩<;>rw[q1,q2]<;>rfl
    refine⟨rfl,λ Q hq=>?_⟩
    rw[ez]at hq
    cases neg with
    | false=>exact cp9 (bk6 hr) I (bj1.k e1) rx hq
    | true=>exact bD2 (bk6 hr) I (bj1.k e1) rx hq
   | ro l=>exact fb h
   | ins c l=>exact fb h
 | _=>exact fb h
theorem az2 {op:lC}{a b d:kA}{st y:kz}(ho:op=.lt\/op=.le\/op=.gt\/op=.ge)(h:DV.qJ op a b st=.ok d y):∃ i j,a=.int i/\b=.int j:=by
 rcases ho with rfl|rfl|rfl|rfl <;>
 (cases a with
 | int i =>
  (cases b with
  | int j=>exact⟨i,j,rfl,rfl⟩
  | _=>cases h)
 | _=>cases h)
theorem bb9 (hK:X.K=Γ.K)(hr:Room (kL+1) X.A)(op:lC):OpR X (cf (ar6 op)) (rOp Γ (DV.qJ op)):=by
 intro C s σ H x y v u Q I Y J h
 obtain⟨φ,st,a,b,d,G,R,ha,hb,na,nb,B,q⟩:=h
 cases op with
 | eq =>
  have B:DV.eqM a b st=.ok d G:=B
  unfold DV.eqM at B
  cases e:kH st kL a b with
  | none=>rw[e]at B;cases B
  | some z =>
   rw[e]at B;cases B
   exact(aU7 I hK R _ a b x y v u X.A z e ha hb Y J (hr.mono (by omega))).2.rc X.prog X.w X.xe _ ⟨.bl z,H,I,rfl,q.here R rfl RV.blI⟩
 | ne =>
  have B:(match kH st kL a b with|some r=>.ok (.bl (!r)) st|none=>.bad:kD kA)=.ok d G:=B
  cases e:kH st kL a b with
  | none=>rw[e]at B;cases B
  | some z =>
   rw[e]at B;cases B
   exact(aU7 I hK R _ a b x y v u X.A z e ha hb Y J (hr.mono (by omega))).2.ne X.prog X.w X.xe _ ⟨.bl (!z),H,I,rfl,q.here R rfl RV.blI⟩
 | lt =>
  obtain⟨i,j,rfl,rfl⟩:=az2 (.inl rfl) B
  cases B
  have ex:=ha.intE;have Z:=hb.intE;subst ex;subst Z
  exact ce9 C s σ H _ _ v u Q I Y J ⟨_,_,rfl,rfl,q.here R rfl RV.blI⟩
 | le =>
  obtain⟨i,j,rfl,rfl⟩:=az2 (.inr (.inl rfl)) B
  cases B
  have ex:=ha.intE;have Z:=hb.intE;subst ex;subst Z
  exact cd7 C s σ H _ _ v u Q I Y J ⟨_,_,rfl,rfl,q.here R rfl RV.blI⟩
 | gt =>
  obtain⟨i,j,rfl,rfl⟩:=az2 (.inr (.inr (.inl rfl))) B
  cases B
  have ex:=ha.intE;have Z:=hb.intE;subst ex;subst Z
  exact ch5 C s σ H _ _ v u Q I Y J ⟨_,_,rfl,rfl,q.here R rfl RV.blI⟩
 | ge =>
  obtain⟨i,j,rfl,rfl⟩:=az2 (.inr (.inr (.inr rfl))) B
  cases B
  have ex:=ha.intE;have Z:=hb.intE;subst ex;subst Z
  exact cd6 C s σ H _ _ v u Q I Y J ⟨_,_,rfl,rfl,q.here R rfl RV.blI⟩
 | isin =>
  have B:(lL a b st).bind (λ r s=>.ok (.bl r) s)=.ok d G:=B
  obtain⟨z,s1,e1,e2⟩:=aa0 B
  obtain⟨rfl,w⟩:=bv1 hK hr false I Y J R ha hb e1
  cases e2
  exact w _ λ s' I'=>⟨.bl z,H,I',rfl,q.here R rfl RV.blI⟩
 | notin =>
  have B:(lL a b st).bind (λ r s=>.ok (.bl (!r)) s)=.ok d G:=B
  obtain⟨z,s1,e1,e2⟩:=aa0 B
  obtain⟨rfl,w⟩:=bv1 hK hr true I Y J R ha hb e1
  cases e2
  exact w _ λ s' I'=>⟨.bl (!z),H,I',rfl,q.here R rfl RV.blI⟩
theorem bf8 {φ:Nat->Addr}{H:Hp}{l:List kA}{y:List V}{i:Int}{d:kA}(h:RVL Γ φ H l y)(e:((li l.length i).bind λ j=>l[j]?)=some d):∃ v,atI y i=some v/\RV Γ φ H d v:=by
 cases hj:li l.length i with
 | none=>rw[hj]at e;cases e
 | some j =>
  rw[hj]at e
  obtain⟨v,e1,e2⟩:=h.get (show l[j]?=some d from e)
  refine⟨v,?_,e2⟩
  unfold atI
  have:ixN y.length i=some j:=by rw[h.length];exact hj
  rw[this];exact e1
theorem aG7 {l:List kA}{i:Int}{d:kA}(e:((li l.length i).bind λ j=>l[j]?)=some d):d∈l:=by
 cases hj:li l.length i with
 | none=>rw[hj]at e;cases e
 | some j=>rw[hj]at e;exact aW (show l[j]?=some d from e)
theorem cg4 (hK:X.K=Γ.K)(hu:X.A.units+1<cLine):IxR X (rOp Γ DV.ixM):=by
 intro G C J s σ H x y v u Q I rx ry h hs
 obtain⟨φ,st,a,b,d,a2,R,ha,hb,na,nb,B,q⟩:=h
 unfold DV.ixM at B
 cases a with
 | tup l =>
  cases b with
  | int i =>
   simp only at B
   split at B
   ·rename_i d' e
    cases B
    obtain⟨p,xs,rfl,h1,d1⟩:=ha.tupE
    have Y:=hb.intE;subst Y
    obtain⟨w,e1,e2⟩:=bf8 d1 e
    unfold kF at na
    exact by3 hK G C J s σ H _ _ v u Q I rx ry ⟨p,xs,i,w,rfl,rfl,h1,e1,q.here R (ab6.mp na _ (aG7 e)) e2⟩ hs
   ·exact fb B
  | _=>exact fb B
 | str l =>
  cases b with
  | int i =>
   simp only at B
   split at B
   ·rename_i c e
    cases B
    have hl:=ha.strL
    have ex:=ha.strE;have Y:=hb.intE;subst ex;subst Y
    exact ix_str G C J s σ H _ _ v u Q I rx ry ⟨⟨l.toArray⟩,i,c,rfl,rfl,by show l.toArray.size<=_;rw[aB];exact aq hl qP,e,q.here R rfl (RV.strI (by simp;decide))⟩ hs
   ·exact fb B
  | _=>exact fb B
 | ref r =>
  have ex:=ha.refE;subst ex
  simp only at B
  cases hsr:st[r]? with
  | none=>rw[hsr]at B;cases B
  | some o =>
   rw[hsr]at B
   cases o with
   | lst l =>
    cases b with
    | int i =>
     simp only at B
     split at B
     ·rename_i d' e
      cases B
      have Y:=hb.intE;subst Y
      obtain⟨xs,e1,d1⟩:=R.addr hsr
      obtain⟨w,e2,e3⟩:=bf8 d1 e
      have wf:=R.wf _ _ hsr
      unfold kG at wf
      exact aO8 hK G C J s σ H _ _ v u Q I rx ry ⟨φ r,xs,i,w,rfl,rfl,SqL.of e1,e2,q.here R (ab6.mp wf _ (aG7 e)) e3⟩ hs
     ·exact fb B
    | _=>exact fb B
   | ro l =>
    cases b with
    | int i =>
     simp only at B
     split at B
     ·rename_i d' e
      cases B
      have Y:=hb.intE;subst Y
      obtain⟨xs,e1,d1⟩:=R.obj _ _ hsr
      obtain⟨w,e2,e3⟩:=bf8 d1 e
      have wf:=R.wf _ _ hsr
      unfold kG at wf
      exact aO8 hK G C J s σ H _ _ v u Q I rx ry ⟨φ r,xs,i,w,rfl,rfl,e1.1,e2,q.here R (ab6.mp wf _ (aG7 e)) e3⟩ hs
     ·exact fb B
    | _=>exact fb B
   | dic l =>
    simp only at B
    split at B
    case isFalse=>exact fb B
    rename_i Z
    obtain⟨k,hk⟩:=an4 Z
    obtain⟨a1,e1,d1⟩:=R.obj r _ hsr
    have Y:=aN7 hk hb;subst Y
    cases rx
    rcases d1.val hk with⟨q1,_⟩|⟨e,v',q1,q2,q3,q4⟩
    ·rw[q1]at B;cases B
    ·rw[q1]at B
     cases B
     have wf:=R.wf _ _ hsr
     unfold kG at wf
     rw[ao]at wf
     have g:bj1 H (φ r) (kV k) (some v'):=by rw[<-q2];exact bj1.k e1
     exact tail_any (aJ6 I g) PySem.F.slot_dict_getitem.lookup (ba4 hu I g ry λ w' s' I' a0=>⟨v',H,I',a0,q.here R (ab6.mp wf.2 _ q4) q3⟩) hs
   | ins c l=>cases b<;>cases B
 | _=>cases b<;>cases B
variable {Γ:Gm} {X:Cx}
def rCl (Γ:Gm)(f:List kA->kz->kD kA):List V->Hp->VK->Prop:=λ xs H Q=>∃ φ s l d s',Rp Γ φ H s/\RVL Γ φ H l xs/\kB s.length l=true/\f l s=.ok d s'/\ag1 Γ φ s H d s' Q
theorem RVL.one {φ:Nat->Addr}{H:Hp}{d:kA}{y:List V}(h:RVL Γ φ H [d] y):∃ x,y=[x]/\RV Γ φ H d x:=by
 obtain⟨x,r,rfl,B,C⟩:=h.uncons
 rw[C.unnil];exact⟨x,rfl,B⟩
theorem bE2 (a b c:Int):mx3 a b c=max (max a b) c:=by unfold mx3 mx;split<;>split<;>omega
noncomputable def biN:k9->Option (String×Nat)
 | .len=>some ("len",1)|.abs=>some ("abs",1)|.min2=>some ("min",2)|.max2=>some ("max",2)|.max3=>some ("max",3)|_=>none
theorem qi:∀ {l:List kA} {is:List Int},lc l=some is->l=is.map DV.D.int
 | [],is,h=>by unfold lc at h;cases h;rfl
 | d::l,is,h=>by
  cases d with
  | int i =>
   have h:(lc l).map (i::·)=some is:=h
   cases e:lc l with
   | none=>rw[e]at h;cases h
   | some m=>rw[e]at h;cases h;rw[qi e];rfl
  | _=>cases h
theorem ap9:∀ {l:List kA} {is:List Bool},ls l=some is->l=is.map DV.D.bl
 | [],is,h=>by unfold ls at h;cases h;rfl
 | d::l,is,h=>by
  cases d with
  | bl i =>
   have h:(ls l).map (i::·)=some is:=h
   cases e:ls l with
   | none=>rw[e]at h;cases h
   | some m=>rw[e]at h;cases h;rw[ap9 e];rfl
  | _=>cases h
theorem RVL.ints {φ:Nat->Addr}{H:Hp}:∀ {is:List Int} {y:List V},RVL Γ φ H (is.map DV.D.int) y->y=is.map V.int
 | [],_,h=>h.unnil
 | i::is,_,h=>by
  obtain⟨x,r,rfl,B,C⟩:=RVL.uncons h
  rw[B.intE,RVL.ints C];rfl
theorem RVL.bls {φ:Nat->Addr}{H:Hp}:∀ {is:List Bool} {y:List V},RVL Γ φ H (is.map DV.D.bl) y->y=is.map V.bl
 | [],_,h=>h.unnil
 | i::is,_,h=>by
  obtain⟨x,r,rfl,B,C⟩:=RVL.uncons h
  rw[B.blE,RVL.bls C];rfl
theorem aZ1 {f:kA->lx kA}{l:List kA}{s s':kz}{d:kA}(h:lM f l s=.ok d s'):∃ a,l=[a]/\f a s=.ok d s':=by
 match l,h with
 | [a],h=>exact⟨a,rfl,h⟩
 | [],h=>exact fb h
 | _::_::_,h=>exact fb h
theorem bb4 (J:X.K=Γ.K)(hc:X.calm=true){b:k9}{Y:String}{k:Nat}(hn:biN b=some (Y,k)):ae5 X (.builtin Y) (rCl Γ (lR b)):=by
 intro y s σ H xs us Q I r h
 obtain⟨φ,st,l,d,G,R,hl,nl,B,q⟩:=h
 cases b with
 | len =>
  cases hn
  have B:lM DV.bL9 l st=.ok d G:=B
  obtain⟨a,rfl,C⟩:=aZ1 B
  clear B
  obtain⟨x,rfl,hx⟩:=hl.one
  unfold DV.bL9 at C
  cases a with
  | tup l =>
   cases C
   obtain⟨p,ys,rfl,h1,d1⟩:=hx.tupE
   refine ao6 J y s σ H _ us Q I r ⟨p,ys,rfl,.inr h1,?_⟩
   rw[d1.length];exact q.here R rfl RV.intI
  | str l =>
   cases C
   have Z:=hx.strL
   have e:=hx.strE;subst e
   refine aA8 y s σ H _ us Q I r ⟨_,rfl,by show l.toArray.size<=_;rw[aB];exact aq Z qP,?_⟩
   show Q (.int ((l.toArray.size:Nat):Int)) H
   rw[aB]
   exact q.here R rfl RV.intI
  | ref n =>
   have e:=hx.refE;subst e
   simp only at C
   cases hs:st[n]? with
   | none=>rw[hs]at C;cases C
   | some o =>
    rw[hs]at C
    cases o with
    | lst l =>
     cases C
     obtain⟨ys,e1,d1⟩:=R.addr hs
     refine ao6 J y s σ H _ us Q I r ⟨φ n,ys,rfl,.inl (SqL.of e1),?_⟩
     rw[d1.length];exact q.here R rfl RV.intI
    | ro l =>
     cases C
     obtain⟨ys,e1,d1⟩:=R.obj _ _ hs
     refine ao6 J y s σ H _ us Q I r ⟨φ n,ys,rfl,.inl e1.1,?_⟩
     rw[d1.length];exact q.here R rfl RV.intI
    | dic l=>exact fb C
    | ins c l=>exact fb C
  | _=>exact fb C
 | abs =>
  cases hn
  have B:(match lc l with|some [i]=>.ok (.int (if i<0 then -i else i)) st|_=>.bad:kD kA)=.ok d G:=B
  split at B
  ·rename_i i e
   cases B
   have:=qi e;subst this
   have:=RVL.ints hl;subst this
   exact bp3 y s σ H _ us Q I r ⟨i,rfl,q.here R rfl RV.intI⟩
  ·exact fb B
 | min2 =>
  cases hn
  have B:(match lc l with|some [a,b]=>.ok (.int (if b<a then b else a)) st|_=>.bad:kD kA)=.ok d G:=B
  split at B
  ·rename_i a b e
   cases B
   have:=qi e;subst this
   have:=RVL.ints hl;subst this
   exact bg6 hc y s σ H _ us Q I r ⟨_,_,rfl,q.here R rfl RV.intI⟩
  ·exact fb B
 | max2 =>
  cases hn
  have B:(match lc l with|some [a,b]=>.ok (.int (if b > a then b else a)) st|_=>.bad:kD kA)=.ok d G:=B
  split at B
  ·rename_i a b e
   cases B
   have:=qi e;subst this
   have:=RVL.ints hl;subst this
   exact be2 hc y s σ H _ us Q I r ⟨_,_,rfl,q.here R rfl RV.intI⟩
  ·exact fb B
 | max3 =>
  cases hn
  have B:(match lc l with|some [a,b,c]=>.ok (.int (max (max a b) c)) st|_=>.bad:kD kA)=.ok d G:=B
  split at B
  ·rename_i a b c e
   cases B
   have:=qi e;subst this
   have:=RVL.ints hl;subst this
   refine aX0 hc y s σ H _ us Q I r ⟨_,_,_,rfl,?_⟩
   rw[bE2]
   exact q.here R rfl RV.intI
  ·exact fb B
 | _=>cases hn
theorem bQ9:ae5 X (.type "int") (rCl Γ (lR .int)):=by
 intro y s σ H G us Q I r h
 obtain⟨φ,st,l,d,C,R,hl,J,B,q⟩:=h
 have B:(match ls l with|some [b]=>.ok (.int (if b then 1 else 0)) st|_=>.bad:kD kA)=.ok d C:=B
 split at B
 ·rename_i b e
  cases B
  have:=ap9 e;subst this
  have:=RVL.bls hl;subst this
  exact aU6 y s σ H _ us Q I r (.inr ⟨b,rfl,q.here R rfl RV.intI⟩)
 ·exact fb B
noncomputable def as3:Nat->String
 | 1 => "int" | 2 => "bool" | 3 => "str" | 4 => "tuple" | _ => "list"
theorem bG6 {K:ac}(k:Nat)(hk:1<=k/\k<=5):cA K (.type "NoneType") (.type (as3 k))=some false/\cA K (.type "bool") (.type (as3 k))=some (k==1||k==2) /\
  cA K (.type "int") (.type (as3 k))=some (k==1)/\cA K (.type "str") (.type (as3 k))=some (k==3)/\cA K (.type "tuple") (.type (as3 k))=some (k==4)/\cA K (.type "list") (.type (as3 k))=some (k==5):=by
 obtain⟨y,B⟩:=hk
 rcases(by omega:k=1\/k=2\/k=3\/k=4\/k=5)with h|h|h|h|h<;>subst h<;>refine⟨?_,?_,?_,?_,?_,?_⟩<;>with_unfolding_all rfl
theorem aS8 {y:List (Addr×Obj)}{σ:St}{H:Hp}{s:af}{A:aV}{E:Value->af->Prop}{Q:Value->af->Prop}{c:Value}{b:Bool}{a:Addr}{G:List V}(I:Inv X y σ H s)(C:SqT X.K H a G)(e:cA X.K (.type "tuple") c=some b)
  (h:∀ tk,Q (.bool b) { s with toks:=tk }):wpAny (model X.prog X.w) A (call (.builtin "isinstance") [.ref a,c]) Q E s:=by
 obtain⟨its,_,⟨o,g1,B,_⟩,_⟩:=I.tuple C
 exact bF ir I.kIn ⟨o,g1,B⟩ e (λ z=>nomatch z) h
theorem bR2 (hK:X.K=Γ.K){k:Nat}(hk:1<=k/\k<=5):ae5 X (.builtin "isinstance") (λ J H Q=>∃ x,J=[x,.ty (as3 k)]/\rCl Γ (lM (lU k)) [x] H Q):=by
 intro G s σ H J us Q I r h
 obtain⟨x,rfl,φ,st,l,d,B,R,hl,nl,Y,q⟩:=h
 obtain⟨a,rfl,y⟩:=aZ1 Y
 clear Y
 obtain⟨u,w',rfl,r1,r2⟩:=bD3 r
 cases r2
 obtain⟨x',e',hx⟩:=hl.one
 cases e'
 obtain⟨k0,k1,Z,k3,k4,k5⟩:=bG6 (K:=X.K) k hk
 unfold lU at y
 cases a with
 | non=>cases y;have e:=hx.nonE;subst e;exact jm I r1 .non k0 λ tk=>⟨.bl _,H,I.tok _,rfl,q.here R rfl RV.blI⟩
 | bl b=>cases y;have e:=hx.blE;subst e;exact jm I r1 (.bl b) k1 λ tk=>⟨.bl _,H,I.tok _,rfl,q.here R rfl RV.blI⟩
 | int b=>cases y;have e:=hx.intE;subst e;exact jm I r1 (.int b) Z λ tk=>⟨.bl _,H,I.tok _,rfl,q.here R rfl RV.blI⟩
 | str b=>cases y;have e:=hx.strE;subst e;exact jm I r1 (.str _) k3 λ tk=>⟨.bl _,H,I.tok _,rfl,q.here R rfl RV.blI⟩
 | tup l =>
  cases y
  obtain⟨p,ys,rfl,C,d1⟩:=hx.tupE
  cases r1
  rw[<-hK]at C
  exact aS8 I C k4 λ tk=>⟨.bl _,H,I.tok _,rfl,q.here R rfl RV.blI⟩
 | ref n =>
  have e:=hx.refE;subst e
  have y:(match st[n]? with|some (.lst _)=>.ok (.bl (k==5)) st|_=>.bad:kD kA)=.ok d B:=y
  cases hs:st[n]? with
  | none=>rw[hs]at y;cases y
  | some o =>
   rw[hs]at y
   cases o with
   | lst l =>
    cases y
    obtain⟨ys,e1,d1⟩:=R.addr hs
    exact jm I r1 (.lst e1) k5 λ tk=>⟨.bl _,H,I.tok _,rfl,q.here R rfl RV.blI⟩
   | _=>exact fb y
 | _=>exact fb y
variable {X:Cx}
theorem bF2 {bs:List Bool}{its:List Value}(r:Vals (bs.map V.bl) its){i:Nat}{v:Value}(h:its[i]?=some v):∃ z,bs[i]?=some z/\v=Value.bool z:=by
 induction bs generalizing its i with
 | nil=>rw[cG]at r;cases r;simp at h
 | cons b bs ih =>
  rw[aH]at r
  cases r with
  | cons r1 r2 =>
   cases i with
   | zero =>
    cases r1
    have:_=v:=ar h
    exact⟨b,rfl,this.symm⟩
   | succ i=>exact ih r2 h
theorem bf1 {bs:List Bool}:(ah bs.length).all (λ i=>bs.getD i false)=bs.all id:=by
 rw[dr,aO,aO]
 constructor
 ·intro h b hb
  obtain⟨i,y,e⟩:=cI.mp hb
  have:=h i (aU.mpr y)
  rw[aS,ai y]at this
  rw[<-e];exact this
 ·intro h i y
  have y:=aU.mp y
  rw[aS,ai y]
  exact h _ (dW y)
theorem bd9 {K:ac}(hc:X.calm=true)(hK:X.K=K):ae5 X (.builtin "all") (λ Y H Q=>∃(a:Addr) (bs:List Bool),Y=[.ref a]/\SqL K H a (bs.map V.bl)/\Q (.bl (bs.all id)) H):=by
 subst hK
 intro G s σ H Y us Q I r h
 obtain⟨a,bs,rfl,hS,q⟩:=h
 obtain⟨u,rfl,Z⟩:=am1 r
 cases Z
 obtain⟨its,J,B,hz⟩:=I.list hS
 have hl:=J.length
 rw[aG]at hl
 refine call_all_walk (cW B.isList ?_)
 have C:a<s.heap.objs.size:=by obtain⟨o,_,e,_⟩:=B;exact aA e
 have W:=jO (prog:=X.prog) (w:=X.w) (A:=X.A.in1) (I.ok.hd hc) s.heap.objs.size a (av C) its.toArray
 refine⟨_,_,_,_,_,_,λ i=>bs.getD i false,rfl,W,⟨⟨_,aD _ rfl,rfl,rfl⟩,?_⟩,λ i v s' Q' E' y hQ=>?_,λ h' tk k=>?_⟩
 ·obtain⟨o,e,r⟩:=B.isList
  exact⟨o,ab _ e,r⟩
 ·obtain⟨z,e1,e2⟩:=bF2 J (i:=i) (v:=v) (by have y:its.toArray[i]?=some v:=y;rw[cD]at y;exact y)
  subst e2
  refine bD ?_
  have:bs.getD i false=z:=by rw[aS,e1];rfl
  rw[<-this];exact hQ
 ·have es:its.toArray.size=bs.length:=by rw[aB];omega
  rw[es,bf1]
  refine⟨.bl (bs.all id),H,I.kept (h':=h') (t':=tk) λ b o q=>k b o ?_ (ab _ q),rfl,q⟩
  intro z
  have z':b=s.heap.objs.size:=by simpa using z
  exact absurd (aA q) (by rw[z'];exact bq _)
noncomputable def sgV (x:List Nat):List V:=x.map λ c=>.str ⟨#[c]⟩
theorem bD6 {vs:List V}{y:List Value}(hl:vs.length=y.length)(h:∀(i:Nat) (x:V) (u:Value),vs[i]?=some x->y[i]?=some u->RelV x u):Vals vs y:=by
 induction vs generalizing y with
 | nil=>cases y with
  | nil=>exact .nil
  | cons _ _=>cases hl
 | cons v vs ih=>cases y with
  | nil=>cases hl
  | cons a y=>exact .cons (h 0 v a rfl rfl) (ih (by simpa using hl) λ i x u e1 e2=>h (i+1) x u e1 e2)
theorem au6 {x:List Nat}{y:Array Value}(h:ItemsOf (SignAt ⟨x.toArray⟩) y x.length):Vals (sgV x) y.toList:=by
 have hl:(sgV x).length=y.toList.length:=by unfold sgV;rw[aG];simpa using h.1.symm
 refine bD6 hl λ i v u e1 e2=>?_
 obtain⟨c,t,B,C⟩:=h.2 i u (by rw[<-Array.getElem?_toList];exact e2)
 unfold sgV at e1
 rw[aF]at e1
 have B:x[i]?=some c:=by simpa using B
 rw[B]at e1
 cases e1
 exact⟨t,C⟩
theorem aG0 (hc:X.calm=true):ae5 X (.type "tuple") (λ J H Q=>∃ x:List Nat,J=[.str ⟨x.toArray⟩]/\x.length<=kI/\∀ l,H l=none->Q (.ref l) (upd H l (.tup (sgV x)))):=by
 intro y s σ H J us Q I r h
 obtain⟨x,rfl,hl,q⟩:=h
 obtain⟨u,rfl,Z⟩:=am1 r
 obtain⟨t,rfl⟩:=Z
 have hz:(sgV x).length<=aN:=by unfold sgV;rw[aG];exact aq hl qP
 refine call_tuple_str (I.ok.hd hc) _ t (λ h' tk B kp C=>?_) (by show x.toArray.size<=_;rw[aB];exact aq hl qP)
 have C:ItemsOf (SignAt ⟨x.toArray⟩) B x.length:=by simpa using C
 have Y:=au6 C
 have G:Inv X y σ H { s with heap:=h',toks:=tk }:=I.kept (t':=tk) kp
 have I2:Inv X y σ (upd H h'.objs.size (.tup (sgV x))) { s with heap:=h'.push { cls:=.type "tuple",data:=.seq B },toks:=tk } :=
  G.laid (t':=tk) (λ b o e=>ab _ e) (aj _) (show ae4 X.prog X.w _ _ _ (.tup (sgV x))from⟨hz,B.toList,Y,j9 _ _⟩)
 exact⟨.ref h'.objs.size,_,I2,rfl,q _ (G.hok.fresh (aj _))⟩
theorem aR2 (hc:X.calm=true):ae5 X (.type "list") (λ G H Q=>∃ x:List Nat,G=[.str ⟨x.toArray⟩]/\x.length<=kI/\∀ l,H l=none->Q (.ref l) (upd H l (.lst (sgV x)))):=by
 intro C s σ H G us Q I r h
 obtain⟨x,rfl,hl,q⟩:=h
 obtain⟨u,rfl,Z⟩:=am1 r
 obtain⟨t,rfl⟩:=Z
 have hz:(sgV x).length<=aN:=by unfold sgV;rw[aG];exact aq hl qP
 refine call_list_str (I.ok.hd hc) _ t (λ h' tk y J kp e B=>?_) (by show x.toArray.size<=_;rw[aB];exact aq hl qP)
 have B:ItemsOf (SignAt ⟨x.toArray⟩) y x.length:=by simpa using B
 have Y:=au6 B
 exact⟨.ref s.heap.objs.size,_,I.laid (t':=tk) kp (aj _) (show ae4 X.prog X.w _ h' _ (.lst (sgV x))from⟨hz,y.toList,J,Y,e⟩),rfl,q _ (I.hok.fresh (aj _))⟩
section
variable {Γ:Gm} {φ φ':Nat->Addr} {H H' H1 H2 H3:Hp} {clos:List (Str×Addr)} {s s':kz}
theorem qy (hc:Cells clos H){a:Addr}{u:HO}(e:H a=some u)(h:∀ o,u≠.frz o (.own a)):isC clos a≠true:=λ z=>by
 obtain⟨o,v,q,_⟩:=hc.at z
 rw[e]at q;cases q;exact h o rfl
theorem SqT.dropC {K:ac}{a:Addr}{y:List V}(hc:Cells clos H)(h:SqT K H a y):SqT K (ad7 clos H) a y:=by
 rcases h with(h|⟨o,h⟩)|h
 ·exact .inl (.inl (by rw[ad7.ne (qy hc h (λ _ z=>by cases z))];exact h))
 ·exact .inl (.inr ⟨o,by rw[ad7.ne (qy hc h (λ _ z=>by cases z))];exact h⟩)
 ·exact .inr h
theorem SqL.dropC {K:ac}{a:Addr}{y:List V}(hc:Cells clos H)(h:SqL K H a y):SqL K (ad7 clos H) a y:=by
 rcases h with(h|⟨o,h⟩)|h
 ·exact .inl (.inl (by rw[ad7.ne (qy hc h (λ _ z=>by cases z))];exact h))
 ·exact .inl (.inr ⟨o,by rw[ad7.ne (qy hc h (λ _ z=>by cases z))];exact h⟩)
 ·exact .inr h
theorem SqF.dropC {K:ac}{a:Addr}{y:List V}(hc:Cells clos H)(h:SqF K H a y):SqF K (ad7 clos H) a y:=by
 refine⟨SqL.dropC hc h.1,λ H2 k=>?_⟩
 have hk:Kp H (λ b=>if isC clos b=true then H b else H2 b):=λ b o e f=>by
  by_cases z:isC clos b=true
  ·show(if isC clos b=true then H b else H2 b)=_;rw[if_pos z];exact e
  ·show(if isC clos b=true then H b else H2 b)=_
   rw[if_neg z]
   exact k b o (by rw[ad7.ne z];exact e) f
 have q:=h.2 _ hk
 have at_:∀ u,(if isC clos a=true then H a else H2 a)=some u->(∀ o,u≠.frz o (.own a))->H2 a=some u:=λ u e B=>by
  by_cases z:isC clos a=true
  ·rw[if_pos z]at e
   exact absurd z (qy hc e B)
  ·rw[if_neg z]at e;exact e
 rcases q with(q|⟨o,q⟩)|q
 ·exact .inl (.inl (at_ _ q (λ _ z=>by cases z)))
 ·exact .inl (.inr ⟨o,at_ _ q (λ _ z=>by cases z)⟩)
 ·exact .inr q
mutual
theorem RV.dropC (hc:Cells clos H):∀(d:kA) (v:V),d.ncl=true->RV Γ φ H d v->RV Γ φ (ad7 clos H) d v
 | .non,_,_,h=>by unfold RV at h ⊢;exact h
 | .bl _,_,_,h=>by unfold RV at h ⊢;exact h
 | .int _,_,_,h=>by unfold RV at h ⊢;exact h
 | .str _,_,_,h=>by unfold RV at h ⊢;exact h
 | .tup l,_,n,h=>by
  unfold RV at h ⊢
  unfold lV at n
  obtain⟨a,y,e,q,r⟩:=h
  exact⟨a,y,e,SqT.dropC hc q,RVL.dropC hc l y n r⟩
 | .ref k,_,_,h=>by unfold RV at h ⊢;exact h
 | .fn _,_,_,h=>by unfold RV at h ⊢;exact h
 | .clo id cs,_,n,h=>by unfold lV at n;cases n
theorem RVL.dropC (hc:Cells clos H):∀(l:List kA) (y:List V),lj l=true->RVL Γ φ H l y->RVL Γ φ (ad7 clos H) l y
 | [],_,_,h=>by unfold RVL at h ⊢;exact h
 | d::l,_,n,h=>by
  unfold lj at n
  rw[ao]at n
  obtain⟨x,r,e,B,C⟩:=h.uncons
  subst e
  exact .cons (RV.dropC hc d x n.1 B) (RVL.dropC hc l r n.2 C)
end
theorem RVD.dropC (hc:Cells clos H):∀(l:List (kA×kA)) (y:List (Key×V)),lj (l.map (·.2))=true->RVD Γ φ H l y->RVD Γ φ (ad7 clos H) l y
 | [],_,_,h=>h
 | (d,e)::l,_,n,h=>by
  obtain⟨k,v,r,e1,e2,B,C⟩:=h
  rw[aH]at n
  unfold lj at n
  rw[ao]at n
  exact⟨k,v,r,e1,e2,RV.dropC hc e v n.1 B,RVD.dropC hc l r n.2 C⟩
theorem RO.dropC {a:Addr}{o:kW}(hc:Cells clos H)(h:RO Γ φ H a o)(n:o.ncl=true):RO Γ φ (ad7 clos H) a o:=by
 cases o with
 | lst l =>
  obtain⟨y,e,r⟩:=h
  exact⟨y,by rw[ad7.ne (qy hc e (λ _ z=>by cases z))];exact e,RVL.dropC hc l y n r⟩
 | ro l =>
  obtain⟨y,e,r⟩:=h
  exact⟨y,SqF.dropC hc e,RVL.dropC hc l y n r⟩
 | dic l =>
  obtain⟨y,e,r⟩:=h
  exact⟨y,by rw[ad7.ne (qy hc e (λ _ z=>by cases z))];exact e,RVD.dropC hc l y n r⟩
 | ins _ _=>exact h.elim
theorem TabsH.dropC {T:List (Addr×Str)}(hc:Cells clos H)(h:TabsH T H):TabsH T (ad7 clos H):=λ y hy=>by
 obtain⟨ps,e,t,c⟩:=h y hy
 refine⟨ps,by rw[ad7.ne (qy hc e (λ _ z=>by cases z))];exact e,t,λ pos B q=>?_⟩
 obtain⟨C,e1,e2⟩:=c pos B q
 exact⟨C,e1,by rw[ad7.ne (qy hc e2 (λ _ z=>by unfold qH at z;cases z))];exact e2⟩
theorem Rp.dropC (hc:Cells clos H)(r:Rp Γ φ H s)(n:s.all lW=true):Rp Γ φ (ad7 clos H) s :=
 ⟨r.inj,λ i o e=>RO.dropC hc (r.obj i o e) (aO.mp n o (aW e)),r.wf,TabsH.dropC hc r.tab⟩
theorem Gr.caught {N:List Str}{kd:Str->Option bJ}{σ:St}(y:Caught clos N kd σ H1 H2)(g:Gr φ s H2 φ' s' H3):Gr φ s H1 φ' s' (ad7 clos H3):=by
 have h:∀ b o,H1 b=some o->isC clos b≠true:=λ b o e z=>by rw[y.free b z]at e;cases e
 have up:∀ b o,H1 b=some o->H2 b=some o:=λ b o e=>by rw[y.ne b (h b o e)];exact e
 refine⟨⟨g.w.map,λ b o e f=>?_⟩,g.le,λ i C G=>?_,g.kd,λ b e=>?_,λ b o e B J=>?_⟩
 ·rw[ad7.ne (h b o e)];exact g.w.kp b o (up b o e) f
 ·have:=g.new i C G
  by_cases z:isC clos (φ' i)=true
  ·exact y.free _ z
  ·rw[<-y.ne _ z];exact this
 ·cases q:H1 b with
  | none=>exact absurd q e
  | some o =>
   rw[ad7.ne (h b o q)]
   exact g.st b (by rw[up b o q];simp)
 ·rw[ad7.ne (h b o e)];exact g.fr b o (up b o e) B J
theorem aW2 (h:∀ b,isC clos b=true->H' b=none):ah3 H' (Put clos H H'):=λ b o e=>by
 rw[Put.ne (λ z=>by rw[h b z]at e;cases e)];exact e
theorem Gr.put (hc:Cells clos H)(y:∀ b,isC clos b=true->H' b=none)(hK:∀ b o,Γ.K.lookup b=some o->H b=none)(R':Rp Γ φ' H' s')(g:Gr φ s (ad7 clos H) φ' s' H'):Gr φ s H φ' s' (Put clos H H'):=by
 refine⟨⟨g.w.map,λ b o e f=>?_⟩,g.le,λ i Y C=>?_,g.kd,λ b e=>?_,λ b o e Z J=>?_⟩
 ·by_cases z:isC clos b=true
  ·rw[Put.cell z];exact e
  ·rw[Put.ne z];exact g.w.kp b o (by rw[ad7.ne z];exact e) f
 ·have hd:=g.new i Y C
  by_cases z:isC clos (φ' i)=true
  ·have B:=y _ z
   obtain⟨o,eo⟩:∃ o,s'[i]?=some o:=⟨s'[i],ai C⟩
   have h:=R'.obj i o eo
   cases o with
   | lst l=>obtain⟨G,e,_⟩:=h;rw[B]at e;cases e
   | ro l =>
    obtain⟨G,e,_⟩:=h
    rcases e.1 with(e|⟨_,e⟩)|⟨ob,its,n,e,_⟩
    ·rw[B]at e;cases e
    ·rw[B]at e;cases e
    ·exact hK _ _ e
   | dic l=>obtain⟨G,e,_⟩:=h;rw[B]at e;cases e
   | ins _ _=>exact h.elim
  ·rw[ad7.ne z]at hd;exact hd
 ·by_cases z:isC clos b=true
  ·rw[Put.cell z];exact e
  ·rw[Put.ne z];exact g.st b (by rw[ad7.ne z];exact e)
 ·by_cases z:isC clos b=true
  ·rw[Put.cell z];exact e
  ·rw[Put.ne z];exact g.fr b o (by rw[ad7.ne z];exact e) Z J
theorem bn6 {T:List (Addr×Str)}{cells:List (Str×Addr)}{P:Addr}{q:Str}{params:be}{body:Expr}{scope:Scope}{pos:Pos}{σ:St}{H:Hp}{Q:VK}(hT:TabsH T H)(nd:(T.map (·.1)).Nodup)(hm:(P,q)∈T)
  (go:∀(f:Addr) (H':Hp),bh5 H H'->(∀ b,H b≠none->H' b≠none)->TabsH T H'->H f=none->(∃ pm C B,H' f=some (av9 f (bP "<lambda>" q params body scope (af6 cells scope.names []) pm (.ref C) B))/\H' C=some (qH C q))->Q (.ref f) H') :
  cm4 cells P q params body scope pos σ H Q:=by
 obtain⟨ps,Y,ht,hc⟩:=hT _ hm
 refine⟨ps,Y,ht,λ hn C f pm B n1 n2 ne=>?_,λ Z e=>?_⟩
 ·have cP:C≠P:=λ z=>by rw[z,Y]at n1;cases n1
  have fP:f≠P:=λ z=>by rw[z,Y]at n2;cases n2
  have G:∀ b,b≠P->H b≠none->∀ o1 o2 o3,upd (upd (upd H P o1) C o2) f o3 b=H b:=λ b z1 z2 o1 o2 o3=>by
   rw[zm λ z=>by subst z;exact z2 n2,zm λ z=>by subst z;exact z2 n1,zm z1]
  refine go f _ (λ b o d e=>?_) (λ b hb=>?_) (λ y hy=>?_) n2 ⟨pm,C,B,zr,by rw[zm ne,zr]⟩
  ·rw[G b (λ z=>by subst z;rw[Y]at e;cases e;exact d _ rfl) (by rw[e];simp)];exact e
  ·by_cases z:b=P
   ·subst z;rw[zm (bS fP),zm (bS cP),zr];simp
   ·rw[G b z hb];exact hb
  ·by_cases z:y.1=P
   ·have ey:y=(P,q):=by
     have:∀(l:List (Addr×Str)),(l.map (·.1)).Nodup->y∈l->(P,q)∈l->y=(P,q):=by
      intro l
      induction l with
      | nil=>intro _ h;simp at h
      | cons a l ih =>
       intro hn h1 h2
       rw[aH,cr]at hn
       rcases au.mp h1 with e1|h1<;>rcases au.mp h2 with e2|h2
       ·rw[e1,e2]
       ·exact absurd (by rw[<-e1,z];exact bo (f:=(·.1)) h2) hn.1
       ·exact absurd (by rw[<-e2,<-z];exact bo (f:=(·.1)) h1) hn.1
       ·exact ih hn.2 h1 h2
     exact this T nd hy hm
    subst ey
    refine⟨_,by rw[zm (bS fP),zm (bS cP),zr],?_,λ J Z e=>?_⟩
    ·rw[dh];exact TriplesOk_snoc _ _ _ _ ht
    ·rw[dh]at e
     rcases codeAmong_add _ ht e with e'|e'
     ·obtain⟨c2,e1,e2⟩:=hc J Z e'
      exact⟨c2,e1,by rw[G c2 (λ z=>by subst z;rw[Y]at e2;unfold qH at e2;cases e2) (by rw[e2];simp)];exact e2⟩
     ·exact⟨C,e',by rw[zm ne,zr]⟩
   ·obtain⟨qs,e1,e2,e3⟩:=hT y hy
    refine⟨qs,by rw[G y.1 z (by rw[e1];simp)];exact e1,e2,λ J Z e=>?_⟩
    obtain⟨c2,e4,e5⟩:=e3 J Z e
    exact⟨c2,e4,by rw[G c2 (λ z=>by subst z;rw[Y]at e5;unfold qH at e5;cases e5) (by rw[e5];simp)];exact e5⟩
 ·obtain⟨C,e1,e2⟩:=hc pos Z e
  refine⟨C,e1,λ f pm B n=>go f _ (.of ((ah3.refl H).new n)) (λ b hb=>by
   by_cases z:b=f
   ·subst z;rw[zr];simp
   ·rw[zm z];exact hb) (hT.new n) n ⟨pm,C,B,zr,?_⟩⟩
  rw[zm (zH e2 n)];exact e2
theorem bL2 {P:aL}{w:World}{K:ac}{mg:Str->Option Value}{base:Heap}{k:Nat}{f:Addr}{N ps fr:List Str}{name qual:Str}{params:be}{body:List Stmt}{scope:Scope}{h:List (Str×Addr)}{cap:List V}{sp:Sp}
  (S:LamScope N ps fr scope) (len:∀ vs H Q E,sp vs H Q E->vs.length=ps.length) (a4:cap.length=fr.length)
  (Z:∀(G pm:Value) (c':Addr) (C:Value) (us:List Value),us.length=ps.length->d6 (cw name qual params body scope h .none .none G pm none (.ref c') C) ⟨us,[]⟩=pure (ps.zip us))
  (Y:∀(A:aV) (outer:List Env) (s:af) (H:Hp) (cd:Value) (vs:List V) (Q:VK),Room k (A.deeper (cO qual scope s.heap.objs.size f cd (aM (s.heap.objs.size+1) scope.names h)))->ap1 H f name qual params body scope fr cap h->(∀ b o,K.lookup b=some o->H b=none)->sp vs H Q E0 ->
   ∃ t,PSs (aG6 P w K mg base N qual scope f cd h A outer s H) body t/\t { nx:=λ _ H'=>(∀ b,isC h b=true->H' b=none)->Q .non (Put h H H'),rt:=λ v H'=>(∀ b,isC h b=true->H' b=none)->Q v (Put h H H') } (vs.map some++cap.map some) (ad7 h H)) :
  ClOk P w K mg base (k+1) (λ H=>ap1 H f name qual params body scope fr cap h) f sp:=by
 refine⟨λ A outer s H us vs Q hr B hR r a1=>?_⟩
 have hl:=len _ _ _ _ a1
 obtain⟨G,pm,c',C,h1,h2,h3,h4,h5,h6⟩:=id hR
 have a3:s.heap.NoLimit:=B.mod.nolimit.keeps λ b o e=>(B.bs b o e).1
 refine gH hr.depth (ax8 B.hok h1) rfl S.co S.gen rfl (aE0 B.hok h2) ?_
 rw[Z G pm c' C us (by rw[<-r.length];exact hl)]
 refine aK (at4 S.kind (λ y hy=>?_) λ env he s1 x=>?_)
 ·rcases S.par y.1 (dk (show(y.1,y.2)∈ps.zip us from hy)).1 with q|q
  ·exact .inl q
  ·exact .inr ⟨q,ql q⟩
 ·subst he
  refine⟨a3.keeps x.toInCall.keep,codeAny_func ?_⟩
  obtain⟨t,ht,hq⟩:=Y A outer s H (.ref c') vs Q (hr.deeper _) hR (λ b o e=>(B.bs b o (B.mod.kin b o e)).2) a1
  have I:=aX4 S hr.hd B hl a4 r h3 h4 h5 h6 x
  refine cq (ht [] s1 _ _ _ I hq) (λ fl s' hs=>?_) λ e s' hs=>hs.elim
  have fin:∀ {σ':St} {H':Hp} {v:V} {u:Value},Inv (aG6 P w K mg base N qual scope f (.ref c') h A outer s H) [] σ' H' s'->RelV v u->((∀ b,isC h b=true->H' b=none)->Q v (Put h H H'))->CE outer P w H s Q u s':=λ {σ' H' v u} J rv q=>by
   obtain⟨un,a2⟩:=bg5 B.hok h3 B.frf J.base J.hok
   have a0:∀ b,isC h b=true->H' b=none:=λ b y=>by
    obtain⟨o,v,z,_⟩:=h3.at y
    exact(show Un (frs outer) [] (ad7 h H) H' s.heap s'.heap from J.base).free b o (B.hok b _ z).1 (ad7.cell y) (by simp)
   exact⟨v,_,J.os,J.bare,un,a2,rv,q a0⟩
  cases fl with
  | ret u =>
   obtain⟨v,σ',H',J,rv,q⟩:=hs
   exact fin J rv q
  | next =>
   obtain⟨σ',H',J,q⟩:=hs
   exact fin (v:=V.non) (u:=Value.none) J rfl q
  | brk =>
   obtain⟨_,_,_,q⟩:=hs
   exact bB q
  | cont =>
   obtain⟨_,_,_,q⟩:=hs
   exact bB q
theorem bD1 {P:aL}{w:World}{K:ac}{mg:Str->Option Value}{base:Heap}{k:Nat}{f:Addr}{N ps fr:List Str}{qual:Str}{params:be}{body:Expr}{scope:Scope}{h:List (Str×Addr)}{cap:List V}{sp:Sp}
  (S:LamScope N ps fr scope) (len:∀ vs H Q E,sp vs H Q E->vs.length=ps.length) (a3:cap.length=fr.length)
  (Y:∀(pm:Value) (c':Addr) (C:Value) (us:List Value),us.length=ps.length->d6 (bP "<lambda>" qual params body scope h pm (.ref c') C) ⟨us,[]⟩=pure (ps.zip us))
  (G:∀(A:aV) (outer:List Env) (s:af) (H:Hp) (cd:Value) (vs:List V) (Q:VK),Room k (A.deeper (cO qual scope s.heap.objs.size f cd (aM (s.heap.objs.size+1) scope.names h)))->aD9 H f qual params body scope fr cap h->(∀ b o,K.lookup b=some o->H b=none)->sp vs H Q E0 ->
   ∃ t,PE (aG6 P w K mg base N qual scope f cd h A outer s H) body t/\t (vs.map some++cap.map some) (ad7 h H) λ v H'=>(∀ b,isC h b=true->H' b=none)->Q v (Put h H H')) :
  ClOk P w K mg base (k+1) (λ H=>aD9 H f qual params body scope fr cap h) f sp:=by
 refine⟨λ A outer s H us vs Q hr B hR r a0=>?_⟩
 have hl:=len _ _ _ _ a0
 obtain⟨pm,c',C,h1,h2,h3,h4,h5,h6⟩:=id hR
 have a2:s.heap.NoLimit:=B.mod.nolimit.keeps λ b o e=>(B.bs b o e).1
 refine PySem.W.kla_callFunE hr.depth (ax8 B.hok h1) rfl S.co S.gen rfl (aE0 B.hok h2) ?_
 rw[Y pm c' C us (by rw[<-r.length];exact hl)]
 refine aK (at4 S.kind (λ y hy=>?_) λ env he s1 x=>?_)
 ·rcases S.par y.1 (dk (show(y.1,y.2)∈ps.zip us from hy)).1 with q|q
  ·exact .inl q
  ·exact .inr ⟨q,ql q⟩
 ·subst he
  refine⟨a2.keeps x.toInCall.keep,PySem.W.kla_codeExpr ?_⟩
  obtain⟨t,ht,hq⟩:=G A outer s H (.ref c') vs Q (hr.deeper _) hR (λ b o e=>(B.bs b o (B.mod.kin b o e)).2) a0
  have I:=aX4 S hr.hd B hl a3 r h3 h4 h5 h6 x
  refine cq (ht [] s1 _ _ _ I hq) (λ u s' hs=>?_) λ e s' hs=>hs.elim
  obtain⟨v,H',J,rv,q⟩:=hs
  obtain⟨un,a1⟩:=bg5 B.hok h3 B.frf J.base J.hok
  have Z:∀ b,isC h b=true->H' b=none:=λ b y=>by
   obtain⟨o,v,z,_⟩:=h3.at y
   exact(show Un (frs outer) [] (ad7 h H) H' s.heap s'.heap from J.base).free b o (B.hok b _ z).1 (ad7.cell y) (by simp)
  exact⟨v,_,J.os,J.bare,un,a1,rv,q Z⟩
theorem Rp.sameT {φ:Nat->Addr}{H H':Hp}{s:kz}(r:Rp Γ φ H s)(e:bh5 H H')(st:∀ b,H b≠none->H' b≠none)(tb:TabsH Γ.T H'):Gr φ s H φ s H'/\Rp Γ φ H' s:=by
 have kp:Kp H H':=λ b o h f=>e b o (λ ps z=>by subst z;cases f) h
 have J:Gw φ s.length H φ H':=⟨λ _ _=>rfl,kp⟩
 refine⟨⟨J,aj _,λ i h1 Y=>absurd Y (by omega),λ i o Z e e'=>by rw[e]at e';cases e';rfl,st,λ b o h B _=>e b o B h⟩,r.inj,λ i o C=>?_,r.wf,tb⟩
 exact(r.obj i o C).mono J (r.wf i o C) λ m u G=>by
  obtain⟨u',y,_,B⟩:=(r.obj i o C).there m
  rw[G]at y;cases y
  exact e _ _ B G
theorem Cells.kp {H H':Hp}(h:Cells clos H)(k:Kp H H'):Cells clos H':=λ x c e=>by
 obtain⟨o,v,q,d⟩:=h x c e
 exact⟨o,v,k _ _ q rfl,d⟩
noncomputable def PVp (Γ : Gm) (cells : List (Str × Addr)) (N : List Str) (σ : St) (φ : Nat -> Addr) (H : Hp) (d : DV.D) (v : V) : Prop := RV Γ φ H d v \/ ∃ id cs, d = .clo id cs /\ ∃ f J, v = .ref f /\ Γ.lg id J /\ ai7 H f J (af6 cells J.scope.names []) /\
      cs.length = J.fr.length /\ (∀ x, J.scope.names.lookup x = some .free -> ∃ c, cells.lookup x = some c) /\
      ∃ cap, RVL Γ φ H cs cap /\ ∀(i : Nat) (x : Str) (v : V), J.fr[i]? = some x -> cap[i]? = some v -> J.scope.names.lookup x = some .free /\ ∃ j : Nat, N[j]? = some x /\ σ[j]? = some (some v)
inductive PVL (Γ:Gm)(cells:List (Str×Addr))(N:List Str)(σ:St)(φ:Nat->Addr)(H:Hp):List kA->List V->Prop where
 | nil:PVL Γ cells N σ φ H [] []
 | cons {d v l vs} (a:PVp Γ cells N σ φ H d v) (b:PVL Γ cells N σ φ H l vs):PVL Γ cells N σ φ H (d::l) (v::vs)
theorem PVp.mono {cells:List (Str×Addr)}{N:List Str}{σ:St}{φ φ':Nat->Addr}{s s':kz}{H H':Hp}(g:Gr φ s H φ' s' H'){d:kA}{v:V}(b:d.bnd s.length=true)(h:PVp Γ cells N σ φ H d v):PVp Γ cells N σ φ' H' d v:=by
 rcases h with h|⟨id,cs,rfl,h⟩
 ·exact .inl (RV.mono g _ _ b h)
 ·obtain⟨f,J,e,B,G,Y,y,cap,C,h7⟩:=h
  unfold kF at b
  exact .inr ⟨id,cs,rfl,f,J,e,B,G.kp g.w.kp,Y,y,cap,RVL.mono g cs cap b C,h7⟩
theorem PVp.caught {cells:List (Str×Addr)}{N:List Str}{kd:Str->Option bJ}{σ:St}{φ:Nat->Addr}{n:Nat}{C H2:Hp}(ca:Caught cells N kd σ C H2)(Z:∀ x c,cells.lookup x=some c->kd x=some .cell\/kd x=some .free){d:kA}{v:V}(b:d.bnd n=true)(h:PVp Γ cells N σ φ C d v):RV Γ φ H2 d v:=by
 have gw:Gw φ n C φ H2:=⟨λ _ _=>rfl,λ b o e _=>ca.same b o e⟩
 rcases h with h|⟨id,cs,rfl,h⟩
 ·exact RV.monoW gw _ _ b h
 ·obtain⟨f,J,e,h1,B,h4,G,cap,h6,h7⟩:=h
  unfold kF at b
  unfold RV
  have y:∀(i:Nat) (x:Str) (v:V),J.fr[i]?=some x->cap[i]?=some v->J.scope.names.lookup x=some .free/\(kd x=some .cell\/kd x=some .free)/\∃ j:Nat,N[j]?=some x/\σ[j]?=some (some v):=λ i x v e1 e2=>by
   obtain⟨q1,q2⟩:=h7 i x v e1 e2
   obtain⟨c,q3⟩:=G x q1
   exact⟨q1,Z x c q3,q2⟩
  have Y:CloAt H2 f J cap (af6 cells J.scope.names []):=by
   unfold CloAt
   unfold ai7 at B
   cases q:J.nm with
   | none=>rw[q]at B;exact br3 ca B G y
   | some p=>rw[q]at B;exact bl6 ca B G y
  exact⟨f,cap,J,_,e,h1,Y,by rw[h6.length,h4],RVL.monoW gw cs cap b h6⟩
theorem PVL.caught {cells:List (Str×Addr)}{N:List Str}{kd:Str->Option bJ}{σ:St}{φ:Nat->Addr}{n:Nat}{B H2:Hp}(C:Caught cells N kd σ B H2)(y:∀ x c,cells.lookup x=some c->kd x=some .cell\/kd x=some .free){l:List kA}{vs:List V}(h:PVL Γ cells N σ φ B l vs)(b:kB n l=true):RVL Γ φ H2 l vs:=by
 induction h with
 | nil=>exact .nil
 | cons a _ ih =>
  unfold kB at b
  rw[ao]at b
  exact .cons (a.caught C y b.1) (ih b.2)
end
variable {Γ:Gm} {X:Cx}
def TEv (Γ:Gm)(m:kC->kz->kD kA):TE:=λ σ H Q=>∃ φ ρ s d s',RE Γ φ H s.length ρ σ/\Rp Γ φ H s/\m ρ s=.ok d s'/\ag1 Γ φ s H d s' Q
def bN5 (Γ:Gm)(φ:Nat->Addr)(s:kz)(H:Hp)(l:List kA)(s':kz)(Q:List V->Hp->Prop):Prop :=
 ∀ vs φ' H',Gr φ s H φ' s' H'->s.length<=s'.length->kB s'.length l=true->RVL Γ φ' H' l vs->Rp Γ φ' H' s'->Q vs H'
def TAv (Γ:Gm)(m:kC->kz->kD (List kA)):TA:=λ σ H Q=>∃ φ ρ s l s',RE Γ φ H s.length ρ σ/\Rp Γ φ H s/\m ρ s=.ok l s'/\bN5 Γ φ s H l s' Q
def aQ1 (Γ:Gm)(φ:Nat->Addr)(s:kz)(H:Hp)(b:Bool)(s':kz)(Q:Bool->Hp->Prop):Prop :=
 ∀ φ' H',Gr φ s H φ' s' H'->s.length<=s'.length->Rp Γ φ' H' s'->Q b H'
def TTv (Γ:Gm)(m:kC->kz->kD kA):TT:=λ σ H Q=>∃ φ ρ s b s',RE Γ φ H s.length ρ σ/\Rp Γ φ H s/\m ρ s=.ok (.bl b) s'/\aQ1 Γ φ s H b s' Q
theorem PE.imp {e:Expr}{t t':TE}(h:PE X e t)(i:∀ σ H Q,t' σ H Q->t σ H Q):PE X e t':=λ y s σ H Q I q=>h y s σ H Q I (i σ H Q q)
theorem PT.imp {e:Expr}{t t':TT}(h:PT X e t)(i:∀ σ H Q,t' σ H Q->t σ H Q):PT X e t':=λ y s σ H Q I q=>h y s σ H Q I (i σ H Q q)
theorem PA.imp {e:List Expr}{t t':TA}(h:PA X e t)(i:∀ σ H Q,t' σ H Q->t σ H Q):PA X e t':=λ pos y s σ H Q I q=>h pos y s σ H Q I (i σ H Q q)
theorem aQ1.trans {φ φ1:Nat->Addr}{s s1 s':kz}{H y:Hp}{b:Bool}{Q:Bool->Hp->Prop}(h:aQ1 Γ φ s H b s' Q)(g:Gr φ s H φ1 s1 y)(l:s.length<=s1.length):aQ1 Γ φ1 s1 y b s' Q :=
 λ φ' H' g' B p=>h φ' H' (g.trans g' l) (aq l B) p
theorem bN4 (i:Nat){σ:St}{H:Hp}{Q:VK}(h:TEv Γ (λ ρ s=>lN ρ i s) σ H Q):bt6 i σ H Q:=by
 obtain⟨φ,ρ,s,d,s',E,R,y,q⟩:=h
 simp only[lN]at y
 split at y
 ·rename_i d' e
  cases y
  obtain⟨b,v,e1,e2⟩:=E.val i _ e
  exact⟨v,e1,q.here R b e2⟩
 ·exact fb y
theorem aB6 {c:kA}{v:V}(hb:∀ n,c.bnd n=true)(hv:∀ φ H,RV Γ φ H c v){σ:St}{H:Hp}{Q:VK}(h:TEv Γ (λ ρ s=>.ok c s) σ H Q):tC v σ H Q:=by
 obtain⟨φ,ρ,s,d,s',E,R,y,q⟩:=h
 cases y
 exact q.here R (hb _) (hv _ _)
theorem bo4 {Y C:kC->kz->kD kA}{f:kA->kA->kz->kD kA}{σ:St}{H:Hp}{Q:VK}(h:TEv Γ (λ ρ s=>(Y ρ s).bind λ x s=>(C ρ s).bind λ y s=>f x y s) σ H Q):tOp (rOp Γ f) (TEv Γ Y) (TEv Γ C) σ H Q:=by
 obtain⟨φ,ρ,s,d,s',E,R,B,q⟩:=h
 obtain⟨x,s1,e1,B⟩:=aa0 B
 obtain⟨y,s2,e2,B⟩:=aa0 B
 refine⟨φ,ρ,s,x,s1,E,R,e1,λ v1 φ1 H1 g1 l1 b1 r1 R1=>?_⟩
 refine⟨φ1,ρ,s1,y,s2,E.mono g1 l1,R1,e2,λ v2 φ2 H2 J G b2 Z R2=>?_⟩
 exact⟨φ2,s2,x,y,d,s',R2,RV.mono J x v1 b1 r1,Z,zy G x b1,b2,B,q.trans (g1.trans J l1) (aq l1 G)⟩
theorem ck4 {m:kC->kz->kD kA}{f:kA->kz->kD kA}{r:V->Hp->VK->Prop}{σ:St}{H:Hp}{Q:VK}(h:TEv Γ (λ ρ s=>(m ρ s).bind λ x s=>f x s) σ H Q)
  (G:∀ φ s x d s' v H',Rp Γ φ H' s->RV Γ φ H' x v->x.bnd s.length=true->f x s=.ok d s'->ag1 Γ φ s H' d s' Q->r v H' Q):tUn r (TEv Γ m) σ H Q:=by
 obtain⟨φ,ρ,s,d,s',E,R,y,q⟩:=h
 obtain⟨x,s1,e1,y⟩:=aa0 y
 exact⟨φ,ρ,s,x,s1,E,R,e1,λ C φ1 B g1 l1 b1 r1 R1=>G φ1 s1 x d s' C B R1 r1 b1 y (q.trans g1 l1)⟩
theorem zZ {α:Type}{r:kD kA}{f:Bool->kz->kD α}{a:α}{t:kz}(h:kK r f=.ok a t):∃ b s,r=.ok (.bl b) s/\f b s=.ok a t:=by
 unfold kK at h
 obtain⟨d,s,e,h⟩:=aa0 h
 cases d with
 | bl b=>exact⟨b,s,e,h⟩
 | _=>exact fb h
theorem aM7 {m:kC->kz->kD kA}{σ:St}{H:Hp}{Q:Bool->Hp->Prop}(h:TTv Γ m σ H Q):tB (TEv Γ m) σ H Q:=by
 obtain⟨φ,ρ,s,b,s',E,R,y,q⟩:=h
 refine⟨φ,ρ,s,.bl b,s',E,R,y,λ v φ' H' g l C r B=>?_⟩
 exact⟨b,r.blE,q φ' H' g l B⟩
theorem bb8 {m:kC->kz->kD kA}{σ:St}{H:Hp}{Q:Bool->Hp->Prop}(h:TTv Γ m σ H Q):bC4 (TEv Γ m) σ H Q:=aM7 h
theorem bT4 {m:kC->kz->kD kA}{σ:St}{H:Hp}{Q:Bool->Hp->Prop}(h:TTv Γ (λ ρ s=>kK (m ρ s) λ b s=>.ok (.bl (!b)) s) σ H Q):cl6 (TTv Γ m) σ H Q:=by
 obtain⟨φ,ρ,s,b,s',E,R,y,q⟩:=h
 obtain⟨c,s1,e1,y⟩:=zZ y
 cases y
 exact⟨φ,ρ,s,c,_,E,R,e1,q⟩
theorem bu2 {C B:kC->kz->kD kA}{σ:St}{H:Hp}{Q:Bool->Hp->Prop}(h:TTv Γ (λ ρ s=>kK (C ρ s) λ c s=>if c then kK (B ρ s) λ c s=>.ok (.bl c) s else .ok (.bl false) s) σ H Q):cl2 (TTv Γ C) (TTv Γ B) σ H Q:=by
 obtain⟨φ,ρ,s,b,s',E,R,y,q⟩:=h
 obtain⟨c,s1,e1,y⟩:=zZ y
 refine⟨φ,ρ,s,c,s1,E,R,e1,λ φ1 G g1 l1 R1=>?_⟩
 cases c with
 | true =>
  rw[if_pos rfl]at y ⊢
  obtain⟨J,s2,e2,y⟩:=zZ y
  cases y
  exact⟨φ1,ρ,s1,_,_,E.mono g1 l1,R1,e2,q.trans g1 l1⟩
 | false =>
  rw[if_neg aR]at y ⊢
  cases y
  exact q φ1 G g1 l1 R1
theorem bO6 {C B:kC->kz->kD kA}{σ:St}{H:Hp}{Q:Bool->Hp->Prop}(h:TTv Γ (λ ρ s=>kK (C ρ s) λ c s=>if c then .ok (.bl true) s else kK (B ρ s) λ c s=>.ok (.bl c) s) σ H Q):tOr (TTv Γ C) (TTv Γ B) σ H Q:=by
 obtain⟨φ,ρ,s,b,s',E,R,y,q⟩:=h
 obtain⟨c,s1,e1,y⟩:=zZ y
 refine⟨φ,ρ,s,c,s1,E,R,e1,λ φ1 G g1 l1 R1=>?_⟩
 cases c with
 | true =>
  rw[if_pos rfl]at y ⊢
  cases y
  exact q φ1 G g1 l1 R1
 | false =>
  rw[if_neg aR]at y ⊢
  obtain⟨J,s2,e2,y⟩:=zZ y
  cases y
  exact⟨φ1,ρ,s1,_,_,E.mono g1 l1,R1,e2,q.trans g1 l1⟩
theorem cb0 {m:kC->kz->kD kA}{σ:St}{H:Hp}{Q:VK}(h:TEv Γ (λ ρ s=>kK (m ρ s) λ b s=>.ok (.bl (!b)) s) σ H Q):cb1 (TEv Γ m) σ H Q:=by
 obtain⟨φ,ρ,s,d,s',E,R,y,q⟩:=h
 obtain⟨c,s1,e1,y⟩:=zZ y
 cases y
 exact⟨φ,ρ,s,.bl c,_,E,R,e1,λ v φ1 B g l b r R1=>⟨c,r.blE,q _ φ1 B g l rfl RV.blI R1⟩⟩
theorem bu5 {C B:kC->kz->kD kA}{σ:St}{H:Hp}{Q:VK}(h:TEv Γ (λ ρ s=>kK (C ρ s) λ c s=>if c then kK (B ρ s) λ c s=>.ok (.bl c) s else .ok (.bl false) s) σ H Q):bX8 (TEv Γ C) (TEv Γ B) σ H Q:=by
 obtain⟨φ,ρ,s,d,s',E,R,y,q⟩:=h
 obtain⟨c,s1,e1,y⟩:=zZ y
 refine⟨φ,ρ,s,.bl c,s1,E,R,e1,λ v φ1 G g1 l1 b1 r1 R1=>⟨c,r1.blE,?_⟩⟩
 cases c with
 | true =>
  rw[if_pos rfl]at y ⊢
  obtain⟨c,s2,e2,y⟩:=zZ y
  cases y
  exact⟨φ1,ρ,s1,.bl c,_,E.mono g1 l1,R1,e2,q.trans g1 l1⟩
 | false =>
  rw[if_neg aR]at y ⊢
  cases y
  exact q _ φ1 G g1 l1 rfl RV.blI R1
theorem bR5 {C B:kC->kz->kD kA}{σ:St}{H:Hp}{Q:VK}(h:TEv Γ (λ ρ s=>kK (C ρ s) λ c s=>if c then .ok (.bl true) s else kK (B ρ s) λ c s=>.ok (.bl c) s) σ H Q):ck9 (TEv Γ C) (TEv Γ B) σ H Q:=by
 obtain⟨φ,ρ,s,d,s',E,R,y,q⟩:=h
 obtain⟨c,s1,e1,y⟩:=zZ y
 refine⟨φ,ρ,s,.bl c,s1,E,R,e1,λ v φ1 G g1 l1 b1 r1 R1=>⟨c,r1.blE,?_⟩⟩
 cases c with
 | true =>
  rw[if_pos rfl]at y ⊢
  cases y
  exact q _ φ1 G g1 l1 rfl RV.blI R1
 | false =>
  rw[if_neg aR]at y ⊢
  obtain⟨c,s2,e2,y⟩:=zZ y
  cases y
  exact⟨φ1,ρ,s1,.bl c,_,E.mono g1 l1,R1,e2,q.trans g1 l1⟩
theorem bW9 {mc C B:kC->kz->kD kA}{σ:St}{H:Hp}{Q:VK}(h:TEv Γ (λ ρ s=>kK (mc ρ s) λ k s=>if k then C ρ s else B ρ s) σ H Q):tIf (TTv Γ mc) (TEv Γ C) (TEv Γ B) σ H Q:=by
 obtain⟨φ,ρ,s,d,s',E,R,y,q⟩:=h
 obtain⟨c,s1,e1,y⟩:=zZ y
 refine⟨φ,ρ,s,c,s1,E,R,e1,λ φ1 G g1 l1 R1=>?_⟩
 cases c with
 | true =>
  rw[if_pos rfl]at y ⊢
  exact⟨φ1,ρ,s1,d,s',E.mono g1 l1,R1,y,q.trans g1 l1⟩
 | false =>
  rw[if_neg aR]at y ⊢
  exact⟨φ1,ρ,s1,d,s',E.mono g1 l1,R1,y,q.trans g1 l1⟩
theorem aL1 {ma mb mc:kC->kz->kD kA}{f g:kA->kA->kz->kD kA}{σ:St}{H:Hp}{Q:VK}(h:TEv Γ (λ ρ s=>(ma ρ s).bind λ x s=>(mb ρ s).bind λ y s=>kK (f x y s) λ k s=>if k then(mc ρ s).bind λ z s=>g y z s else .ok (.bl false) s) σ H Q) :
  bi4 (rOp Γ f) (rOp Γ g) (TEv Γ ma) (TEv Γ mb) (TEv Γ mc) σ H Q:=by
 obtain⟨φ,ρ,s,d,s',E,R,B,q⟩:=h
 obtain⟨x,s1,e1,B⟩:=aa0 B
 obtain⟨y,s2,e2,B⟩:=aa0 B
 obtain⟨c,s3,e3,B⟩:=zZ B
 refine⟨φ,ρ,s,x,s1,E,R,e1,λ v1 φ1 H1 g1 l1 b1 r1 R1=>?_⟩
 refine⟨φ1,ρ,s1,y,s2,E.mono g1 l1,R1,e2,λ v2 φ2 H2 g2 C J Z R2=>?_⟩
 refine⟨φ2,s2,x,y,.bl c,s3,R2,RV.mono g2 x v1 b1 r1,Z,zy C x b1,J,e3,λ v3 φ3 H3 g3 Y b3 r3 R3=>⟨c,r3.blE,?_⟩⟩
 have G:=(g1.trans g2 l1).trans g3 (aq l1 C)
 have L:=aq (aq l1 C) Y
 cases c with
 | true =>
  rw[if_pos rfl]at B ⊢
  obtain⟨z,s4,e4,B⟩:=aa0 B
  refine⟨φ3,ρ,s3,z,s4,E.mono G L,R3,e4,λ v4 φ4 H4 g4 l4 b4 r4 R4=>?_⟩
  exact⟨φ4,s4,y,z,d,s',R4,RV.mono (g3.trans g4 Y) y v2 J Z,r4,zy (aq Y l4) y J,b4,B,q.trans (G.trans g4 L) (aq L l4)⟩
 | false =>
  rw[if_neg aR]at B ⊢
  cases B
  exact q _ φ3 H3 G L rfl RV.blI R3
theorem aN1 {σ:St}{H:Hp}{Q:List V->Hp->Prop}(h:TAv Γ (λ ρ s=>.ok [] s) σ H Q):bj0 σ H Q:=by
 obtain⟨φ,ρ,s,d,s',E,R,y,q⟩:=h
 cases y
 exact q [] φ H (Gr.refl _ _ _) (aj _) rfl .nil R
theorem bF4 {m:kC->kz->kD kA}{C:kC->kz->kD (List kA)}{σ:St}{H:Hp}{Q:List V->Hp->Prop}(h:TAv Γ (λ ρ s=>(m ρ s).bind λ d s=>(C ρ s).bind λ l s=>.ok (d::l) s) σ H Q):ap7 (TEv Γ m) (TAv Γ C) σ H Q:=by
 obtain⟨φ,ρ,s,l,s',E,R,B,q⟩:=h
 obtain⟨x,s1,e1,B⟩:=aa0 B
 obtain⟨y,s2,e2,B⟩:=aa0 B
 cases B
 refine⟨φ,ρ,s,x,s1,E,R,e1,λ Y φ1 H1 g1 l1 b1 r1 R1=>?_⟩
 refine⟨φ1,ρ,s1,y,_,E.mono g1 l1,R1,e2,λ v2 φ2 H2 J G b2 Z R2=>?_⟩
 refine q (Y::v2) φ2 H2 (g1.trans J l1) (aq l1 G) ?_ (.cons (RV.mono J x Y b1 r1) Z) R2
 unfold kB
 rw[zy G x b1,b2];rfl
theorem aG4 {B:kC->kz->kD (List kA)}{f:List kA->kz->kD kA}{σ:St}{H:Hp}{Q:VK}(h:TEv Γ (λ ρ s=>(B ρ s).bind λ l s=>f l s) σ H Q):tCB (rCl Γ f) (TAv Γ B) σ H Q:=by
 obtain⟨φ,ρ,s,d,s',E,R,y,q⟩:=h
 obtain⟨l,s1,e1,y⟩:=aa0 y
 exact⟨φ,ρ,s,l,s1,E,R,e1,λ vs φ1 C g1 l1 b1 r1 R1=>⟨φ1,s1,l,d,s',R1,r1,b1,y,q.trans g1 l1⟩⟩
variable {Γ:Gm} {X:Cx}
def jt (Γ:Gm)(J:It)(φ0:Nat->Addr)(H0:Hp)(s0:kz)(q:ln):Prop :=
 ∀ φ H s,Gr φ0 s0 H0 φ s H->s0.length<=s.length->Rp Γ φ H s->kS s0 s q.src=true->∀ i:Nat,
  (i<q.its.length->J.go i H/\∀ x H',J.yld i H x H'->ah3 H H'/\∀ d,q.its[i]?=some d->RV Γ φ H' d x)/\(q.its.length<=i->J.stop i H)
def TIv (Γ:Gm)(m:kC->kz->kD ln):TI:=λ σ H R=>∃ φ ρ s q s',RE Γ φ H s.length ρ σ/\Rp Γ φ H s/\m ρ s=.ok q s' /\
 ∀ J φ' H',Gr φ s H φ' s' H'->s.length<=s'.length->kB s'.length q.its=true->Rp Γ φ' H' s'->jt Γ J φ' H' s' q->R J H'
theorem PI.imp {tg e:Expr}{t t':TI}(h:PI X tg e t)(i:∀ σ H R,t' σ H R->t σ H R):PI X tg e t':=λ y s σ H R I q=>h y s σ H R I (i σ H R q)
theorem PI.or {tg e:Expr}{t t':TI}(h:PI X tg e t)(h':PI X tg e t'):PI X tg e (λ σ H R=>t σ H R\/t' σ H R):=λ y s σ H R I q=>q.elim (h y s σ H R I) (h' y s σ H R I)
theorem aL5 {φ0:Nat->Addr}{H0:Hp}{s0:kz}{a:Addr}{C:List V}{l:List kA}(h:SqT Γ.K H0 a C)(hl:RVL Γ φ0 H0 l C)(hb:kB s0.length l=true):jt Γ (Itt Γ.K a) φ0 H0 s0 ⟨l,[]⟩:=by
 intro φ H s g _ R _ i
 have h':=g.w.kp.sqT h
 have B:=RVL.mono g l C hb hl
 refine⟨λ hlt=>⟨⟨C,C[i]'(by rw[B.length];exact hlt),h',ai _⟩,λ x H' y=>?_⟩,λ G=>⟨C,h',by rw[B.length];exact G⟩⟩
 obtain⟨e,y⟩:=y
 subst e
 refine⟨ah3.refl _,λ d hd=>?_⟩
 obtain⟨v,e1,e2⟩:=B.get hd
 rw[y C h']at e1;cases e1
 exact e2
theorem bg1 {φ0:Nat->Addr}{H0:Hp}{s0:kz}{a:Addr}{C:List V}{l:List kA}(h:SqF Γ.K H0 a C)(hl:RVL Γ φ0 H0 l C)(hb:kB s0.length l=true):jt Γ (Itl Γ.K a) φ0 H0 s0 ⟨l,[]⟩:=by
 intro φ H s g _ R _ i
 have h':=h.2 _ g.w.kp
 have B:=RVL.mono g l C hb hl
 refine⟨λ hlt=>⟨⟨C,C[i]'(by rw[B.length];exact hlt),h',ai _⟩,λ x H' y=>?_⟩,λ G=>⟨C,h',by rw[B.length];exact G⟩⟩
 obtain⟨e,y⟩:=y
 subst e
 refine⟨ah3.refl _,λ d hd=>?_⟩
 obtain⟨v,e1,e2⟩:=B.get hd
 rw[y C h']at e1;cases e1
 exact e2
theorem aQ3 {φ0:Nat->Addr}{H0:Hp}{s0:kz}{r:Nat}{l:List kA}(Y:s0[r]?=some (.lst l)):jt Γ (Itl Γ.K (φ0 r)) φ0 H0 s0 ⟨l,[r]⟩:=by
 intro φ H s g _ R G i
 have B:r<s0.length:=(ae.mp Y).1
 have hs:s[r]?=some (.lst l):=by
  unfold kS at G
  simp only[fK,kh,d4,decide_eq_true_eq]at G
  rw[G];exact Y
 obtain⟨C,e,h⟩:=R.addr hs
 rw[g.w.map r B]at e
 have h':SqL Γ.K H (φ0 r) C:=SqL.of e
 refine⟨λ hlt=>⟨⟨C,C[i]'(by rw[h.length];exact hlt),h',ai _⟩,λ x H' y=>?_⟩,λ J=>⟨C,h',by rw[h.length];exact J⟩⟩
 obtain⟨e,y⟩:=y
 subst e
 refine⟨ah3.refl _,λ d hd=>?_⟩
 obtain⟨v,e1,e2⟩:=h.get hd
 rw[y C h']at e1;cases e1
 exact e2
theorem aM4 {φ0:Nat->Addr}{H0:Hp}{s0:kz}{l:List Nat}:jt Γ (Its ⟨l.toArray⟩) φ0 H0 s0 ⟨l.map λ c=>.str [c],[]⟩:=by
 intro φ H s g _ R _ i
 have hsz:(⟨l.toArray⟩:Str).cps.size=l.length:=by simp
 refine⟨λ hlt=>?_,λ h=>?_⟩
 ·simp only[aG]at hlt
  refine⟨show i<(⟨l.toArray⟩:Str).cps.size by rw[hsz];exact hlt,λ x H' y=>?_⟩
  obtain⟨e,c,hc,rfl⟩:=y
  subst e
  refine⟨ah3.refl _,λ d hd=>?_⟩
  have B:l[i]?=some c:=by simpa using hc
  rw[aF,B]at hd
  cases hd
  exact RV.strI (by simp;decide)
 ·simp only[aG]at h
  show(⟨l.toArray⟩:Str).cps.size<=i
  rw[hsz];exact h
theorem bn3 {φ0:Nat->Addr}{H0:Hp}{s0:kz}{a b:Int}:jt Γ (Itr a (b - a).toNat) φ0 H0 s0 ⟨lu a b,[]⟩:=by
 intro φ H s g _ R _ i
 have hn:(lu a b).length=(b - a).toNat:=by simp[lu]
 refine⟨λ hlt=>⟨show i<(b - a).toNat by rw[<-hn];exact hlt,λ x H' y=>?_⟩,λ h=>show(b - a).toNat<=i by rw[<-hn];exact h⟩
 obtain⟨e,rfl⟩:=y
 subst e
 refine⟨ah3.refl _,λ d hd=>?_⟩
 simp only[lu]at hd hlt
 rw[aF,bI (by simpa using hlt)]at hd
 cases hd
 exact RV.intI
theorem bJ9 {m:kC->kz->kD kA}{σ:St}{H:Hp}{R:It->Hp->Prop}(h:TIv Γ (λ ρ s=>(m ρ s).bind λ x s=>match x with|.int i=>if -lX<=i/\i<lX then .ok ⟨lu 0 i,[]⟩ s else .bad|_=>.bad) σ H R) :
  bT9 (ap7 (TEv Γ m) bj0) σ H R:=by
 obtain⟨φ,ρ,s,q,s',E,P,y,k⟩:=h
 obtain⟨x,s1,e1,y⟩:=aa0 y
 refine⟨φ,ρ,s,x,s1,E,P,e1,λ v φ1 C g l b r G=>?_⟩
 cases x with
 | int i =>
  simp only at y
  split at y
  ·rename_i B
   cases y
   have hw:lX=2^62:=by decide
   rw[hw]at B
   refine⟨i,by rw[r.intE],B.1,B.2,k _ φ1 C g l ?_ G ?_⟩
   ·refine ab6.mpr λ d hd=>?_
    simp only[lu,ay]at hd
    obtain⟨_,_,rfl⟩:=hd
    rfl
   ·have:=bn3 (Γ:=Γ) (φ0:=φ1) (H0:=C) (s0:=s') (a:=0) (b:=i)
    rwa [ki]at this
  ·exact fb y
 | _=>exact fb y
theorem bN1 {m:kC->kz->kD kA}{σ:St}{H:Hp}{R:It->Hp->Prop}(h:TIv Γ (λ ρ s=>(m ρ s).bind λ d s=>DV.aK5 d s) σ H R) :
  ce3 Γ.K (TEv Γ m) σ H R\/bK7 Γ.K (TEv Γ m) σ H R\/cl8 (TEv Γ m) σ H R:=by
 obtain⟨φ,ρ,s,q,s',E,P,y,k⟩:=h
 obtain⟨x,s1,e1,y⟩:=aa0 y
 unfold DV.aK5 at y
 cases x with
 | tup l =>
  cases y
  refine .inl ⟨φ,ρ,s,_,_,E,P,e1,λ v φ1 C g l b r B=>?_⟩
  obtain⟨a,G,rfl,Z,d1⟩:=r.tupE
  unfold kF at b
  exact⟨a,rfl,⟨G,Z⟩,k _ φ1 C g l b B (aL5 Z d1 b)⟩
 | str l =>
  cases y
  refine .inr (.inr ⟨φ,ρ,s,_,_,E,P,e1,λ v φ1 C g J b r B=>?_⟩)
  refine⟨_,r.strE,k _ φ1 C g J ?_ B aM4⟩
  refine ab6.mpr λ d hd=>?_
  simp only[ay]at hd
  obtain⟨_,_,rfl⟩:=hd
  rfl
 | ref r =>
  simp only at y
  cases hs:s1[r]? with
  | none=>rw[hs]at y;cases y
  | some o =>
   rw[hs]at y
   cases o with
   | lst l =>
    cases y
    refine .inr (.inl ⟨φ,ρ,s,_,_,E,P,e1,λ v φ1 C g J b Y B=>?_⟩)
    have e:=Y.refE;subst e
    obtain⟨G,e2,d1⟩:=B.addr hs
    have wf:=B.wf _ _ hs
    unfold kG at wf
    exact⟨φ1 r,rfl,⟨G,SqL.of e2⟩,k _ φ1 C g J wf B (aQ3 hs)⟩
   | ro l =>
    cases y
    refine .inr (.inl ⟨φ,ρ,s,_,_,E,P,e1,λ v φ1 C g J b Y B=>?_⟩)
    have e:=Y.refE;subst e
    obtain⟨G,e2,d1⟩:=B.obj _ _ hs
    have wf:=B.wf _ _ hs
    unfold kG at wf
    exact⟨φ1 r,rfl,⟨G,e2.1⟩,k _ φ1 C g J wf B (bg1 e2 d1 wf)⟩
   | dic l=>exact fb y
   | ins c l=>exact fb y
 | _=>exact fb y
theorem aX7 {d:kA}{s s':kz}{q:ln}(h:lO d s=.ok q s'):s'=s/\∀ φ H v,RV Γ φ H d v->Rp Γ φ H s->d.bnd s.length=true ->
  ∃ J,Sr Γ.K H v J/\jt Γ J φ H s q/\kB s.length q.its=true:=by
 unfold lO at h
 cases d with
 | tup l =>
  cases h
  refine⟨rfl,λ φ H v r P b=>?_⟩
  obtain⟨a,y,rfl,C,d1⟩:=r.tupE
  unfold kF at b
  exact⟨_,.inr (.inl ⟨a,rfl,⟨y,C⟩,rfl⟩),aL5 C d1 b,b⟩
 | str l =>
  cases h
  refine⟨rfl,λ φ H v r P b=>⟨_,.inr (.inr ⟨_,r.strE,rfl⟩),aM4,?_⟩⟩
  refine ab6.mpr λ d hd=>?_
  simp only[ay]at hd
  obtain⟨_,_,rfl⟩:=hd
  rfl
 | ref r =>
  simp only at h
  cases hs:s[r]? with
  | none=>rw[hs]at h;cases h
  | some o =>
   rw[hs]at h
   cases o with
   | lst l =>
    cases h
    refine⟨rfl,λ φ H v B P b=>?_⟩
    have e:=B.refE;subst e
    obtain⟨y,e2,d1⟩:=P.addr hs
    have wf:=P.wf _ _ hs
    unfold kG at wf
    exact⟨_,.inl ⟨_,rfl,⟨y,SqL.of e2⟩,rfl⟩,aQ3 hs,wf⟩
   | ro l =>
    cases h
    refine⟨rfl,λ φ H v B P b=>?_⟩
    have e:=B.refE;subst e
    obtain⟨y,e2,d1⟩:=P.obj _ _ hs
    have wf:=P.wf _ _ hs
    unfold kG at wf
    exact⟨_,.inl ⟨_,rfl,⟨y,e2.1⟩,rfl⟩,bg1 e2 d1 wf,wf⟩
   | dic l=>exact fb h
   | ins c l=>exact fb h
 | _=>exact fb h
theorem bG4 {s0 s:kz}{a b:List Nat}:kS s0 s (a++b)=(kS s0 s a&&kS s0 s b):=by unfold kS;exact i6
theorem av3:∀(l m:List kA) (i:Nat),(kO l m)[i]?=(match l[i]?,m[i]? with|some a,some b=>some (.tup [a,b])|_,_=>none)
 | [],m,i=>by rw[kO]<;>simp
 | a::l,[],i=>by
  rw[kO]<;>simp
 | a::l,b::m,0=>by rw[kO];rfl
 | a::l,b::m,i+1=>by
  rw[kO]
  exact av3 l m i
theorem ay7:∀(l m:List kA),(kO l m).length=min l.length m.length
 | [],m=>by rw[kO]<;>simp
 | a::l,[]=>by rw[kO]<;>simp
 | a::l,b::m=>by rw[kO];simp[ay7 l m]
theorem bo9 {φ0:Nat->Addr}{H0:Hp}{s0:kz}{J1 Y:It}{p q:ln}(w1:jt Γ J1 φ0 H0 s0 p)(w2:jt Γ Y φ0 H0 s0 q)(b1:kB s0.length p.its=true)(b2:kB s0.length q.its=true) :
  jt Γ (Jz J1 Y) φ0 H0 s0 ⟨kO p.its q.its,p.src++q.src⟩:=by
 intro φ H s g hl R G i
 rw[bG4,ao]at G
 obtain⟨u1,u2⟩:=w1 φ H s g hl R G.1 i
 obtain⟨v1,v2⟩:=w2 φ H s g hl R G.2 i
 refine⟨λ hlt=>?_,λ J=>?_⟩
 ·simp only[ay7]at hlt
  have h:i<p.its.length:=ak hlt (Nat.min_le_left ..)
  have C:i<q.its.length:=ak hlt (Nat.min_le_right ..)
  obtain⟨g1,y1⟩:=u1 h
  obtain⟨g2,y2⟩:=v1 C
  refine⟨⟨g1,g2⟩,λ x H' y=>?_⟩
  obtain⟨a,x1,x2,e1,e2,hn,rfl,rfl⟩:=y
  have sm:ah3 H (upd H a (.tup [x1,x2])):=(ah3.refl H).new hn
  refine⟨sm,λ d hd=>?_⟩
  have B:(kO p.its q.its)[i]?=some d:=hd
  rw[av3,ai h,ai C]at B
  cases B
  obtain⟨Z,R'⟩:=R.same sm
  have c1:=ab6.mp b1 _ (dW h)
  have c2:=ab6.mp b2 _ (dW C)
  exact RV.tupI (SqT.of zr) (RVL.cons (RV.mono Z _ _ (zy hl _ c1) ((y1 _ _ e1).2 _ (ai h))) (RVL.cons (RV.mono Z _ _ (zy hl _ c2) ((y2 _ _ e2).2 _ (ai C))) RVL.nil))
 ·simp only[ay7]at J
  by_cases h:p.its.length<=i
  ·exact .inl (u2 h)
  ·refine .inr ⟨(u1 (by omega)).1,v2 (by omega)⟩
theorem bx5 {n:Nat}{l m:List kA}(a:kB n l=true)(b:kB n m=true):kB n (kO l m)=true:=by
 refine ab6.mpr λ d hd=>?_
 obtain⟨i,h⟩:=ef hd
 rw[av3]at h
 split at h
 ·rename_i x y e1 e2
  cases h
  unfold kF
  exact ab6.mpr λ d hd=>by
   simp only[au,aP,or_false]at hd
   rcases hd with rfl|rfl
   ·exact ab6.mp a _ (aW e1)
   ·exact ab6.mp b _ (aW e2)
 ·cases h
theorem bT3 {m1 G:kC->kz->kD kA}{σ:St}{H:Hp}{R:It->Hp->Prop}(h:TIv Γ (λ ρ s=>(m1 ρ s).bind λ x s=>(G ρ s).bind λ y s=>(lO x s).bind λ p s=>(lO y s).bind λ q s=>.ok ⟨kO p.its q.its,p.src++q.src⟩ s) σ H R) :
  cm3 Γ.K (ap7 (TEv Γ m1) (ap7 (TEv Γ G) bj0)) σ H R:=by
 obtain⟨φ,ρ,s,q,s',E,P,B,k⟩:=h
 obtain⟨x,s1,e1,B⟩:=aa0 B
 obtain⟨y,s2,e2,B⟩:=aa0 B
 obtain⟨p1,s3,e3,B⟩:=aa0 B
 obtain⟨p2,s4,e4,B⟩:=aa0 B
 cases B
 obtain⟨rfl,d1⟩:=aX7 (Γ:=Γ) e3
 obtain⟨rfl,d2⟩:=aX7 (Γ:=Γ) e4
 refine⟨φ,ρ,s,x,s1,E,P,e1,λ v φ1 H1 g l b r P1=>?_⟩
 refine⟨φ1,ρ,s1,y,_,E.mono g l,P1,e2,λ v2 φ2 H2 Z J b2 r2 C=>?_⟩
 obtain⟨J1,S1,w1,Y⟩:=d1 φ2 H2 v (RV.mono Z _ _ b r) C (zy J _ b)
 obtain⟨J2,S2,w2,c2⟩:=d2 φ2 H2 v2 r2 C b2
 exact⟨v,v2,J1,J2,rfl,S1,S2,k _ φ2 H2 (g.trans Z l) (aq l J) (bx5 Y c2) C (bo9 w1 w2 Y c2)⟩
variable {Γ:Gm} {X:Cx}
noncomputable def cc1:List Nat->TGs
 | []=>cm7
 | i::is=>bR1 (aF3 i) (cc1 is)
noncomputable def gOf (K:ac):la->TG
 | .one i=>aF3 i
 | .tup is=>cf8 K is.length (cc1 is)
theorem be8 {φ:Nat->Addr}{H:Hp}{n:Nat}{ρ ρ':kC}{σ:St}{i:Nat}{d:kA}{v:V}(E:RE Γ φ H n ρ σ)(r:RV Γ φ H d v)(b:d.bnd n=true)(h:k7 ρ i d=some ρ'):RE Γ φ H n ρ' (σ.set i (some v)):=by
 unfold k7 at h
 split at h
 ·rename_i y
  cases h
  refine⟨by rw[bA,bA];exact E.len,λ j e hj=>?_⟩
  by_cases hij:j=i
  ·subst hij
   rw[bp y]at hj
   cases hj
   exact⟨b,v,by rw[bp (by rw[<-E.len];exact y)],r⟩
  ·rw[bz (bS hij)]at hj
   obtain⟨B,w,C,h3⟩:=E.val j e hj
   exact⟨B,w,by rw[bz (bS hij)];exact C,h3⟩
 ·cases h
theorem bY9 {φ:Nat->Addr}{H:Hp}{n:Nat}{Q:St->Hp->Prop}:∀(is:List Nat) (l:List kA) (y:List V) (ρ ρ':kC) (σ:St),RE Γ φ H n ρ σ->RVL Γ φ H l y->kB n l=true->lD ρ is l=some ρ'->(∀ σ',RE Γ φ H n ρ' σ'->Q σ' H)->cc1 is y σ H Q
 | [],[],y,ρ,ρ',σ,E,r,_,h,k=>by
  cases h
  exact⟨r.unnil,k σ E⟩
 | [],d::l,_,_,_,_,_,_,_,h,_=>by cases h
 | i::is,[],_,_,_,_,_,_,_,h,_=>by cases h
 | i::is,d::l,y,ρ,ρ',σ,E,r,b,h,k=>by
  have h:(k7 ρ i d).bind (λ ρ=>lD ρ is l)=some ρ':=h
  obtain⟨x,B,rfl,C,G⟩:=r.uncons
  unfold kB at b
  rw[ao]at b
  cases e:k7 ρ i d with
  | none=>rw[e]at h;cases h
  | some ρ1 =>
   rw[e]at h
   exact⟨x,B,rfl,bY9 is l B ρ1 ρ' _ (be8 E C b.1 e) G b.2 h k⟩
theorem bc1 {l:List kA}:∀ {is:List Nat} {ρ ρ':kC},lD ρ is l=some ρ'->is.length=l.length:=by
 induction l with
 | nil=>intro is ρ ρ' h;cases is with
  | nil=>rfl
  | cons i is=>cases h
 | cons d l ih=>intro is ρ ρ' h;cases is with
  | nil=>cases h
  | cons i is =>
   have h:(k7 ρ i d).bind (λ ρ=>lD ρ is l)=some ρ':=h
   cases e:k7 ρ i d with
   | none=>rw[e]at h;cases h
   | some ρ1=>rw[e]at h;rw[aQ,aQ,ih h]
theorem bz8 {φ:Nat->Addr}{H:Hp}{n:Nat}{Q:St->Hp->Prop}{tg:la}{d:kA}{v:V}{ρ ρ':kC}{σ:St}(E:RE Γ φ H n ρ σ)(r:RV Γ φ H d v)(b:d.bnd n=true)(h:kT ρ tg d=some ρ')(k:∀ σ',RE Γ φ H n ρ' σ'->Q σ' H):gOf Γ.K tg v σ H Q:=by
 cases tg with
 | one i=>exact k _ (be8 E r b h)
 | tup is =>
  cases d with
  | tup l =>
   have h:lD ρ is l=some ρ':=h
   obtain⟨a,y,rfl,B,d1⟩:=r.tupE
   unfold kF at b
   exact⟨a,y,rfl,B,by rw[d1.length,bc1 h],bY9 is l y ρ ρ' σ E d1 b h k⟩
  | _=>cases h
def Off (φ:Nat->Addr)(s:kz)(b:Addr):Prop:=∀(i:Nat) (ob:kW),s[i]?=some ob->isMut ob=true->φ i≠b
theorem Off.mono {φ φ':Nat->Addr}{s s':kz}{H H':Hp}{b:Addr}{o:HO}(h:Off φ s b)(g:Gr φ s H φ' s' H')(hb:H b=some o):Off φ' s' b:=λ i ob e m z=>by
 by_cases B:i<s.length
 ·obtain⟨y,C⟩:∃ y,s[i]?=some y:=⟨s[i],ai B⟩
  exact h i y C (g.mu i y ob C e m) (by rw[<-g.w.map i B];exact z)
 ·have:=g.new i (by omega) (ae.mp e).1
  rw[z,hb]at this;cases this
theorem Off.new {φ:Nat->Addr}{s:kz}{H:Hp}{b:Addr}(r:Rp Γ φ H s)(h:H b=none):Off φ s b:=λ i ob e m z=>by
 obtain⟨u,y,_⟩:=(r.obj i ob e).there m
 rw[z,h]at y;cases y
theorem Rp.foreign {φ:Nat->Addr}{s:kz}{H:Hp}{b:Addr}{ys h:List V}(r:Rp Γ φ H s)(hb:H b=some (.lst ys))(ho:Off φ s b):Rp Γ φ (upd H b (.lst h)) s:=by
 have g:Gw φ s.length H φ (upd H b (.lst h)):=⟨λ _ _=>rfl,(Kp.refl H).put hb rfl⟩
 exact⟨r.inj,λ i o e=>(r.obj i o e).mono g (r.wf i o e) λ m u y=>by rw[zm (ho i o e m)];exact y,r.wf,r.tab.put hb⟩
theorem Gr.foreign {φ φ':Nat->Addr}{s s':kz}{H H':Hp}{b:Addr}{ys y:List V}(g:Gr φ s H φ' s' H')(h0:H b=none)(hb:H' b=some (.lst ys)):Gr φ s H φ' s' (upd H' b (.lst y)):=by
 have ne:∀ c o,H c=some o->c≠b:=λ c o e=>zH e h0
 refine⟨⟨g.w.map,λ c o e f=>?_⟩,g.le,g.new,g.kd,λ c hc=>?_,λ c o e h B=>?_⟩
 ·rw[zm (ne c o e)];exact g.w.kp c o e f
 ·unfold upd;split
  ·simp
  ·exact g.st c hc
 ·rw[zm (ne c o e)];exact g.fr c o e h B
def bW6 (Γ:Gm)(φ:Nat->Addr)(s:kz)(H:Hp)(l:List kA)(s':kz)(Q:VK):Prop :=
 ∀ p ys φ' H',Gr φ s H φ' s' H'->s.length<=s'.length->kB s'.length l=true->H' p=some (.lst ys)->H p=none->Off φ' s' p->RVL Γ φ' H' l ys->Rp Γ φ' H' s'->Q (.ref p) H'
def TFv (Γ:Gm)(m:kC->kz->kD (List kA)):TE:=λ σ H Q=>∃ φ ρ s l s',RE Γ φ H s.length ρ σ/\Rp Γ φ H s/\m ρ s=.ok l s'/\bW6 Γ φ s H l s' Q
theorem bg7 {m:kC->kz->kD (List kA)}{σ:St}{H:Hp}{Q:VK}(h:TEv Γ (λ ρ s=>(m ρ s).bind λ l s=>lf (.lst l) s) σ H Q):TFv Γ m σ H Q:=by
 obtain⟨φ,ρ,s,d,s',E,R,Y,q⟩:=h
 obtain⟨l,s1,e1,Y⟩:=aa0 Y
 obtain⟨rfl,rfl⟩:=qQ Y
 refine⟨φ,ρ,s,l,s1,E,R,e1,λ p ys φ' H' g hl hb hp h0 ho r C=>?_⟩
 have gw:Gw φ' s1.length H' (λ i=>if i=s1.length then p else φ' i) H':=⟨λ i y=>if_neg (av y),Kp.refl _⟩
 have key:∀(i:Nat) (B:kW),(s1++[DV.O.lst l])[i]?=some B->(i<s1.length/\s1[i]?=some B)\/(i=s1.length/\B=.lst l):=λ i B e=>by
  rcases fx i s1.length with h|h|h
  ·rw[aI h]at e;exact .inl ⟨h,e⟩
  ·subst h;simp at e;exact .inr ⟨rfl,e.symm⟩
  ·rw[dN (by simp;omega)]at e;cases e
 have G:Gr φ s H (λ i=>if i=s1.length then p else φ' i) (s1++[.lst l]) H':=by
  refine⟨⟨λ i y=>by show(if i=s1.length then p else φ' i)=_;rw[if_neg (by omega)];exact g.w.map i y,g.w.kp⟩,by simp;omega,λ i h1 h2=>?_,λ i o B e e'=>?_,g.st,g.fr⟩
  ·by_cases y:i=s1.length
   ·show H (if i=s1.length then p else φ' i)=none
    rw[if_pos y];exact h0
   ·show H (if i=s1.length then p else φ' i)=none
    rw[if_neg y];exact g.new i h1 (by simp at h2;omega)
  ·rcases key i B e' with⟨_,e2⟩|⟨y,_⟩
   ·exact g.kd i o B e e2
   ·have:=(ae.mp e).1;omega
 have P:Rp Γ (λ i=>if i=s1.length then p else φ' i) H' (s1++[.lst l]):=by
  refine⟨λ i j Z oj J ej mi mj e=>?_,λ i o e=>?_,λ i o e=>?_,C.tab⟩
  ·rcases key i Z J with⟨y,J⟩|⟨y,_⟩<;>rcases key j oj ej with⟨hj,ej⟩|⟨hj,_⟩
   ·rw[if_neg (av y),if_neg (av hj)]at e
    exact C.inj i j Z oj J ej mi mj e
   ·rw[if_neg (av y),if_pos hj]at e
    exact absurd e (ho i Z J mi)
   ·rw[if_neg (av hj),if_pos y]at e
    exact absurd e.symm (ho j oj ej mj)
   ·rw[y,hj]
  ·rcases key i o e with⟨y,e⟩|⟨y,rfl⟩
   ·show RO Γ _ _ (if i=s1.length then p else φ' i) o
    rw[if_neg (av y)]
    exact(C.obj i o e).mono gw (C.wf i o e) λ _ u hu=>hu
   ·show RO Γ _ _ (if i=s1.length then p else φ' i) _
    rw[if_pos y]
    exact⟨ys,hp,RVL.monoW gw l ys hb r⟩
  ·rw[bn,cV]
   rcases key i o e with⟨_,e⟩|⟨_,rfl⟩
   ·exact qE (c8 _) _ (C.wf i o e)
   ·exact qE (c8 _) _ (by unfold kG;exact hb)
 exact q (.ref p) _ H' G (by simp;omega) (by unfold kF;simp) (by unfold RV;simp) P
theorem bR4 {φ:Nat->Addr}{H:Hp}{n:Nat}{ρ:kC}{σ:St}(E:RE Γ φ H n ρ σ)(h:List (Option Nat)):RE Γ φ H n (ly ρ h) (aD0 h σ):=by
 refine⟨by unfold ly aD0;simp,λ i d e=>?_⟩
 unfold ly at e
 rw[aF]at e
 cases q:h[i]? with
 | none=>rw[q]at e;cases e
 | some o =>
  rw[q]at e
  cases o with
  | none=>cases e
  | some j =>
   have e':(ρ[j]?).join=some d:=ar e
   have ej:ρ[j]?=some (some d):=by
    cases q2:ρ[j]? with
    | none=>rw[q2]at e';cases e'
    | some o2=>rw[q2]at e';exact congrArg some e'
   obtain⟨b,v,y,B⟩:=E.val j d ej
   refine⟨b,v,?_,B⟩
   unfold aD0
   rw[aF,q]
   show some ((σ[j]?).join)=_
   rw[y];rfl
theorem aW7 {mI:kC->kz->kD ln}{mc me:kC->kz->kD kA}{tg:la}{C:List (Option Nat)}{σ:St}{H:Hp}{Q:VK}
  (h:TFv Γ (λ ρ s=>(mI ρ s).bind λ q s0=>if q.its.length<=kI then lF (λ s=>kS s0 s q.src) (λ d ρ s=>match kT ρ tg d with
   | some ρ=>kK (mc ρ s) λ k s=>if k then(me ρ s).bind λ v s=>.ok (some v,ρ) s else .ok (none,ρ) s
   | none=>.bad) q.its (ly ρ C) s0 else .bad) σ H Q):tComp C (TIv Γ mI) (gOf Γ.K tg) (TTv Γ mc) (TEv Γ me) σ H Q:=by
 obtain⟨φ,ρ,s,l,s',E,R,hm,k⟩:=h
 obtain⟨q,s0,e1,hm⟩:=aa0 hm
 split at hm
 case isFalse=>exact fb hm
 rename_i a9
 refine⟨φ,ρ,s,q,s0,E,R,e1,λ J φ1 H1 g1 l1 b1 R1 wk D hD=>?_⟩
 have h0:H D=none:=by
  cases e:H D with
  | none=>rfl
  | some o=>exact absurd hD (g1.st D (by rw[e];simp))
 refine⟨λ i m σ' H'=>∃ φ' ρ' t y ys rest,Gr φ1 s0 H1 φ' t H'/\Rp Γ φ' H' t/\RE Γ φ' H' t.length ρ' σ'/\H' D=some (.lst ys)/\Off φ' t D/\RVL Γ φ' H' y ys/\kB t.length y=true/\y.length<=i/\i<=q.its.length/\m=q.its.length - i /\
  lF (λ s=>kS s0 s q.src) (λ d ρ s=>match kT ρ tg d with
   | some ρ=>kK (mc ρ s) λ k s=>if k then(me ρ s).bind λ v s=>.ok (some v,ρ) s else .ok (none,ρ) s
   | none=>.bad) (q.its.drop i) ρ' t=.ok rest s'/\l=y++rest,⟨q.its.length,?_⟩,?_⟩
 ·obtain⟨g2,R2⟩:=R1.same (H':=upd H1 D (.lst [])) ((ah3.refl H1).new hD)
  exact⟨φ1,ly ρ C,s0,[],[],l,g2,R2,bR4 ((E.mono g1 l1).mono g2 (aj _)) C,zr,Off.new R1 hD,.nil,rfl,aj _,dA _,by simp,by rw[jT];exact hm,rfl⟩
 ·rintro i m σ' H' ⟨φ',ρ',t,y,ys,rest,g,R',E',hy,a2,ra,ba,b0,hil,rfl,hc,hl⟩
  have B:=g.le
  rcases iP i q.its.length with hlt|hge
  ·have hd:q.its[i]?=some q.its[i]:=ai hlt
   rw[e8 hlt]at hc
   unfold lF at hc
   split at hc
   case isFalse=>exact fb hc
   rename_i a1
   obtain⟨a7,a6⟩:=(wk φ' H' t g B R' a1 i).1 hlt
   refine .inr ⟨a7,_,λ σ2 H2 n=>⟨q.its.length - (i+1),by omega,n⟩,λ x H2 a5=>?_⟩
   obtain⟨sm,rv⟩:=a6 x H2 a5
   obtain⟨g2,R2⟩:=R'.same sm
   have rd:=rv _ hd
   have bd:(q.its[i]).bnd t.length=true:=zy B _ (an3 b1 hd)
   obtain⟨p,t3,hs,hc⟩:=aa0 hc
   obtain⟨r2,t4,a4,hc⟩:=aa0 hc
   cases hb:kT ρ' tg q.its[i]with
   | none=>rw[hb]at hs;cases hs
   | some ρ3 =>
    rw[hb]at hs
    refine bz8 (E'.mono g2 (aj _)) rd bd hb λ σ3 E3=>?_
    obtain⟨c,t1,ec,hs⟩:=zZ hs
    refine⟨φ',ρ3,t,c,t1,E3,R2,ec,λ φ2 H4 g4 l4 R4=>?_⟩
    have a3:H2 D=some (.lst ys):=sm _ _ hy
    have a0:H4 D=some (.lst ys):=g4.fr D _ a3 (by nofun) a2
    have G:Off φ2 t1 D:=a2.mono g4 a3
    have G4:=(g.trans g2 B).trans g4 B
    cases c with
    | true =>
     rw[if_pos rfl]at hs
     refine cq3 ?_
     obtain⟨v,t2,ev,hs⟩:=aa0 hs
     cases hs
     refine⟨φ2,ρ3,t1,v,t3,E3.mono g4 l4,R4,ev,λ w φ3 H5 g5 l5 b5 r5 R5=>?_⟩
     have Y:H5 D=some (.lst ys):=g5.fr D _ a0 (by nofun) G
     have Z:Off φ3 t3 D:=G.mono g5 a0
     refine⟨ys,Y,?_,?_⟩
     ·rw[ra.length]
      have:=qP
      omega
     ·have gw:Gw φ3 t3.length H5 φ3 (upd H5 D (.lst (ys++[w]))):=⟨λ _ _=>rfl,(Kp.refl H5).put Y rfl⟩
      have G5:=G4.trans g5 (aq B l4)
      have GG:=g2.trans (g4.trans g5 l4) (aj _)
      have a8:RVL Γ φ3 H5 y ys:=RVL.mono GG _ _ ba ra
      have bb:kB t3.length (y++[v])=true:=qj (ab9 GG.le _ ba) (by unfold kB;rw[b5];rfl)
      refine⟨φ3,ρ3,t3,y++[v],ys++[w],r2,G5.foreign hD Y,R5.foreign Y Z,?_,zr,Z,RVL.monoW gw _ _ bb (a8.append (.cons r5 .nil)),bb,by simp;omega,hlt,rfl,?_,?_⟩
      ·have E5:=(E3.mono g4 l4).mono g5 l5
       exact⟨E5.len,λ j e hj=>by
        obtain⟨h1,z,h2,h3⟩:=E5.val j e hj
        exact⟨h1,z,h2,RV.monoW gw _ _ h1 h3⟩⟩
      ·cases hc;exact a4
      ·cases hc;rw[hl];simp
    | false =>
     rw[if_neg aR]at hs
     refine co7 ?_
     cases hs
     have GG:=g2.trans g4 (aj _)
     exact⟨φ2,ρ3,t3,y,ys,r2,G4,R4,E3.mono g4 l4,a0,G,RVL.mono GG _ _ ba ra,ab9 l4 _ ba,by omega,hlt,rfl,by cases hc;exact a4,by cases hc;exact hl⟩
  ·have hi:i=q.its.length:=by omega
   rw[gm hge]at hc
   unfold lF at hc
   split at hc
   case isFalse=>exact fb hc
   rename_i a1
   cases hc
   refine .inl ⟨(wk φ' H' s' g B R' a1 i).2 hge,?_⟩
   rw[br]at hl
   subst hl
   exact k D ys φ' H' (g1.trans g l1) (aq l1 B) ba hy h0 a2 ra R'
variable {Γ:Gm} {X:Cx}
noncomputable def cm2 (Γ:Gm)(φ:Nat->Addr)(H:Hp)(n:Nat)(D:Ends):lb->Prop
 | .next ρ=>∀ σ,RE Γ φ H n ρ σ->D.nx σ H
 | .ret d=>∀ v,d.bnd n=true->RV Γ φ H d v->D.rt v H
 | .cont ρ=>∀ σ,RE Γ φ H n ρ σ->D.ct σ H
 | .brk ρ=>∀ σ,RE Γ φ H n ρ σ->D.bk σ H
def aq7 (Γ:Gm)(φ:Nat->Addr)(s:kz)(H:Hp)(c:lb)(s':kz)(D:Ends):Prop :=
 ∀ φ' H',Gr φ s H φ' s' H'->s.length<=s'.length->Rp Γ φ' H' s'->cm2 Γ φ' H' s'.length D c
def TSv (Γ:Gm)(m:kC->kz->kD lb):TS:=λ D σ H=>∃ φ ρ s c s',RE Γ φ H s.length ρ σ/\Rp Γ φ H s/\m ρ s=.ok c s'/\aq7 Γ φ s H c s' D
theorem PS.imp {e:Stmt}{t t':TS}(h:PS X e t)(i:∀ D σ H,t' D σ H->t D σ H):PS X e t':=λ y s σ H Q I q=>h y s σ H Q I (i Q σ H q)
theorem PSs.imp {e:List Stmt}{t t':TS}(h:PSs X e t)(i:∀ D σ H,t' D σ H->t D σ H):PSs X e t':=λ y s σ H Q I q=>h y s σ H Q I (i Q σ H q)
theorem aq7.trans {φ φ1:Nat->Addr}{s s1 s':kz}{H y:Hp}{c:lb}{D:Ends}(h:aq7 Γ φ s H c s' D)(g:Gr φ s H φ1 s1 y)(l:s.length<=s1.length):aq7 Γ φ1 s1 y c s' D :=
 λ φ' H' g' B p=>h φ' H' (g.trans g' l) (aq l B) p
theorem aq7.here {φ:Nat->Addr}{s:kz}{H:Hp}{c:lb}{D:Ends}(h:aq7 Γ φ s H c s D)(p:Rp Γ φ H s):cm2 Γ φ H s.length D c:=h φ H (Gr.refl φ s H) (aj _) p
variable {D:Ends} {σ:St} {H:Hp}
theorem bK2 {m:kC->kz->kD lb}(y:∀ ρ s,m ρ s=.ok (.next ρ) s)(h:TSv Γ m D σ H):bZ2 D σ H:=by
 obtain⟨φ,ρ,s,c,s',E,R,e,q⟩:=h
 rw[y]at e;cases e
 exact q.here R σ E
theorem bR7 {m:kC->kz->kD kA}(h:TSv Γ (λ ρ s=>(m ρ s).bind λ d s=>.ok (.ret d) s) D σ H):cn2 (TEv Γ m) D σ H:=by
 obtain⟨φ,ρ,s,c,s',E,R,e,q⟩:=h
 obtain⟨x,s1,e1,e⟩:=aa0 e
 cases e
 exact⟨φ,ρ,s,x,_,E,R,e1,λ v φ1 y g1 l1 b1 r1 R1=>q φ1 y g1 l1 R1 v b1 r1⟩
theorem bA7 {m:kC->kz->kD kA}(h:TSv Γ (λ ρ s=>(m ρ s).bind λ _ s=>.ok (.next ρ) s) D σ H):bP4 (TEv Γ m) D σ H:=by
 obtain⟨φ,ρ,s,c,s',E,R,e,q⟩:=h
 obtain⟨x,s1,e1,e⟩:=aa0 e
 cases e
 exact⟨φ,ρ,s,x,_,E,R,e1,λ v φ1 y g1 l1 b1 r1 R1=>q φ1 y g1 l1 R1 σ (E.mono g1 l1)⟩
theorem bb2 {m:kC->kz->kD kA}{tg:la}(h:TSv Γ (λ ρ s=>(m ρ s).bind λ d s=>match kT ρ tg d with|some ρ=>.ok (.next ρ) s|none=>.bad) D σ H):bm4 (TEv Γ m) (gOf Γ.K tg) D σ H:=by
 obtain⟨φ,ρ,s,c,s',E,R,e,q⟩:=h
 obtain⟨x,s1,e1,e⟩:=aa0 e
 refine⟨φ,ρ,s,x,s1,E,R,e1,λ v φ1 y g1 l1 b1 r1 R1=>?_⟩
 cases hb:kT ρ tg x with
 | none=>rw[hb]at e;cases e
 | some ρ1 =>
  rw[hb]at e
  cases e
  exact bz8 (E.mono g1 l1) r1 b1 hb λ σ' B=>q φ1 y g1 l1 R1 σ' B
theorem bl1 {m:kC->kz->kD (List kA)}(h:TSv Γ (λ ρ s=>((m ρ s).bind λ l s=>lf (.lst l) s).bind λ d s=>match kT ρ tg d with|some ρ=>.ok (.next ρ) s|none=>.bad) D σ H):bm4 (TFv Γ m) (gOf Γ.K tg) D σ H :=
 bg7 (bb2 h)
def bW2 (Γ:Gm):cb9:=λ o i v H Q=>∃ φ s x y d s',Rp Γ φ H s/\RV Γ φ H x o/\RV Γ φ H y i/\RV Γ φ H d v/\x.bnd s.length=true/\y.bnd s.length=true/\d.bnd s.length=true/\DV.setIx x y d s=.ok () s' /\
 ∀ φ' H',Gr φ s H φ' s' H'->s.length<=s'.length->Rp Γ φ' H' s'->Q H'
theorem bq7 {me mo mi:kC->kz->kD kA}(h:TSv Γ (λ ρ s=>(me ρ s).bind λ d s=>(mo ρ s).bind λ x s=>(mi ρ s).bind λ y s=>(DV.setIx x y d s).bind λ _ s=>.ok (.next ρ) s) D σ H) :
  bm4 (TEv Γ me) (cn6 (TEv Γ mo) (TEv Γ mi) (bW2 Γ)) D σ H:=by
 obtain⟨φ,ρ,s,c,s',E,R,e,q⟩:=h
 obtain⟨d,s1,e1,e⟩:=aa0 e
 obtain⟨x,s2,e2,e⟩:=aa0 e
 obtain⟨y,s3,e3,e⟩:=aa0 e
 obtain⟨u,s4,e4,e⟩:=aa0 e
 cases e
 refine⟨φ,ρ,s,d,s1,E,R,e1,λ v1 φ1 H1 g1 l1 b1 r1 R1=>?_⟩
 refine⟨φ1,ρ,s1,x,s2,E.mono g1 l1,R1,e2,λ v2 φ2 H2 Y B b2 r2 R2=>?_⟩
 have G2:=g1.trans Y l1
 have L2:=aq l1 B
 refine⟨φ2,ρ,s2,y,s3,E.mono G2 L2,R2,e3,λ v3 φ3 H3 C G b3 r3 R3=>?_⟩
 refine⟨φ3,s3,x,y,d,_,R3,RV.mono C x v2 b2 r2,r3,RV.mono (Y.trans C B) d v1 b1 r1,zy G x b2,b3,zy (aq B G) d b1,e4,λ φ4 H4 Z l4 R4=>?_⟩
 have J:=G2.trans C L2
 have L3:=aq L2 G
 exact q φ4 H4 (J.trans Z L3) (aq L3 l4) R4 σ (E.mono (J.trans Z L3) (aq L3 l4))
theorem bX5 (hu:X.A.units+1<cLine):ci7 X (bW2 Γ):=by
 intro C sh σ H o i v ov iv u Q I ro ri rv h
 obtain⟨φ,s,x,y,d,s',R,rx,ry,rd,bx,J,bd,B,q⟩:=h
 cases x with
 | ref r =>
  have B:(match s[r]? with
   | some (.lst l)=>(match y with
    | .int i=>(match li l.length i with|some j=>DV.R.ok () (s.set r (.lst (l.set j d)))|none=>.bad)
    | _=>.bad)
   | some (.dic l)=>if y.key&&decide (l.length<kI)then .ok () (s.set r (.dic (k6 y d l)))else .bad
   | _=>.bad)=.ok () s':=B
  cases e:s[r]? with
  | none=>rw[e]at B;cases B
  | some ob =>
   rw[e]at B
   cases ob with
   | lst l =>
    cases y with
    | int k =>
     have B:(match li l.length k with|some j=>DV.R.ok () (s.set r (.lst (l.set j d)))|none=>.bad)=.ok () s':=B
     cases ej:li l.length k with
     | none=>rw[ej]at B;cases B
     | some j =>
      rw[ej]at B
      cases B
      obtain⟨xs,h1,G⟩:=R.addr e
      have hb:kB s.length (l.set j d)=true:=ab6.mpr λ z hz=>by
       rcases e9 hz with h|h
       ·exact ab6.mp (by have:=R.wf r _ e;unfold kG at this;exact this) z h
       ·subst h;exact bd
      refine bq3 C sh σ H o i v ov iv u Q I ro ri rv ⟨φ r,xs,k,j,rx.refE,ry.intE,h1,?_,?_⟩
      ·rw[G.length];exact ej
      ·obtain⟨g,R'⟩:=R.set (o:=.lst (l.set j d)) (u:=.lst (xs.set j v)) e rfl hb λ H' g e=>⟨_,e,RVL.monoW g _ _ hb (G.set j rd)⟩
       exact q _ _ g (by simp) R'
    | _=>exact fb B
   | dic l =>
    have B:(if y.key&&decide (l.length<kI)then DV.R.ok () (s.set r (.dic (k6 y d l)))else .bad)=.ok () s':=B
    split at B
    case isFalse=>exact fb B
    rename_i hc
    cases B
    rw[ao]at hc
    obtain⟨k,hk⟩:=an4 hc.1
    have hlt:=of_decide_eq_true hc.2
    obtain⟨Y,h1,G⟩:=R.obj r _ e
    have ex:=rx.refE;subst ex
    cases ro
    have ey:=aN7 hk ry;subst ey
    have hb:(DV.O.dic (k6 y d l)).bnd s.length=true:=bm8 (R.wf r _ e) J bd
    have Z:kB s.length ((k6 y d l).map (·.2))=true:=by
     unfold kG at hb
     rw[ao]at hb
     exact hb.2
    obtain⟨g,R'⟩:=R.set (o:=.dic (k6 y d l)) (u:=.dK (az5 Y k v)) e rfl hb λ H' g e=>⟨_,e,RVD.monoW g _ _ Z (G.put hk rd)⟩
    exact aY6 hu I (cb7.k h1 (by rw[G.length];exact ak hlt qP)) ri rv λ s4 I4=>⟨_,I4,q _ _ g (by simp) R'⟩
   | _=>exact fb B
 | _=>exact fb B
theorem bR3 {i:Nat}{m:kC->kz->kD kA} (h:TSv Γ (λ ρ s=>(lN ρ i s).bind λ x s=>(m ρ s).bind λ y s=>match x,y with
  | .int a,.int b=>match k7 ρ i (.int (a+b))with|some ρ=>.ok (.next ρ) s|none=>.bad
  | _,_=>.bad) D σ H):cl9 i (TEv Γ m) (ipI λ i j=>i+j) D σ H:=by
 obtain⟨φ,ρ,s,c,s',E,R,C,q⟩:=h
 obtain⟨x,s1,e1,B⟩:=aa0 C
 obtain⟨y,s2,e2,e⟩:=aa0 B
 clear C B
 unfold lN at e1
 split at e1
 case h_2=>cases e1
 rename_i d hd
 cases e1
 obtain⟨b,v,J,Y⟩:=E.val i _ hd
 refine⟨v,J,φ,ρ,s,y,s2,E,R,e2,λ w φ1 G g1 l1 b1 r1 R1=>?_⟩
 cases x with
 | int a =>
  cases y with
  | int b =>
   refine⟨a,b,Y.intE,r1.intE,?_⟩
   have e:(match k7 ρ i (.int (a+b))with|some ρ=>DV.R.ok (DV.Ct.next ρ) s2|none=>.bad)=.ok c s':=e
   cases hs:k7 ρ i (.int (a+b))with
   | none=>rw[hs]at e;cases e
   | some ρ1 =>
    rw[hs]at e
    cases e
    exact q φ1 G g1 l1 R1 _ (be8 (E.mono g1 l1) RV.intI rfl hs)
  | _=>cases e
 | _=>cases e
theorem cc8 {mc:kC->kz->kD kA}{C B:kC->kz->kD lb}(h:TSv Γ (λ ρ s=>kK (mc ρ s) λ k s=>if k then C ρ s else B ρ s) D σ H):co3 (TTv Γ mc) (TSv Γ C) (TSv Γ B) D σ H:=by
 obtain⟨φ,ρ,s,d,s',E,R,y,q⟩:=h
 obtain⟨c,s1,e1,y⟩:=zZ y
 refine⟨φ,ρ,s,c,s1,E,R,e1,λ φ1 G g1 l1 R1=>?_⟩
 cases c with
 | true =>
  rw[if_pos rfl]at y ⊢
  exact⟨φ1,ρ,s1,d,s',E.mono g1 l1,R1,y,q.trans g1 l1⟩
 | false =>
  rw[if_neg aR]at y ⊢
  exact⟨φ1,ρ,s1,d,s',E.mono g1 l1,R1,y,q.trans g1 l1⟩
theorem bU5 {G C:kC->kz->kD lb}(h:TSv Γ (λ ρ s=>(G ρ s).bind λ c s=>match c with|.next ρ=>C ρ s|c=>.ok c s) D σ H):cn9 (TSv Γ G) (TSv Γ C) D σ H:=by
 obtain⟨φ,ρ,s,c,s',E,R,y,q⟩:=h
 obtain⟨J,s1,e1,y⟩:=aa0 y
 refine⟨φ,ρ,s,J,s1,E,R,e1,λ φ1 B g1 l1 R1=>?_⟩
 cases J with
 | next ρ1=>exact λ σ1 Y=>⟨φ1,ρ1,s1,c,s',Y,R1,y,q.trans g1 l1⟩
 | ret d=>cases y;exact q φ1 B g1 l1 R1
 | cont ρ=>cases y;exact q φ1 B g1 l1 R1
 | brk ρ=>cases y;exact q φ1 B g1 l1 R1
theorem bk2 {mc:kC->kz->kD kA}{C:kC->kz->kD lb}(h:TSv Γ (DV.whl mc C) D σ H):bv4 (TTv Γ mc) (TSv Γ C) D σ H:=by
 obtain⟨φ,ρ,s,c,s',E,R,y,q⟩:=h
 unfold DV.whl at y
 split at y
 case isFalse=>exact fb y
 rename_i hn
 generalize hn.choose=n at y
 refine⟨λ n σ H=>∃ φ ρ s,RE Γ φ H s.length ρ σ/\Rp Γ φ H s/\DV.jB mc C n ρ s=.ok c s'/\aq7 Γ φ s H c s' D,⟨n,φ,ρ,s,E,R,y,q⟩,?_⟩
 clear E R y q hn
 rintro n σ H ⟨φ,ρ,s,E,R,y,q⟩
 cases n with
 | zero=>exact fb y
 | succ n =>
  unfold DV.jB at y
  obtain⟨b,s1,e1,y⟩:=zZ y
  refine⟨φ,ρ,s,b,s1,E,R,e1,λ φ1 Z g1 l1 R1=>?_⟩
  cases b with
  | false =>
   rw[if_neg aR]at y ⊢
   cases y
   exact q φ1 Z g1 l1 R1 σ (E.mono g1 l1)
  | true =>
   rw[if_pos rfl]at y ⊢
   obtain⟨J,s2,e2,y⟩:=aa0 y
   refine⟨_,λ σ' H' w=>⟨n,dU n,w⟩,φ1,ρ,s1,J,s2,E.mono g1 l1,R1,e2,λ φ2 H2 g2 Y R2=>?_⟩
   have G:=g1.trans g2 l1
   have L:=aq l1 Y
   cases J with
   | next ρ1=>exact λ σ1 B=>⟨φ2,ρ1,s2,B,R2,y,q.trans G L⟩
   | cont ρ1=>exact λ σ1 B=>⟨φ2,ρ1,s2,B,R2,y,q.trans G L⟩
   | ret d=>cases y;exact q φ2 H2 G L R2
   | brk ρ=>cases y;exact q φ2 H2 G L R2
theorem bY3 {mI : DV.Env -> DV.Sto -> DV.R DV.Sq} {mb : DV.Env -> DV.Sto -> DV.R DV.Ct} {tg : DV.Tg} (h : TSv Γ (λ ρ s => (mI ρ s).bind λ q s0 => DV.aT6 (λ s => DV.chk s0 s q.src) (λ d ρ s => match DV.ae8 ρ tg d with
      | some ρ => mb ρ s
      | none => .bad) q.its ρ s0) D σ H) : cm6 (TIv Γ mI) (gOf Γ.K tg) (TSv Γ mb) D σ H := by
  obtain⟨φ, ρ, s, c, s', E, R, hm, k⟩ := h
  obtain⟨q, s0, e1, hm⟩ := aa0 hm
  refine⟨φ, ρ, s, q, s0, E, R, e1, λ J φ1 H1 g1 l1 b1 R1 wk => ?_⟩
  refine⟨λ i m σ' H' => ∃ φ' ρ' t, Gr φ1 s0 H1 φ' t H' /\ Rp Γ φ' H' t /\ RE Γ φ' H' t.length ρ' σ' /\ i <= q.its.length /\ m = q.its.length - i /\
    lP (λ s => kS s0 s q.src) (λ d ρ s => match kT ρ tg d with
      | some ρ => mb ρ s
      | none => .bad) (q.its.drop i) ρ' t = .ok c s', ⟨q.its.length, ?_⟩, ?_⟩
  · exact⟨φ1, ρ, s0, Gr.refl _ _ _, R1, E.mono g1 l1, dA _, by simp, by rw[jT]; exact hm⟩
  · rintro i m σ' H' ⟨φ', ρ', t, g, R', E', hil, rfl, hc⟩
    have hle := g.le
    rcases iP i q.its.length with hlt|hge
    · have hd : q.its[i]? = some q.its[i] := ai hlt
      rw[e8 hlt]at hc
      unfold lP at hc
      split at hc
      case isFalse => exact fb hc
      rename_i hck
      obtain⟨hgo, hy2⟩ := (wk φ' H' t g hle R' hck i).1 hlt
      refine .inr ⟨hgo, _, λ σ2 H2 n => ⟨q.its.length - (i + 1), by omega, n⟩, λ x H2 hyl => ?_⟩
      obtain⟨sm, rv⟩ := hy2 x H2 hyl
      obtain⟨g2, R2⟩ := R'.same sm
      have rd := rv _ hd
      have bd : (q.its[i]).bnd t.length = true := zy hle _ (an3 b1 hd)
      obtain⟨c1, t3, hs, hc⟩ := aa0 hc
      cases hb : kT ρ' tg q.its[i]with
      | none => rw[hb]at hs; cases hs
      | some ρ3 =>
        rw[hb]at hs
        refine bz8 (E'.mono g2 (aj _)) rd bd hb λ σ3 E3 => ?_
        refine⟨φ', ρ3, t, c1, t3, E3, R2, hs, λ φ2 H4 g4 l4 R4 => ?_⟩
        have G4 := (g.trans g2 hle).trans g4 hle
        have L4 := aq hle l4
        have GG := g1.trans G4 l1
        cases c1 with
        | next ρ1 => exact λ σ1 E1 => ⟨φ2, ρ1, t3, G4, R4, E1, hlt, rfl, hc⟩
        | cont ρ1 => exact λ σ1 E1 => ⟨φ2, ρ1, t3, G4, R4, E1, hlt, rfl, hc⟩
        | ret d => cases hc; exact k φ2 H4 GG (aq l1 L4) R4
        | brk ρ => cases hc; exact k φ2 H4 GG (aq l1 L4) R4
    · rw[gm hge]at hc
      unfold lP at hc
      split at hc
      case isFalse => exact fb hc
      rename_i hck
      cases hc
      exact .inl ⟨(wk φ' H' s' g hle R' hck i).2 hge, k φ' H' (g1.trans g l1) (aq l1 hle) R' σ' E'⟩
structure Ck where
 N:List Str
 sc:Scope
 lk:String->List Nat->Expr->Bool
noncomputable abbrev ck0 (N:List Str)(sc:Scope):Ck:=⟨N,sc,λ _ _ _=>false⟩
noncomputable def Ck.vis (c:Ck)(x:Str):Bool:=match c.sc.names.lookup x with|some .local=>true|some .cell=>true|some .free=>true|_=>false
noncomputable def Ck.loc (c:Ck)(x:Str):Bool:=match c.sc.names.lookup x with|some .local=>true|some .cell=>true|_=>false
noncomputable def Ck.gl (c:Ck)(x:Str):Bool:=(match c.sc.names.lookup x with|some .globalImplicit=>true|_=>false)&&!(x==("__debug__":Str))&&!decide (x=("__name__":Str))
noncomputable def Ck.var (c:Ck)(i:Nat)(x:Str):Bool:=decide (c.N[i]?=some x)&&c.vis x&&!(x==("__debug__":Str))&&!(x==("__classdict__":Str))
noncomputable def shp:Expr->Bool
 | .Starred ..=>false
 | .Set ..=>false
 | .SetComp ..=>false
 | .DictComp ..=>false
 | .GeneratorExp ..=>false
 | .Slice ..=>false
 | .NamedExpr ..=>false
 | _=>true
noncomputable def aD3:Expr->Bool
 | .ListComp ..=>false
 | .SetComp ..=>false
 | .DictComp ..=>false
 | _=>true
noncomputable def bk1:Expr->Bool
 | .Tuple ..=>false
 | _=>true
noncomputable def ce1:Expr->Bool
 | .Call _ [] [] _=>false
 | _=>true
noncomputable def mC:DV.Cn->Const->Bool
 | .non,.none=>true
 | .bl b,.bool c=>b==c
 | .int i,.int j=>decide (i=j)
 | .str x,.str y=>decide (y=⟨x.toArray⟩)&&decide (x.length<=1000)
 | _,_=>false
noncomputable def cb5 (ck:Ck):List Nat->List Expr->Bool
 | [],[]=>true
 | i::is,.Name x _::es=>decide (ck.N[i]?=some x)&&ck.loc x&&cb5 ck is es
 | _,_=>false
noncomputable def mTg (ck:Ck):la->Expr->Bool
 | .one i,.Name x _=>decide (ck.N[i]?=some x)&&ck.loc x
 | .tup is,.Tuple es _ _=>cb5 ck is es
 | _,_=>false
noncomputable def tgN:Expr->List Str
 | .Name x _=>[x]
 | .Tuple es _ _=>es.filterMap λ e=>match e with|.Name x _=>some x|_=>none
 | _=>[]
noncomputable def ckC (ck:Ck)(tgt:Expr)(caps:List (Option Nat))(scope:Scope):Ck:=⟨tgN tgt++(caps.filterMap id).map λ j=>ck.N.getD j "",scope,λ _ _ _=>false⟩
noncomputable def aT3 (ck:Ck)(tg:la)(tgt iter:Expr)(caps:List (Option Nat))(scope:Scope):Bool :=
 qr (ckC ck tgt caps scope).N caps scope ck.N ck.sc&&decide ((ckC ck tgt caps scope).N.Nodup)&&mTg (ckC ck tgt caps scope) tg tgt&&shp iter
noncomputable def bV7:Expr->Bool
 | .Tuple ..=>true
 | _=>false
noncomputable def biT:k9->Option Str
 | .len=>some "len" | .abs=>some "abs" | .min2=>some "min" | .max2=>some "max" | .max3=>some "max" | .int=>some "int" | _=>none
noncomputable def biK:k9->Option (Nat×Str)
 | .isInt=>some (1, "int")|.isBool=>some (2, "bool")|.isStr=>some (3, "str")|.isTup=>some (4, "tuple")|.isList=>some (5, "list")|_=>none
noncomputable def mkT:lG->Option Str
 | .tuple=>some "tuple" | .list=>some "list" | _=>none
noncomputable def mkF:lG->Option Str
 | .all=>some "all" | .min=>some "min" | _=>none
noncomputable def mtT:lH->Option (Str×Nat)
 | .append=>some ("append",1)|_=>none
noncomputable def bo1:lp->Bool
 | .nil=>false
 | .ex _ as=>bo1 as
 | .lam _ _ _=>true
 | .fn _ as=>bo1 as
noncomputable def cb3 (ck:Ck)(b:k9)(x:Str)(xs:List Expr)(m1 m2:Bool):Bool:=match biK b with
 | some p=>(match xs with|[_,.Name y _]=>decide (x=("isinstance":Str))&&ck.gl x&&decide (y=p.2)&&ck.gl y&&m2|_=>false)
 | none=>(match xs with|_::_=>decide (biT b=some x)&&ck.gl x&&m1|[]=>false)
mutual
noncomputable def mE (ck:Ck):lv->Expr->Bool
 | .var i,E=>match E with|.Name x _=>ck.var i x|_=>false
 | .cst c,E=>match E with|.Constant v _ _=>mC c v|_=>false
 | .glob g,E=>match E with|.Name x _=>decide (x=(g:Str))&&ck.gl x|_=>false
 | .bin op a b,E=>match E with|.BinOp l o r _=>decide (o=cf0 op)&&mE ck a l&&mE ck b r|_=>false
 | .neg a,E=>match E with|.UnaryOp .USub l _=>mE ck a l|_=>false
 | .not a,E=>match E with|.UnaryOp .Not l _=>mE ck a l|_=>false
 | .cmp op a b,E=>match E with|.Compare l [o] [r] _=>decide (o=ar6 op)&&mE ck a l&&mE ck b r|_=>false
 | .chain o p a b c,E=>match E with|.Compare l [o1,o2] [m,r] _=>decide (o1=ar6 o)&&decide (o2=ar6 p)&&mE ck a l&&mE ck b m&&mE ck c r|_=>false
 | .isN a,E=>match E with|.Compare l [.Is] [.Constant .none _ _] _=>mE ck a l|_=>false
 | .notN a,E=>match E with|.Compare l [.IsNot] [.Constant .none _ _] _=>mE ck a l|_=>false
 | .isB _ _,_=>false
 | .notB _ _,_=>false
 | .and a b,E=>match E with
  | .BoolOp .And [l,r] _=>mE ck a l&&mE ck b r
  | .BoolOp .And (l::m::r::es) p=>mE ck a l&&mE ck b (.BoolOp .And (m::r::es) p)
  | _=>false
 | .or a b,E=>match E with
  | .BoolOp .Or [l,r] _=>mE ck a l&&mE ck b r
  | .BoolOp .Or (l::m::r::es) p=>mE ck a l&&mE ck b (.BoolOp .Or (m::r::es) p)
  | _=>false
 | .ite c a b,E=>match E with|.IfExp t l r _=>mE ck c t&&mE ck a l&&mE ck b r|_=>false
 | .tup es,E=>match E with|.Tuple xs _ _=>mEs ck es xs&&decide (xs.length<=1000)|_=>false
 | .lst es,E=>match E with|.List xs _=>mEs ck es xs&&decide (xs.length<=1000)|_=>false
 | .dic ks vs,E=>match E with|.Dict a b _=>(match a,b with|[],[]=>mEs ck ks []&&mEs ck vs []|[some x],[y]=>mEs ck ks [x]&&mEs ck vs [y]|_,_=>false)|_=>false
 | .slL _ _,_=>false
 | .slU _ _,_=>false
 | .slLU _ _ _,_=>false
 | .rev _,_=>false
 | .ix a b,E=>match E with|.Subscript o i _=>mE ck a o&&mE ck b i|_=>false
 | .call f as,E=>match E with|.Call (.Name x _) xs [] _=>decide (x=(f:Str))&&ck.gl x&&mAs ck as xs|_=>false
 | .callC f as,E=>match E with|.Call (.Name x _) (y::ys) [] _=>decide (x=(f:Str))&&ck.gl x&&bo1 as&&bL7 ck as (y::ys)|_=>false
 | .callV i es,E=>match E with|.Call (.Name x _) (y::ys) [] _=>ck.var i x&&mEs ck es (y::ys)|_=>false
 | .bi b es,E=>match E with|.Call (.Name x _) xs [] _=>cb3 ck b x xs (mEs ck es xs) (mEs ck es (xs.take 1))|_=>false
 | .mk k l,E=>match E with
  | .Call (.Name x _) [a] [] _=>ck.gl x&&shp a&&((decide (mkT k=some x)&&mL ck 2 l a)||(decide (mkF k=some x)&&mL ck 1 l a))
  | .ListComp e gs sc p=>decide (k=.list)&&mL ck 0 l (.ListComp e gs sc p)
  | _=>false
 | .mkD k l d,E=>match E with
  | .Call (.Name x _) [a] [⟨some y,de,_⟩] _=>decide (k=.min)&&decide (x=("min":Str))&&decide (y=("default":Str))&&ck.gl x&&shp a&&mL ck 1 l a&&mE ck d de
  | _=>false
 | .meth m o es,E=>match E with
  | .Call (.Attribute ob x ap) xs [] cp=>decide (mtT m=some (x,xs.length))&&ce1 ob&&(ap.endLine==cp.line)&&mE ck o ob&&mEs ck es xs
  | _=>false
 | .ext _ _,_=>false
 | .extS _ _,_=>false
 | .mks _ _,_=>false
 | .mkDs _ _ _,_=>false
 | .join _ _,_=>false
noncomputable def mEs (ck:Ck):kU->List Expr->Bool
 | .nil,xs=>match xs with|[]=>true|_=>false
 | .cons e es,xs=>match xs with|x::xs=>mE ck e x&&shp x&&mEs ck es xs|_=>false
noncomputable def mAs (ck:Ck):lp->List Expr->Bool
 | .nil,xs=>match xs with|[]=>true|_=>false
 | .ex e es,xs=>match xs with|x::xs=>mE ck e x&&shp x&&mAs ck es xs|_=>false
 | .lam _ _ _,_=>false
 | .fn _ _,_=>false
noncomputable def bL7 (ck:Ck):lp->List Expr->Bool
 | .nil,xs=>match xs with|[]=>true|_=>false
 | .ex e es,xs=>match xs with|x::xs=>mE ck e x&&shp x&&bL7 ck es xs|_=>false
 | .lam id caps es,xs=>match xs with|x::xs=>ck.lk id caps x&&shp x&&bL7 ck es xs|_=>false
 | .fn _ _,_=>false
noncomputable def mI (ck:Ck)(tgt:Expr):DV.I->Expr->Bool
 | .rng1 a,E=>match E with|.Call (.Name x _) [l] [] _=>decide (x=("range":Str))&&ck.gl x&&mE ck a l&&shp l|_=>false
 | .rng2 _ _,_=>false
 | .seq e,x=>mE ck e x&&shp x
 | .rng3 _ _ _,_=>false
 | .enum (.seq _),_=>false
 | .zip (.seq a) (.seq b),E=>match E with|.Call (.Name x _) [l,r] [] _=>decide (x=("zip":Str))&&ck.gl x&&mE ck a l&&shp l&&mE ck b r&&shp r&&bV7 tgt|_=>false
 | .enum _,_=>false
 | .zip _ _,_=>false
 | .items _,_=>false
noncomputable def mL (ck:Ck)(k:Nat):DV.L->Expr->Bool
 | .comp tg it e caps,E=>match E with|.ListComp elt [⟨tgt,iter,[],z⟩] scope _=>decide (z=0)&&aT3 ck tg tgt iter caps scope&&mI ck tgt it iter&&mE (ckC ck tgt caps scope) e elt|_=>false
 | .compIf tg it c e caps,E=>match E with|.ListComp elt [⟨tgt,iter,[i],z⟩] scope _=>decide (z=0)&&aT3 ck tg tgt iter caps scope&&mI ck tgt it iter&&mE (ckC ck tgt caps scope) c i&&mE (ckC ck tgt caps scope) e elt|_=>false
 | .disp es,E=>match E with|.List xs _=>decide (1<=k)&&mEs ck es xs&&decide (xs.length<=1000)|_=>false
 | .seq e,x=>decide (k=2)&&mE ck e x
end
theorem ff {p:Prop}(h:false=true):p:=Bool.noConfusion h
noncomputable def bB3:be->Bool
 | ⟨[], args, none, [], [], none, []⟩ => args.all λ y => y.annotation.isNone
 | _=>false
noncomputable def cl7:List Stmt->Option (Str×be×Expr×Pos×Scope×Pos×List Stmt)
 | .FunctionDef nm params [.Return (some b) rp] [] none [] scope none nm' pos::xs=>if nm'=nm then some (nm,params,b,rp,scope,pos,xs)else none
 | _=>none
noncomputable def cl3 (nm:Str):List Stmt->Option (Str×Pos×Expr×Pos×Pos×Pos)
 | [.Return (some (.Call (.Name g gp) [a,.Name x p2] [] cp)) rp2]=>if x=nm then some (g,gp,a,p2,cp,rp2)else none
 | _=>none
noncomputable def ce4:lY->lI->Option (Nat×String×lv×String×List Nat)
 | .und i,.cons (.ret (.callC g (.ex e (.lam id caps .nil)))) .nil=>some (i,g,e,id,caps)
 | _,_=>none
noncomputable def bN9 (ck:Ck)(s:lY)(ss:lI)(S:List Stmt):Bool :=
 (ce4 s ss).any λ d=>(cl7 S).any λ q=>(cl3 q.1 q.2.2.2.2.2.2).any λ r =>
  decide (ck.N[d.1]?=some q.1)&&ck.loc q.1&&ck.var d.1 q.1&&ck.lk d.2.2.2.1 d.2.2.2.2 (.NamedExpr (.Name q.1 q.2.2.2.1) (.Lambda q.2.1 q.2.2.1 q.2.2.2.2.1 q.2.2.2.2.2.1) q.2.2.2.2.2.1)&&decide (r.1=(d.2.1:Str))&&ck.gl r.1&&mE ck d.2.2.1 r.2.2.1&&shp r.2.2.1&&bB3 q.2.1
mutual
noncomputable def mS (ck:Ck):lY->Stmt->Bool
 | .asg tg e,S=>match S with
  | .Assign [t] v _=>mTg ck tg t&&mE ck e v&&(match tg with|.one _=>true|.tup _=>bk1 v&&aD3 v)
  | _=>false
 | .setIx o i e,S=>match S with|.Assign [.Subscript ob ix _] v _=>mE ck o ob&&mE ck i ix&&mE ck e v&&aD3 v&&bk1 v|_=>false
 | .aug i e,S=>match S with|.AugAssign (.Name x _) .Add v _=>decide (ck.N[i]?=some x)&&ck.loc x&&mE ck e v|_=>false
 | .ex e,S=>match S with|.Expr v _=>mE ck e v&&aD3 v|_=>false
 | .ret e,S=>match S with|.Return (some v) _=>mE ck e v|_=>false
 | .retN,_=>false
 | .ite c a b,S=>match S with|.If t l r _=>mE ck c t&&mSs ck a l&&mSs ck b r|_=>false
 | .whl c b,S=>match S with|.While t l [] _=>mE ck c t&&mSs ck b l|_=>false
 | .for_ tg it b,S=>match S with|.For tgt iter l [] _=>mTg ck tg tgt&&mI ck tgt it iter&&mSs ck b l|_=>false
 | .pass,_=>false
 | .cont,_=>false
 | .brk,_=>false
 | .raise,_=>true
 | .und _,_=>false
noncomputable def mSs (ck:Ck):lI->List Stmt->Bool
 | .nil,xs=>match xs with|[]=>true|_=>false
 | .cons s ss,xs=>match xs with|x::xs=>bN9 ck s ss (x::xs)||(mS ck s x&&mSs ck ss xs)|_=>false
end
theorem aD4 {y:Ck}{e:lv}{E:Expr}(h:mE y e E=true):shp E=true:=by
 cases E<;>first|rfl|(exfalso;cases e<;>exact ff h)
theorem bU8 {B:Ck}{y:Expr}{e:DV.I}{E:Expr}(h:mI B y e E=true):shp E=true:=by
 cases e with
 | seq e=>have h:(mE B e E&&shp E)=true:=h;rw[ao]at h;exact h.2
 | enum a=>cases E<;>first|rfl|(exfalso;cases a<;>exact ff h)
 | zip a b=>cases E<;>first|rfl|(exfalso;cases a<;>first|exact ff h|(cases b<;>exact ff h))
 | _=>cases E<;>first|rfl|exact ff h
theorem zq {e:Expr}{es:List Expr}{env:Env}(h:shp e=true):bf (e::es) env=(false,eval e env)::bf es env:=by
 cases e<;>first|rfl|cases h
theorem zW {env:Env}{pos:Pos}:∀ {es:List Expr},(∀ e∈es,shp e=true)->(dD pos (bf es env)).any (·.1)=false/\(dD pos (bf es env)).all (λ x=>!x.1)=true
 | [],_=>⟨rfl,rfl⟩
 | e::es,h=>by
  have B:=zq (es:=es) (env:=env) (h e (aC ..))
  obtain⟨y,h3⟩:=zW (env:=env) (pos:=pos) (es:=es) λ x hx=>h x (aw _ hx)
  rw[B]
  unfold dD at y h3 ⊢
  simp only[aH,fJ,fK,y,h3]
  exact⟨rfl,rfl⟩
theorem aH3 {e:Expr}{env:Env}(h:shp e=true)(x:Value):cY e env x=pure x:=by
 cases e<;>first|rfl|cases h
theorem aq8 {e:Expr}{op:CmpOp}(h:shp e=true):cJ op e=false:=by
 cases e<;>first|rfl|cases h
theorem aw9 {e:Expr}{t:Option Expr}{l:Nat}{env:Env}(h:aD3 e=true):eQ e t l env=pure false:=by
 cases e<;>first|rfl|cases h
theorem bc9 {e:Expr}{f:Str}{env:Env}(h:ce1 e=true):fF e f env (eval e env)=eval e env:=by
 cases e with
 | Call g a k p =>
  cases g with
  | Name x p' =>
   cases a with
   | nil=>cases k with
    | nil=>cases h
    | cons _ _=>rfl
   | cons _ _=>rfl
  | _=>rfl
 | _=>rfl
theorem aS1 {es:List Expr}{k:Nat}{p:Pos}{e:Expr}{env:Env}(h:bk1 e=true):ig [.Tuple es k p] e env=pure none:=by
 cases e<;>first|rfl|cases h
theorem aQ8 {o i:Expr}{p:Pos}{e:Expr}{env:Env}(h:bk1 e=true):ig [.Subscript o i p] e env=pure none:=by
 cases e<;>first|rfl|cases h
theorem aT4 {e:Expr}(h:shp e=true):aZ5 e:=by
 intro o i
 cases e<;>first|rfl|cases h
def spV (Γ:Gm)(c:List kA->kz->kD kA):Sp:=λ vs H Q _=>rCl Γ c vs H Q
noncomputable def bNames:List Str:=["len", "abs", "min", "max", "int", "isinstance", "bool", "str", "tuple", "list", "range", "sum", "all", "any", "sorted", "zip", "enumerate", "ord"]
def spL (Γ:Gm)(c:List kA->List kA->kz->kD kA)(cap:List V):Sp:=λ vs H Q _=>∃ φ s cs l d s',Rp Γ φ H s/\RVL Γ φ H l vs/\RVL Γ φ H cs cap/\kB s.length l=true/\kB s.length cs=true/\c cs l s=.ok d s'/\ag1 Γ φ s H d s' Q
noncomputable def LamI.own (J:LamI):Str:=match J.nm with|none => "<lambda>" | some p=>p.1
noncomputable def lamText (J:LamI)(params:be)(body:Expr)(scope:Scope)(pos:Pos):Expr:=match J.nm with
 | none=>.Lambda params body scope pos
 | some p=>.NamedExpr (.Name p.1 p.2) (.Lambda params body scope pos) pos
structure LamHere (Γ:Gm)(X:Cx)(N:List Str)(id:String)(caps:List Nat)(params:be)(body:Expr)(scope:Scope)(c P:Addr)(J:LamI):Prop where
 code:X.env.code=.ref c
 hd:bQ X.base c P
 bm:BM X.mg X.base
 ck:lamCheck scope X.env.scope=true
 df:jP params X.env=([],[])
 lg:Γ.lg id J
 q:J.qual=X.env.qual++J.own
 p:J.params=params
 b:J.body=body
 s:J.scope=scope
 len:J.fr.length=caps.length
 at_:∀(i j:Nat) (x:Str),caps[i]?=some j->J.fr[i]?=some x->N[j]?=some x
 fr:∀ x∈J.fr,scope.names.lookup x=some .free
 cl:∀ x,scope.names.lookup x=some .free->∃ c,X.env.cells.lookup x=some c
 tab:(P,J.qual)∈Γ.T
 nd:(Γ.T.map (·.1)).Nodup
 fn:∀ x,X.fn x=true
 kd:∀ x c,X.env.cells.lookup x=some c->X.env.kindOf x=some .cell\/X.env.kindOf x=some .free
structure CG (Γ:Gm)(F:kX)(n:Nat)(X:Cx)(ck:Ck):Prop where
 K:X.K=Γ.K
 N:X.N=ck.N
 nd:ck.N.Nodup
 xe:X.xe=λ _ _=>False
 calm:X.calm=true
 deep:kL+1<=n
 room:Room n X.A
 sc:∀ x k,ck.sc.names.lookup x=some k->X.env.scope.names.lookup x=some k\/(k=.free/\X.env.scope.names.lookup x=some .cell)
 fn:∀ x,ck.sc.names.lookup x=some .cell->X.fn x=true
 bi:∀ x∈bNames,X.mg x=none
 call:∀ f:String,(∀ l s,F.call f l s=.bad)\/∃ a fd ps,FnOk X.prog X.w X.K X.mg X.base CX0 n a fd ps (spV Γ (F.call f))/\X.mg (f:Str)=some (.ref a)/\cb X.K (.ref a)=true/\Binds X.K fd ps []
 con:∀ x d,F.con x=some d->∃ v u,X.mg (x:Str)=some u/\RelV v u/\(∀ m,d.bnd m=true)/\∀ φ H,RV Γ φ H d v
 lam:∀ id caps E,ck.lk id caps E=true->∃ c P params body scope pos J,E=lamText J params body scope pos/\LamHere Γ X ck.N id caps params body scope c P J
 cl:∀(id:String) (J:LamI) (f:Addr) (cap:List V) (clos:List (Str×Addr)),Γ.lg id J->cap.length=J.fr.length->ClOk X.prog X.w X.K X.mg X.base n (λ H=>CloAt H f J cap clos) f (spL Γ (F.lam id) cap)
 fa:∀(f:String) (a:Addr),Γ.fa f=some a->X.mg (f:Str)=some (.ref a)/\∃ oc od fd sl,X.K.lookup a=some ⟨oc,od,.func fd,sl⟩
 fk:DV.FK F
section
variable {Γ:Gm} {F:kX} {n:Nat} {X:Cx} {ck:Ck}
theorem CG.vis (G:CG Γ F n X ck){x:Str}(h:ck.vis x=true):Vis X.env.scope x:=by
 unfold Ck.vis at h
 split at h
 ·rename_i e;rcases G.sc _ _ e with z|⟨z,_⟩
  ·exact .inl z
  ·cases z
 ·rename_i e;rcases G.sc _ _ e with z|⟨z,_⟩
  ·exact .inr (.inl z)
  ·cases z
 ·rename_i e;rcases G.sc _ _ e with z|⟨_,z⟩
  ·exact .inr (.inr z)
  ·exact .inr (.inl z)
 ·cases h
theorem CG.loc (G:CG Γ F n X ck){x:Str}(h:ck.loc x=true):Loc X.env.scope x/\(X.fn x=true\/X.env.scope.names.lookup x=some .local):=by
 unfold Ck.loc at h
 split at h
 ·rename_i e;rcases G.sc _ _ e with z|⟨z,_⟩
  ·exact⟨.inl z,.inr z⟩
  ·cases z
 ·rename_i e;rcases G.sc _ _ e with z|⟨z,_⟩
  ·exact⟨.inr z,.inl (G.fn _ e)⟩
  ·cases z
 ·cases h
theorem CG.gl (G:CG Γ F n X ck){x:Str}(h:ck.gl x=true):Gl X x/\(x==("__debug__":Str))=false/\x ≠ "__name__":=by
 unfold Ck.gl at h
 simp only[ao,fy]at h
 obtain⟨⟨y,B⟩,h3⟩:=h
 refine⟨?_,B,of_decide_eq_false h3⟩
 split at y
 ·rename_i e;rcases G.sc _ _ e with z|⟨z,_⟩
  ·exact z
  ·cases z
 ·cases y
theorem bu6 (G:CG Γ F n X ck):∀ {is:List Nat} {es:List Expr},cb5 ck is es=true->PGs X es (cc1 is)/\(cy es X.env).length=is.length/\(cy es X.env).findIdx? (·.1)=none
 | [],[],_=>⟨bH6,rfl,rfl⟩
 | [],_::_,h=>by cases h
 | i::is,[],h=>by cases h
 | i::is,e::es,h=>by
  cases e with
  | Name x p =>
   unfold cb5 at h
   simp only[ao,decide_eq_true_eq]at h
   obtain⟨⟨y,C⟩,h3⟩:=h
   obtain⟨l1,B⟩:=G.loc C
   obtain⟨a,b,c⟩:=bu6 G h3
   have hs:cy (.Name x p::es) X.env=(false,fX (.Name x p) X.env)::cy es X.env:=rfl
   refine⟨bo2 (aV3 (by rw[G.N];exact G.nd) (by rw[G.N];exact y) l1 B) a (by rw[hs];rfl),by rw[hs,aQ,aQ,b],?_⟩
   rw[hs,List.findIdx?_cons]
   simp[c]
  | _=>cases h
theorem by0 (G:CG Γ F n X ck){tg:la}{e:Expr}(h:mTg ck tg e=true):PG X e (gOf Γ.K tg):=by
 unfold mTg at h
 split at h
 ·simp only[ao,decide_eq_true_eq]at h
  obtain⟨l1,y⟩:=G.loc h.2
  exact aV3 (by rw[G.N];exact G.nd) (by rw[G.N];exact h.1) l1 y
 ·obtain⟨a,b,c⟩:=bu6 G h
  exact bI7 G.K G.calm a b c
 ·cases h
theorem CG.comp (G:CG Γ F n X ck){tg:la}{J iter:Expr}{B:List (Option Nat)}{scope:Scope}(h:aT3 ck tg J iter B scope=true) :
  qr (ckC ck J B scope).N B scope X.N X.env.scope=true/\shp iter=true /\
  ∀(C:Addr) (cells:List (Str×Addr)) (s:af) (H:Hp) (ex:List Addr),CG Γ F n (z0 X (ckC ck J B scope).N scope C cells s H ex) (ckC ck J B scope)/\PG (z0 X (ckC ck J B scope).N scope C cells s H ex) J (gOf Γ.K tg):=by
 unfold aT3 at h
 simp only[ao,decide_eq_true_eq]at h
 obtain⟨⟨⟨Y,h2⟩,h3⟩,h4⟩:=h
 refine⟨?_,h4,λ C cells s H ex=>?_⟩
 ·rw[G.N]
  unfold qr at Y ⊢
  simp only[ao]at Y ⊢
  obtain⟨⟨⟨⟨⟨a1,a2⟩,a3⟩,a4⟩,a5⟩,a6⟩:=Y
  refine⟨⟨⟨⟨⟨a1,?_⟩,a3⟩,a4⟩,a5⟩,a6⟩
  rw[aO]at a2 ⊢
  intro y hy
  have:=a2 y hy
  rw[bL]at this ⊢
  rcases this with q|q
  ·exact .inl q
  ·right
   rw[bL]at q ⊢
   rcases q with q|q
   ·rcases G.sc _ _ (eq_of_beq q)with z|⟨z,_⟩
    ·left;rw[z];exact beq_self_eq_true _
    ·cases z
   ·rcases G.sc _ _ (eq_of_beq q)with z|⟨_,z⟩
    ·right;rw[z];exact beq_self_eq_true _
    ·left;rw[z];exact beq_self_eq_true _
 ·have Z:CG Γ F n (z0 X (ckC ck J B scope).N scope C cells s H ex) (ckC ck J B scope):=by
   refine⟨G.K,rfl,h2,rfl,G.calm,G.deep,G.room,λ x k e=>?_,λ x e=>?_,G.bi,G.call,G.con,λ _ _ _ h=>(by cases h),G.cl,G.fa,G.fk⟩
   ·have q:=qO (env:=X.env) e
    have q':(dZ scope X.env).names.lookup x=some (if(k==NameKind.free&&X.env.scope.kind==.function&&X.env.kindOf x==some .cell)then NameKind.cell else k):=q
    show(dZ scope X.env).names.lookup x=some k\/_
    rw[q']
    split
    ·rename_i hc
     simp only[ao]at hc
     exact .inr ⟨eq_of_beq hc.1.1,rfl⟩
    ·exact .inl rfl
   ·show(scope.names.lookup x==some .cell)=true
    rw[show scope.names.lookup x=some .cell from e];rfl
  exact⟨Z,by0 Z h3⟩
end
section
variable {Γ:Gm} {F:kX} {n:Nat} {X:Cx} {ck:Ck} {σ:St} {H:Hp} {Q:VK}
theorem TEv.eq {m m':kC->kz->kD kA}(e:∀ ρ s,m ρ s=m' ρ s)(q:TEv Γ m σ H Q):TEv Γ m' σ H Q:=by
 have:m=m':=funext λ ρ=>funext λ s=>e ρ s
 subst this;exact q
theorem TTv.eq {m m':kC->kz->kD kA}{Q:Bool->Hp->Prop}(e:∀ ρ s,m ρ s=m' ρ s)(q:TTv Γ m σ H Q):TTv Γ m' σ H Q:=by
 have:m=m':=funext λ ρ=>funext λ s=>e ρ s
 subst this;exact q
theorem TAv.eq {m m':kC->kz->kD (List kA)}{Q:List V->Hp->Prop}(e:∀ ρ s,m ρ s=m' ρ s)(q:TAv Γ m σ H Q):TAv Γ m' σ H Q:=by
 have:m=m':=funext λ ρ=>funext λ s=>e ρ s
 subst this;exact q
theorem TFv.eq {m m':kC->kz->kD (List kA)}(e:∀ ρ s,m ρ s=m' ρ s)(q:TFv Γ m σ H Q):TFv Γ m' σ H Q:=by
 have:m=m':=funext λ ρ=>funext λ s=>e ρ s
 subst this;exact q
theorem TIv.eq {m m':kC->kz->kD ln}{R:It->Hp->Prop}(e:∀ ρ s,m ρ s=m' ρ s)(q:TIv Γ m σ H R):TIv Γ m' σ H R:=by
 have:m=m':=funext λ ρ=>funext λ s=>e ρ s
 subst this;exact q
theorem TSv.eq {m m':kC->kz->kD lb}{D:Ends}(e:∀ ρ s,m ρ s=m' ρ s)(q:TSv Γ m D σ H):TSv Γ m' D σ H:=by
 have:m=m':=funext λ ρ=>funext λ s=>e ρ s
 subst this;exact q
def EvT (Γ:Gm)(X:Cx)(E:Expr)(m:kC->kz->kD kA):Prop:=PE X E (TEv Γ m)/\PT X E (TTv Γ m)
theorem EvT.val {E:Expr}{m:kC->kz->kD kA}(h:PE X E (TEv Γ m))(B:∀ y,dt E X.env y=(do let v <- y;standAt E.pos;iE [v] (truthy v)):=by intro _;rfl):EvT Γ X E m :=
 ⟨h,(bV3 h B).imp λ σ H Q q=>aM7 q⟩
theorem bq0 {c a b:Expr}{pos:Pos}{J tb G:TT}(hc:PT X c J)(ha:PT X a tb)(hb:PT X b G):PT X (.IfExp c a b pos) (λ σ H Q=>J σ H λ k B=>if k=true then tb σ B Q else G σ B Q):=by
 intro y s σ H Q I h
 have e:dt (.IfExp c a b pos) X.env (eval (.IfExp c a b pos) X.env)=(do if <- dt c X.env (eval c X.env)then dt a X.env (eval a X.env)else dt b X.env (eval b X.env)):=by rw[dt]
 rw[e]
 refine ag (thn (hc y s σ H _ I h) λ k s1 ⟨B,C,q1⟩=>?_)
 cases k with
 | true=>exact ha y s1 σ B Q C q1
 | false=>exact hb y s1 σ B Q C q1
theorem bX7 {mc G C:kC->kz->kD kA}{Q:Bool->Hp->Prop}(h:TTv Γ (λ ρ s=>kK (mc ρ s) λ k s=>if k then G ρ s else C ρ s) σ H Q):TTv Γ mc σ H λ k B=>if k=true then TTv Γ G σ B Q else TTv Γ C σ B Q:=by
 obtain⟨φ,ρ,s,d,s',E,R,y,q⟩:=h
 obtain⟨c,s1,e1,y⟩:=zZ y
 refine⟨φ,ρ,s,c,s1,E,R,e1,λ φ1 B g1 l1 R1=>?_⟩
 cases c with
 | true =>
  rw[if_pos rfl]at y ⊢
  exact⟨φ1,ρ,s1,d,s',E.mono g1 l1,R1,y,q.trans g1 l1⟩
 | false =>
  rw[if_neg aR]at y ⊢
  exact⟨φ1,ρ,s1,d,s',E.mono g1 l1,R1,y,q.trans g1 l1⟩
section
variable {a b c:lv} {l r t:Expr} {pos:Pos}
theorem bB6 (G:CG Γ F n X ck)(op:lS)(ha:EvT Γ X l (kE F a))(hb:EvT Γ X r (kE F b)):EvT Γ X (.BinOp l (cf0 op) r pos) (kE F (.bin op a b)) :=
 .val ((cd2 (bN8 G.K op) ha.1 hb.1).imp λ σ H Q q=>bo4 (TEv.eq (λ ρ s=>rfl) q))
theorem bF7 (ha:EvT Γ X l (kE F a)):EvT Γ X (.UnaryOp .USub l pos) (kE F (.neg a)) :=
 .val ((cj1 bN6 ha.1).imp λ σ H Q q=>ck4 (f:=λ x s=>match x with|.int i=>.ok (.int (-i)) s|_=>.bad) (TEv.eq (λ ρ s=>rfl) q) λ φ s x d s' v H' R r y h k=>by
  cases x with
  | int i =>
   cases h
   exact⟨i,r.intE,k.here R rfl RV.intI⟩
  | _=>cases h)
theorem bJ6 (ha:EvT Γ X l (kE F a)):EvT Γ X (.UnaryOp .Not l pos) (kE F (.not a)) :=
 ⟨(bW7 ha.1).imp λ σ H Q q=>cb0 (TEv.eq (λ ρ s=>rfl) q),(bZ5 ha.2).imp λ σ H Q q=>bT4 (TTv.eq (λ ρ s=>rfl) q)⟩
theorem bH9 (G:CG Γ F n X ck)(op:lC)(hs:shp r=true)(ha:EvT Γ X l (kE F a))(hb:EvT Γ X r (kE F b)):EvT Γ X (.Compare l [ar6 op] [r] pos) (kE F (.cmp op a b)):=by
 have ho:=bb9 (Γ:=Γ) G.K (G.room.mono G.deep) op
 refine⟨(bD7 ho ha.1 hb.1 (aq8 hs)).imp λ σ H Q q=>bo4 (TEv.eq (λ ρ s=>rfl) q),(bG7 ho ha.1 hb.1 (aq8 hs)).imp λ σ H Q q=>?_⟩
 have q:=bb8 q
 exact bo4 (TEv.eq (λ ρ s=>rfl) q)
theorem bh9 (G:CG Γ F n X ck)(o p:lC)(B:shp t=true)(ha:EvT Γ X l (kE F a))(hb:EvT Γ X r (kE F b))(hc:EvT Γ X t (kE F c)):EvT Γ X (.Compare l [ar6 o,ar6 p] [r,t] pos) (kE F (.chain o p a b c)):=by
 have ho:=bb9 (Γ:=Γ) G.K (G.room.mono G.deep) o
 have h:=bb9 (Γ:=Γ) G.K (G.room.mono G.deep) p
 have y:j8 [ar6 o,ar6 p] [r,t]=false:=by
  show cJ (ar6 p) t=false
  exact aq8 B
 refine⟨(bk0 ho h ha.1 hb.1 hc.1 y).imp λ σ H Q q=>aL1 (TEv.eq (λ ρ s=>rfl) q),(bp9 ho h ha.1 hb.1 hc.1 y).imp λ σ H Q q=>?_⟩
 have q:=bb8 q
 exact aL1 (TEv.eq (λ ρ s=>rfl) q)
theorem RV.nonIff {φ:Nat->Addr}{x:kA}{v:V}(r:RV Γ φ H x v):decide (v=.non)=decide (x=.non):=by
 cases x with
 | non=>rw[r.nonE];rfl
 | bl b=>rw[r.blE];rfl
 | int i=>rw[r.intE];rfl
 | str z=>rw[r.strE];rfl
 | tup l=>obtain⟨a,h,rfl,_⟩:=r.tupE;rfl
 | ref k=>rw[r.refE];rfl
 | fn f=>unfold RV at r;obtain⟨a,_,rfl⟩:=r;rfl
 | clo f cs=>unfold RV at r;obtain⟨f,_,_,_,rfl,_⟩:=r;rfl
theorem bE7 {j pos'}(ha:EvT Γ X l (kE F a)):EvT Γ X (.Compare l [.Is] [.Constant .none j pos'] pos) (kE F (.isN a)):=by
 have key:∀ σ H Q,TEv Γ (kE F (.isN a)) σ H Q->ck5 (TEv Γ (kE F a)) σ H Q:=λ σ H Q q=>by
  obtain⟨φ,ρ,s,d,s',E,R,h,k⟩:=q
  obtain⟨x,s1,e1,h⟩:=aa0 h
  cases h
  refine⟨φ,ρ,s,x,_,E,R,e1,λ v φ1 y g1 l1 b1 r1 R1=>?_⟩
  show Q (.bl (decide (v=.non))) y
  rw[r1.nonIff]
  exact k _ φ1 y g1 l1 rfl RV.blI R1
 exact⟨(bu8 (bu9 ha.1)).imp key,(bu3 (bu9 ha.1)).imp λ σ H Q q=>key _ _ _ (aM7 q)⟩
theorem bo6 {j pos'}(ha:EvT Γ X l (kE F a)):EvT Γ X (.Compare l [.IsNot] [.Constant .none j pos'] pos) (kE F (.notN a)):=by
 have key:∀ σ H Q,TEv Γ (kE F (.notN a)) σ H Q->bO7 (TEv Γ (kE F a)) σ H Q:=λ σ H Q q=>by
  obtain⟨φ,ρ,s,d,s',E,R,h,k⟩:=q
  obtain⟨x,s1,e1,h⟩:=aa0 h
  cases h
  refine⟨φ,ρ,s,x,_,E,R,e1,λ v φ1 y g1 l1 b1 r1 R1=>?_⟩
  show Q (.bl (!decide (v=.non))) y
  rw[r1.nonIff]
  exact k _ φ1 y g1 l1 rfl RV.blI R1
 exact⟨(bu8 (aW9 ha.1)).imp key,(bu3 (aW9 ha.1)).imp λ σ H Q q=>key _ _ _ (aM7 q)⟩
theorem bd8 {op:BoolOp}{es:List Expr}{t:TT}(h:PT X (.BoolOp op es pos) t):PW X (.BoolOp op es pos) t:=by
 intro B y s σ H Q I q
 have:=h y s σ H Q I q
 have e:∀ w,dt (.BoolOp op es pos) X.env w=allTrue op es X.env:=λ w=>by rw[dt]
 rw[e]at this ⊢
 exact this
theorem bB5 (ha:EvT Γ X l (kE F a))(hb:EvT Γ X r (kE F b)):EvT Γ X (.BoolOp .And [l,r] pos) (kE F (.and a b)) :=
 ⟨(bv2 ha.1 (bu1 hb.1)).imp λ σ H Q q=>bu5 (TEv.eq (λ ρ s=>rfl) q),(bv5 ha.2 (bB8 hb.2)).pt.imp λ σ H Q q=>bu2 (TTv.eq (λ ρ s=>rfl) q)⟩
theorem bz0 {es:List Expr}(ha:EvT Γ X l (kE F a))(hb:EvT Γ X (.BoolOp .And (r::es) pos) (kE F b)):EvT Γ X (.BoolOp .And (l::r::es) pos) (kE F (.and a b)) :=
 ⟨(bv2 ha.1 hb.1).imp λ σ H Q q=>bu5 (TEv.eq (λ ρ s=>rfl) q),(bv5 ha.2 (bd8 hb.2)).pt.imp λ σ H Q q=>bu2 (TTv.eq (λ ρ s=>rfl) q)⟩
theorem bQ5 (ha:EvT Γ X l (kE F a))(hb:EvT Γ X r (kE F b)):EvT Γ X (.BoolOp .Or [l,r] pos) (kE F (.or a b)) :=
 ⟨(bT1 ha.1 (bu1 hb.1)).imp λ σ H Q q=>bR5 (TEv.eq (λ ρ s=>rfl) q),(ca5 ha.2 (bZ9 hb.2)).pt.imp λ σ H Q q=>bO6 (TTv.eq (λ ρ s=>rfl) q)⟩
theorem bM4 {es:List Expr}(ha:EvT Γ X l (kE F a))(hb:EvT Γ X (.BoolOp .Or (r::es) pos) (kE F b)):EvT Γ X (.BoolOp .Or (l::r::es) pos) (kE F (.or a b)) :=
 ⟨(bT1 ha.1 hb.1).imp λ σ H Q q=>bR5 (TEv.eq (λ ρ s=>rfl) q),(ca5 ha.2 (bd8 hb.2)).pt.imp λ σ H Q q=>bO6 (TTv.eq (λ ρ s=>rfl) q)⟩
theorem bC9 (hc:EvT Γ X t (kE F c))(ha:EvT Γ X l (kE F a))(hb:EvT Γ X r (kE F b)):EvT Γ X (.IfExp t l r pos) (kE F (.ite c a b)) :=
 ⟨(br2 hc.2 ha.1 hb.1).imp λ σ H Q q=>bW9 (TEv.eq (λ ρ s=>rfl) q),(bq0 hc.2 ha.2 hb.2).imp λ σ H Q q=>bX7 (TTv.eq (λ ρ s=>rfl) q)⟩
theorem ca8 (G:CG Γ F n X ck)(hs:shp r=true)(ha:EvT Γ X l (kE F a))(hb:EvT Γ X r (kE F b)):EvT Γ X (.Subscript l r pos) (kE F (.ix a b)) :=
 .val ((ci6 (cg4 G.K (bk6 G.room)) ha.1 hb.1 (aT4 hs)).imp λ σ H Q q=>bo4 (TEv.eq (λ ρ s=>rfl) q))
end
end
section
variable {Γ:Gm} {F:kX} {n:Nat} {X:Cx} {ck:Ck} {σ:St} {H:Hp} {Q:VK}
theorem au8:∀ {es:kU} {ρ:kC} {s s':kz} {l:List kA} {y:List Expr} {B:Ck},kY F es ρ s=.ok l s'->mEs B es y=true->l.length=y.length
 | .nil,ρ,s,s',l,y,B,h,m=>by
  cases h
  cases y with
  | nil=>rfl
  | cons _ _=>rw[mEs]at m<;>first|cases m|(intros;simp_all)
 | .cons e es,ρ,s,s',l,y,B,h,m=>by
  obtain⟨d,s1,e1,h⟩:=aa0 h
  obtain⟨r,s2,e2,h⟩:=aa0 h
  cases h
  cases y with
  | nil=>rw[mEs]at m<;>first|cases m|(intros;simp_all)
  | cons x y =>
   rw[mEs,ao]at m
   rw[aQ,aQ,au8 e2 m.2]
theorem av8:∀ {es:kU} {B:List Expr},mEs ck es B=true->∀ x∈B,shp x=true
 | .nil,[],_,x,hx=>by cases hx
 | .nil,_::_,m,_,_=>by rw[mEs]at m<;>first|cases m|(intros;simp_all)
 | .cons e es,[],m,x,hx=>by cases hx
 | .cons e es,y::B,m,x,hx=>by
  rw[mEs,ao,ao]at m
  rcases au.mp hx with h|h
  ·rw[h];exact m.1.2
  ·exact av8 m.2 x h
theorem bf3:∀ {es:lp} {B:List Expr},mAs ck es B=true->∀ x∈B,shp x=true
 | .nil,[],_,x,hx=>by cases hx
 | .nil,_::_,m,_,_=>by rw[mAs]at m<;>first|cases m|(intros;simp_all)
 | .ex e es,[],m,x,hx=>by cases hx
 | .lam _ _ _,_,m,_,_=>by rw[mAs]at m<;>first|cases m|(intros;simp_all)
 | .fn _ _,_,m,_,_=>by rw[mAs]at m<;>first|cases m|(intros;simp_all)
 | .ex e es,y::B,m,x,hx=>by
  rw[mAs,ao,ao]at m
  rcases au.mp hx with h|h
  ·rw[h];exact m.1.2
  ·exact bf3 m.2 x h
theorem aP0 {e:lv}{x:Expr}{h:List Expr}{y:kC->kz->kD (List kA)}(hs:shp x=true)(B:PE X x (TEv Γ (kE F e)))(C:PA X h (TAv Γ y)) :
  PA X (x::h) (TAv Γ (λ ρ s=>(kE F e ρ s).bind λ d s=>(y ρ s).bind λ l s=>.ok (d::l) s)) :=
 (qf B C (zq hs)).imp λ σ H Q q=>bF4 q
theorem bi5 {k:Nat}(h:k<=1000):k<=aN:=by rw[fg];omega
theorem bJ7 {es:kU}{y:List Expr}{k:Nat}{pos:Pos}(m:mEs ck es y=true)(hz:y.length<=1000)(h:PA X y (TAv Γ (kY F es))):EvT Γ X (.Tuple y k pos) (kE F (.tup es)) :=
 .val ((bZ3 h).imp λ σ H Q q=>tv_tup' hz m q)
where
 tv_tup' {es:kU} {y:List Expr} {σ:St} {H:Hp} {Q:VK} (hz:y.length<=1000) (m:mEs ck es y=true) (q:TEv Γ (kE F (.tup es)) σ H Q):cn8 (TAv Γ (kY F es)) σ H Q:=by
  obtain⟨φ,ρ,s,d,s',E,R,B,q⟩:=q
  obtain⟨l,s1,e1,B⟩:=aa0 B
  cases B
  refine⟨φ,ρ,s,l,_,E,R,e1,λ vs φ1 G g1 l1 b1 r1 R1=>⟨by rw[r1.length,au8 e1 m];exact bi5 hz,λ p C=>?_⟩⟩
  exact(q.trans g1 l1).tup R1 r1 b1 C
theorem bF9 {es:kU}{y:List Expr}{pos:Pos}(m:mEs ck es y=true)(hz:y.length<=1000)(h:PA X y (TAv Γ (kY F es))):EvT Γ X (.List y pos) (kE F (.lst es)):=by
 refine .val ((bu7 h).imp λ σ H Q q=>?_)
 obtain⟨φ,ρ,s,d,s',E,R,B,q⟩:=q
 obtain⟨l,s1,e1,B⟩:=aa0 B
 obtain⟨rfl,rfl⟩:=qQ B
 refine⟨φ,ρ,s,l,_,E,R,e1,λ vs φ1 G g1 l1 b1 r1 R1=>⟨by rw[r1.length,au8 e1 m];exact bi5 hz,λ p C=>?_⟩⟩
 exact(q.trans g1 l1).alloc R1 r1 b1 C
theorem bq9 {f:String}{y:lp}{B:List Expr}{p pos:Pos}(G:CG Γ F n X ck)(hg:ck.gl (f:Str)=true)(m:mAs ck y B=true)(h:PA X B (TAv Γ (lw F y))):EvT Γ X (.Call (.Name (f:Str) p) B [] pos) (kE F (.call f y)):=by
 refine .val ?_
 obtain⟨g1,Y,g3⟩:=G.gl hg
 rcases G.call f with hbad|⟨a,fd,ps,Z,C,hk,hb⟩
 ·intro a0 s σ H Q I q
  obtain⟨φ,ρ,s,d,s',E,R,J,q⟩:=q
  obtain⟨l,s1,e1,J⟩:=aa0 J
  rw[hbad]at J
  cases J
 have key:∀ σ H Q,TEv Γ (kE F (.call f y)) σ H Q->aS3 (spV Γ (F.call f)) [] E0 (TAv Γ (lw F y)) σ H Q:=λ σ H Q q=>by
  have:=aG4 (TEv.eq (m':=λ ρ s=>(lw F y ρ s).bind λ l s=>F.call f l s) (λ ρ s=>rfl) q)
  unfold tCB at this
  unfold aS3 spV
  simpa only[br]using this
 cases B with
 | nil =>
  have h0:PE X (.Call (.Name (f:Str) p) [] [] pos) (aS3 (spV Γ (F.call f)) [] E0 bj0):=bq6 Z G.room g1 C hk hb .nil bV1 Y
  cases y with
  | nil =>
   refine h0.imp λ σ H Q q=>?_
   have q1:=key σ H Q q
   unfold aS3 at q1 ⊢
   exact aN1 (TAv.eq (λ ρ s=>rfl) q1)
  | _=>rw[mAs]at m<;>first|cases m|(intros;simp_all)
 | cons x B =>
  have hs:=bf3 m
  exact(bB0 Z G.room g1 C hk hb .nil bV1 h Y (zq (hs x (aC ..))) (zW λ e he=>hs e (aw _ he)).1).imp key
def BiC (Γ:Gm)(X:Cx)(b:k9)(x:Str):Prop:=(∃ id,bh x=some (.builtin id)/\ae5 X (.builtin id) (rCl Γ (lR b)))\/∃ T,bh x=some (.type T)/\ae5 X (.type T) (rCl Γ (lR b))
theorem bS2 (G:CG Γ F n X ck){b:k9}{x:Str}(h:biT b=some x):x∈bNames/\BiC Γ X b x:=by
 cases b<;>first|cases h|skip
 ·exact⟨by decide,.inl ⟨_,cd8,bb4 G.K G.calm (k:=1) rfl⟩⟩
 ·exact⟨by decide,.inl ⟨_,cf5,bb4 G.K G.calm (k:=1) rfl⟩⟩
 ·exact⟨by decide,.inr ⟨_,bQ6,bQ9⟩⟩
 ·exact⟨by decide,.inl ⟨_,bH5,bb4 G.K G.calm (k:=2) rfl⟩⟩
 ·exact⟨by decide,.inl ⟨_,bO8,bb4 G.K G.calm (k:=2) rfl⟩⟩
 ·exact⟨by decide,.inl ⟨_,bO8,bb4 G.K G.calm (k:=3) rfl⟩⟩
theorem bP1 {b:k9}{es:kU}{x:Str}{y:Expr}{B:List Expr}{p pos:Pos}(G:CG Γ F n X ck)(hb:biT b=some x)(hg:ck.gl x=true)(m:mEs ck es (y::B)=true)(h:PA X (y::B) (TAv Γ (kY F es))) :
  EvT Γ X (.Call (.Name x p) (y::B) [] pos) (kE F (.bi b es)):=by
 refine .val ?_
 obtain⟨g1,Z,Y⟩:=G.gl hg
 obtain⟨hm,hc⟩:=bS2 G hb
 have hs:=av8 m
 have s1:=zq (es:=B) (env:=X.env) (hs y (aC ..))
 have s2:=(zW (env:=X.env) (pos:=pos) λ e he=>hs e (aw _ he)).1
 rcases hc with⟨id,C,J⟩|⟨T,C,J⟩
 ·exact(av6 J g1 (G.bi _ hm) C h Y Z s1 s2).imp λ σ H Q q=>aG4 (TEv.eq (λ ρ s=>rfl) q)
 ·exact(ao0 J g1 (G.bi _ hm) C h Y Z s1 s2).imp λ σ H Q q=>aG4 (TEv.eq (λ ρ s=>rfl) q)
theorem bZ1 {b:k9}{k:Nat}{t:Str}(h:biK b=some (k,t)):(1<=k/\k<=5)/\t∈bNames/\bh t=some (.type (as3 k))/\lR b=lM (lU k):=by
 cases b<;>cases h
 ·exact⟨by omega,by decide,bQ6,rfl⟩
 ·exact⟨by omega,by decide,bS0,rfl⟩
 ·exact⟨by omega,by decide,cd1,rfl⟩
 ·exact⟨by omega,by decide,aW1,rfl⟩
 ·exact⟨by omega,by decide,bu0,rfl⟩
noncomputable def PEs (Γ:Gm)(F:kX)(X:Cx):kU->List Expr->Prop
 | .nil,[]=>True
 | .cons e es,x::xs=>(shp x=true/\EvT Γ X x (kE F e))/\PEs Γ F X es xs
 | _,_=>False
theorem aq4:∀ {es:kU} {y:List Expr},PEs Γ F X es y->PA X y (TAv Γ (kY F es))
 | .nil,[],_=>ag4.imp λ σ H Q q=>aN1 (TAv.eq (λ ρ s=>rfl) q)
 | .nil,_::_,h=>h.elim
 | .cons _ _,[],h=>h.elim
 | .cons e es,x::y,h=>(aP0 h.1.1 h.1.2.1 (aq4 h.2)).imp λ σ H Q q=>TAv.eq (λ ρ s=>rfl) q
theorem bE3 {b:k9}{es:kU}{k:Nat}{t:Str}{a:Expr}{p Y pos:Pos}(G:CG Γ F n X ck)(hb:biK b=some (k,t))(hg:ck.gl "isinstance"=true)(C:ck.gl t=true)(h:PEs Γ F X es [a]) :
  EvT Γ X (.Call (.Name "isinstance" p) [a,.Name t Y] [] pos) (kE F (.bi b es)):=by
 refine .val ?_
 obtain⟨g1,g2,g3⟩:=G.gl hg
 obtain⟨t1,t2,Z⟩:=G.gl C
 obtain⟨hk,y,hv,B⟩:=bZ1 hb
 have J:PE X (.Name t Y) (tC (.ty (as3 k))):=bI5 t1 (G.bi _ y) hv rfl Z t2
 cases es with
 | nil=>exact h.elim
 | cons e es =>
  cases es with
  | cons _ _=>exact h.2.elim
  | nil =>
   obtain⟨⟨hs,ha,_⟩,_⟩:=h
   have hA:PA X [a,.Name t Y] (ap7 (TEv Γ (kE F e)) (ap7 (tC (.ty (as3 k))) bj0)):=qf ha (qf J ag4 (zq rfl)) (zq hs)
   refine(av6 (bR2 G.K hk) g1 (G.bi _ (by decide)) aD5 hA g3 g2 (zq hs) (zW λ e he=>by rw[bK.mp he];rfl).1).imp λ σ H Q q=>?_
   obtain⟨φ,ρ,s,d,s',E,R,y,q⟩:=q
   obtain⟨l,s1,e1,y⟩:=aa0 y
   obtain⟨x,s2,e2,e1⟩:=aa0 e1
   obtain⟨l2,s3,e3,e1⟩:=aa0 e1
   cases e3
   cases e1
   rw[B]at y
   refine⟨φ,ρ,s,x,_,E,R,e2,λ v φ1 H1 g1 l1 b1 r1 R1=>?_⟩
   exact⟨v,rfl,φ1,_,[x],d,s',R1,.cons r1 .nil,by unfold kB;rw[b1];rfl,y,q.trans g1 l1⟩
end
section
variable {Γ:Gm} {F:kX} {n:Nat} {X:Cx} {ck:Ck} {σ:St} {H:Hp}
def TAp (Γ:Gm)(cells:List (Str×Addr))(N:List Str)(m:kC->kz->kD (List kA)):TA:=λ σ H Q=>∃ φ ρ s l s',RE Γ φ H s.length ρ σ/\Rp Γ φ H s/\m ρ s=.ok l s' /\
 ∀ vs φ' H',Gr φ s H φ' s' H'->s.length<=s'.length->kB s'.length l=true->PVL Γ cells N σ φ' H' l vs->Rp Γ φ' H' s'->Q vs H'
theorem TAp.eq {cells:List (Str×Addr)}{N:List Str}{m m':kC->kz->kD (List kA)}{Q:List V->Hp->Prop}(e:∀ ρ s,m ρ s=m' ρ s)(q:TAp Γ cells N m σ H Q):TAp Γ cells N m' σ H Q:=by
 obtain⟨φ,ρ,s,l,s',E,R,h,q⟩:=q
 exact⟨φ,ρ,s,l,s',E,R,by rw[<-e];exact h,q⟩
theorem bL5 {cells:List (Str×Addr)}{N:List Str}{Q:List V->Hp->Prop}(h:TAp Γ cells N (λ ρ s=>.ok [] s) σ H Q):bj0 σ H Q:=by
 obtain⟨φ,ρ,s,l,s',E,R,y,q⟩:=h
 cases y
 exact q [] φ H (Gr.refl _ _ _) (aj _) rfl .nil R
theorem bQ8 {cells:List (Str×Addr)}{N:List Str}{m:kC->kz->kD kA}{C:kC->kz->kD (List kA)}{Q:List V->Hp->Prop}(h:TAp Γ cells N (λ ρ s=>(m ρ s).bind λ d s=>(C ρ s).bind λ l s=>.ok (d::l) s) σ H Q):ap7 (TEv Γ m) (TAp Γ cells N C) σ H Q:=by
 obtain⟨φ,ρ,s,l,s',E,R,B,q⟩:=h
 obtain⟨x,s1,e1,B⟩:=aa0 B
 obtain⟨y,s2,e2,B⟩:=aa0 B
 cases B
 refine⟨φ,ρ,s,x,s1,E,R,e1,λ v φ1 H1 g1 l1 b1 r1 R1=>?_⟩
 refine⟨φ1,ρ,s1,y,s',E.mono g1 l1,R1,e2,λ vs φ2 H2 J G Z Y R2=>?_⟩
 exact q (v::vs) φ2 H2 (g1.trans J l1) (aq l1 G) (by unfold kB;rw[zy G x b1,Z];rfl) (.cons (PVp.mono J b1 (.inl r1)) Y) R2
theorem ap2 {ρ:kC}:∀ {is:List Nat} {cs:List kA},kZ ρ is=some cs->cs.length=is.length/\∀(i j:Nat),is[i]?=some j->∃ d,cs[i]?=some d/\ρ[j]?=some (some d)
 | [],cs,h=>by cases h;exact⟨rfl,λ i j e=>by cases e⟩
 | k::is,cs,h=>by
  unfold kZ at h
  cases e:ρ[k]? with
  | none=>rw[e]at h;cases h
  | some o =>
   cases o with
   | none=>rw[e]at h;cases h
   | some d =>
    cases e2:kZ ρ is with
    | none=>rw[e,e2]at h;cases h
    | some l =>
     rw[e,e2]at h
     cases h
     obtain⟨B,C⟩:=ap2 e2
     refine⟨by rw[aQ,aQ,B],λ i j y=>?_⟩
     cases i with
     | zero=>cases y;exact⟨d,rfl,e⟩
     | succ i=>exact C i j y
theorem be6 {φ:Nat->Addr}{s:kz}{ρ:kC}(E:RE Γ φ H s.length ρ σ):∀ {is:List Nat} {cs:List kA},kZ ρ is=some cs->∃ cap,RVL Γ φ H cs cap/\kB s.length cs=true/\∀(i j:Nat) (v:V),is[i]?=some j->cap[i]?=some v->σ[j]?=some (some v)
 | [],cs,h=>by cases h;exact⟨[],.nil,rfl,λ i j v e=>by cases e⟩
 | k::is,cs,h=>by
  unfold kZ at h
  cases e:ρ[k]? with
  | none=>rw[e]at h;cases h
  | some o =>
   cases o with
   | none=>rw[e]at h;cases h
   | some d =>
    cases e2:kZ ρ is with
    | none=>rw[e,e2]at h;cases h
    | some l =>
     rw[e,e2]at h
     cases h
     obtain⟨cap,C,G,h3⟩:=be6 E e2
     obtain⟨hb,v,J,hv⟩:=E.val k d e
     refine⟨v::cap,.cons hv C,by unfold kB;rw[hb,G];rfl,λ i j w y B=>?_⟩
     cases i with
     | zero=>cases y;cases B;exact J
     | succ i=>exact h3 i j w y B
theorem bU0 {id:String}{h:List Nat}{params:be}{body:Expr}{scope:Scope}{pos:Pos}{c P:Addr}{J:LamI}{xs:List Expr}{Y:kC->kz->kD (List kA)}(L:LamHere Γ X X.N id h params body scope c P J)(hnm:J.nm=none)(h2:PA X xs (TAp Γ X.env.cells X.N Y)) :
  PA X (.Lambda params body scope pos::xs) (TAp Γ X.env.cells X.N (λ ρ s=>match kZ ρ h with|some cs=>(Y ρ s).bind λ l s=>.ok (.clo id cs::l) s|none=>.bad)):=by
 refine(qf (aV5 L.code L.hd L.bm L.ck L.df) h2).imp λ σ H Q q=>?_
 obtain⟨φ,ρ,s,l,s',E,R,B,q⟩:=q
 have B:(match kZ ρ h with|some cs=>(Y ρ s).bind λ l s=>DV.R.ok (DV.D.clo id cs::l) s|none=>DV.R.bad)=.ok l s':=B
 cases eg:kZ ρ h with
 | none=>rw[eg]at B;exact fb B
 | some cs =>
  rw[eg]at B
  obtain⟨y,s2,e2,B⟩:=aa0 B
  cases B
  obtain⟨cap,G,C,hσ⟩:=be6 E eg
  have hlen:=(ap2 eg).1
  have hq:J.qual=X.env.qual ++ "<lambda>":=by rw[L.q];unfold LamI.own;rw[hnm]
  rw[<-hq]
  refine bn6 R.tab L.nd L.tab λ f H' e st tb hf ho=>?_
  obtain⟨g1,R1⟩:=R.sameT e st tb
  refine⟨φ,ρ,s,y,s',E.mono g1 (aj _),R1,e2,λ vs φ2 H2 g2 Z b2 r2 R2=>?_⟩
  refine q (.ref f::vs) φ2 H2 (g1.trans g2 (aj _)) Z (by unfold kB kF;rw[ab9 Z cs C,b2];rfl) (.cons ?_ r2) R2
  have p1:PVp Γ X.env.cells X.N σ φ H' (.clo id cs) (.ref f):=by
   refine .inr ⟨id,cs,rfl,f,J,rfl,L.lg,by unfold ai7;rw[hnm];dsimp only;rw[L.p,L.b,L.s];exact ho,by rw[hlen,L.len],by rw[L.s];exact L.cl,cap,RVL.mono g1 cs cap C G,λ i x v e1 e3=>?_⟩
   have hi:i<h.length:=by rw[<-L.len];exact(ae.mp e1).1
   have hj:h[i]?=some h[i]:=ai hi
   exact⟨by rw[L.s];exact L.fr x (aW e1),h[i],L.at_ i _ x hj e1,hσ i _ v hj e3⟩
  exact p1.mono g2 (by unfold kF;exact C)
theorem aY2 {f:String}{ms:kC->kz->kD (List kA)}{e:Expr}{es:List Expr}{p pos:Pos}(G:CG Γ F n X ck)(hg:ck.gl (f:Str)=true)(Y:∀ x,X.fn x=true)(J:∀ x c,X.env.cells.lookup x=some c->X.env.kindOf x=some .cell\/X.env.kindOf x=some .free)
  (hs:∀ y∈e::es,shp y=true) (h:PA X (e::es) (TAp Γ X.env.cells X.N ms)) :
  PE X (.Call (.Name (f:Str) p) (e::es) [] pos) (TEv Γ (λ ρ s=>(ms ρ s).bind λ l s=>(F.call f l s).bind λ d s'=>if(d.ncl&&s'.all lW)=true then .ok d s' else .bad)):=by
 obtain⟨g1,g2,g3⟩:=G.gl hg
 rcases G.call f with hb|⟨a,fd,ps,hF,Z,hk,hB⟩
 ·intro a0 s σ H Q I q
  obtain⟨φ,ρ,s,d,s',E,R,B,q⟩:=q
  obtain⟨l,s1,e1,B⟩:=aa0 B
  rw[hb]at B;exact fb B
 ·refine(aQ0 hF G.room g1 Z hk hB Y h g2 (zq (hs e (aC ..))) (zW λ y hy=>hs y (aw _ hy)).1).imp λ σ H Q q=>?_
  obtain⟨φ,ρ,s,d,s',E,R,B,q⟩:=q
  obtain⟨l,s1,e1,B⟩:=aa0 B
  obtain⟨d2,s2,e2,B⟩:=aa0 B
  split at B
  case isFalse=>exact fb B
  rename_i hn
  cases B
  rw[ao]at hn
  refine⟨φ,ρ,s,l,s1,E,R,e1,λ vs φ1 H1 gg l1 b1 r1 R1=>λ H2 C=>?_⟩
  obtain⟨gs,R2⟩:=R1.same C.same
  refine⟨φ1,s1,l,d,s',R2,r1.caught C J b1,b1,e2,λ v φ' H3 g' l' b' r' R'=>?_⟩
  have hc:Cells X.env.cells H3:=C.cells.kp g'.w.kp
  exact q v φ' (ad7 X.env.cells H3) (gg.trans (Gr.caught C g') l1) (aq l1 l') b' (RV.dropC hc d v hn.1 r') (R'.dropC hc hn.2)
theorem aW4 {i:Nat}{x:Str}{es:kU}{e:Expr}{xs:List Expr}{p pos:Pos}(G:CG Γ F n X ck)(hv:ck.var i x=true)(hs:∀ y∈e::xs,shp y=true)(h:PA X (e::xs) (TAv Γ (kY F es)))(Z:PE X (.Name x p) (bt6 i)) :
  PE X (.Call (.Name x p) (e::xs) [] pos) (TEv Γ (kE F (.callV i es))):=by
 refine(bs0 rfl rfl rfl rfl rfl G.room Z h (zq (hs e (aC ..))) (zW λ y hy=>hs y (aw _ hy)).1).imp λ σ H Q q=>?_
 obtain⟨φ,ρ,s,d,s',E,R,B,q⟩:=q
 have B:((kY F es ρ s).bind λ l s=>match ρ[i]? with
  | some (some (.fn f))=>F.call f l s
  | some (some (.clo id cs))=>F.lam id cs l s
  | _=>.bad)=.ok d s':=B
 obtain⟨l,s1,e1,B⟩:=aa0 B
 cases eρ:ρ[i]? with
 | none=>rw[eρ]at B;exact fb B
 | some o =>
  cases o with
  | none=>rw[eρ]at B;exact fb B
  | some v0 =>
   obtain⟨hb,v,hσ,rv⟩:=E.val i v0 eρ
   cases v0 with
   | fn f =>
    rw[eρ]at B
    have B:F.call f l s1=.ok d s':=B
    unfold RV at rv
    obtain⟨a,ha,e2⟩:=rv
    subst e2
    obtain⟨h1,h2⟩:=G.fa f a ha
    rcases G.call f with hb|⟨a',fd,ps,hF,a1,hk,hB⟩
    ·rw[hb]at B;exact fb B
    ·rw[h1]at a1
     cases a1
     refine⟨a,hσ,.inr h2,φ,ρ,s,l,s1,E,R,e1,λ vs φ1 H1 g1 l1 b1 r1 R1=>?_⟩
     exact⟨.inr h2,_,_,ClOk.ofFn hF hB,trivial,φ1,s1,l,d,s',R1,r1,b1,B,q.trans g1 l1⟩
   | clo id cs =>
    rw[eρ]at B
    have B:F.lam id cs l s1=.ok d s':=B
    unfold RV at rv
    unfold kF at hb
    obtain⟨f,cap,J,C,e2,a3,a0,a2,a4⟩:=rv
    subst e2
    have fin:∀ H',CloAt H' f J cap C->bE0 X.K H' f:=λ H' h'=>h'.fn
    refine⟨f,hσ,fin H a0,φ,ρ,s,l,s1,E,R,e1,λ vs φ1 H1 g1 l1 b1 r1 R1=>?_⟩
    have Y:=a0.kp g1.w.kp
    exact⟨fin H1 Y,_,_,G.cl id J f cap C a3 a2,Y,φ1,s1,cs,l,d,s',R1,r1,RVL.mono g1 cs cap hb a4,b1,ab9 l1 cs hb,B,q.trans g1 l1⟩
   | _=>rw[eρ]at B;exact fb B
end
section
variable {Γ:Gm} {F:kX} {n:Nat} {X:Cx} {ck:Ck} {σ:St} {H:Hp} {Q:VK}
def cq0 (K:ac)(H:Hp)(v:V)(ys:List V):Prop:=(∃ a,v=.ref a/\(SqL K H a ys\/SqT K H a ys))\/∃ x:List Nat,v=.str ⟨x.toArray⟩/\x.length<=kI/\ys=sgV x
def TLv (Γ:Gm)(m:kC->kz->kD (List kA)):TE:=λ σ H Q=>∃ φ ρ s l s',RE Γ φ H s.length ρ σ/\Rp Γ φ H s/\m ρ s=.ok l s' /\
 ∀ v ys φ' H',Gr φ s H φ' s' H'->s.length<=s'.length->kB s'.length l=true->cq0 Γ.K H' v ys->RVL Γ φ' H' l ys->Rp Γ φ' H' s'->Q v H'
theorem aN9 {m:kC->kz->kD (List kA)}(h:TLv Γ m σ H Q):TFv Γ m σ H Q:=by
 obtain⟨φ,ρ,s,l,s',E,R,C,q⟩:=h
 exact⟨φ,ρ,s,l,s',E,R,C,λ p ys φ' H' g hl hb y h0 ho r B=>q (.ref p) ys φ' H' g hl hb (.inl ⟨p,rfl,.inl (SqL.of y)⟩) r B⟩
theorem aA3 {φ:Nat->Addr}:∀ x:List Nat,RVL Γ φ H (x.map λ c=>.str [c]) (sgV x)
 | []=>.nil
 | c::x=>.cons (RV.strI (by unfold kI;simp)) (aA3 x)
theorem as6 {k:Nat}:∀ x:List Nat,kB k (x.map λ c=>.str [c])=true
 | []=>rfl
 | c::x=>by rw[aH];unfold kB;rw[as6 x];rfl
theorem bX0 {m:kC->kz->kD kA}(h:TLv Γ (λ ρ s=>(m ρ s).bind λ d s=>DV.bf2 d s) σ H Q):TEv Γ m σ H Q:=by
 obtain⟨φ,ρ,s,l,s',E,R,y,q⟩:=h
 obtain⟨d,s1,e1,y⟩:=aa0 y
 refine⟨φ,ρ,s,d,s1,E,R,e1,λ v φ1 J g1 l1 b1 r1 R1=>?_⟩
 cases d with
 | tup l' =>
  cases y
  obtain⟨a,B,rfl,C,G⟩:=r1.tupE
  unfold kF at b1
  exact q _ B φ1 J g1 l1 b1 (.inl ⟨a,rfl,.inr C⟩) G R1
 | str x =>
  cases y
  exact q v (sgV x) φ1 J g1 l1 (as6 x) (.inr ⟨x,r1.strE,r1.strL,rfl⟩) (aA3 x) R1
 | ref k =>
  have y:(match s1[k]? with
   | some (.lst l)=>DV.R.ok l s1
   | some (.ro l)=>.ok l s1
   | _=>.bad)=.ok l s':=y
  rw[r1.refE]
  cases e:s1[k]? with
  | none=>rw[e]at y;exact fb y
  | some ob =>
   rw[e]at y
   cases ob with
   | lst l' =>
    cases y
    obtain⟨B,C,G⟩:=R1.addr e
    have:=R1.wf k _ e
    unfold kG at this
    exact q _ B φ1 J g1 l1 this (.inl ⟨_,rfl,.inl (SqL.of C)⟩) G R1
   | ro l' =>
    cases y
    obtain⟨B,C,G⟩:=R1.obj k _ e
    have:=R1.wf k _ e
    unfold kG at this
    exact q _ B φ1 J g1 l1 this (.inl ⟨_,rfl,.inl C.1⟩) G R1
   | _=>exact fb y
 | _=>exact fb y
theorem TLv.eq {m m':kC->kz->kD (List kA)}(e:∀ ρ s,m ρ s=m' ρ s)(q:TLv Γ m σ H Q):TLv Γ m' σ H Q:=by
 have:m=m':=funext λ ρ=>funext λ s=>e ρ s
 subst this;exact q
theorem aU0 {m:kC->kz->kD (List kA)}{a:Expr}{p pos:Pos}(G:CG Γ F n X ck)(Z:ck.gl "tuple"=true)(hs:shp a=true)(h:PE X a (TLv Γ m)) :
  PE X (.Call (.Name "tuple" p) [a] [] pos) (TEv Γ (λ ρ s=>(m ρ s).bind λ l s=>lz .tuple l s)):=by
 obtain⟨g1,Y,J⟩:=G.gl Z
 refine(ao0 ((aG8 G.K).or (aG0 G.calm)) g1 (G.bi _ (by decide)) aW1 (qf h ag4 (zq hs)) J Y (zq hs) rfl).imp λ σ H Q q=>?_
 obtain⟨φ,ρ,s,d,s',E,R,B,q⟩:=q
 obtain⟨l,s1,e1,B⟩:=aa0 B
 cases B
 refine⟨φ,ρ,s,l,_,E,R,e1,λ v ys φ1 C g1 l1 b1 hq r1 R1=>?_⟩
 rcases hq with⟨a,rfl,hq|hq⟩|⟨x,rfl,hx,rfl⟩
 ·exact .inl ⟨a,ys,rfl,.inl ⟨hq,λ p y=>(q.trans g1 l1).tup R1 r1 b1 y⟩⟩
 ·exact .inl ⟨a,ys,rfl,.inr ⟨hq,q _ φ1 C g1 l1 (by unfold kF;exact b1) (RV.tupI hq r1) R1⟩⟩
 ·exact .inr ⟨x,rfl,hx,λ p y=>(q.trans g1 l1).tup R1 r1 b1 y⟩
theorem aY1 {m:kC->kz->kD (List kA)}{a:Expr}{p pos:Pos}(G:CG Γ F n X ck)(Y:ck.gl "list"=true)(hs:shp a=true)(h:PE X a (TLv Γ m)) :
  PE X (.Call (.Name "list" p) [a] [] pos) (TEv Γ (λ ρ s=>(m ρ s).bind λ l s=>lz .list l s)):=by
 obtain⟨g1,J,C⟩:=G.gl Y
 refine(ao0 ((aR7 G.K).or (aR2 G.calm)) g1 (G.bi _ (by decide)) bu0 (qf h ag4 (zq hs)) C J (zq hs) rfl).imp λ σ H Q q=>?_
 obtain⟨φ,ρ,s,d,s',E,R,B,q⟩:=q
 obtain⟨l,s1,e1,B⟩:=aa0 B
 obtain⟨rfl,rfl⟩:=qQ B
 refine⟨φ,ρ,s,l,_,E,R,e1,λ v ys φ1 Z g1 l1 b1 hq r1 R1=>?_⟩
 rcases hq with⟨a,rfl,hq⟩|⟨x,rfl,hx,rfl⟩
 ·exact .inl ⟨a,ys,rfl,hq,λ p y=>(q.trans g1 l1).alloc R1 r1 b1 y⟩
 ·exact .inr ⟨x,rfl,hx,λ p y=>(q.trans g1 l1).alloc R1 r1 b1 y⟩
theorem bR6 {m:kC->kz->kD (List kA)}{k:lG}{x:Str}{a:Expr}{p pos:Pos}(G:CG Γ F n X ck)(hk:mkT k=some x)(y:ck.gl x=true)(hs:shp a=true)(h:PE X a (TLv Γ m)) :
  PE X (.Call (.Name x p) [a] [] pos) (TEv Γ (λ ρ s=>(m ρ s).bind λ l s=>lz k l s)):=by
 cases k<;>cases hk
 ·exact aU0 G y hs h
 ·exact aY1 G y hs h
def FrC (Γ:Gm)(X:Cx)(x:Str)(k:lG):Prop:=∃ id r,bh x=some (.builtin id)/\x∈bNames/\ae5 X (.builtin id) r/\∀ φ H s l ys p d s' Q,Rp Γ φ H s->RVL Γ φ H l ys->H p=some (.lst ys)->lz k l s=.ok d s'->ag1 Γ φ s H d s' Q->r [.ref p] H Q
theorem aM3:∀(l:List Int) (a:Int),(l.foldl min a=a\/l.foldl min a∈l)/\l.foldl min a<=a/\∀ y∈l,l.foldl min a<=y
 | [],a=>⟨.inl rfl,bH _,λ y hy=>by cases hy⟩
 | b::l,a=>by
  obtain⟨B,C,h3⟩:=aM3 l (min a b)
  rw[cu]
  refine⟨?_,by omega,λ y hy=>?_⟩
  ·rcases B with h|h
   ·rw[h]
    rcases kj a b with z|z
    ·left;omega
    ·right;rw[show min a b=b by omega];exact aC ..
   ·exact .inr (aw _ h)
  ·rcases au.mp hy with z|z
   ·rw[z];omega
   ·exact h3 y z
theorem aM0 {l:List Int}{m:Int}(h:lq l=some m):m∈l/\∀ y∈l,m<=y:=by
 cases l with
 | nil=>cases h
 | cons a l =>
  cases h
  obtain⟨B,C,h3⟩:=aM3 l a
  refine⟨?_,λ y hy=>?_⟩
  ·rcases B with h|h
   ·rw[h];exact aC ..
   ·exact aw _ h
  ·rcases au.mp hy with z|z
   ·rw[z];exact C
   ·exact h3 y z
theorem bH3 (G:CG Γ F n X ck){k:lG}{x:Str}(hk:mkF k=some x):FrC Γ X x k:=by
 cases k<;>cases hk
 ·refine⟨_,_,cf3,by decide,bd9 G.calm G.K,λ φ H s l ys p d s' Q R r B h q=>?_⟩
  unfold lz at h
  dsimp only at h
  cases e:ls l with
  | none=>rw[e]at h;exact fb h
  | some bs =>
   rw[e]at h
   cases h
   have:=ap9 e
   subst this
   exact⟨p,bs,rfl,SqL.of (by rw[<-r.bls];exact B),q.here R rfl RV.blI⟩
 ·refine⟨_,_,bH5,by decide,aW8 G.calm G.K,λ φ H s l ys p d s' Q R r B h q=>?_⟩
  unfold lz at h
  dsimp only at h
  cases e:lc l with
  | none=>rw[e]at h;exact fb h
  | some is =>
   rw[e]at h
   have h:(match lq is with|some m=>DV.R.ok (DV.D.int m) s|none=>.bad)=.ok d s':=h
   cases e2:lq is with
   | none=>rw[e2]at h;exact fb h
   | some mm =>
    rw[e2]at h
    cases h
    have:=qi e
    subst this
    refine⟨p,is,rfl,SqL.of (by rw[<-r.ints];exact B),(λ(z:is=[])=>by rw[z]at e2;cases e2),λ m h y=>?_⟩
    obtain⟨a,b⟩:=aM0 e2
    have:m=mm:=i7 (y mm a) (b m h)
    rw[this]
    exact q.here R rfl RV.intI
theorem bV8 {m:kC->kz->kD (List kA)}{k:lG}{x:Str}{a:Expr}{p pos:Pos}(G:CG Γ F n X ck)(hk:mkF k=some x)(Z:ck.gl x=true)(hs:shp a=true)(h:PE X a (TFv Γ m)) :
  PE X (.Call (.Name x p) [a] [] pos) (TEv Γ (λ ρ s=>(m ρ s).bind λ l s=>lz k l s)):=by
 obtain⟨g1,J,C⟩:=G.gl Z
 obtain⟨id,r,hb,hx,hc,hr⟩:=bH3 (Γ:=Γ) G hk
 refine(av6 hc g1 (G.bi _ hx) hb (qf h ag4 (zq hs)) C J (zq hs) rfl).imp λ σ H Q q=>?_
 obtain⟨φ,ρ,s,d,s',E,R,y,q⟩:=q
 obtain⟨l,s1,e1,y⟩:=aa0 y
 exact⟨φ,ρ,s,l,_,E,R,e1,λ p ys φ1 B g1 l1 b1 Y h0 ho r1 R1=>hr φ1 B s1 l ys p d s' Q R1 r1 Y y (q.trans g1 l1)⟩
theorem bP5 {md:kC->kz->kD (kA)}{ml:kC->kz->kD (List kA)}{a de:Expr}{p pos kp:Pos}(G:CG Γ F n X ck)(hg:ck.gl "min"=true)(hs:shp a=true)(h:PE X a (TFv Γ ml))(hd:PE X de (TEv Γ md)) :
  PE X (.Call (.Name "min" p) [a] [⟨some "default",de,kp⟩] pos) (TEv Γ (λ ρ s=>(ml ρ s).bind λ l s=>(md ρ s).bind λ d s=>DV.mkD .min l d s)):=by
 obtain⟨g1,Y,g3⟩:=G.gl hg
 refine(bC5 rfl G.calm g1 (G.bi _ (by decide)) h hd (zq hs)).imp λ σ H Q q=>?_
 obtain⟨φ,ρ,s,d,s',E,R,B,q⟩:=q
 obtain⟨l,s1,e1,B⟩:=aa0 B
 obtain⟨d0,s2,e2,B⟩:=aa0 B
 refine⟨φ,ρ,s,l,s1,E,R,e1,λ p ys φ1 H1 g1 l1 b1 hp h0 ho r1 R1=>?_⟩
 refine⟨φ1,ρ,s1,d0,s2,E.mono g1 l1,R1,e2,λ v φ2 H2 Y l2 b2 r2 R2=>?_⟩
 have Z:H2 p=some (.lst ys):=Y.fr p _ hp (by nofun) (λ i ob e mu=>ho i ob e mu)
 unfold DV.mkD at B
 dsimp only at B
 cases e:lc l with
 | none=>rw[e]at B;exact fb B
 | some is =>
  rw[e]at B
  have hm2:(match lq is with|some m=>DV.R.ok (DV.D.int m) s2|none=>DV.R.ok d0 s2)=.ok d s':=B
  have:=qi e
  subst this
  have hq:=q.trans (g1.trans Y l1) (aq l1 l2)
  refine⟨p,is,rfl,SqL.of (by rw[<-r1.ints];exact Z),λ z=>?_,λ m J C=>?_⟩
  ·subst z
   cases hm2
   exact hq.here R2 b2 r2
  ·clear e2
   cases e2:lq is with
   | none =>
    cases is with
    | nil=>cases J
    | cons _ _=>cases e2
   | some mm =>
    rw[e2]at hm2
    cases hm2
    obtain⟨x,y⟩:=aM0 e2
    have:m=mm:=i7 (C mm x) (y m J)
    rw[this]
    exact hq.here R2 rfl RV.intI
theorem bn1 {φ φ':Nat->Addr}{s s':kz}{H':Hp}{r:Nat}{l:List kA}(R:Rp Γ φ H s)(g:Gr φ s H φ' s' H')(hb:r<s.length)(e:s'[r]?=some (.lst l)):tyV Γ.K "list" (.ref (φ r)) H:=by
 obtain⟨h,y⟩:∃ h,s[r]?=some h:=⟨s[r],ai hb⟩
 have G:=g.mu r h _ y e rfl
 have ho:=R.obj r h y
 cases h with
 | lst l0 =>
  obtain⟨B,C,_⟩:=ho
  exact .inl ⟨rfl,B,SqL.of C⟩
 | ro _=>cases G
 | dic _=>have:=g.kd r _ _ y e;cases this
 | ins _ _=>exact ho.elim
def mtR (Γ:Gm)(m:lH):V->List V->Hp->VK->Prop:=λ x vs H Q=>∃ φ s a l d s',Rp Γ φ H s/\RV Γ φ H a x/\RVL Γ φ H l vs/\a.bnd s.length=true/\kB s.length l=true/\lE m a l s=.ok d s'/\ag1 Γ φ s H d s' Q
theorem bY4:kI<aN:=by rw[fg];decide
theorem aP9 {m:lH}{x:Str}{k:Nat}(y:mtT m=some (x,k)){a:kA}{l:List kA}{s s':kz}{d:kA}(h:lE m a l s=.ok d s'):∃ r l0,a=.ref r/\s[r]?=some (.lst l0):=by
 have go:∀ {r:Nat} {f:List kA->kD kA},(match s[r]? with|some (.lst l)=>f l|_=>.bad)=.ok d s'->∃ l0,s[r]?=some (.lst l0):=λ {r f} h=>by
  cases e:s[r]? with
  | none=>rw[e]at h;exact fb h
  | some ob =>
   cases ob with
   | lst l0=>exact⟨l0,rfl⟩
   | _=>rw[e]at h;exact fb h
 unfold lE at h
 split at h
 ·obtain⟨l0,e⟩:=go h;exact⟨_,l0,rfl,e⟩
 ·obtain⟨l0,e⟩:=go h;exact⟨_,l0,rfl,e⟩
 ·obtain⟨l0,e⟩:=go h;exact⟨_,l0,rfl,e⟩
 ·obtain⟨l0,e⟩:=go h;exact⟨_,l0,rfl,e⟩
 ·obtain⟨l0,e⟩:=go h;exact⟨_,l0,rfl,e⟩
 ·exact fb h
theorem bn2:MtR X "list.append" (mtR Γ .append):=by
 intro C sh σ H x vs v us Q I rx rv h
 obtain⟨φ,s,a,l,d,s',R,ra,rl,ba,Z,B,q⟩:=h
 obtain⟨r,l0,rfl,e⟩:=aP9 (m:=.append) rfl B
 cases l with
 | nil=>exact fb B
 | cons y t =>
  cases t with
  | cons _ _=>exact fb B
  | nil =>
   simp only[lE,e]at B
   split at B
   case isFalse=>exact fb B
   rename_i hlt
   cases B
   obtain⟨z,rfl,Y⟩:=rl.one
   obtain⟨xs,h1,J⟩:=R.addr e
   have G:kB s.length l0=true:=by have:=R.wf r _ e;unfold kG at this;exact this
   refine aB4 C sh σ H x [z] v us Q I rx rv ⟨φ r,xs,z,ra.refE,rfl,h1,by rw[J.length];have:=bY4;omega,?_⟩
   exact q.put R e (J.append (.cons Y .nil)) (qj G Z) rfl RV.nonI
structure MtOk (Γ:Gm)(X:Cx)(m:lH)(x:Str):Prop where
 ex:∃ id,PySem.Slot "list" x id/\typeOf (.builtin id)=pure (.type "method_descriptor")/\MtR X id (mtR Γ m)
theorem ca9 (B:X.K=Γ.K)(y:Room (kL+1) X.A){m:lH}{x:Str}{k:Nat}(h:mtT m=some (x,k)):MtOk Γ X m x:=by
 cases m<;>cases h
 ·exact⟨_,gI,PySem.F.type_list_append,bn2⟩
theorem bq2 {m:lH}{o:lv}{es:kU}{ob:Expr}{C:List Expr}{x:Str}{ap cp:Pos}(G:CG Γ F n X ck)(Z:mtT m=some (x,C.length))(hab:ce1 ob=true)(hl:(ap.endLine==cp.line)=true)(ho:PE X ob (TEv Γ (kE F o)))
  (a1:mEs ck es C=true) (h:PEs Γ F X es C):EvT Γ X (.Call (.Attribute ob x ap) C [] cp) (kE F (.meth m o es)):=by
 refine .val ?_
 obtain⟨id,slot,a0,hr⟩:=(ca9 (Γ:=Γ) (X:=X) G.K (G.room.mono G.deep) Z).ex
 have hs:=av8 a1
 have key:∀ σ H Q,TEv Γ (kE F (.meth m o es)) σ H Q->tBM Γ.K "list" (mtR Γ m) (TEv Γ (kE F o)) (TAv Γ (kY F es)) σ H Q:=λ σ H Q q=>by
  obtain⟨φ,ρ,s,d,s',E,R,B,q⟩:=q
  obtain⟨a,s1,e1,B⟩:=aa0 B
  obtain⟨l,s2,e2,B⟩:=aa0 B
  refine⟨φ,ρ,s,a,s1,E,R,e1,λ v φ1 H1 g1 l1 b1 r1 R1=>?_⟩
  obtain⟨r,l0,rfl,er⟩:=aP9 Z B
  rw[r1.refE]
  have hk:∀ φ2 H2,Gr φ1 s1 H1 φ2 s2 H2->tyV Γ.K "list" (.ref (φ1 r)) H1:=λ φ2 H2 g2=>bn1 R1 g2 (by unfold kF at b1;exact of_decide_eq_true b1) er
  have J:TAv Γ (kY F es) σ H1 λ C H2=>mtR Γ m (.ref (φ1 r)) C H2 Q:=by
   refine⟨φ1,ρ,s1,l,s2,E.mono g1 l1,R1,e2,λ vs φ2 H2 g2 l2 b2 r2 R2=>?_⟩
   refine⟨φ2,s2,.ref r,l,d,s',R2,?_,r2,zy l2 _ b1,b2,B,q.trans (g1.trans g2 l1) (aq l1 l2)⟩
   have:=RV.mono g2 _ _ b1 r1
   rw[r1.refE]at this
   exact this
  refine⟨?_,J⟩
  have hlt:r<s1.length:=by unfold kF at b1;exact of_decide_eq_true b1
  obtain⟨o0,e0⟩:∃ o0,s1[r]?=some o0:=⟨s1[r],ai hlt⟩
  have Y:=R1.obj r o0 e0
  cases o0 with
  | lst l0 =>
   obtain⟨C,h1,_⟩:=Y
   exact .inl ⟨rfl,C,SqL.of h1⟩
  | ro l0 =>
   obtain⟨C,h1,_⟩:=Y
   exact .inl ⟨rfl,C,h1.1⟩
  | dic _ =>
   obtain⟨o',eo,ek⟩:=DV.ak6 G.fk es ρ s1 _ _ e2 r _ e0
   rw[er]at eo;cases eo;cases ek
  | ins _ _=>exact Y.elim
 cases C with
 | nil =>
  have p0:PE X (.Call (.Attribute ob x ap) [] [] cp) (co1 X.K "list" (mtR Γ m) (TEv Γ (kE F o))):=bZ8 fV slot a0 hr ho (bc9 hab) hl
  rw[G.K]at p0
  refine p0.imp λ σ H Q q=>?_
  cases es with
  | cons _ _=>exact h.elim
  | nil =>
   obtain⟨φ,ρ,s,d,s',E,R,B,k⟩:=key σ H Q q
   refine⟨φ,ρ,s,d,s',E,R,B,λ v φ1 H1 g1 l1 b1 r1 R1=>?_⟩
   obtain⟨h1,h2⟩:=k v φ1 H1 g1 l1 b1 r1 R1
   exact⟨h1,aN1 (TAv.eq (λ ρ s=>rfl) h2)⟩
 | cons y ys =>
  refine(ca0 G.K fV slot a0 hr ho (aq4 h) (bc9 hab) ?_ hl (zq (hs y (aC ..))) (zW λ e he=>hs e (aw _ he)).1).imp key
  rw[(zW hs).2]
  have:(y::ys).length<=1:=by
   unfold mtT at Z
   split at Z<;>first|(have:=ar Z;have:=congrArg Prod.snd this;simp at this;simp;omega)|cases Z
  simp only[d5,dq,km]
  show(true&&decide ((y::ys).length+0+0<30))=true
  rw[d5]
  exact decide_eq_true (by omega)
end
section
variable {Γ:Gm} {F:kX} {n:Nat} {X:Cx} {ck:Ck} {σ:St} {H:Hp} {Q:VK}
theorem PIf.imp {e:List Expr}{t t':TT}(h:PIf X e t)(i:∀ σ H Q,t' σ H Q->t σ H Q):PIf X e t':=λ y s σ H Q I q=>h y s σ H Q I (i σ H Q q)
structure CompF (Γ:Gm)(X:Cx)(m:kC->kz->kD (List kA))(E:Expr):Prop where
 ex:∃ elt tgt iter ifs scope pos N' caps wi g tc te,E=.ListComp elt [⟨tgt,iter,ifs,0⟩] scope pos/\qr N' caps scope X.N X.env.scope=true/\PI X tgt iter wi /\
  (∀(C:Addr) (cells:List (Str×Addr)) (s:af) (H:Hp) (ex:List Addr),PG (z0 X N' scope C cells s H ex) tgt g/\PIf (z0 X N' scope C cells s H ex) ifs tc/\PE (z0 X N' scope C cells s H ex) elt te) /\
  (∀ x,cY iter X.env x=pure x)/\∀ σ H Q,TFv Γ m σ H Q->tComp caps wi g tc te σ H Q
theorem CompF.pe {m:kC->kz->kD (List kA)}{E:Expr}(h:CompF Γ X m E)(hc:X.calm=true):PE X E (TFv Γ m):=by
 obtain⟨B,Z,iter,G,scope,pos,C,y,wi,g,tc,te,rfl,h1,h2,h3,J,Y⟩:=h.ex
 exact(aZ7 C y h1 h2 hc h3 J).imp Y
theorem bF1 {tg:la}{mI:kC->kz->kD ln}{mc J:kC->kz->kD kA}{h:List (Option Nat)}{B y iter i:Expr}{scope:Scope}{pos:Pos}(G:CG Γ F n X ck)(Z:aT3 ck tg y iter h scope=true)
  (hi:PI X y iter (TIv Γ mI)) (hc:∀ C cells s H ex,PT (z0 X (ckC ck y h scope).N scope C cells s H ex) i (TTv Γ mc)) (he:∀ C cells s H ex,PE (z0 X (ckC ck y h scope).N scope C cells s H ex) B (TEv Γ J)) :
  CompF Γ X (λ ρ s=>(mI ρ s).bind λ q s0=>if q.its.length<=kI then lF (λ s=>kS s0 s q.src) (λ d ρ s=>match kT ρ tg d with
   | some ρ=>kK (mc ρ s) λ k s=>if k then(J ρ s).bind λ v s=>.ok (some v,ρ) s else .ok (none,ρ) s
   | none=>.bad) q.its (ly ρ h) s0 else .bad) (.ListComp B [⟨y,iter,[i],0⟩] scope pos):=by
 obtain⟨Y,c2,c3⟩:=G.comp Z
 exact⟨B,y,iter,[i],scope,pos,_,h,_,_,_,_,rfl,Y,hi,λ C cells s H ex=>⟨(c3 C cells s H ex).2,bw8 (hc C cells s H ex),he C cells s H ex⟩,aH3 c2,λ σ H Q q=>aW7 q⟩
theorem bm7 {tg:la}{mI:kC->kz->kD ln}{Y:kC->kz->kD kA}{h:List (Option Nat)}{B y iter:Expr}{scope:Scope}{pos:Pos}(G:CG Γ F n X ck)(J:aT3 ck tg y iter h scope=true)
  (hi:PI X y iter (TIv Γ mI)) (he:∀ C cells s H ex,PE (z0 X (ckC ck y h scope).N scope C cells s H ex) B (TEv Γ Y)) :
  CompF Γ X (λ ρ s=>(mI ρ s).bind λ q s0=>if q.its.length<=kI then lF (λ s=>kS s0 s q.src) (λ d ρ s=>match kT ρ tg d with
   | some ρ=>(Y ρ s).bind λ v s=>.ok (some v,ρ) s
   | none=>.bad) q.its (ly ρ h) s0 else .bad) (.ListComp B [⟨y,iter,[],0⟩] scope pos):=by
 obtain⟨Z,c2,c3⟩:=G.comp J
 refine⟨B,y,iter,[],scope,pos,_,h,_,_,TTv Γ (λ ρ s=>.ok (.bl true) s),_,rfl,Z,hi,λ C cells s H ex=>⟨(c3 C cells s H ex).2,bx8.imp λ σ H Q q=>?_,he C cells s H ex⟩,aH3 c2,λ σ H Q q=>aW7 (TFv.eq (λ ρ s=>?_) q)⟩
 ·obtain⟨φ,ρ,s,b,s',E,R,J,q⟩:=q
  cases J
  exact q φ H (Gr.refl _ _ _) (aj _) R
 ·congr 1
theorem bA4 {tg:Expr}{e:lv}{E:Expr}(G:CG Γ F n X ck)(h:PE X E (TEv Γ (kE F e))):PI X tg E (TIv Γ (lQ F (.seq e))):=by
 refine(PI.or (by6 G.K h) (PI.or (br7 G.K h) (bR9 h))).imp λ σ H R q=>bN1 (TIv.eq (λ ρ s=>rfl) q)
theorem bo0 {tg:Expr}{a:lv}{l:Expr}{p pos:Pos}(G:CG Γ F n X ck)(y:ck.gl "range"=true)(hs:shp l=true)(h:PE X l (TEv Γ (kE F a))):PI X tg (.Call (.Name "range" p) [l] [] pos) (TIv Γ (lQ F (.rng1 a))) :=
 (aV4 (G.gl y).1 (G.bi _ (by decide)) (qf h ag4 (zq hs)) (zq hs)).imp λ σ H R q=>bJ9 (TIv.eq (λ ρ s=>rfl) q)
theorem bw9 {elts:List Expr}{ek:Nat}{epos:Pos}{a b:lv}{l r:Expr}{p pos:Pos}(G:CG Γ F n X ck)(B:ck.gl "zip"=true)(hs:shp l=true)(y:shp r=true)(h:PE X l (TEv Γ (kE F a)))(C:PE X r (TEv Γ (kE F b))):PI X (.Tuple elts ek epos) (.Call (.Name "zip" p) [l,r] [] pos) (TIv Γ (lQ F (.zip (.seq a) (.seq b)))):=by
 have q:=bW8 (elts:=elts) (ek:=ek) (epos:=epos) (p:=p) (pos:=pos) (G.gl B).1 (G.bi _ (by decide)) (qf h (qf C ag4 (zq y)) (zq hs)) (by rw[zq hs,zq y];rfl) (zq y)
 rw[G.K]at q
 exact q.imp λ σ H R q=>bT3 (TIv.eq (λ ρ s=>rfl) q)
theorem bV4 (h:TEv Γ (λ ρ s=>lf (.dic []) s) σ H Q):bs7 σ H Q:=by
 obtain⟨φ,ρ,s,d,s',E,R,B,q⟩:=h
 obtain⟨rfl,rfl⟩:=qQ B
 intro p y
 obtain⟨g,C⟩:=R.new (o:=.dic []) (u:=.dK []) y rfl λ φ' H' g e=>⟨[],e,rfl⟩
 exact q (.ref p) _ _ g (by simp) (by unfold kF;simp) (by unfold RV;simp) C
theorem ca4 {mk mv:kC->kz->kD kA}(h:TEv Γ (λ ρ s=>(mk ρ (s++[.dic []])).bind λ kd s1=>(mv ρ s1).bind λ C s2=>if kd.key=true/\s2[s.length]?=some (.dic [])then .ok (.ref s.length) (s2.set s.length (.dic [(kd,C)]))else .bad) σ H Q):bX1 [(TEv Γ mk,TEv Γ mv)] σ H Q:=by
 obtain⟨φ,ρ,s,d,s',E,R,y,q⟩:=h
 obtain⟨kd,s1,e1,y⟩:=aa0 y
 obtain⟨C,s2,e2,y⟩:=aa0 y
 split at y
 case isFalse=>exact fb y
 rename_i hc
 cases y
 intro p hp
 obtain⟨g0,R0⟩:=R.new (o:=.dic []) (u:=.dK []) hp rfl λ φ' H' g e=>⟨[],e,rfl⟩
 have l0:s.length<=(s++[DV.O.dic []]).length:=by simp
 refine⟨_,ρ,s++[DV.O.dic []],kd,s1,E.mono g0 l0,R0,e1,λ v1 φ1 H1 g1 l1 b1 r1 R1=>?_⟩
 refine⟨φ1,ρ,s1,C,s2,(E.mono g0 l0).mono g1 l1,R1,e2,λ Z φ2 H2 J G b2 r2 R2=>?_⟩
 have B:φ2 s.length=p:=by
  rw[J.w.map s.length (ak (by simp) l1),g1.w.map s.length (by simp)];simp
 obtain⟨k,hk⟩:=an4 hc.1
 have ek:=aN7 hk (RV.mono J kd v1 b1 r1)
 obtain⟨Y,z1,z2⟩:=R2.obj s.length _ hc.2
 have z2:Y=[]:=z2
 subst z2
 rw[B]at z1
 refine⟨z1,[(k,Z)],by rw[ek];rfl,by simp,?_⟩
 have hb:(DV.O.dic [(kd,C)]).bnd s2.length=true:=by
  unfold kG
  simp only[aH,cG,kB,d4,ao]
  exact⟨zy G _ b1,b2⟩
 obtain⟨g3,R3⟩:=R2.set (o:=.dic [(kd,C)]) (u:=.dK [(k,Z)]) hc.2 rfl hb λ H' g e=>⟨_,e,k,Z,[],rfl,hk,RV.monoW g _ _ b2 r2,rfl⟩
 rw[B]at g3 R3
 have L:s.length<=s2.length:=aq l0 (aq l1 G)
 have lt:s.length<s2.length:=ak (by simp) (aq l1 G)
 exact q (.ref p) _ _ (((g0.trans g1 l0).trans J (aq l0 l1)).trans g3 L) (by rw[bA];exact L) (by unfold kF;rw[bA];exact decide_eq_true lt) (by unfold RV;rw[B]) R3
end
section
variable {Γ:Gm} {F:kX} {n:Nat}
theorem bY7 {X:Cx}{c:DV.Cn}{v:Const}{k:Nat}{pos:Pos}(h:mC c v=true):EvT Γ X (.Constant v k pos) (kE F (.cst c)):=by
 refine .val ?_
 unfold mC at h
 split at h
 ·exact bO5.imp λ σ H Q q=>aB6 (c:=.non) (λ _=>rfl) (λ _ _=>RV.nonI) (TEv.eq (λ ρ s=>rfl) q)
 ·rename_i b c
  have e:=eq_of_beq h
  subst e
  exact ch3.imp λ σ H Q q=>aB6 (c:=.bl b) (λ _=>rfl) (λ _ _=>RV.blI) (TEv.eq (λ ρ s=>rfl) q)
 ·rename_i i j
  have e:=of_decide_eq_true h
  subst e
  exact bP2.imp λ σ H Q q=>aB6 (c:=.int i) (λ _=>rfl) (λ _ _=>RV.intI) (TEv.eq (λ ρ s=>rfl) q)
 ·rename_i x y
  rw[ao]at h
  have e:=of_decide_eq_true h.1
  have e2:=of_decide_eq_true h.2
  subst e
  exact ca6.imp λ σ H Q q=>aB6 (c:=.str x) (λ _=>rfl) (λ _ _=>RV.strI (by unfold kI;omega)) (TEv.eq (λ ρ s=>rfl) q)
 ·cases h
theorem bJ1 {X:Cx}{Y:Ck}{es:kU}{y:List Expr}{pos:Pos}(m:mEs Y es y=true)(hz:y.length<=1000)(h:PA X y (TAv Γ (kY F es))):PE X (.List y pos) (TFv Γ (DV.evL F (.disp es))):=by
 refine(bu7 h).imp λ σ H Q q=>?_
 obtain⟨φ,ρ,s,l,s',E,R,J,q⟩:=q
 refine⟨φ,ρ,s,l,s',E,R,J,λ vs φ1 C g1 l1 b1 r1 R1=>⟨by rw[r1.length,au8 J m];exact bi5 hz,λ p B=>?_⟩⟩
 obtain⟨G,R2⟩:=R1.same (H':=upd C p (.lst vs)) ((ah3.refl C).new B)
 refine q p vs φ1 _ (g1.trans G l1) l1 b1 zr ?_ (Off.new R1 B) (RVL.mono G _ _ b1 r1) R2
 cases e:H p with
 | none=>rfl
 | some o=>exact absurd B (g1.st p (by rw[e];simp))
theorem CompF.eq {X:Cx}{m m':kC->kz->kD (List kA)}{E:Expr}(c:CompF Γ X m E)(e:∀ ρ s,m' ρ s=m ρ s):CompF Γ X m' E:=by
 have:m'=m:=funext λ ρ=>funext λ s=>e ρ s
 subst this;exact c
theorem zz {a b:Bool}(h:(a&&b)=true):a=true/\b=true:=by rw[ao]at h;exact h
theorem bB1 {X:Cx}{B:Ck}{g:String}{p:Pos}(G:CG Γ F n X B)(h:B.gl (g:Str)=true):EvT Γ X (.Name (g:Str) p) (kE F (.glob g)):=by
 refine .val ?_
 obtain⟨g1,J,g3⟩:=G.gl h
 cases e:F.con g with
 | none =>
  intro C s σ H Q I q
  obtain⟨φ,ρ,s,d,s',E,R,y,q⟩:=q
  have y:(match F.con g with|some d=>DV.R.ok d s|none=>.bad)=.ok d s':=y
  rw[e]at y
  cases y
 | some d =>
  obtain⟨v,u,Y,Z,h3,h4⟩:=G.con g d e
  exact(bI0 g1 Y Z J).imp λ σ H Q q=>aB6 (c:=d) h3 h4 (TEv.eq (λ ρ s=>by show(match F.con g with|some d=>DV.R.ok d s|none=>.bad)=DV.R.ok d s;rw[e]) q)
theorem bU2 {X:Cx}{y:Ck}{i:Nat}{x:Str}{p:Pos}(G:CG Γ F n X y)(h:y.var i x=true):EvT Γ X (.Name x p) (kE F (.var i)):=by
 refine .val ?_
 unfold Ck.var at h
 obtain⟨h,B⟩:=zz h
 obtain⟨h,h3⟩:=zz h
 obtain⟨C,J⟩:=zz h
 have e1:(x==("__debug__":Str))=false:=by simpa using h3
 have e2:(x==("__classdict__":Str))=false:=by simpa using B
 exact(ba6 (by rw[G.N];exact of_decide_eq_true C) (G.vis J) e1 e2).imp λ σ H Q q=>bN4 i (TEv.eq (λ ρ s=>rfl) q)
theorem bs3 {X:Cx}{y:Ck}{i:Nat}{x:Str}{p:Pos}(G:CG Γ F n X y)(h:y.var i x=true):PE X (.Name x p) (bt6 i):=by
 unfold Ck.var at h
 obtain⟨h,B⟩:=zz h
 obtain⟨h,h3⟩:=zz h
 obtain⟨C,J⟩:=zz h
 exact ba6 (by rw[G.N];exact of_decide_eq_true C) (G.vis J) (by simpa using h3) (by simpa using B)
theorem ay1 {G:Ck}:∀ {es:lp} {C:List Expr},bL7 G es C=true->∀ x∈C,shp x=true
 | .nil,[],_,x,hx=>by cases hx
 | .nil,_::_,h,_,_=>ff h
 | .ex e es,[],h,_,_=>ff h
 | .ex e es,y::ys,h,x,hx=>by
  obtain⟨h,h3⟩:=zz h
  obtain⟨J,B⟩:=zz h
  rcases au.mp hx with rfl|hx
  ·exact B
  ·exact ay1 h3 x hx
 | .lam _ _ es,[],h,_,_=>ff h
 | .lam _ _ es,y::ys,h,x,hx=>by
  obtain⟨h,h3⟩:=zz h
  obtain⟨J,B⟩:=zz h
  rcases au.mp hx with rfl|hx
  ·exact B
  ·exact ay1 h3 x hx
 | .fn _ _,_,h,_,_=>ff h
theorem aL6 {C:Ck}:∀ {es:lp} {G:List Expr},bL7 C es G=true->bo1 es=true->∃ id B E,C.lk id B E=true
 | .nil,_,_,h=>by cases h
 | .ex e es,[],h,_=>ff h
 | .ex e es,y::ys,h,hl=>by
  obtain⟨h,h3⟩:=zz h
  exact aL6 h3 hl
 | .lam id B es,[],h,_=>ff h
 | .lam id B es,y::ys,h,_=>by
  obtain⟨h,h3⟩:=zz h
  obtain⟨J,Y⟩:=zz h
  exact⟨id,B,y,J⟩
 | .fn _ _,_,h,_=>ff h
theorem aO3 {X:Cx}{E:Expr}{m:kC->kz->kD kA}(h:∀ ρ s,m ρ s=.bad):EvT Γ X E m:=by
 refine⟨λ y s σ H Q I q=>?_,λ y s σ H Q I q=>?_⟩
 ·obtain⟨φ,ρ,s,d,s',E,R,B,q⟩:=q
  rw[h]at B;exact fb B
 ·obtain⟨φ,ρ,s,d,s',E,R,B,q⟩:=q
  rw[h]at B;exact fb B
inductive LK (Γ:Gm)(X:Cx)(m:kC->kz->kD (List kA))(E:Expr)(k:Nat):Prop where
 | c (h:CompF Γ X m E):LK Γ X m E k
 | f (hk:1<=k) (h:PE X E (TFv Γ m)):LK Γ X m E k
 | s (hk:k=2) (h:PE X E (TLv Γ m)):LK Γ X m E k
theorem bP6 {X:Cx}{m:kC->kz->kD (List kA)}{E:Expr}(h:LK Γ X m E 0):CompF Γ X m E:=by
 cases h with
 | c h=>exact h
 | f hk h=>omega
 | s hk h=>omega
theorem bO0 {X:Cx}{y:Ck}{m:kC->kz->kD (List kA)}{E:Expr}(G:CG Γ F n X y)(h:LK Γ X m E 1):PE X E (TFv Γ m):=by
 cases h with
 | c h=>exact h.pe G.calm
 | f hk h=>exact h
 | s hk h=>omega
theorem ce7 {X:Cx}{y:Ck}{m:kC->kz->kD (List kA)}{E:Expr}(G:CG Γ F n X y)(h:LK Γ X m E 2):PE X E (TLv Γ m):=by
 cases h with
 | c h=>exact(h.pe G.calm).imp λ σ H Q q=>aN9 q
 | f hk h=>exact h.imp λ σ H Q q=>aN9 q
 | s hk h=>exact h
theorem biOk_inv {B:Ck}{b:k9}{x:Str}{C:List Expr}{es:kU}(h:cb3 B b x C (mEs B es C) (mEs B es (C.take 1))=true) :
  (∃ k t a y J,biK b=some (k,t)/\C=[a,.Name y J]/\x=("isinstance":Str)/\y=t/\B.gl x=true/\B.gl y=true/\mEs B es [a]=true)\/∃ a ys,C=a::ys/\biT b=some x/\B.gl x=true/\mEs B es (a::ys)=true:=by
 unfold cb3 at h
 cases hk:biK b with
 | none =>
  rw[hk]at h
  cases C with
  | nil=>exact ff h
  | cons a ys =>
   obtain⟨h,h3⟩:=zz h
   obtain⟨G,Y⟩:=zz h
   exact .inr ⟨a,ys,rfl,of_decide_eq_true G,Y,h3⟩
 | some p =>
  rw[hk]at h
  cases C with
  | nil=>exact ff h
  | cons a ys=>cases ys with
   | nil=>exact ff h
   | cons b ys=>cases b with
    | Name y J=>cases ys with
     | nil =>
      obtain⟨h,Z⟩:=zz h
      obtain⟨h,h4⟩:=zz h
      obtain⟨h,h3⟩:=zz h
      obtain⟨G,Y⟩:=zz h
      exact .inl ⟨p.1,p.2,a,y,J,rfl,rfl,of_decide_eq_true G,of_decide_eq_true h3,Y,h4,Z⟩
     | cons _ _=>exact ff h
    | _=>exact ff h
mutual
theorem sE:∀(e:lv) (E:Expr) (X:Cx) (B:Ck),CG Γ F n X B->mE B e E=true->EvT Γ X E (kE F e)
 | .var i,E,X,B,G,h=>by
  cases E with
  | Name x p =>
   exact bU2 G h
  | _=>exact ff h
 | .cst c,E,X,B,G,h=>by
  cases E with
  | Constant v k p =>
   exact bY7 h
  | _=>exact ff h
 | .glob g,E,X,B,G,h=>by
  cases E with
  | Name x p =>
   obtain⟨J,C⟩:=zz h
   have e:=of_decide_eq_true J
   subst e
   exact bB1 G C
  | _=>exact ff h
 | .bin op a b,E,X,B,G,h=>by
  cases E with
  | BinOp l o r pE =>
   obtain⟨h,h3⟩:=zz h
   obtain⟨J,C⟩:=zz h
   have e:=of_decide_eq_true J
   subst e
   exact bB6 G op (sE a _ X B G C) (sE b _ X B G h3)
  | _=>exact ff h
 | .neg a,E,X,B,G,h=>by
  cases E with
  | UnaryOp o l p =>
   cases o with
   | USub =>
    exact bF7 (sE a _ X B G h)
   | _=>exact ff h
  | _=>exact ff h
 | .not a,E,X,B,G,h=>by
  cases E with
  | UnaryOp o l p =>
   cases o with
   | Not =>
    exact bJ6 (sE a _ X B G h)
   | _=>exact ff h
  | _=>exact ff h
 | .cmp op a b,E,X,B,G,h=>by
  cases E with
  | Compare l os rs pE =>
   cases os with
   | cons o os_0 =>
    cases os_0 with
    | nil =>
     cases rs with
     | cons r rs_0 =>
      cases rs_0 with
      | nil =>
       obtain⟨h,h3⟩:=zz h
       obtain⟨J,C⟩:=zz h
       have e:=of_decide_eq_true J
       subst e
       exact bH9 G op (aD4 h3) (sE a _ X B G C) (sE b _ X B G h3)
      | _=>exact ff h
     | _=>exact ff h
    | _=>exact ff h
   | _=>exact ff h
  | _=>exact ff h
 | .chain o p a b c,E,X,B,G,h=>by
  cases E with
  | Compare l os rs pE =>
   cases os with
   | cons o1 os_0 =>
    cases os_0 with
    | cons o2 os_1 =>
     cases os_1 with
     | nil =>
      cases rs with
      | cons m rs_0 =>
       cases rs_0 with
       | cons r rs_1 =>
        cases rs_1 with
        | nil =>
         obtain⟨h,Z⟩:=zz h
         obtain⟨h,Y⟩:=zz h
         obtain⟨h,h3⟩:=zz h
         obtain⟨J,C⟩:=zz h
         have e:=of_decide_eq_true J
         have e':=of_decide_eq_true C
         subst e
         subst e'
         exact bh9 G o p (aD4 Z) (sE a _ X B G h3) (sE b _ X B G Y) (sE c _ X B G Z)
        | _=>exact ff h
       | _=>exact ff h
      | _=>exact ff h
     | _=>exact ff h
    | _=>exact ff h
   | _=>exact ff h
  | _=>exact ff h
 | .isN a,E,X,B,G,h=>by
  cases E with
  | Compare l os rs pE =>
   cases os with
   | cons o os1 =>
    cases o with
    | Is =>
     cases os1 with
     | nil =>
      cases rs with
      | cons r rs1 =>
       cases r with
       | Constant v k p1 =>
        cases v with
        | none =>
         cases rs1 with
         | nil =>
          exact bE7 (sE a _ X B G h)
         | _=>exact ff h
        | _=>exact ff h
       | _=>exact ff h
      | _=>exact ff h
     | _=>exact ff h
    | _=>exact ff h
   | _=>exact ff h
  | _=>exact ff h
 | .notN a,E,X,B,G,h=>by
  cases E with
  | Compare l os rs pE =>
   cases os with
   | cons o os1 =>
    cases o with
    | IsNot =>
     cases os1 with
     | nil =>
      cases rs with
      | cons r rs1 =>
       cases r with
       | Constant v k p1 =>
        cases v with
        | none =>
         cases rs1 with
         | nil =>
          exact bo6 (sE a _ X B G h)
         | _=>exact ff h
        | _=>exact ff h
       | _=>exact ff h
      | _=>exact ff h
     | _=>exact ff h
    | _=>exact ff h
   | _=>exact ff h
  | _=>exact ff h
 | .isB _ _,E,X,B,G,h=>ff h
 | .notB _ _,E,X,B,G,h=>ff h
 | .and a b,E,X,B,G,h=>by
  cases E with
  | BoolOp op vs p=>cases op with
   | And =>
    cases vs with
    | nil=>exact ff h
    | cons l vs=>cases vs with
     | nil=>exact ff h
     | cons r vs=>cases vs with
      | nil =>
       obtain⟨J,C⟩:=zz h
       exact bB5 (sE a _ X B G J) (sE b _ X B G C)
      | cons r2 vs =>
       obtain⟨J,C⟩:=zz h
       exact bz0 (sE a _ X B G J) (sE b _ X B G C)
   | _=>exact ff h
  | _=>exact ff h
 | .or a b,E,X,B,G,h=>by
  cases E with
  | BoolOp op vs p=>cases op with
   | Or =>
    cases vs with
    | nil=>exact ff h
    | cons l vs=>cases vs with
     | nil=>exact ff h
     | cons r vs=>cases vs with
      | nil =>
       obtain⟨J,C⟩:=zz h
       exact bQ5 (sE a _ X B G J) (sE b _ X B G C)
      | cons r2 vs =>
       obtain⟨J,C⟩:=zz h
       exact bM4 (sE a _ X B G J) (sE b _ X B G C)
   | _=>exact ff h
  | _=>exact ff h
 | .ite c a b,E,X,B,G,h=>by
  cases E with
  | IfExp tE l r pE =>
   obtain⟨h,h3⟩:=zz h
   obtain⟨J,C⟩:=zz h
   exact bC9 (sE c _ X B G J) (sE a _ X B G C) (sE b _ X B G h3)
  | _=>exact ff h
 | .tup es,E,X,B,G,h=>by
  cases E with
  | Tuple xs k p =>
   obtain⟨J,C⟩:=zz h
   exact bJ7 J (of_decide_eq_true C) (aq4 (sEs es _ X B G J))
  | _=>exact ff h
 | .lst es,E,X,B,G,h=>by
  cases E with
  | List xs p =>
   obtain⟨J,C⟩:=zz h
   exact bF9 J (of_decide_eq_true C) (aq4 (sEs es _ X B G J))
  | _=>exact ff h
 | .dic .nil .nil,E,X,B,G,h=>by
  cases E with
  | Dict a b p=>cases a with
   | nil=>cases b with
    | nil=>exact .val (bo8.imp λ σ H Q q=>bV4 (TEv.eq (λ ρ s=>rfl) q))
    | _=>exact ff h
   | cons x a=>cases x with
    | none=>exact ff h
    | some x=>cases a with
     | nil=>cases b with
      | nil=>exact ff h
      | cons y b=>cases b with
       | nil=>exact ff h
       | _=>exact ff h
     | _=>exact ff h
  | _=>exact ff h
 | .dic (.cons k .nil) (.cons v .nil),E,X,B,G,h=>by
  cases E with
  | Dict a b p=>cases a with
   | nil=>cases b with
    | nil=>exact ff h
    | _=>exact ff h
   | cons x a=>cases x with
    | none=>exact ff h
    | some x=>cases a with
     | nil=>cases b with
      | nil=>exact ff h
      | cons y b=>cases b with
       | nil =>
        obtain⟨J,C⟩:=zz h
        obtain⟨J,_⟩:=zz J
        obtain⟨J,_⟩:=zz J
        obtain⟨C,_⟩:=zz C
        obtain⟨C,_⟩:=zz C
        exact .val ((bA9 (bq1 (sE k _ X B G J).1 (sE v _ X B G C).1 bI9) rfl rfl (by nofun) (by show 1<=15;decide)).imp λ σ H Q q=>ca4 (TEv.eq (λ ρ s=>rfl) q))
       | _=>exact ff h
     | _=>exact ff h
  | _=>exact ff h
 | .dic .nil (.cons _ _),E,X,B,G,h=>aO3 λ _ _=>rfl
 | .dic (.cons _ .nil) .nil,E,X,B,G,h=>aO3 λ _ _=>rfl
 | .dic (.cons _ .nil) (.cons _ (.cons _ _)),E,X,B,G,h=>aO3 λ _ _=>rfl
 | .dic (.cons _ (.cons _ _)) _,E,X,B,G,h=>aO3 λ _ _=>rfl
 | .ix a b,E,X,B,G,h=>by
  cases E with
  | Subscript o i p =>
   obtain⟨J,C⟩:=zz h
   exact ca8 G (aD4 C) (sE a _ X B G J) (sE b _ X B G C)
  | _=>exact ff h
 | .slL _ _,E,X,B,G,h=>ff h
 | .slU _ _,E,X,B,G,h=>ff h
 | .slLU _ _ _,E,X,B,G,h=>ff h
 | .rev _,E,X,B,G,h=>ff h
 | .call f as,E,X,B,G,h=>by
  cases E with
  | Call fE xs kw p =>
   cases fE with
   | Name x pN =>
    cases kw with
    | nil =>
     obtain⟨h,h3⟩:=zz h
     obtain⟨J,C⟩:=zz h
     have e:=of_decide_eq_true J
     subst e
     exact bq9 G C h3 (sAs as _ X B G h3)
    | _=>exact ff h
   | _=>exact ff h
  | _=>exact ff h
 | .callC f as,E,X,B,G,h=>by
  cases E with
  | Call fE xs kw p =>
   cases fE with
   | Name x pN =>
    cases xs with
    | cons y ys =>
     cases kw with
     | nil =>
      obtain⟨h,h3⟩:=zz h
      obtain⟨h,Y⟩:=zz h
      obtain⟨J,C⟩:=zz h
      have e:=of_decide_eq_true J
      subst e
      obtain⟨id,a0,E',hlk⟩:=aL6 h3 Y
      obtain⟨_,_,_,_,_,_,_,_,L⟩:=G.lam id a0 E' hlk
      exact .val ((aY2 G C L.fn L.kd (ay1 h3) (ch2 as _ X B G h3)).imp λ σ H Q q=>TEv.eq (λ ρ s=>rfl) q)
     | _=>exact ff h
    | _=>exact ff h
   | _=>exact ff h
  | _=>exact ff h
 | .callV i es,E,X,B,G,h=>by
  cases E with
  | Call fE xs kw p =>
   cases fE with
   | Name x pN =>
    cases xs with
    | cons y ys =>
     cases kw with
     | nil =>
      obtain⟨J,C⟩:=zz h
      exact .val (aW4 G J (av8 C) (aq4 (sEs es _ X B G C)) (bs3 G J))
     | _=>exact ff h
    | _=>exact ff h
   | _=>exact ff h
  | _=>exact ff h
 | .bi b es,E,X,B,G,h=>by
  cases E with
  | Call fE xs kw p =>
   cases fE with
   | Name x pN =>
    cases kw with
    | nil =>
     have h:cb3 B b x xs (mEs B es xs) (mEs B es (xs.take 1))=true:=h
     rcases biOk_inv h with⟨k,t,a,y,py,hk,rfl,rfl,rfl,C,Y,Z⟩|⟨a,ys,rfl,J,C,h3⟩
     ·exact bE3 G hk C Y (sEs es _ X B G Z)
     ·exact bP1 G J C h3 (aq4 (sEs es _ X B G h3))
    | _=>exact ff h
   | _=>exact ff h
  | _=>exact ff h
 | .mk k l,E,X,B,G,h=>by
  cases E with
  | ListComp e gs sc p =>
   obtain⟨J,C⟩:=zz h
   have e:=of_decide_eq_true J
   subst e
   exact .val (((bP6 (sL l _ X B G 0 C)).pe G.calm).imp λ σ H Q q=>bg7 (TEv.eq (λ ρ s=>rfl) q))
  | Call fE xs kw p =>
   cases fE with
   | Name x pN =>
    cases xs with
    | cons a xs_0 =>
     cases xs_0 with
     | nil =>
      cases kw with
      | nil =>
       obtain⟨h,Y⟩:=zz h
       obtain⟨C,h3⟩:=zz h
       rw[bL]at Y
       rcases Y with Y|Y
       ·obtain⟨Z,h6⟩:=zz Y
        exact .val ((bR6 G (of_decide_eq_true Z) C h3 (ce7 G (sL l _ X B G 2 h6))).imp λ σ H Q q=>TEv.eq (λ ρ s=>rfl) q)
       ·obtain⟨Z,h6⟩:=zz Y
        exact .val ((bV8 G (of_decide_eq_true Z) C h3 (bO0 G (sL l _ X B G 1 h6))).imp λ σ H Q q=>TEv.eq (λ ρ s=>rfl) q)
      | _=>exact ff h
     | _=>exact ff h
    | _=>exact ff h
   | _=>exact ff h
  | _=>exact ff h
 | .mks _ _,E,X,B,G,h=>ff h
 | .mkDs _ _ _,E,X,B,G,h=>ff h
 | .mkD k l d,E,X,B,G,h=>by
  cases E with
  | Call fE xs kw p =>
   cases fE with
   | Name x pN =>
    cases xs with
    | cons a xs_0 =>
     cases xs_0 with
     | nil =>
      cases kw with
      | cons kk kw1 =>
       cases kk with
       | mk ky de kp =>
        cases ky with
        | some y =>
         cases kw1 with
         | nil =>
          obtain⟨h,h7⟩:=zz h
          obtain⟨h,h6⟩:=zz h
          obtain⟨h,Z⟩:=zz h
          obtain⟨h,Y⟩:=zz h
          obtain⟨h,h3⟩:=zz h
          obtain⟨J,C⟩:=zz h
          have e:=of_decide_eq_true J
          have e2:=of_decide_eq_true C
          have e3:=of_decide_eq_true h3
          subst e e2 e3
          exact .val ((bP5 G Y Z (bO0 G (sL l _ X B G 1 h6)) (sE d _ X B G h7).1).imp λ σ H Q q=>TEv.eq (λ ρ s=>rfl) q)
         | _=>exact ff h
        | _=>exact ff h
      | _=>exact ff h
     | _=>exact ff h
    | _=>exact ff h
   | _=>exact ff h
  | _=>exact ff h
 | .meth m o es,E,X,B,G,h=>by
  cases E with
  | Call fE xs kw p =>
   cases fE with
   | Attribute ob x ap =>
    cases kw with
    | nil =>
     obtain⟨h,Z⟩:=zz h
     obtain⟨h,Y⟩:=zz h
     obtain⟨h,h3⟩:=zz h
     obtain⟨J,C⟩:=zz h
     exact bq2 G (of_decide_eq_true J) C h3 (sE o _ X B G Y).1 Z (sEs es _ X B G Z)
    | _=>exact ff h
   | _=>exact ff h
  | _=>exact ff h
 | .ext _ _,E,X,B,G,h=>ff h
 | .extS _ _,E,X,B,G,h=>ff h
 | .join _ _,E,X,B,G,h=>ff h
theorem sEs:∀(es:kU) (y:List Expr) (X:Cx) (B:Ck),CG Γ F n X B->mEs B es y=true->PEs Γ F X es y
 | .nil,y,X,B,G,h=>by
  cases y with
  | nil =>
   exact trivial
  | _=>exact ff h
 | .cons e es,y,X,B,G,h=>by
  cases y with
  | cons x y =>
   obtain⟨h,h3⟩:=zz h
   obtain⟨C,J⟩:=zz h
   exact⟨⟨J,sE e _ X B G C⟩,sEs es _ X B G h3⟩
  | _=>exact ff h
theorem sAs:∀(es:lp) (y:List Expr) (X:Cx) (B:Ck),CG Γ F n X B->mAs B es y=true->PA X y (TAv Γ (lw F es))
 | .nil,y,X,B,G,h=>by
  cases y with
  | nil =>
   exact ag4.imp λ σ H Q q=>aN1 (TAv.eq (λ ρ s=>rfl) q)
  | _=>exact ff h
 | .ex e es,y,X,B,G,h=>by
  cases y with
  | cons x y =>
   obtain⟨h,h3⟩:=zz h
   obtain⟨C,J⟩:=zz h
   exact(aP0 J (sE e _ X B G C).1 (sAs es _ X B G h3)).imp λ σ H Q q=>TAv.eq (λ ρ s=>rfl) q
  | _=>exact ff h
 | .lam _ _ _,y,X,B,G,h=>ff h
 | .fn _ _,y,X,B,G,h=>ff h
theorem ch2:∀(es:lp) (y:List Expr) (X:Cx) (B:Ck),CG Γ F n X B->bL7 B es y=true->PA X y (TAp Γ X.env.cells X.N (lw F es))
 | .nil,y,X,B,G,h=>by
  cases y with
  | nil =>
   exact ag4.imp λ σ H Q q=>bL5 (TAp.eq (λ ρ s=>rfl) q)
  | _=>exact ff h
 | .ex e es,y,X,B,G,h=>by
  cases y with
  | cons x y =>
   obtain⟨h,h3⟩:=zz h
   obtain⟨Y,C⟩:=zz h
   exact(qf (sE e _ X B G Y).1 (ch2 es _ X B G h3) (zq C)).imp λ σ H Q q=>bQ8 (TAp.eq (λ ρ s=>rfl) q)
  | _=>exact ff h
 | .lam id caps es,y,X,B,G,h=>by
  cases y with
  | cons x y =>
   obtain⟨h,h3⟩:=zz h
   obtain⟨Y,C⟩:=zz h
   obtain⟨c,P,params,body,scope,pos,J,e,L⟩:=G.lam id caps _ Y
   have hnm:J.nm=none:=by
    cases q:J.nm with
    | none=>rfl
    | some p=>unfold lamText at e;rw[q]at e;rw[e]at C;cases C
   unfold lamText at e
   rw[hnm]at e
   dsimp only at e
   subst e
   rw[<-G.N]at L
   exact(bU0 L hnm (ch2 es _ X B G h3)).imp λ σ H Q q=>TAp.eq (λ ρ s=>rfl) q
  | _=>exact ff h
 | .fn _ _,y,X,B,G,h=>ff h
theorem sI:∀(i:DV.I) (E tg:Expr) (X:Cx) (y:Ck),CG Γ F n X y->mI y tg i E=true->PI X tg E (TIv Γ (lQ F i))
 | .seq e,E,tg,X,y,G,h=>by
  obtain⟨B,C⟩:=zz h
  exact bA4 G (sE e _ X y G B).1
 | .rng1 a,E,tg,X,y,G,h=>by
  cases E with
  | Call fE xs kw p =>
   cases fE with
   | Name x pN =>
    cases xs with
    | cons l xs_0 =>
     cases xs_0 with
     | nil =>
      cases kw with
      | nil =>
       obtain⟨h,J⟩:=zz h
       obtain⟨h,h3⟩:=zz h
       obtain⟨B,C⟩:=zz h
       have e:=of_decide_eq_true B
       subst e
       exact bo0 G C J (sE a _ X y G h3).1
      | _=>exact ff h
     | _=>exact ff h
    | _=>exact ff h
   | _=>exact ff h
  | _=>exact ff h
 | .rng2 _ _,E,tg,X,y,G,h=>ff h
 | .rng3 _ _ _,E,tg,X,y,G,h=>ff h
 | .enum (.seq _),E,tg,X,y,G,h=>ff h
 | .enum (.rng1 _),E,tg,X,y,G,h=>ff h
 | .enum (.rng2 _ _),E,tg,X,y,G,h=>ff h
 | .enum (.rng3 _ _ _),E,tg,X,y,G,h=>ff h
 | .enum (.enum _),E,tg,X,y,G,h=>ff h
 | .enum (.zip _ _),E,tg,X,y,G,h=>ff h
 | .enum (.items _),E,tg,X,y,G,h=>ff h
 | .zip (.seq a) (.seq b),E,tg,X,y,G,h=>by
  cases E with
  | Call fE xs kw p =>
   cases fE with
   | Name x pN =>
    cases xs with
    | cons l xs_0 =>
     cases xs_0 with
     | cons r xs_1 =>
      cases xs_1 with
      | nil =>
       cases kw with
       | nil =>
        obtain⟨h,h7⟩:=zz h
        obtain⟨h,Z⟩:=zz h
        obtain⟨h,Y⟩:=zz h
        obtain⟨h,J⟩:=zz h
        obtain⟨h,h3⟩:=zz h
        obtain⟨B,C⟩:=zz h
        have e:=of_decide_eq_true B
        subst e
        cases tg with
        | Tuple es k p=>exact bw9 G C J Z (sE a _ X y G h3).1 (sE b _ X y G Y).1
        | _=>exact ff h7
       | _=>exact ff h
      | _=>exact ff h
     | _=>exact ff h
    | _=>exact ff h
   | _=>exact ff h
  | _=>exact ff h
 | .zip (.seq _) (.rng1 _),E,tg,X,y,G,h=>ff h
 | .zip (.seq _) (.rng2 _ _),E,tg,X,y,G,h=>ff h
 | .zip (.seq _) (.rng3 _ _ _),E,tg,X,y,G,h=>ff h
 | .zip (.seq _) (.enum _),E,tg,X,y,G,h=>ff h
 | .zip (.seq _) (.zip _ _),E,tg,X,y,G,h=>ff h
 | .zip (.seq _) (.items _),E,tg,X,y,G,h=>ff h
 | .zip (.rng1 _) _,E,tg,X,y,G,h=>ff h
 | .zip (.rng2 _ _) _,E,tg,X,y,G,h=>ff h
 | .zip (.rng3 _ _ _) _,E,tg,X,y,G,h=>ff h
 | .zip (.enum _) _,E,tg,X,y,G,h=>ff h
 | .zip (.zip _ _) _,E,tg,X,y,G,h=>ff h
 | .zip (.items _) _,E,tg,X,y,G,h=>ff h
 | .items _,E,tg,X,y,G,h=>ff h
theorem sL:∀(l:DV.L) (E:Expr) (X:Cx) (B:Ck),CG Γ F n X B->∀ k,mL B k l E=true->LK Γ X (DV.evL F l) E k
 | .comp tg it e caps,E,X,B,G,k,h=>by
  cases E with
  | ListComp elt gs scope p =>
   cases gs with
   | cons g gs1 =>
    cases g with
    | mk tgt iter ifs z =>
     cases ifs with
     | nil =>
      cases gs1 with
      | nil =>
       obtain⟨h,h3⟩:=zz h
       obtain⟨h,J⟩:=zz h
       obtain⟨h0,y⟩:=zz h
       have Y:=of_decide_eq_true h0
       subst Y
       have c:=bm7 (pos:=p) G y (sI it _ _ X B G J) λ C cells s H ex=>(sE e _ _ _ ((G.comp y).2.2 C cells s H ex).1 h3).1
       exact .c (c.eq λ ρ s=>rfl)
      | _=>exact ff h
     | _=>exact ff h
   | _=>exact ff h
  | _=>exact ff h
 | .compIf tg it i e caps,E,X,B,G,k,h=>by
  cases E with
  | ListComp elt gs scope p =>
   cases gs with
   | cons g gs1 =>
    cases g with
    | mk tgt iter ifs z =>
     cases ifs with
     | cons i1 ifs1 =>
      cases ifs1 with
      | nil =>
       cases gs1 with
       | nil =>
        obtain⟨h,Z⟩:=zz h
        obtain⟨h,h3⟩:=zz h
        obtain⟨h,J⟩:=zz h
        obtain⟨h0,y⟩:=zz h
        have Y:=of_decide_eq_true h0
        subst Y
        have c:=bF1 (pos:=p) G y (sI it _ _ X B G J) (λ C cells s H ex=>(sE i _ _ _ ((G.comp y).2.2 C cells s H ex).1 h3).2) λ C cells s H ex=>(sE e _ _ _ ((G.comp y).2.2 C cells s H ex).1 Z).1
        exact .c (c.eq λ ρ s=>rfl)
       | _=>exact ff h
      | _=>exact ff h
     | _=>exact ff h
   | _=>exact ff h
  | _=>exact ff h
 | .disp es,E,X,B,G,k,h=>by
  cases E with
  | List xs p =>
   obtain⟨h,J⟩:=zz h
   obtain⟨h0,y⟩:=zz h
   exact .f (of_decide_eq_true h0) (bJ1 y (of_decide_eq_true J) (aq4 (sEs es _ X B G y)))
  | _=>exact ff h
 | .seq e,E,X,B,G,k,h=>by
  obtain⟨h0,y⟩:=zz h
  exact .s (of_decide_eq_true h0) ((sE e _ X B G y).1.imp λ σ H Q q=>bX0 (TLv.eq (λ ρ s=>rfl) q))
end
end
section
variable {Γ:Gm} {F:kX} {n:Nat}
theorem bp5 {X:Cx}{ck:Ck}{m:kC->kz->kD (List kA)}{E:Expr}{x:Str}{i:Nat}{px pos:Pos}(G:CG Γ F n X ck)(c:CompF Γ X m E)(hi:ck.N[i]?=some x)(hl:ck.loc x=true) :
  PS X (.Assign [.Name x px] E pos) (bm4 (TFv Γ m) (aF3 i)):=by
 obtain⟨y,Y,iter,J,scope,p2,N',h,wi,g,tc,te,rfl,h1,h2,h3,h4,h5⟩:=c.ex
 obtain⟨l1,l2⟩:=G.loc hl
 have nd:X.N.Nodup:=by rw[G.N];exact G.nd
 have Z:X.N[i]?=some x:=by rw[G.N];exact hi
 generalize hb:((X.env.blockKind==.function&&X.env.kindOf x==some .local&&px.line==(Expr.ListComp y [⟨Y,iter,J,0⟩] scope p2).pos.line&&!(scope.names.any λ(n,k)=>n==x&&(k==.local||k==.cell))))=b
 have C:eQ (.ListComp y [⟨Y,iter,J,0⟩] scope p2) (some (.Name x px)) pos.line X.env=pure b:=by rw[<-hb];rfl
 have imp:∀ D σ H,bm4 (TFv Γ m) (aF3 i) D σ H->bm4 (tComp h wi g tc te) (aF3 i) D σ H:=λ D σ H q=>h5 _ _ _ q
 cases b with
 | true =>
  have B:X.env.scope.names.lookup x=some .local:=by
   simp only[ao]at hb
   exact eq_of_beq hb.1.1.2
  exact(aT7 N' h nd Z B h1 h2 G.calm h3 h4 C).imp imp
 | false=>exact(bs4 nd Z l1 (aZ7 N' h h1 h2 G.calm h3 h4) C l2).imp imp
theorem bH0 {X:Cx}{y:Ck}{e:lv}{v:Expr}{x:Str}{i:Nat}{px pos:Pos}(G:CG Γ F n X y)(C:y.N[i]?=some x)(hl:y.loc x=true)(h:mE y e v=true) :
  PS X (.Assign [.Name x px] v pos) (TSv Γ (DV.ex F (.asg (.one i) e))):=by
 obtain⟨l1,J⟩:=G.loc hl
 have nd:X.N.Nodup:=by rw[G.N];exact G.nd
 have B:X.N[i]?=some x:=by rw[G.N];exact C
 by_cases hc:aD3 v=true
 ·exact(bs4 nd B l1 (sE e v X y G h).1 (aw9 hc) J).imp λ D σ H q=>bb2 (tg:=.one i) (TSv.eq (λ ρ s=>rfl) q)
 ·have hs:=aD4 h
  cases v with
  | ListComp elt gs sc p =>
   cases e with
   | mk k l =>
    obtain⟨Y,Z⟩:=zz h
    have e:=of_decide_eq_true Y
    subst e
    exact(bp5 G (bP6 (sL l _ X y G 0 Z)) C hl).imp λ D σ H q=>bl1 (tg:=.one i) (TSv.eq (λ ρ s=>rfl) q)
   | _=>exact ff h
  | SetComp _ _ _ _=>cases hs
  | DictComp _ _ _ _ _=>cases hs
  | _=>exact absurd rfl hc
theorem bn7 {T:List (Addr×Str)}{cells:List (Str×Addr)}{P:Addr}{q:Str}{name:Str}{params:be}{body:List Stmt}{scope:Scope}{pos:Pos}{ix:Nat}{D0:Ends}{σ:St}{H:Hp}(hT:TabsH T H)(nd:(T.map (·.1)).Nodup)(hm:(P,q)∈T)
  (go:∀(f:Addr) (H':Hp),bh5 H H'->(∀ b,H b≠none->H' b≠none)->TabsH T H'->H f=none->(∃ G pm C B,H' f=some (av9 f (cw name q params body scope (af6 cells scope.names []) .none .none G pm none (.ref C) B))/\H' C=some (qH C q))->D0.nx (σ.set ix (some (.ref f))) H') :
  cl5 cells P name q params body scope pos ix D0 σ H:=by
 obtain⟨ps,Z,ht,hc⟩:=hT _ hm
 refine⟨ps,Z,ht,λ hn C f G pm B n1 n2 ne=>?_,λ cv e=>?_⟩
 ·have cP:C≠P:=λ z=>by rw[z,Z]at n1;cases n1
  have fP:f≠P:=λ z=>by rw[z,Z]at n2;cases n2
  have J:∀ b,b≠P->H b≠none->∀ o1 o2 o3,upd (upd (upd H P o1) C o2) f o3 b=H b:=λ b z1 z2 o1 o2 o3=>by
   rw[zm λ z=>by subst z;exact z2 n2,zm λ z=>by subst z;exact z2 n1,zm z1]
  refine go f _ (λ b o d e=>?_) (λ b hb=>?_) (λ y hy=>?_) n2 ⟨G,pm,C,B,zr,by rw[zm ne,zr]⟩
  ·rw[J b (λ z=>by subst z;rw[Z]at e;cases e;exact d _ rfl) (by rw[e];simp)];exact e
  ·by_cases z:b=P
   ·subst z;rw[zm (bS fP),zm (bS cP),zr];simp
   ·rw[J b z hb];exact hb
  ·by_cases z:y.1=P
   ·have ey:y=(P,q):=by
     have:∀(l:List (Addr×Str)),(l.map (·.1)).Nodup->y∈l->(P,q)∈l->y=(P,q):=by
      intro l
      induction l with
      | nil=>intro _ h;simp at h
      | cons a l ih =>
       intro hn h1 h2
       rw[aH,cr]at hn
       rcases au.mp h1 with e1|h1<;>rcases au.mp h2 with e2|h2
       ·rw[e1,e2]
       ·exact absurd (by rw[<-e1,z];exact bo (f:=(·.1)) h2) hn.1
       ·exact absurd (by rw[<-e2,<-z];exact bo (f:=(·.1)) h1) hn.1
       ·exact ih hn.2 h1 h2
     exact this T nd hy hm
    subst ey
    refine⟨_,by rw[zm (bS fP),zm (bS cP),zr],?_,λ Y cv e=>?_⟩
    ·rw[dh];exact TriplesOk_snoc _ _ _ _ ht
    ·rw[dh]at e
     rcases codeAmong_add _ ht e with e'|e'
     ·obtain⟨c2,e1,e2⟩:=hc Y cv e'
      exact⟨c2,e1,by rw[J c2 (λ z=>by subst z;rw[Z]at e2;unfold qH at e2;cases e2) (by rw[e2];simp)];exact e2⟩
     ·exact⟨C,e',by rw[zm ne,zr]⟩
   ·obtain⟨qs,e1,e2,e3⟩:=hT y hy
    refine⟨qs,by rw[J y.1 z (by rw[e1];simp)];exact e1,e2,λ Y cv e=>?_⟩
    obtain⟨c2,e4,e5⟩:=e3 Y cv e
    exact⟨c2,e4,by rw[J c2 (λ z=>by subst z;rw[Z]at e5;unfold qH at e5;cases e5) (by rw[e5];simp)];exact e5⟩
 ·obtain⟨C,e1,e2⟩:=hc pos cv e
  refine⟨C,e1,λ f G pm B n=>go f _ (.of ((ah3.refl H).new n)) (λ b hb=>by
   by_cases z:b=f
   ·subst z;rw[zr];simp
   ·rw[zm z];exact hb) (hT.new n) n ⟨G,pm,C,B,zr,?_⟩⟩
  rw[zm (zH e2 n)];exact e2
theorem bh6 (env : Env) : ∀ l : List Arg, (l.all λ y => y.annotation.isNone) = true -> ij l env = []
 | [], _ => by unfold ij; rfl
 | ⟨x,some a,p⟩::l,h=>by simp at h
 | ⟨x,none,p⟩::l,h=>by
  unfold ij
  exact bh6 env l (by simpa using h)
theorem br1 {params:be}(h:bB3 params=true)(env:Env):params.defaults=[]/\params.kw_defaults=[]/\annTrees params none env=[]:=by
 unfold bB3 at h
 split at h
 ·refine⟨rfl,rfl,?_⟩
  unfold annTrees
  simp only[Option.toList,br]
  rw[bh6 env _ h];rfl
 ·cases h
theorem aK4 {α:Type}{o:Option α}{f:α->Bool}(h:o.any f=true):∃ a,o=some a/\f a=true:=by
 cases o with
 | none=>exact ff h
 | some a=>exact⟨a,rfl,h⟩
theorem bm2 {s:lY}{y:lI}{d:Nat×String×lv×String×List Nat}(h:ce4 s y=some d):s=.und d.1/\y=.cons (.ret (.callC d.2.1 (.ex d.2.2.1 (.lam d.2.2.2.1 d.2.2.2.2 .nil)))) .nil:=by
 unfold ce4 at h
 split at h
 ·cases h;exact⟨rfl,rfl⟩
 ·cases h
theorem br0 {S:List Stmt}{q:Str×be×Expr×Pos×Scope×Pos×List Stmt}(h:cl7 S=some q):S=.FunctionDef q.1 q.2.1 [.Return (some q.2.2.1) q.2.2.2.1] [] none [] q.2.2.2.2.1 none q.1 q.2.2.2.2.2.1::q.2.2.2.2.2.2:=by
 have y:∀ {p:Prop},(none:Option (Str×be×Expr×Pos×Scope×Pos×List Stmt))=some q->p:=λ h=>nomatch h
 cases S with
 | cons x xs =>
  cases x with
  | FunctionDef nm params body dl ret tp scope ts nm2 pos =>
   cases body with
   | cons b1 bs =>
    cases b1 with
    | Return v rp =>
     cases v with
     | some b =>
      cases bs with
      | nil =>
       cases dl with
       | nil =>
        cases ret with
        | none =>
         cases tp with
         | nil =>
          cases ts with
          | none =>
           have h:(if nm2=nm then some (nm,params,b,rp,scope,pos,xs)else none)=some q:=h
           by_cases e:nm2=nm
           ·rw[if_pos e]at h;cases h;rw[e]
           ·rw[if_neg e]at h;exact y h
          | _=>exact y h
         | _=>exact y h
        | _=>exact y h
       | _=>exact y h
      | _=>exact y h
     | _=>exact y h
    | _=>exact y h
   | _=>exact y h
  | _=>exact y h
 | _=>exact y h
theorem bj6 {C:Str}{S:List Stmt}{r:Str×Pos×Expr×Pos×Pos×Pos}(h:cl3 C S=some r):S=[.Return (some (.Call (.Name r.1 r.2.1) [r.2.2.1,.Name C r.2.2.2.1] [] r.2.2.2.2.1)) r.2.2.2.2.2]:=by
 have B:∀ {p:Prop},(none:Option (Str×Pos×Expr×Pos×Pos×Pos))=some r->p:=λ h=>nomatch h
 cases S with
 | cons x xs =>
  cases x with
  | Return v rp2 =>
   cases v with
   | some e =>
    cases e with
    | Call f as kw cp =>
     cases f with
     | Name g gp =>
      cases as with
      | cons a as1 =>
       cases as1 with
       | cons y as2 =>
        cases y with
        | Name x p2 =>
         cases as2 with
         | nil =>
          cases kw with
          | nil =>
           cases xs with
           | nil =>
            have h:(if x=C then some (g,gp,a,p2,cp,rp2)else none)=some r:=h
            by_cases e:x=C
            ·rw[if_pos e]at h;cases h;rw[e]
            ·rw[if_neg e]at h;exact B h
           | _=>exact B h
          | _=>exact B h
         | _=>exact B h
        | _=>exact B h
       | _=>exact B h
      | _=>exact B h
     | _=>exact B h
    | _=>exact B h
   | _=>exact B h
  | _=>exact B h
 | _=>exact B h
theorem bM3 {X:Cx}{ck:Ck}{s:lY}{ss:lI}{S:List Stmt}(G:CG Γ F n X ck)(hM:bN9 ck s ss S=true):PSs X S (TSv Γ (lZ F (.cons s ss))):=by
 obtain⟨⟨i,g,e,id,y⟩,e1,hA⟩:=aK4 hM
 clear hM
 obtain⟨⟨B,params,b,rp,scope,pos,xs⟩,e2,hB⟩:=aK4 hA
 clear hA
 obtain⟨⟨g',gp,a,p2,cp,rp2⟩,e3,h⟩:=aK4 hB
 clear hB
 obtain⟨rfl,rfl⟩:=bm2 e1
 have e3:=bj6 e3
 have e2:=br0 e2
 dsimp only at e2 e3 h ⊢
 subst e3
 subst e2
 clear e1
 obtain⟨h,b4⟩:=zz h
 obtain⟨h,a4⟩:=zz h
 obtain⟨h,h9⟩:=zz h
 obtain⟨h,h8⟩:=zz h
 obtain⟨h,h7⟩:=zz h
 obtain⟨h,h6⟩:=zz h
 obtain⟨h,h5⟩:=zz h
 obtain⟨h0,h2⟩:=zz h
 have h7:=of_decide_eq_true h7
 subst h7
 have h1:=of_decide_eq_true h0
 clear h0
 obtain⟨c,P,a0,c4,a9,c5,J,Y,L⟩:=G.lam id y _ h6
 obtain⟨pn,hnm⟩:∃ pn,J.nm=some pn:=by
  cases q:J.nm with
  | none=>unfold lamText at Y;rw[q]at Y;cases Y
  | some p=>exact⟨p,rfl⟩
 obtain⟨pa,pb⟩:=pn
 unfold lamText at Y
 rw[hnm]at Y
 dsimp only at Y
 cases Y
 rw[<-G.N]at L h1
 obtain⟨l1,l2⟩:=G.loc h2
 obtain⟨a1,a2,a3⟩:=br1 b4 X.env
 have b0:X.env.kindOf B=some .local\/X.env.kindOf B=some .cell:=l1
 have hq:jQ X.env B B=J.qual:=by
  rw[L.q]
  unfold LamI.own jQ
  rw[hnm]
  rcases b0 with z|z<;>rw[z]<;>rfl
 have p1:=bY5 (X:=X) (c:=c) (P:=P) (body:=[.Return (some b) rp]) (scope:=scope) (pos:=pos) (by rw[G.N];exact G.nd) h1 l1 L.code L.hd L.bm L.ck hq a1 a2 a3 l2
 have b3:PE X (.Name B p2) (bt6 i):=bs3 G h5
 obtain⟨g1,g2,g3⟩:=G.gl h8
 rcases G.call g with hb|⟨fa,fd,ps,hF,b2,hk,hB⟩
 ·intro c6 sh σ H D I q
  obtain⟨φ,ρ,s,c,s',E,R,C,q⟩:=q
  obtain⟨c1,s1,e1,C⟩:=aa0 C
  have e1:(match l6 ρ i with|some ρ=>DV.R.ok (DV.Ct.next ρ) s|none=>.bad)=.ok c1 s1:=e1
  split at e1
  case h_2=>cases e1
  cases e1
  obtain⟨c1,s1,e1,C⟩:=aa0 C
  obtain⟨d1,s2,e1,hm2⟩:=aa0 e1
  obtain⟨l,s3,e1,hm2⟩:=aa0 e1
  obtain⟨d,s4,e4,hm2⟩:=aa0 hm2
  rw[hb]at e4;cases e4
 have hE:=(sE e _ X ck G h9).1
 have hA:PA X [a,.Name B p2] (ap7 (TEv Γ (kE F e)) (ap7 (bt6 i) bj0)):=qf hE (qf b3 ag4 (zq rfl)) (zq a4)
 have p3:=aQ0 (p:=gp) (pos:=cp) hF G.room g1 b2 hk hB L.fn hA g2 (zq a4) (zW (es:=[.Name B p2]) λ z hz=>by rw[bK.mp hz];rfl).1
 refine(an1 p1 (an1 (aY5 p3) aI5)).imp λ D σ H q=>?_
 obtain⟨φ,ρ,s,c0,s',E,R,C,q⟩:=q
 obtain⟨c1,s1,e1,C⟩:=aa0 C
 have e1:(match l6 ρ i with|some ρ=>DV.R.ok (DV.Ct.next ρ) s|none=>.bad)=.ok c1 s1:=e1
 unfold l6 at e1
 by_cases hil:i < ρ.length
 case neg=>rw[if_neg hil]at e1;cases e1
 rw[if_pos hil]at e1
 cases e1
 obtain⟨c1,s1,e1,C⟩:=aa0 C
 obtain⟨d1,s2,e1,hm2⟩:=aa0 e1
 cases hm2
 cases C
 obtain⟨l,s3,e1,hm2⟩:=aa0 e1
 obtain⟨d2,s4,e4,hm2⟩:=aa0 hm2
 split at hm2
 case isFalse=>exact fb hm2
 rename_i hn
 cases hm2
 rw[ao]at hn
 obtain⟨x1,s5,e5,e1⟩:=aa0 e1
 obtain⟨y1,s6,Z,e1⟩:=aa0 e1
 cases e1
 have Z:(match kZ (ρ.set i none) y with|some cs=>(lw F .nil (ρ.set i none) s5).bind λ l s=>DV.R.ok (DV.D.clo id cs::l) s|none=>DV.R.bad)=.ok y1 s3:=Z
 cases eg:kZ (ρ.set i none) y with
 | none=>rw[eg]at Z;cases Z
 | some cs =>
  rw[eg]at Z
  cases Z
  refine bn7 R.tab L.nd L.tab λ f H' eS st tb hf ho=>?_
  obtain⟨a6,R1⟩:=R.sameT eS st tb
  have E1:RE Γ φ H' s.length (ρ.set i none) (σ.set i (some (.ref f))):=by
   have E0:=E.mono a6 (aj _)
   refine⟨by rw[bA,bA];exact E0.len,λ j d ej=>?_⟩
   by_cases z:i=j
   ·subst z
    rw[bp hil]at ej;cases ej
   ·rw[bz z]at ej
    obtain⟨q1,v,q2,q3⟩:=E0.val j d ej
    exact⟨q1,v,by rw[bz z];exact q2,q3⟩
  obtain⟨cap,a7,a5,hσ⟩:=be6 E1 eg
  have hlen:=(ap2 eg).1
  have b6:ai7 H' f J (af6 X.env.cells J.scope.names []):=by
   unfold ai7;rw[hnm];dsimp only;rw[L.p,L.b,L.s];exact ho
  refine⟨φ,ρ.set i none,s,x1,_,E1,R1,e5,λ v1 φ1 H1 g1 l1 b1 r1 c3=>?_⟩
  have c2:i < σ.length:=by rw[<-E.len];exact hil
  refine⟨.ref f,by rw[bp c2],?_⟩
  intro H2 ca
  obtain⟨gs,R2⟩:=c3.same ca.same
  have a8:=ab9 l1 cs a5
  have b5:∀ m,x1.bnd m=true->kB m cs=true->kB m [x1,.clo id cs]=true:=λ m z1 z2=>by
   simp only[kB,z1,d5,d4]
   unfold kF;exact z2
  have bl:=b5 _ b1 a8
  have pv:PVL Γ X.env.cells X.N (σ.set i (some (.ref f))) φ1 H1 [x1,.clo id cs] [v1,.ref f]:=by
   refine .cons (.inl r1) (.cons (.inr ⟨id,cs,rfl,f,J,rfl,L.lg,b6.kp g1.w.kp,by rw[hlen,L.len],by rw[L.s];exact L.cl,cap,RVL.mono g1 cs cap a5 a7,λ i x v e1 e3=>?_⟩) .nil)
   have hi:i<y.length:=by rw[<-L.len];exact(ae.mp e1).1
   have hj:y[i]?=some y[i]:=ai hi
   exact⟨by rw[L.s];exact L.fr x (aW e1),y[i],L.at_ i _ x hj e1,hσ i _ v hj e3⟩
  refine⟨φ1,_,[x1,.clo id cs],_,_,R2,pv.caught ca L.kd bl,bl,e4,λ v φ' H3 g' l' b' r' R'=>?_⟩
  have hc:Cells X.env.cells H3:=ca.cells.kp g'.w.kp
  exact q φ' (ad7 X.env.cells H3) ((a6.trans g1 (aj _)).trans (Gr.caught ca g') l1) (aq l1 l') (R'.dropC hc hn.2) v b' (RV.dropC hc _ v hn.1 r')
mutual
theorem sS:∀(st:lY) (S:Stmt) (X:Cx) (y:Ck),CG Γ F n X y->mS y st S=true->PS X S (TSv Γ (DV.ex F st))
 | .asg tg e,S,X,y,G,h=>by
  cases S with
  | Assign ts v p =>
   cases ts with
   | cons t ts1 =>
    cases ts1 with
    | nil =>
     obtain⟨h,h3⟩:=zz h
     obtain⟨C,B⟩:=zz h
     cases tg with
     | one i =>
      have h:=C
      cases t with
      | Name x px =>
       obtain⟨a1,a2⟩:=zz h
       exact bH0 G (of_decide_eq_true a1) a2 B
      | _=>exact ff h
     | tup is =>
      obtain⟨a1,a2⟩:=zz h3
      have h:=C
      cases t with
      | Tuple te tk tp=>exact(bv0 (sE e _ X y G B).1 (by0 G C) (show eQ v (some (.Tuple te tk tp)) p.line X.env=pure false from aw9 a2) (aS1 a1) rfl).imp λ D σ H q=>bb2 (TSv.eq (λ ρ s=>rfl) q)
      | _=>exact ff h
    | _=>exact ff h
   | _=>exact ff h
  | _=>exact ff h
 | .setIx o i e,S,X,y,G,h=>by
  cases S with
  | Assign ts v p2 =>
   cases ts with
   | cons tt ts1 =>
    cases tt with
    | Subscript ob ix p1 =>
     cases ts1 with
     | nil =>
      obtain⟨h,Z⟩:=zz h
      obtain⟨h,h4⟩:=zz h
      obtain⟨h,h3⟩:=zz h
      obtain⟨C,B⟩:=zz h
      have J:=aD4 B
      refine(bv0 (sE e _ X y G h3).1 (bU6 (sE o _ X y G C).1 (sE i _ X y G B).1 (bX5 (bk6 G.room)) ?_) (show eQ v (some (.Subscript ob ix p1)) p2.line X.env=pure false from aw9 h4) (aQ8 Z) ?_).imp λ D σ H q=>bq7 (TSv.eq (λ ρ s=>rfl) q)
      ·intro w
       cases ix<;>first|rfl|cases J
      ·rfl
     | _=>exact ff h
    | _=>exact ff h
   | _=>exact ff h
  | _=>exact ff h
 | .aug i e,S,X,y,G,h=>by
  cases S with
  | AugAssign tt op v p =>
   cases tt with
   | Name x p1 =>
    cases op with
    | Add =>
     obtain⟨h,h3⟩:=zz h
     obtain⟨C,B⟩:=zz h
     obtain⟨l1,Y⟩:=G.loc B
     exact(bQ2 (by rw[G.N];exact G.nd) (by rw[G.N];exact of_decide_eq_true C) l1 (sE e _ X y G h3).1 bU4 Y).imp λ D σ H q=>bR3 (TSv.eq (λ ρ s=>rfl) q)
    | _=>exact ff h
   | _=>exact ff h
  | _=>exact ff h
 | .ex e,S,X,y,G,h=>by
  cases S with
  | Expr v p =>
   obtain⟨C,B⟩:=zz h
   exact(bC7 (sE e _ X y G C).1 (aw9 B)).imp λ D σ H q=>bA7 (TSv.eq (λ ρ s=>rfl) q)
  | _=>exact ff h
 | .ret e,S,X,y,G,h=>by
  cases S with
  | Return vo p =>
   cases vo with
   | some v =>
    exact(aY5 (sE e _ X y G h).1).imp λ D σ H q=>bR7 (TSv.eq (λ ρ s=>rfl) q)
   | _=>exact ff h
  | _=>exact ff h
 | .retN,S,X,y,G,h=>ff h
 | .ite c a b,S,X,y,G,h=>by
  cases S with
  | If t l r p =>
   obtain⟨h,h3⟩:=zz h
   obtain⟨C,B⟩:=zz h
   exact(cg1 (sE c _ X y G C).2 (sSs a _ X y G B) (sSs b _ X y G h3)).imp λ D σ H q=>cc8 (TSv.eq (λ ρ s=>rfl) q)
  | _=>exact ff h
 | .whl c b,S,X,y,G,h=>by
  cases S with
  | While t l o p =>
   cases o with
   | nil =>
    obtain⟨C,B⟩:=zz h
    exact(bo3 (by rw[G.xe];exact i8) (sE c _ X y G C).2 (sSs b _ X y G B)).imp λ D σ H q=>bk2 (TSv.eq (λ ρ s=>rfl) q)
   | _=>exact ff h
  | _=>exact ff h
 | .for_ tg it b,S,X,y,G,h=>by
  cases S with
  | For tgt iter l o p =>
   cases o with
   | nil =>
    obtain⟨h,h3⟩:=zz h
    obtain⟨C,B⟩:=zz h
    exact(bP3 (by rw[G.xe];exact i8) G.calm (sI it _ _ X y G B) (by0 G C) (sSs b _ X y G h3) (aH3 (bU8 B))).imp λ D σ H q=>bY3 (TSv.eq (λ ρ s=>rfl) q)
   | _=>exact ff h
  | _=>exact ff h
 | .pass,S,X,y,G,h=>ff h
 | .cont,S,X,y,G,h=>ff h
 | .brk,S,X,y,G,h=>ff h
 | .und _,S,X,y,G,h=>ff h
 | .raise,S,X,y,G,h=>bk7.imp λ D σ H q=>by
  obtain⟨φ,ρ,s,c,s',E,R,hm,q⟩:=q
  cases hm
theorem sSs:∀(st:lI) (S:List Stmt) (X:Cx) (y:Ck),CG Γ F n X y->mSs y st S=true->PSs X S (TSv Γ (lZ F st))
 | .nil,S,X,y,G,h=>by
  cases S with
  | nil =>
   exact aI5.imp λ D σ H q=>bK2 (m:=lZ F .nil) (λ ρ s=>rfl) q
  | _=>exact ff h
 | .cons s ss,S,X,y,G,h=>by
  cases S with
  | cons x xs =>
   rcases(bL _ _).mp h with h|h
   ·exact bM3 G h
   obtain⟨B,C⟩:=zz h
   exact(an1 (sS s _ X y G B) (sSs ss _ X y G C)).imp λ D σ H q=>bU5 (TSv.eq (λ ρ s=>rfl) q)
  | _=>exact ff h
end
end
section
variable {Γ:Gm}
theorem aJ1 {φ φ1:Nat->Addr}{H y:Hp}{s s1:kz}(R:Rp Γ φ H s)(g:Gr φ s H φ1 s1 y)(ho:l7 s s1=true){i:Nat}{o:kW}(B:i<s.length)(e:s1[i]?=some o):o.bnd s.length=true:=by
 unfold l7 at ho
 have:=aO.mp ho i (aU.mpr B)
 rw[e,bL]at this
 rcases this with h|h
 ·exact R.wf i o (of_decide_eq_true h).symm
 ·exact h
theorem qU {s1:kz}{k i:Nat}{o:kW}(e:(s1.take k)[i]?=some o):i<k/\s1[i]?=some o:=by
 rw[iB]at e
 split at e
 ·exact⟨‹_›,e⟩
 ·cases e
theorem aQ9 {φ φ1:Nat->Addr}{H h:Hp}{s s1:kz}(R:Rp Γ φ H s)(g:Gr φ s H φ1 s1 h)(R1:Rp Γ φ1 h s1)(ho:l7 s s1=true):Gr φ s H φ1 (s1.take s.length) h/\Rp Γ φ1 h (s1.take s.length):=by
 have hl:(s1.take s.length).length=s.length:=by rw[dR];have:=g.le;omega
 refine⟨⟨g.w,by rw[hl];exact aj _,λ i C B=>by rw[hl]at B;omega,λ i o y e e'=>g.kd i o y e (qU e').2,g.st,g.fr⟩,λ i j o y e e' m m' z=>R1.inj i j o y (qU e).2 (qU e').2 m m' z,λ i o e=>R1.obj i o (qU e).2,λ i o e=>?_,R1.tab⟩
 rw[hl]
 exact aJ1 R g ho (qU e).1 (qU e).2
theorem az1 {φ φ1:Nat->Addr}{H C:Hp}{s s1 s':kz}{v0 d:kA}{v:V}(R:Rp Γ φ H s)(g:Gr φ s H φ1 s1 C)(R1:Rp Γ φ1 C s1)(hb:v0.bnd s1.length=true)(r:RV Γ φ1 C v0 v)(h:DV.zN s v0 s1=.ok d s') :
  ∃ φ',Gr φ s H φ' s' C/\s.length<=s'.length/\d.bnd s'.length=true/\RV Γ φ' C d v/\Rp Γ φ' C s':=by
 have all:d=v0->s'=s1->∃ φ',Gr φ s H φ' s' C/\s.length<=s'.length/\d.bnd s'.length=true/\RV Γ φ' C d v/\Rp Γ φ' C s':=λ e1 e2=>by
  subst e1;subst e2
  exact⟨φ1,g,g.le,hb,r,R1⟩
 unfold DV.zN at h
 split at h
 case isFalse=>cases h;exact all rfl rfl
 rename_i ho
 obtain⟨gt,Rt⟩:=aQ9 R g R1 ho
 have hl:(s1.take s.length).length=s.length:=by rw[dR];have:=g.le;omega
 have tk:d=v0->s'=s1.take s.length->v0.bnd s.length=true->∃ φ',Gr φ s H φ' s' C/\s.length<=s'.length/\d.bnd s'.length=true/\RV Γ φ' C d v/\Rp Γ φ' C s':=λ e1 e2 b=>by
  subst e1;subst e2
  exact⟨φ1,gt,by rw[hl];exact aj _,by rw[hl];exact b,r,Rt⟩
 split at h
 ·rename_i k
  split at h
  ·cases h
   exact tk rfl rfl (by unfold kF;exact decide_eq_true ‹_›)
  ·rename_i hk
   split at h
   ·rename_i o J
    split at h
    ·rename_i G
     cases h
     have gw:Gw φ1 s.length C (λ i=>if i=s.length then φ1 k else φ1 i) C:=⟨λ i y=>if_neg (av y),Kp.refl _⟩
     have key:∀(i:Nat) (B:kW),(s1.take s.length++[o])[i]?=some B->(i<s.length/\s1[i]?=some B)\/(i=s.length/\B=o):=λ i B e=>by
      rcases fx i s.length with h|h|h
      ·rw[aI (by rw[hl];exact h)]at e;exact .inl (qU e)
      ·subst h
       rw[ax (by rw[hl];exact aj _),hl,iQ]at e
       exact .inr ⟨rfl,(ar e).symm⟩
      ·rw[dN (by rw[bn,hl];simp;omega)]at e;cases e
     have hlen:(s1.take s.length++[o]).length=s.length+1:=by rw[bn,hl];rfl
     refine⟨λ i=>if i=s.length then φ1 k else φ1 i,⟨⟨λ i y=>?_,g.w.kp⟩,by rw[hlen];omega,λ i h1 h2=>?_,λ i oo B e e'=>?_,g.st,g.fr⟩,by rw[hlen];omega,by unfold kF;rw[hlen];exact decide_eq_true (dU _),?_,⟨λ i j oi oj a1 a0 Z mj e=>?_,λ i B e=>?_,λ i B e=>?_,R1.tab⟩⟩
     ·show(if i=s.length then φ1 k else φ1 i)=φ i
      rw[if_neg (av y)];exact g.w.map i y
     ·rw[hlen]at h2
      show H (if i=s.length then φ1 k else φ1 i)=none
      rw[if_pos (by omega)]
      exact g.new k (by omega) (ae.mp J).1
     ·rcases key i B e' with⟨_,e2⟩|⟨y,_⟩
      ·exact g.kd i oo B e e2
      ·have:=(ae.mp e).1;omega
     ·rw[r.refE]
      unfold RV
      show V.ref (φ1 k)=V.ref (if s.length=s.length then φ1 k else φ1 s.length)
      rw[if_pos rfl]
     ·rcases key i oi a1 with⟨y,ei⟩|⟨y,zi⟩<;>rcases key j oj a0 with⟨hj,ej⟩|⟨hj,zj⟩
      ·rw[if_neg (av y),if_neg (av hj)]at e
       exact R1.inj i j oi oj ei ej Z mj e
      ·rw[if_neg (av y),if_pos hj]at e
       subst zj
       have:=R1.inj i k oi _ ei J Z mj e
       omega
      ·rw[if_neg (av hj),if_pos y]at e
       subst zi
       have:=R1.inj k j _ oj J ej Z mj e
       omega
      ·rw[y,hj]
     ·rcases key i B e with⟨y,e⟩|⟨y,rfl⟩
      ·show RO Γ _ _ (if i=s.length then φ1 k else φ1 i) B
       rw[if_neg (av y)]
       exact(R1.obj i B e).mono gw (aJ1 R g ho y e) λ _ u Y=>Y
      ·show RO Γ _ _ (if i=s.length then φ1 k else φ1 i) B
       rw[if_pos y]
       exact(R1.obj k _ J).mono gw G λ _ u Y=>Y
     ·rw[hlen]
      rcases key i B e with⟨y,e⟩|⟨_,rfl⟩
      ·exact qE (c8 _) _ (aJ1 R g ho y e)
      ·exact qE (c8 _) _ G
    ·cases h;exact all rfl rfl
   ·exact fb h
 ·split at h
  ·cases h;exact tk rfl rfl ‹_›
  ·cases h;exact all rfl rfl
structure LamGood (J:LamI)(L:lA):Prop where
 sc:LamScope (J.ps++J.fr) J.ps J.fr J.scope
 ps:J.ps.length=L.ps
 fr:J.fr.length=L.cs
 m:mE (ck0 (J.ps++J.fr) J.scope) L.body J.body=true
 bind:∀(clos:List (Str×Addr)) (doc pm:Value) (c':Addr) (ctv:Value) (us:List Value),us.length=J.ps.length->d6 (bP "<lambda>" J.qual J.params J.body J.scope clos pm (.ref c') ctv) ⟨us,[]⟩=pure (J.ps.zip us) /\
  ∀(nm:Str) (rp:Pos),d6 (cw nm J.qual J.params [.Return (some J.body) rp] J.scope clos .none .none doc pm none (.ref c') ctv) ⟨us,[]⟩=pure (J.ps.zip us)
structure LkAt (Γ:Gm)(cds:List (Addr×Addr))(f:Str)(sc:Scope)(N:List Str)(fd:bE)(id:String)(caps:List Nat)(params:be)(body:Expr)(scope:Scope)(c P:Addr)(J:LamI):Prop where
 code:fd.code=.ref c
 cd:(c,P)∈cds
 ck:lamCheck scope sc=true
 fre:∀ x,scope.names.lookup x=some .free->sc.names.lookup x=some .cell
 cel:∀ y∈sc.names,y.2=.cell->sc.names.lookup y.1=some .cell
 df:∀ env,jP params env=([],[])
 lg:Γ.lg id J
 q:J.qual=f ++ ".<locals>."++J.own
 p:J.params=params
 b:J.body=body
 s:J.scope=scope
 len:J.fr.length=caps.length
 at_:∀(i j:Nat) (x:Str),caps[i]?=some j->J.fr[i]?=some x->N[j]?=some x
 fr:∀ x∈J.fr,scope.names.lookup x=some .free
 tab:(P,J.qual)∈Γ.T
def cc5 (Γ:Gm)(cds:List (Addr×Addr))(f:Str)(sc:Scope)(N:List Str)(fd:bE)(lk:String->List Nat->Expr->Bool):Prop :=
 ∀ id caps E,lk id caps E=true->∃ c P params body scope pos J,E=lamText J params body scope pos/\LkAt Γ cds f sc N fd id caps params body scope c P J
def Good (Γ:Gm)(cds:List (Addr×Addr))(mg:Str->Option Value)(f:String)(d:lB):Prop:=∃ st N ps a fd lk,DefAt Γ.K mg (f:Str) st ps a fd/\FnScope N ps (defScope st)/\ps.length=d.ps/\N.length=d.ps+d.vs/\mSs ⟨N,defScope st,lk⟩ d.body (qa st)=true/\cc5 Γ cds (f:Str) (defScope st) N fd lk
structure PrOk (Γ:Gm)(cds:List (Addr×Addr))(P:kQ)(mg:Str->Option Value):Prop where
 df:∀ f d,P.df f=some d->Good Γ cds mg f d
 con:∀ x d,P.con x=some d->∃ v u,mg (x:Str)=some u/\RelV v u/\(∀ m,d.bnd m=true)/\∀ φ H,RV Γ φ H d v
 bi:∀ x∈bNames,mg x=none
 fa:∀(f:String) (a:Addr),Γ.fa f=some a->mg (f:Str)=some (.ref a)/\∃ oc od fd sl,Γ.K.lookup a=some ⟨oc,od,.func fd,sl⟩
 lg:∀ id J,Γ.lg id J->∃ L,P.lm id=some L/\LamGood J L
 nd:(Γ.T.map (·.1)).Nodup
noncomputable def aM2 (Γ : Gm) (prog : Program) (w : World) (mg : Str -> Option Value) (base : Heap) (F : DV.Fns) (n : Nat) : Prop := (∀ f : String, (∀ l s, F.call f l s = .bad) \/
      ∃ a fd ps, FnOk prog w Γ.K mg base CX0 n a fd ps (spV Γ (F.call f)) /\ mg (f : Str) = some (.ref a) /\ cb Γ.K (.ref a) = true /\ Binds Γ.K fd ps []) /\
  ∀(id : String) (J : LamI) (f : Addr) (cap : List V) (clos : List (Str × Addr)), Γ.lg id J -> cap.length = J.fr.length -> ClOk prog w Γ.K mg base n (λ H => CloAt H f J cap clos) f (spL Γ (F.lam id) cap)
theorem bk3 {φ:Nat->Addr}{H:Hp}{n k:Nat}{N:List Str}{l:List kA}{vs:List V}(r:RVL Γ φ H l vs)(b:kB n l=true)(hN:N.length=l.length+k):RE Γ φ H n (l.map some++am k none) (aj9 N vs):=by
 have hl:=r.length
 refine⟨?_,λ i d e=>?_⟩
 ·unfold aj9;simp[hl,hN]
 ·by_cases hi:i<l.length
  ·rw[aI (by simpa using hi),aF]at e
   have e':l[i]?=some d:=by
    rw[ai hi]at e ⊢
    exact ar e
   obtain⟨v,e1,e2⟩:=r.get e'
   refine⟨an3 b e',v,?_,e2⟩
   unfold aj9
   rw[aI (by rw[aG,hl];exact hi),aF,e1];rfl
  ·rw[ax (by simpa using fQ hi)]at e
   rw[fN]at e
   split at e<;>cases e
theorem bT5 {a0:List (Addr×Addr)}{P:kQ}{prog:aL}{w:World}{mg:Str->Option Value}{C:Heap}(hP:PrOk Γ a0 P mg)(hb:∀ y∈a0,bQ C y.1 y.2/\BM mg C)(n:Nat)(Z:aM2 Γ prog w mg C (kJ P n) (n+31))
  {f:String} {d:lB} (e:P.df f=some d) {st:Stmt} {N ps:List Str} {a:Addr} {fd:bE} {lk:String->List Nat->Expr->Bool} (hD:DefAt Γ.K mg (f:Str) st ps a fd) (hS:FnScope N ps (defScope st)) (h1:ps.length=d.ps) (h2:N.length=d.ps+d.vs) (hm:mSs ⟨N,defScope st,lk⟩ d.body (qa st)=true) (hL:cc5 Γ a0 (f:Str) (defScope st) N fd lk) :
  FnOk prog w Γ.K mg C CX0 (n+1+31) a fd ps (spV Γ ((kJ P (n+1)).call f)):=by
 have hlen:∀ vs H Q E,spV Γ ((kJ P (n+1)).call f) vs H Q E->vs.length=ps.length:=λ vs H Q E q=>by
  obtain⟨φ,s,l,d',s',R,r,b,hc,k⟩:=q
  simp only[kJ,e]at hc
  split at hc
  ·rw[r.length,h1];assumption
  ·exact fb hc
 have body:∀(Y:Value),(∀ id B E,lk id B E=true->fd.code=Y)->∀(A:aV) (outer:List Env) (sh:af) (H:Hp) (vs:List V) (Q:VK) (E:XK),Room (n+31) (A.deeper (fC (f:Str) (defScope st) sh.heap.objs.size a Y))->spV Γ ((kJ P (n+1)).call f) vs H Q E ->
   ∃ t,PSs (bn9 CX0 prog w Γ.K mg C N (f:Str) (defScope st) a Y A outer sh H E).nox (qa st) t/\t { nx:=λ _ H'=>Q .non H',rt:=Q } (aj9 N vs) H:=by
  intro Y a3 A outer sh H vs Q E hr q
  have G:CG Γ (kJ P n) (n+31) (bn9 CX0 prog w Γ.K mg C N (f:Str) (defScope st) a Y A outer sh H E).nox ⟨N,defScope st,lk⟩:=by
   refine⟨rfl,rfl,hS.nd,rfl,rfl,?_,hr,λ x k e=>.inl e,λ _ _=>rfl,hP.bi,Z.1,?_,λ id B E' hlk=>?_,Z.2,hP.fa,DV.an6 P n⟩
   ·show kL+1<=n+31
    unfold kL;omega
   ·have:(kJ P n).con=P.con:=by cases n<;>rfl
    rw[this];exact hP.con
   ·obtain⟨c,Pa,params,body,scope,pos,J,eE,L⟩:=hL id B E' hlk
    obtain⟨a4,a1⟩:=hb _ L.cd
    refine⟨c,Pa,params,body,scope,pos,J,eE,⟨?_,a4,a1,L.ck,L.df _,L.lg,L.q,L.p,L.b,L.s,L.len,L.at_,L.fr,λ x hx=>?_,L.tab,hP.nd,λ _=>rfl,λ x c hx=>?_⟩⟩
    ·show Y=.ref c
     rw[<-a3 id B E' hlk];exact L.code
    ·exact ql (L.fre x hx)
    ·rcases zP (az hx)with z|z
     ·exact .inl (L.cel (x,.cell) z rfl)
     ·exact absurd z (by simp)
  refine⟨_,sSs d.body (qa st) _ ⟨N,defScope st,lk⟩ G hm,?_⟩
  obtain⟨φ,s,l,d',s',R,r,b,hc,k⟩:=q
  simp only[kJ,e]at hc
  split at hc
  case isFalse=>exact fb hc
  rename_i hlen
  obtain⟨c,s1,e1,hc⟩:=aa0 hc
  refine⟨φ,l.map some++am d.vs none,s,c,s1,bk3 r b (by rw[h2,hlen]),R,e1,λ φ1 H1 g1 l1 R1=>?_⟩
  cases c with
  | ret v0 =>
   intro v hb rv
   obtain⟨φ',g',l',b',r',R'⟩:=az1 R g1 R1 hb rv hc
   exact k v φ' H1 g' l' b' r' R'
  | next ρ =>
   intro σ' _
   obtain⟨φ',g',l',b',r',R'⟩:=az1 (v0:=.non) R g1 R1 rfl RV.nonI hc
   exact k .non φ' H1 g' l' b' r' R'
  | cont ρ=>exact fb hc
  | brk ρ=>exact fb hc
 by_cases hl:∃ id B E,lk id B E=true
 ·obtain⟨id,B,E,hlk⟩:=hl
  obtain⟨c,Pa,params,a2,scope,pos,J,eE,L⟩:=hL id B E hlk
  exact hD.fn.okC L.code hS hlen (body _ λ _ _ _ _=>L.code)
 ·exact hD.fn.ok hS hlen (λ Y=>body Y λ id B E h=>absurd ⟨id,B,E,h⟩ hl)
theorem bF3 {b0:List (Addr×Addr)}{P:kQ}{prog:aL}{w:World}{mg:Str->Option Value}{Y:Heap}(hP:PrOk Γ b0 P mg)(n:Nat)(a0:aM2 Γ prog w mg Y (kJ P n) (n+31))
  (id:String) (J:LamI) (f:Addr) (cap:List V) (C:List (Str×Addr)) (b2:Γ.lg id J) (a2:cap.length=J.fr.length) :
  ClOk prog w Γ.K mg Y (n+1+31) (λ H=>CloAt H f J cap C) f (spL Γ ((kJ P (n+1)).lam id) cap):=by
 obtain⟨L,eL,LG⟩:=hP.lg id J b2
 have hlen:∀ vs H Q E,spL Γ ((kJ P (n+1)).lam id) cap vs H Q E->vs.length=J.ps.length:=λ vs H Q E q=>by
  obtain⟨φ,s,cs,l,d,s',R,r,rc,b,bc,hc,k⟩:=q
  simp only[kJ,eL]at hc
  split at hc
  ·rename_i hh;rw[r.length,LG.ps];exact hh.1
  ·exact fb hc
 have main:∀(A:aV) (outer:List Env) (sh:af) (H:Hp) (cd:Value) (vs:List V) (Q:VK),Room (n+31) (A.deeper (cO J.qual J.scope sh.heap.objs.size f cd (aM (sh.heap.objs.size+1) J.scope.names C)))->Cells C H->(∀ b o,Γ.K.lookup b=some o->H b=none)->spL Γ ((kJ P (n+1)).lam id) cap vs H Q E0 ->
   ∃ t,PE (aG6 prog w Γ.K mg Y (J.ps++J.fr) J.qual J.scope f cd C A outer sh H) J.body t/\t (vs.map some++cap.map some) (ad7 C H) λ v H'=>(∀ b,isC C b=true->H' b=none)->Q v (Put C H H'):=by
  intro A outer sh H cd vs Q hr B hK q
  have G:CG Γ (kJ P n) (n+31) (aG6 prog w Γ.K mg Y (J.ps++J.fr) J.qual J.scope f cd C A outer sh H) (ck0 (J.ps++J.fr) J.scope):=by
   refine⟨rfl,rfl,LG.sc.nd,rfl,rfl,?_,hr,λ x k e=>.inl e,λ x e=>?_,hP.bi,a0.1,?_,λ _ _ _ h=>(by cases h),a0.2,hP.fa,DV.an6 P n⟩
   ·show kL+1<=n+31
    unfold kL;omega
   ·show(J.scope.names.lookup x==some .cell)=true
    rw[show J.scope.names.lookup x=some .cell from e];rfl
   ·have:(kJ P n).con=P.con:=by cases n<;>rfl
    rw[this];exact hP.con
  refine⟨_,(sE L.body J.body _ (ck0 (J.ps++J.fr) J.scope) G LG.m).1,?_⟩
  obtain⟨φ,s,cs,l,d,s',R,r,rc,b,bc,hc,k⟩:=q
  simp only[kJ,eL]at hc
  split at hc
  case isFalse=>exact fb hc
  rename_i hh
  obtain⟨h1,h2,h3⟩:=hh
  rw[ao,ao]at h3
  obtain⟨⟨b3,a9⟩,a8⟩:=h3
  obtain⟨v0,s1,e1,hc⟩:=aa0 hc
  have RD:Rp Γ φ (ad7 C H) s:=R.dropC B a8
  have a7:RVL Γ φ (ad7 C H) (l++cs) (vs++cap):=(RVL.dropC B l vs b3 r).append (RVL.dropC B cs cap a9 rc)
  refine⟨φ,l.map some++cs.map some,s,v0,s1,⟨by simp[r.length,rc.length],λ i x ei=>?_⟩,RD,e1,λ v φ1 H1 g1 l1 b1 r1 R1 a1=>?_⟩
  ·rw[<-bX,aF]at ei
   have a5:(l++cs)[i]?=some x:=by
    cases q:(l++cs)[i]? with
    | none=>rw[q]at ei;cases ei
    | some y=>rw[q]at ei;cases ei;rfl
   obtain⟨u,e3,e4⟩:=a7.get a5
   refine⟨an3 (qj b bc) a5,u,?_,e4⟩
   rw[<-bX,aF,e3];rfl
  ·obtain⟨φ',g',l',b',r',R'⟩:=az1 RD g1 R1 b1 r1 hc
   have gp:=Gr.put B a1 hK R' g'
   obtain⟨gs,Rs⟩:=R'.same (aW2 (H:=H) a1)
   exact k v φ' _ gp l' b' (RV.mono gs d v b' r') Rs
 unfold CloAt
 cases q:J.nm with
 | none=>exact bD1 LG.sc hlen a2 (λ pm c' Z us a4=>(LG.bind C .none pm c' Z us a4).1) (λ A outer sh H cd vs Q hr a3 hK q=>by
   obtain⟨pm,c',Z,_,_,B,_⟩:=a3
   exact main A outer sh H cd vs Q hr B hK q)
 | some p=>exact bL2 LG.sc hlen a2 (λ a6 pm c' Z us a4=>(LG.bind C a6 pm c' Z us a4).2 _ _) (λ A outer sh H cd vs Q hr a3 hK q=>by
   obtain⟨a6,pm,c',Z,_,_,B,_⟩:=a3
   obtain⟨t,h1,h2⟩:=main A outer sh H cd vs Q hr B hK q
   exact⟨_,an1 (aY5 h1) aI5,h2⟩)
theorem aX8 {C:List (Addr×Addr)}{P:kQ}{prog:aL}{w:World}{mg:Str->Option Value}{h:Heap}(G:PrOk Γ C P mg)(hb:∀ y∈C,bQ h y.1 y.2/\BM mg h):∀ n:Nat,aM2 Γ prog w mg h (kJ P n) (n+31)
 | 0=>⟨λ f=>.inl λ l s=>rfl,λ id J f cap B _ _=>⟨λ A outer s H us vs Q _ _ _ _ q=>by
   obtain⟨φ,s,cs,l,d,s',R,r,rc,b,bc,hc,k⟩:=q
   cases hc⟩⟩
 | n+1=>by
  have ih:aM2 Γ prog w mg h (kJ P n) (n+31):=aX8 G hb n
  refine⟨λ f=>?_,λ id J f cap B Y Z=>bF3 G n ih id J f cap B Y Z⟩
  cases e:P.df f with
  | none=>exact .inl λ l s=>by simp only[kJ,e]
  | some d =>
   obtain⟨st,N,ps,a,fd,lk,hD,hS,Y,Z,hm,hL⟩:=G.df f d e
   exact .inr ⟨a,fd,ps,bT5 G hb n ih e hD hS Y Z hm hL,hD.mg,hD.fn.kp,hD.bi⟩
def spT (Γ:Gm):Sp:=λ vs H Q _=>∃(a:Addr) (ns:List Int),vs=[.ref a]/\SqF Γ.K H a (ns.map V.int)/\ns.length<=63/\TabsH Γ.T H/\∀ H',Q (.bl true) H'
theorem aL4 {φ:Nat->Addr}{H:Hp}:∀ ns:List Int,RVL Γ φ H (ns.map DV.D.int) (ns.map V.int)
 | []=>.nil
 | n::ns=>.cons RV.intI (aL4 ns)
theorem aE3 {m:Nat}:∀ ns:List Int,kB m (ns.map DV.D.int)=true
 | []=>rfl
 | n::ns=>by rw[aH];unfold kB;rw[aE3 ns];rfl
theorem bU1 {P:kQ}{k:Nat}(h:∀ ns:List Int,ns.length<=63->∃ s',(kJ P k).call "law" [.ref 0] [.ro (ns.map DV.D.int)]=.ok (.bl true) s')(vs:List V)(H:Hp)(Q:VK)(E:XK)(q:spT Γ vs H Q E):spV Γ ((kJ P k).call "law") vs H Q E:=by
 obtain⟨a,ns,rfl,hS,hl,hT,y⟩:=q
 obtain⟨s',hs⟩:=h ns hl
 refine⟨λ _=>a,[.ro (ns.map DV.D.int)],[.ref 0],.bl true,s',⟨λ i j o B e e' m m' _=>?_,λ i o e=>?_,λ i o e=>?_,hT⟩,.cons RV.refI .nil,?_,hs,λ v φ' H' g l b r R=>?_⟩
 ·cases i with
  | zero=>cases e;cases m
  | succ i=>cases e
 ·cases i with
  | zero=>cases e;exact⟨_,hS,aL4 ns⟩
  | succ i=>cases e
 ·cases i with
  | zero=>cases e;unfold kG;exact aE3 ns
  | succ i=>cases e
 ·unfold kB kF kB;rfl
 ·rw[r.blE];exact y H'
theorem aO2 {y:List (Addr×Addr)}{mg:Str->Option Value}:∀ {tbl:List (String×lB)},(∀ p∈tbl,Good Γ y mg p.1 p.2)->∀ f d,tbl.lookup f=some d->Good Γ y mg f d
 | [],_,f,d,h=>by cases h
 | (g,e)::tbl,H,f,d,h=>by
  rw[aZ]at h
  cases q:f==g with
  | true =>
   rw[q]at h
   cases h
   rw[eq_of_beq q]
   exact H (g,_) (aC ..)
  | false =>
   rw[q]at h
   exact aO2 (λ p B=>H p (aw _ B)) f d h
def bm3 (Γ:Gm)(mg:Str->Option Value)(x:String)(d:kA):Prop:=∃ v u,mg (x:Str)=some u/\RelV v u/\(∀ m,d.bnd m=true)/\∀ φ H,RV Γ φ H d v
theorem be9 {mg:Str->Option Value}:∀ {tbl:List (String×kA)},(∀ p∈tbl,bm3 Γ mg p.1 p.2)->∀ f d,tbl.lookup f=some d->bm3 Γ mg f d
 | [],_,f,d,h=>by cases h
 | (g,e)::tbl,H,f,d,h=>by
  rw[aZ]at h
  cases q:f==g with
  | true =>
   rw[q]at h
   cases h
   rw[eq_of_beq q]
   exact H (g,_) (aC ..)
  | false =>
   rw[q]at h
   exact be9 (λ p y=>H p (aw _ y)) f d h
theorem ao5 {mg:Str->Option Value}{x:String}{i:Int}{t:Tok}(h:mg (x:Str)=some (.int i t)):bm3 Γ mg x (.int i):=⟨.int i,_,h,⟨t,rfl⟩,λ _=>rfl,λ _ _=>RV.intI⟩
end
theorem aT1 {P:aL}{w:World}{K:ac}{mg mb:Str->Option Value}{k:Nat}{fa a:Addr}{fd:bE}{x:Str}{sp:Sp}{B:af}{vs:List Value}{ns:List Int}{tabs:List (Addr×Addr)}
  (KX:K.In B.heap) (a7:B.heap.Ns aX mg) (hb:B.heap.Ns fW mb) (c2:∀ x:Str,x ≠ "__name__"->mb x=bh x) (a6:B.heap.NoLimit) (hg:B.gens=#[]) (c5:BM mg B.heap) (hT:jU tabs B.heap) (c6:jV K=true)
  (ha:B.heap.get? a=some { cls:=.type "list",data:=.seq vs.toArray }) (hi:jH vs ns) (hl:ns.length<=aN) (hr:Room k gZ)
  (F:∀ J:Heap,K.In J->J.Ns aX mg->BM mg J->(∀ q∈tabs,bQ J q.1 q.2)->FnOk P w K mg J CX0 k fa fd [x] sp) (a2:∀(s:af) (u:Value),jF s fd ⟨[u],[]⟩ [(x,u)])
  (d1:∀ H:Hp,(∀ q∈tabs,H q.2=some (.tbl #[]))->SqL K H a (ns.map V.int)->(∀ u,H a=some u->(∃ o xs,u=.frz o (.lst xs))\/∃ ps,u=.tbl ps)->sp [.ref a] H (λ v _=>v=.bl true) E0) :
  fh (model P w) gZ (.call (.ref fa) ⟨[.ref a],[]⟩) (λ r s'=>r=.ok (.ret (.bool true))/\OldK B.heap s'.heap/\s'.os=B.os/\fe s'.gens) B:=by
 have rv:=aC4 hi
 have a5:=hi.length
 have C:∀ b,b∈tabs.map (·.2)->B.heap.get? b=some (dJ #[]):=λ b h=>by
  obtain⟨q,hq,rfl⟩:=ay.mp h
  exact(hT q hq).2
 have Z:∀ H:Hp,(∀ b u,H b=some u->(b=a/\∃ o xs,u=.frz o (.lst xs))\/(b∈tabs.map (·.2)/\u=.tbl #[]))->(∀ q∈tabs,H q.2=some (.tbl #[]))->SqL K H a (ns.map V.int)->HOk P w H B.heap->(H a≠none->K.lookup a=none) ->
   fh (model P w) gZ (.call (.ref fa) ⟨[.ref a],[]⟩) (λ r s'=>r=.ok (.ret (.bool true))/\OldK B.heap s'.heap/\s'.os=B.os/\fe s'.gens) B:=by
  intro H hO c1 hS hok hK
  have un:∀ b o,B.heap.get? b=some o->o.cls≠.type "list"->(∀ vs,o.data≠.fields vs)->H b=none:=λ b o e n1 n2=>by
   cases q:H b with
   | none=>rfl
   | some u =>
    rcases hO b u q with⟨z,_⟩|⟨z,_⟩
    ·rw[z,ha]at e;cases e;exact absurd rfl n1
    ·rw[C b z]at e;cases e;exact absurd rfl (n2 #[])
  have Y:∀ {b:Addr} {m:Str->Option Value},B.heap.Ns b m->(bi9 B.heap H).Ns b m:=λ {b m} ⟨o,es,ep,e,d,r⟩=>by
   refine⟨o,es,ep,am7 e ?_,d,r⟩
   cases q:H b with
   | none=>rfl
   | some u =>
    rcases hO b u q with⟨z,_⟩|⟨z,_⟩
    ·rw[z,ha]at e;cases e;cases d
    ·rw[C b z]at e;cases e;cases d
  have a9:K.In (bi9 B.heap H):=λ b o e=>am7 (KX b o e) (by
   cases q:H b with
   | none=>rfl
   | some u =>
    rcases hO b u q with⟨z,_⟩|⟨z,_⟩
    ·subst z
     rw[hK (by rw[q];simp)]at e;cases e
    ·have e2:=KX b o e
     rw[C b z]at e2
     have h2:=aO.mp c6 (b,o) (PySem.W.mem_of_lookupK e)
     have e3:o=dJ #[]:=(ar e2).symm
     subst e3
     exact absurd (show false=true from h2) aR)
  have hM:Mod K mg (bi9 B.heap H):=⟨a9,Y a7,⟨mb,Y hb,c2⟩,let⟨mc,h1,h2⟩:=a6;⟨mc,Y h1,h2⟩⟩
  have c4:BM mg (bi9 B.heap H):=by
   obtain⟨bm,ob,b1,b2,b3,b4,b5,b6⟩:=c5
   exact⟨bm,ob,b1,b2,am7 b3 (un bm ob b3 (by rw[b4];nofun) (by rw[b6];nofun)),b4,b5,b6⟩
  have d0:∀ q∈tabs,bQ (bi9 B.heap H) q.1 q.2:=λ q hq=>by
   obtain⟨o,c0,a8,tf,a3,tg,c3,b0,tt,e1,r1,r2⟩:=(hT q hq).1
   refine⟨o,c0,a8,tf,a3,tg,c3,b0,tt,am7 e1 ?_,r1,r2⟩
   cases q2:H q.1 with
   | none=>rfl
   | some u =>
    rcases hO _ u q2 with⟨z,_⟩|⟨z,_⟩
    ·rw[z,ha]at e1;cases e1;exact absurd r1 (by simp)
    ·rw[C _ z]at e1;cases e1;exact absurd r1 (by simp)
  have e0:Env0 P w K mg (bi9 B.heap H) gZ [] B H:=⟨rfl,hM,λ b o e=>bH4 e,Nat.le_of_eq (aW5 _ _),trivial,λ b hb=>absurd (show b∈([]:List Addr)from hb) (by simp),hok,.of_eq hg⟩
  refine eJ ((F _ a9 (Y a7) c4 d0).run gZ [] B H ⟨[.ref a],[]⟩ [.ref a] [.ref a] _ _ hr e0 (a2 B (.ref a)) (.cons rfl .nil) (d1 H c1 hS (λ u e=>(hO a u e).elim (λ z=>.inl z.2) (λ z=>.inr ⟨_,z.2⟩)))) λ r s' h=>?_
  cases r with
  | error e=>exact bB h
  | ok fl =>
   cases fl with
   | next=>exact bB h
   | brk=>exact bB h
   | cont=>exact bB h
   | ret u =>
    obtain⟨v,H',os,bare,a4,a1,r',q⟩:=h
    have q':v=.bl true:=q
    subst q'
    obtain rfl:u=Value.bool true:=r'
    have key:∀ b o,B.heap.get? b=some o->asItWas B.heap s'.heap b o/\∃ o',s'.heap.get? b=some o':=λ b o e=>by
     cases q:H b with
     | none =>
      have z:=a4.keep b o e q (by intro z;exact absurd (show b∈([]:List Addr)from z) (by simp)) (by simp)
      exact⟨.inl z,o,z⟩
     | some u =>
      rcases hO b u q with⟨_,ob,xs,z⟩|⟨z,z2⟩
      ·subst z
       have z2:=a4.frzs b ob _ q
       obtain⟨e1,_⟩:=hok b _ q
       obtain⟨e2,_⟩:=a1 b _ z2
       rw[e]at e1;cases e1
       exact⟨.inl e2,_,e2⟩
      ·subst z2
       obtain⟨a0,z3⟩:=a4.tbls b _ q
       have g:s'.heap.get? b=some { cls:=.none,data:=.fields (#[]++a0) }:=a1 b _ z3
       have e1:=C b z
       rw[e]at e1;cases e1
       obtain⟨p,hp,ep⟩:=ay.mp z
       refine⟨.inr (.inl ⟨?_,rfl,#[],a0,rfl,g⟩),_,g⟩
       have t:=((hT p hp).1.tab (hT p hp).2).isCodeTable
       rw[ep]at t
       exact t
    exact⟨rfl,⟨λ b o e=>(key b o e).1,λ b o e=>(key b o e).2⟩,os,bare⟩
 have tbl:∀ b,b∈tabs.map (·.2)->b≠a:=λ b h z=>by
  have e:=C b h
  rw[z,ha]at e;cases e
 cases hk:K.lookup a with
 | some o =>
  have e:=KX a o hk
  rw[ha]at e
  cases e
  refine Z (λ b=>if b∈tabs.map (·.2)then some (.tbl #[])else none) (λ b u z=>?_) (λ q hq=>if_pos (bo hq)) (.inr ⟨_,vs.toArray,_,hk,rfl,rfl,rfl,by rw[aB,a5];exact hl,by simpa using rv⟩) (λ b u z=>?_) λ z=>?_
  ·by_cases hb:b∈tabs.map (·.2)
   ·have G:=(if_pos hb).symm.trans z
    cases G
    exact .inr ⟨hb,rfl⟩
   ·have G:=(if_neg hb).symm.trans z
    cases G
  ·by_cases hb:b∈tabs.map (·.2)
   ·have G:=(if_pos hb).symm.trans z
    cases G
    exact C b hb
   ·have G:=(if_neg hb).symm.trans z
    cases G
  ·exact absurd (if_neg λ y=>tbl a y rfl) z
 | none =>
  refine Z (λ b=>if b=a then some (.frz { cls:=.type "list",data:=.seq vs.toArray } (.lst (ns.map V.int)))else if b∈tabs.map (·.2)then some (.tbl #[])else none) (λ b u z=>?_) (λ q hq=>?_) (.inl (.inr ⟨{ cls:=.type "list",data:=.seq vs.toArray },if_pos rfl⟩)) (λ b u z=>?_) λ _=>hk
  ·by_cases hb:b=a
   ·have G:=(if_pos hb).symm.trans z
    cases G
    exact .inl ⟨hb,_,_,rfl⟩
   ·have G:=(if_neg hb).symm.trans z
    by_cases hc:b∈tabs.map (·.2)
    ·rw[if_pos hc]at G;cases G;exact .inr ⟨hc,rfl⟩
    ·rw[if_neg hc]at G;cases G
  ·have hm:q.2∈tabs.map (·.2):=bo hq
   show(if _ then _ else if _ then _ else _)=_
   rw[if_neg (tbl _ hm),if_pos hm]
  ·by_cases hb:b=a
   ·have G:=(if_pos hb).symm.trans z
    cases G
    subst hb
    exact⟨ha,by rw[aG];exact hl,vs,_,rv,ha⟩
   ·have G:=(if_neg hb).symm.trans z
    by_cases hc:b∈tabs.map (·.2)
    ·rw[if_pos hc]at G;cases G;exact C b hc
    ·rw[if_neg hc]at G;cases G
theorem aY7 {ts:List Addr}{l:cT}{n k:Nat}{q:aL}{loose:List Str}{XP:(Str->Option Value)->Heap->Prop}{YP:World->Heap->Prop}{d:DefRec}{K:Params->ac}{sp:ac->Sp}{x:Str}(names:List Str)
  (hn:l.most=some n) (a0:n<=aN) (a2:d.params.defaults=[]) (hr:Room k gZ)
  (hY:∀(w:World) (h:Heap),YP w h->(K w.params).In h/\∀ P∈ts,h.get? P=some (dJ #[])) (Z:∀ w:World,bZ6 (K w.params) names ts=true) (a3:∀ w:World,jV (K w.params)=true)
  (F:∀(w:World) (mg:Str->Option Value) (fa:Addr) (h:Heap),(K w.params).In h->h.Ns aX mg->mg d.name=some (.ref fa) ->
   ∃ fd:bE,(∀(s:af) (u:Value),jF s fd ⟨[u],[]⟩ [(x,u)]) /\
    ∀ B:Heap,(K w.params).In B->B.Ns aX mg->BM mg B->bx7 (K w.params) names B->FnOk l.prog w (K w.params) mg B CX0 k fa fd [x] (sp (K w.params)))
  (a1:∀(K:ac) (H:Hp) (a:Addr) (ns:List Int),ns.length<=n->bK9 K names H->SqL K H a (ns.map V.int)->(∀ u,H a=some u->(∃ o xs,u=.frz o (.lst xs))\/∃ ps,u=.tbl ps)->sp K [.ref a] H (λ v _=>v=.bl true) E0) :
  j4 q loose XP YP l.row.toRowW d [] (λ f vs=>jN f vs):=by
 refine Att.attach_call hn a2 λ w s₀ s₁ mg mb fa o pm cd a6 a vs ns G Y ho hd a7 a4 J C hlen hg=>?_
 obtain⟨KX,a5⟩:=hY w _ Y
 obtain⟨fd,hb,hF⟩:=F w mg fa _ KX G.T.g a4
 have hT:jU ((aC3 (K w.params) names).map (·.2)) s₁.heap:=λ p hp=>by
  obtain⟨y,hy,rfl⟩:=ay.mp hp
  obtain⟨h1,h2⟩:=au2.mp hy
  have z:=aO.mp (Z w) y.1 h1
  rw[h2]at z
  have z':(iW (K w.params) y.2.1 y.2.2&&ts.contains y.2.2)=true:=z
  rw[ao]at z'
  exact⟨PySem.W.codeHd_of_K KX z'.1,a5 _ (by simpa using z'.2)⟩
 have hm:∀ x∈names,∀ c P,bj (K w.params) x=some (c,P)->(c,P)∈(aC3 (K w.params) names).map (·.2):=λ x hx c P e=>ay.mpr ⟨(x,c,P),au2.mpr ⟨hx,e⟩,rfl⟩
 refine aT1 (tabs:=(aC3 (K w.params) names).map (·.2)) KX G.T.g G.T.b G.T.builtins G.T.nolimit hg ?_ hT (a3 w) J C (aq hlen a0) hr (λ B k1 k2 k3 k4=>hF B k1 k2 k3 λ x hx c P e=>k4 _ (hm x hx c P e)) hb λ H hO hS hF=>a1 (K w.params) H a ns hlen (λ x hx c P e=>hO _ (hm x hx c P e)) hS hF
 obtain⟨bm,ob,h1,h2,h3,h4,h5,h6⟩:=G.T.bmain
 exact⟨bm,ob,h1,h2,h3,h4,h5,h6⟩
def spB (names:List Str)(K:ac):Sp:=λ vs H Q _=>∃(a:Addr) (ns:List Int),vs=[.ref a]/\SqF K H a (ns.map V.int)/\ns.length<=63/\bK9 K names H/\∀ H',Q (.bl true) H'
theorem bY8 {names:List Str}{K:ac}{H:Hp}{a:Addr}{ns:List Int}(hl:ns.length<=63)(hB:bK9 K names H)(hS:SqL K H a (ns.map V.int))(B:∀ u,H a=some u->(∃ o y,u=.frz o (.lst y))\/∃ ps,u=.tbl ps):spB names K [.ref a] H (λ v _=>v=.bl true) E0:=by
 refine⟨a,ns,rfl,⟨hS,λ H' k=>?_⟩,hl,hB,λ _=>rfl⟩
 rcases hS with(h|⟨o,h⟩)|h
 ·rcases B _ h with⟨_,_,z⟩|⟨_,z⟩<;>cases z
 ·exact .inl (.inr ⟨o,k _ _ h rfl⟩)
 ·exact .inr h
def cp2 (P:kQ):String->LamI->Prop:=λ id J=>∃ L,P.lm id=some L/\LamGood J L
noncomputable def sfx (x:Str):Str:=if x = "letter_table" then "least_fee" else "<lambda>"
noncomputable def bI2 (names:List Str)(K:ac):List (Addr×Str):=names.map λ x=>(((bj K x).getD (0,0)).2,x ++ ".<locals>."++sfx x)
noncomputable def bM0 (names:List Str)(K:ac):List (Addr×Addr):=names.map λ x=>(bj K x).getD (0,0)
noncomputable def bY1 (K:ac)(f:String):Option Addr:=match b9 K aX (f:Str)with
 | some (some (.ref a))=>(match K.lookup a with
  | some ⟨_,_,.func _,_⟩=>some a
  | _=>none)
 | _=>none
theorem bE6 {K:ac}{f:String}{a:Addr}{oc:Value}{od:Option Addr}{h:bE}{sl:Array (Option Value)}(y:b9 K aX (f:Str)=some (some (.ref a)))(B:K.lookup a=some ⟨oc,od,.func h,sl⟩):bY1 K f=some a:=by
 unfold bY1
 rw[y]
 simp only
 rw[B]
theorem aO6 {K:ac}{f:String}{a:Addr}(h:bY1 K f=some a):b9 K aX (f:Str)=some (some (.ref a))/\∃ oc od y sl,K.lookup a=some ⟨oc,od,.func y,sl⟩:=by
 unfold bY1 at h
 split at h
 ·rename_i B e
  split at h
  ·rename_i oc od y sl e2
   cases h
   exact⟨e,_,_,_,_,e2⟩
  ·cases h
 ·cases h
noncomputable abbrev bi8 (names:List Str)(P:kQ)(K:ac):Gm:=⟨K,bY1 K,cp2 P,bI2 names K⟩
theorem ch0 {names:List Str}{P:kQ}{K:ac}{h:Heap}{mg:Str->Option Value}(X:K.In h)(G:h.Ns aX mg):∀(f:String) (a:Addr),(bi8 names P K).fa f=some a->mg (f:Str)=some (.ref a)/\∃ oc od y sl,(bi8 names P K).K.lookup a=some ⟨oc,od,.func y,sl⟩:=λ f a e=>⟨bV X G (aO6 e).1,(aO6 e).2⟩
theorem aM5 {names:List Str}{P:kQ}{K:ac}{h:Heap}{mg:Str->Option Value}{f:String}{a:Addr}{oc:Value}{od:Option Addr}{B:bE}{sl:Array (Option Value)}(X:K.In h)(G:h.Ns aX mg)(y:b9 K aX (f:Str)=some (some (.ref a)))(C:K.lookup a=some ⟨oc,od,.func B,sl⟩):bm3 (bi8 names P K) mg f (.fn f) :=
 ⟨.ref a,.ref a,bV X G y,rfl,λ _=>rfl,λ φ H=>by unfold RV;exact⟨a,bE6 y C,rfl⟩⟩
theorem bl3 {names:List Str}{P:kQ}{K:ac}(ht:∀ x∈names,(bj K x).isSome=true){vs:List V}{H:Hp}{Q:VK}{E:XK}(q:spB names K vs H Q E):spT (bi8 names P K) vs H Q E:=by
 obtain⟨a,ns,e,hS,hl,hB,y⟩:=q
 refine⟨a,ns,e,hS,hl,TabsH.init λ p h=>?_,y⟩
 simp only[bI2,gq]at h
 obtain⟨x,hx,rfl⟩:=ay.mp h
 exact hB x hx _ _ (ax3 (ht x hx))
theorem bv6 {names:List Str}{K:ac}{mg:Str->Option Value}{h:Heap}(ht:∀ x∈names,(bj K x).isSome=true)(bm:BM mg h)(hc:bx7 K names h):∀ y∈bM0 names K,bQ h y.1 y.2/\BM mg h:=λ y hy=>by
 obtain⟨x,hx,rfl⟩:=ay.mp hy
 exact⟨hc x hx _ _ (ax3 (ht x hx)),bm⟩
noncomputable def ax0:be->Option (List Str)
 | ⟨[],args,none,[],[],none,[]⟩=>some (args.map (·.arg))
 | _=>none
theorem qY {p:be}{ps:List Str}(h:ax0 p=some ps):∃ args,p=⟨[],args,none,[],[],none,[]⟩/\args.map (·.arg)=ps:=by
 unfold ax0 at h
 split at h
 ·exact⟨_,rfl,ar h⟩
 ·cases h
def aF7 (ps:List Str):Prop:=∀ params,ax0 params=some ps->∀(qual:Str) (body:Expr) (scope:Scope) (clos:List (Str×Addr)) (doc pm:Value) (c':Addr) (ctv:Value) (us:List Value),us.length=ps.length->d6 (bP "<lambda>" qual params body scope clos pm (.ref c') ctv) ⟨us,[]⟩=pure (ps.zip us) /\
 ∀(nm:Str) (rp:Pos),d6 (cw nm qual params [.Return (some body) rp] scope clos .none .none doc pm none (.ref c') ctv) ⟨us,[]⟩=pure (ps.zip us)
noncomputable def bg2 (ps fr:List Str)(sc:Scope):Bool:=decide (sc.kind=.function)&&!sc.isCoroutine&&!sc.isGenerator&&decide ((ps++fr).Nodup)&&(ps.all λ x=>decide (sc.names.lookup x=some .local)||decide (sc.names.lookup x=some .cell))&&(fr.all λ x=>decide (sc.names.lookup x=some .free))&&(sc.names.all λ y=>!decide (y.2=.cell)||decide (sc.names.lookup y.1=some .cell))
theorem aX1 {ps fr:List Str}{sc:Scope}(h:bg2 ps fr sc=true):LamScope (ps++fr) ps fr sc:=by
 unfold bg2 at h
 simp only[ao,decide_eq_true_eq,fy,aO,bL]at h
 obtain⟨⟨⟨⟨⟨⟨G,Y⟩,h3⟩,B⟩,C⟩,J⟩,h7⟩:=h
 exact⟨G,Y,h3,B,rfl,C,J,λ y hy e=>by
  rcases h7 y hy with z|z
  ·rw[e]at z;simp at z
  ·exact z⟩
noncomputable def bO2 (scope sc:Scope):Bool:=scope.names.all λ y=>!decide (scope.names.lookup y.1=some .free)||decide (sc.names.lookup y.1=some .cell)
theorem br8 {scope sc:Scope}(h:bO2 scope sc=true):∀ x,scope.names.lookup x=some .free->sc.names.lookup x=some .cell:=λ x hx=>by
 have:=aO.mp h (x,.free) (az hx)
 simp only[bL,fy,decide_eq_false_iff_not,decide_eq_true_eq]at this
 rcases this with z|z
 ·exact absurd hx z
 ·exact z
noncomputable def lkB (sc:Scope)(N:List Str)(caps:List Nat)(params:be)(body:Expr)(scope:Scope)(t:lA×List Str×List Str):Bool :=
 decide (ax0 params=some t.2.1)&&decide (caps.map (λ j=>N[j]?)=t.2.2.map some)&&lamCheck scope sc&&bO2 scope sc&&bg2 t.2.1 t.2.2 scope&&decide (t.2.1.length=t.1.ps)&&decide (t.2.2.length=t.1.cs)&&mE (ck0 (t.2.1++t.2.2) scope) t.1.body body
noncomputable def lkG (f:Str)(sc:Scope)(N:List Str)(tab:List (String×lA×List Str×List Str))(id:String)(caps:List Nat)(E:Expr):Bool:=match tab.lookup id,E with
 | some t,.Lambda params body scope _=>decide (sfx f = "<lambda>")&&lkB sc N caps params body scope t
 | some t,.NamedExpr (.Name nm _) (.Lambda params body scope p1) p2=>decide (sfx f=nm)&&decide (p1=p2)&&lkB sc N caps params body scope t
 | _,_=>false
theorem bx3 {names:List Str}{P:kQ}{K:ac}{f:Str}{sc:Scope}{N:List Str}{fd:bE}{tab:List (String×lA×List Str×List Str)}(hf:f∈names)(G:fd.code=.ref ((bj K f).getD (0,0)).1)(J:∀ y∈sc.names,y.2=.cell->sc.names.lookup y.1=some .cell)
  (Y:∀ id t,tab.lookup id=some t->P.lm id=some t.1/\aF7 t.2.1):cc5 (bi8 names P K) (bM0 names K) f sc N fd (lkG f sc N tab):=by
 intro id B E h
 have C:∀(t:lA×List Str×List Str) (params:be) (body:Expr) (scope:Scope) (Z:Option (Str×Pos)),tab.lookup id=some t->lkB sc N B params body scope t=true->(match Z with|none => "<lambda>" | some p=>p.1)=sfx f ->
   LkAt (bi8 names P K) (bM0 names K) f sc N fd id B params body scope ((bj K f).getD (0,0)).1 ((bj K f).getD (0,0)).2 ⟨f ++ ".<locals>."++sfx f,params,body,scope,t.2.1,t.2.2,Z⟩:=λ t params body scope Z e h hs=>by
  obtain⟨L,ps,fr⟩:=t
  unfold lkB at h
  simp only[ao,decide_eq_true_eq]at h
  obtain⟨⟨⟨⟨⟨⟨⟨h1,h2⟩,h3⟩,h4⟩,h5⟩,h6⟩,h7⟩,h8⟩:=h
  obtain⟨hL,hB⟩:=Y id _ e
  obtain⟨args,rfl,a0⟩:=qY h1
  have hlen:fr.length=B.length:=by have:=congrArg gQ h2;simpa using this.symm
  have S:=aX1 h5
  refine⟨G,ay.mpr ⟨f,hf,rfl⟩,h3,br8 h4,J,λ env=>rfl,⟨L,hL,⟨S,h6,h7,h8,λ a2 a4 pm c' a3 us a1=>hB _ h1 _ _ _ _ _ _ _ _ _ a1⟩⟩,?_,rfl,rfl,rfl,hlen,λ i j x e1 e2=>?_,S.frs,ay.mpr ⟨f,hf,rfl⟩⟩
  ·show f ++ ".<locals>."++sfx f=f ++ ".<locals>."++LamI.own _
   unfold LamI.own
   rw[<-hs]<;>rfl
  ·have e3:(B.map (λ j=>N[j]?))[i]?=some (N[j]?):=by rw[aF,e1];rfl
   rw[h2,aF,e2]at e3
   exact(ar e3).symm
 unfold lkG at h
 split at h
 case h_3=>cases h
 ·rename_i t params body scope pos e
  rw[ao]at h
  exact⟨_,_,params,body,scope,pos,_,rfl,C t params body scope none e h.2 (of_decide_eq_true h.1).symm⟩
 ·rename_i t Z rp params body scope p1 p2 e
  rw[ao,ao]at h
  have ep:=of_decide_eq_true h.1.2
  subst ep
  exact⟨_,_,params,body,scope,p1,_,rfl,C t params body scope (some (Z,rp)) e h.2 (of_decide_eq_true h.1.1).symm⟩
theorem bh7 {names:List Str}{P:kQ}{K:ac}{f:Str}{sc:Scope}{N:List Str}{y:bE}:cc5 (bi8 names P K) (bM0 names K) f sc N y (λ _ _ _=>false):=λ _ _ _ h=>by cases h
theorem cd5 {names:List Str}{P:kQ}{K:ac}:∀ id J,(bi8 names P K).lg id J->∃ L,P.lm id=some L/\LamGood J L:=λ _ _ h=>h
theorem cf6 {P:kQ}{tab:List (String×lA×List Str×List Str)}(h:∀ p∈tab,P.lm p.1=some p.2.1/\aF7 p.2.2.1):∀ id t,tab.lookup id=some t->P.lm id=some t.1/\aF7 t.2.1:=by
 induction tab with
 | nil=>intro id t e;cases e
 | cons y l ih =>
  intro id t e
  rw[aZ]at e
  cases q:id==y.1 with
  | true =>
   rw[q]at e
   cases e
   rw[eq_of_beq q]
   exact h y (aC ..)
  | false =>
   rw[q]at e
   exact ih (λ p B=>h p (aw _ B)) id t e
def cn3 (K:ac)(n:Str)(st:Stmt):Prop:=∃(f:Addr) (od an:Option Addr) (sl:Array (Option Value)) (oc kV dc pm cd ct:Value),b9 K aX n=some (some (.ref f)) /\
 K.lookup f=some ⟨oc,od,.func (cN n n (defArgs st) (qa st) (defScope st) .none kV dc pm an cd ct),sl⟩/\eU K cd n=true/\cb K (.ref f)=true
def co2 (n:Str)(st:Stmt)(ps:List Str):Prop:=∀(kV doc pm:Value) (an:Option Addr) (cdv ct:Value) (us:List Value),us.length=ps.length->d6 (cN n n (defArgs st) (qa st) (defScope st) .none kV doc pm an cdv ct) ⟨us,[]⟩=pure (ps.zip us)
theorem bd0 {Q:List Value->Prop}(h:Q [])(us:List Value)(hl:us.length=0):Q us:=by
 cases us with
 | nil=>exact h
 | cons _ _=>cases hl
theorem bdS {k:Nat}{Q:List Value->Prop}(h:∀ a us,us.length=k->Q (a::us))(us:List Value)(hl:us.length=k+1):Q us:=by
 cases us with
 | nil=>cases hl
 | cons a us=>exact h a us (Nat.succ.inj hl)
theorem bd1 {Q:List Value->Prop}(h:∀ a,Q [a]):∀ us:List Value,us.length=1->Q us:=bdS λ a=>bd0 (h a)
theorem bd2 {Q:List Value->Prop}(h:∀ a b,Q [a,b]):∀ us:List Value,us.length=2->Q us:=bdS λ a=>bd1 (h a)
theorem bd3 {Q:List Value->Prop}(h:∀ a b c,Q [a,b,c]):∀ us:List Value,us.length=3->Q us:=bdS λ a=>bd2 (h a)
theorem bd4 {Q:List Value->Prop}(h:∀ a b c d,Q [a,b,c,d]):∀ us:List Value,us.length=4->Q us:=bdS λ a=>bd3 (h a)
def DT (names:List Str)(P:kQ)(n:String)(d:lB)(st:Stmt):Prop:=∃ N ps,FnScope N ps (defScope st)/\ps.length=d.ps/\N.length=d.ps+d.vs/\co2 n st ps/\(mSs ⟨N,defScope st,λ _ _ _=>false⟩ d.body (qa st)=true \/
 ((n:Str)∈names/\∃ tab,mSs ⟨N,defScope st,lkG n (defScope st) N tab⟩ d.body (qa st)=true/\(∀ y∈(defScope st).names,y.2=.cell->(defScope st).names.lookup y.1=some .cell)/\∀ p∈tab,P.lm p.1=some p.2.1/\aF7 p.2.2.1))
theorem good_of {names:List Str}{P:kQ}{K:ac}{h:Heap}{mg:Str->Option Value}{n:String}{d:lB}{st:Stmt}(X:K.In h)(G:h.Ns aX mg)(hT:∀ x∈names,(bj K x).isSome=true)(hD:cn3 K n st)(hd:DT names P n d st):Good (bi8 names P K) (bM0 names K) mg n d:=by
 obtain⟨f,od,an,sl,oc,kV,Z,pm,cd,ct,a,l,c,k⟩:=hD
 obtain⟨N,ps,B,C,h3,Y,y⟩:=hd
 have F:=bs8 (st:=st) l c k
 have D:DefAt K mg n st ps f _:=⟨F,bV X G a,F.binds Y⟩
 rcases y with y|⟨hn,tab,y,J,h7⟩
 ·exact⟨_,_,_,_,_,_,D,B,C,h3,y,bh7⟩
 ·exact⟨_,_,_,_,_,_,D,B,C,h3,y,bx3 hn (PySem.W.law_code X G (ax3 (hT _ hn)) (bV X G a) (X _ _ l) rfl) J (cf6 h7)⟩
theorem head_of {l:cT}{q:aL}{loose:List Str}{H:PySem.W.Hook}{N:Nat}{d:DefRec}{h:List (Str×Expr)}
  (left:PySem.W.LeftO l.row.prog q loose (λ s=>PySem.W.xlAt q [] s&&PySem.W.recOk (PySem.W.RowW.records (kn l.row)) s) H.obs H.val N)
  (y:PySem.W.defOf q l.row.name=some (d,h)) (C:l.row.prog.theDef l.row.name=some (d.params,d.body,d.scope)) (hk:PySem.W.kwWritten? d.params.kwonlyargs d.params.kw_defaults=some h) (B:(!l.row.writes||l.row.records.isEmpty)=true)
  (G:l.row.wellSaid=true) (ok:(PySem.W.chainsOk q&&PySem.W.opensWell l.row.prog&&(PySem.W.frees l.row.toRowW&&l.row.within.isEmpty))=true) (hb:l.row.prog.bare) (hw:l.row.toRowW.promised)
  (call:j4 q loose (PySem.W.XL q []) H.says l.row.toRowW d h λ f vs=>jN f vs):l.row.Holds :=
 PySem.W.holds_open left H.of H.keeps (λ s e=>PySem.W.xl_of s (gU.mp e).1) PySem.W.XL.keeps y C hk (λ s e=>PySem.W.recFacts_of (gU.mp e).2) B G ok hb hw call
end L2
end
noncomputable section
namespace DV
noncomputable def cf2:Df:=⟨"_law_bag",2,3,(.cons (.asg (.one 2) (.cst (.int 0))) (.cons (.ite (.cmp .lt (.var 1) (.bi .len (.cons (.var 0) .nil))) (.cons (.asg (.one 2) (.bi .abs (.cons (.ix (.var 0) (.var 1)) .nil))) .nil) .nil) (.cons (.asg (.one 3) (.bin .add (.bin .mul (.cst (.int 7919)) (.var 1)) (.cst (.int 17)))) (.cons (.for_ (.one 4) (.rng1 (.bi .min2 (.cons (.bi .len (.cons (.var 0) .nil)) (.cons (.cst (.int 60)) .nil)))) (.cons (.asg (.one 3) (.bin .mod (.bin .add (.bin .add (.bin .mul (.var 3) (.cst (.int 48271))) (.bin .mod (.ix (.var 0) (.var 4)) (.cst (.int 2147483647)))) (.var 4)) (.cst (.int 2147483629)))) .nil)) (.cons (.ite (.cmp .lt (.var 2) (.bin .pow (.cst (.int 10)) (.cst (.int 18)))) (.cons (.asg (.one 2) (.cst (.int 0))) .nil) .nil) (.cons (.ret (.lst (.cons (.var 2) (.cons (.var 3) .nil)))) .nil))))))⟩
noncomputable def bS3:Df:=⟨"_law_take",2,3,(.cons (.ite (.cmp .gt (.ix (.var 0) (.cst (.int 0))) (.cst (.int 0))) (.cons (.asg (.one 2) (.bin .mod (.ix (.var 0) (.cst (.int 0))) (.var 1))) (.cons (.setIx (.var 0) (.cst (.int 0)) (.bin .fdiv (.ix (.var 0) (.cst (.int 0))) (.var 1))) (.cons (.ret (.var 2)) .nil))) .nil) (.cons (.asg (.one 3) (.cst (.int 0))) (.cons (.asg (.one 4) (.cst (.int 1))) (.cons (.whl (.cmp .lt (.var 4) (.var 1)) (.cons (.setIx (.var 0) (.cst (.int 1)) (.bin .mod (.bin .add (.bin .mul (.ix (.var 0) (.cst (.int 1))) (.cst (.int 48271))) (.cst (.int 7919))) (.cst (.int 2147483647)))) (.cons (.asg (.one 3) (.bin .add (.bin .mul (.var 3) (.cst (.int 1073741789))) (.bin .mod (.bin .mul (.bin .fdiv (.ix (.var 0) (.cst (.int 1))) (.cst (.int 8))) (.cst (.int 69621))) (.cst (.int 1073741789))))) (.cons (.asg (.one 4) (.bin .mul (.var 4) (.cst (.int 1073741789)))) .nil)))) (.cons (.ret (.bin .mod (.var 3) (.var 1))) .nil)))))⟩
noncomputable def bD5:Df:=⟨"_law_rooms",2,1,(.cons (.asg (.one 2) (.call "_law_take" (.ex (.var 0) (.ex (.bin .shl (.cst (.int 1)) (.var 1)) .nil)))) (.cons (.ret (.mk .tuple (.compIf (.one 0) (.rng1 (.var 1)) (.cmp .eq (.bin .mod (.bin .fdiv (.var 1) (.bin .shl (.cst (.int 1)) (.var 0))) (.cst (.int 2))) (.cst (.int 1))) (.var 0) [none,some 2]))) .nil))⟩
noncomputable def bg3:Df:=⟨"_law_machine",1,5,(.cons (.asg (.one 1) (.bin .add (.cst (.int 1)) (.call "_law_take" (.ex (.var 0) (.ex (.cst (.int 3)) .nil))))) (.cons (.asg (.one 2) (.bin .add (.cst (.int 1)) (.call "_law_take" (.ex (.var 0) (.ex (.cst (.int 5)) .nil))))) (.cons (.asg (.one 3) (.call "_law_take" (.ex (.var 0) (.ex (.cst (.int 13)) .nil)))) (.cons (.ite (.cmp .eq (.call "_law_take" (.ex (.var 0) (.ex (.cst (.int 8)) .nil))) (.cst (.int 7))) (.cons (.asg (.one 3) (.call "_law_take" (.ex (.var 0) (.ex (.cst (.int 76)) .nil)))) .nil) .nil) (.cons (.asg (.one 4) (.lst .nil)) (.cons (.for_ (.one 5) (.rng1 (.var 3)) (.cons (.ex (.meth .append (.var 4) (.cons (.tup (.cons (.call "_law_take" (.ex (.var 0) (.ex (.var 2) .nil))) (.cons (.ix (.cst (.str [97,98,99])) (.call "_law_take" (.ex (.var 0) (.ex (.var 1) .nil)))) (.cons (.call "_law_take" (.ex (.var 0) (.ex (.var 2) .nil))) (.cons (.call "_law_take" (.ex (.var 0) (.ex (.cst (.int 4)) .nil))) .nil))))) .nil))) .nil)) (.cons (.ret (.tup (.cons (.var 1) (.cons (.var 2) (.cons (.call "_law_rooms" (.ex (.var 0) (.ex (.var 2) .nil))) (.cons (.call "_law_rooms" (.ex (.var 0) (.ex (.var 2) .nil))) (.cons (.mk .tuple (.seq (.var 4))) .nil))))))) .nil)))))))⟩
noncomputable def bN7:Df:=⟨"_law_word",3,2,(.cons (.asg (.one 3) (.cst (.str []))) (.cons (.for_ (.one 4) (.rng1 (.call "_law_take" (.ex (.var 0) (.ex (.bin .add (.var 2) (.cst (.int 1))) .nil)))) (.cons (.asg (.one 3) (.bin .add (.var 3) (.ix (.cst (.str [97,98,99])) (.call "_law_take" (.ex (.var 0) (.ex (.var 1) .nil)))))) .nil)) (.cons (.ret (.var 3)) .nil)))⟩
noncomputable def ab1:Df:=⟨"rooms_of",1,0,(.cons (.ret (.ix (.var 0) (.cst (.int 1)))) .nil)⟩
noncomputable def qT:Df:=⟨"begins_of",1,0,(.cons (.ret (.ix (.var 0) (.cst (.int 2)))) .nil)⟩
noncomputable def ai8:Df:=⟨"ends_of",1,0,(.cons (.ret (.ix (.var 0) (.cst (.int 3)))) .nil)⟩
noncomputable def ab5:Df:=⟨"doors_of",1,0,(.cons (.ret (.ix (.var 0) (.cst (.int 4)))) .nil)⟩
noncomputable def ad0:Df:=⟨"grid",2,2,(.cons (.asg (.one 2) (.lst .nil)) (.cons (.for_ (.one 3) (.rng1 (.var 0)) (.cons (.ex (.meth .append (.var 2) (.cons (.mk .tuple (.comp (.one 0) (.rng1 (.var 0)) (.callV 1 (.cons (.var 2) (.cons (.var 0) .nil))) [none,some 1,some 3])) .nil))) .nil)) (.cons (.ret (.mk .tuple (.seq (.var 2)))) .nil)))⟩
noncomputable def ad2:Df:=⟨"least",1,0,(.cons (.ret (.mkD .min (.compIf (.one 0) (.seq (.var 0)) (.notN (.var 0)) (.var 0) [none]) (.cst .non))) .nil)⟩
noncomputable def ad6:Df:=⟨"added",2,0,(.cons (.ite (.or (.isN (.var 0)) (.isN (.var 1))) (.cons (.ret (.cst .non)) .nil) .nil) (.cons (.ret (.bin .add (.var 0) (.var 1))) .nil))⟩
noncomputable def ad8:Df:=⟨"plain",1,0,(.cons (.ret (.callC "grid" (.ex (.var 0) (.lam "plain.0" [] .nil)))) .nil)⟩
noncomputable def ab0:Lm:=⟨"plain.0",2,0,(.ite (.cmp .eq (.var 0) (.var 1)) (.cst (.int 0)) (.cst .non))⟩
noncomputable def ab8:Df:=⟨"product",2,1,(.cons (.asg (.one 2) (.bi .len (.cons (.var 0) .nil))) (.cons (.ret (.callC "grid" (.ex (.var 2) (.lam "product.0" [2,0,1] .nil)))) .nil))⟩
noncomputable def aa6:Lm:=⟨"product.0",2,3,(.call "least" (.ex (.mk .list (.comp (.one 0) (.rng1 (.var 2)) (.call "added" (.ex (.ix (.ix (.var 1) (.var 2)) (.var 0)) (.ex (.ix (.ix (.var 3) (.var 0)) (.var 4)) .nil))) [none,some 3,some 0,some 4,some 1])) .nil))⟩
noncomputable def br6:Df:=⟨"_law_same",2,2,(.cons (.ite (.or (.not (.bi .isTup (.cons (.var 0) .nil))) (.cmp .ne (.bi .len (.cons (.var 0) .nil)) (.bi .len (.cons (.var 1) .nil)))) (.cons (.ret (.cst (.bl false))) .nil) .nil) (.cons (.for_ (.one 2) (.rng1 (.bi .len (.cons (.var 1) .nil))) (.cons (.ite (.or (.not (.bi .isTup (.cons (.ix (.var 0) (.var 2)) .nil))) (.cmp .ne (.bi .len (.cons (.ix (.var 0) (.var 2)) .nil)) (.bi .len (.cons (.var 1) .nil)))) (.cons (.ret (.cst (.bl false))) .nil) .nil) (.cons (.for_ (.one 3) (.seq (.ix (.var 0) (.var 2))) (.cons (.ite (.and (.notN (.var 3)) (.or (.not (.bi .isInt (.cons (.var 3) .nil))) (.bi .isBool (.cons (.var 3) .nil)))) (.cons (.ret (.cst (.bl false))) .nil) .nil) .nil)) .nil))) (.cons (.ret (.cmp .eq (.var 0) (.var 1))) .nil)))⟩
noncomputable def ac3:Df:=⟨"raised",4,3,(.cons (.asg (.one 4) (.var 2)) (.cons (.asg (.one 5) (.var 0)) (.cons (.asg (.one 6) (.var 1)) (.cons (.whl (.cmp .gt (.var 6) (.cst (.int 0))) (.cons (.ite (.cmp .eq (.bin .mod (.var 6) (.cst (.int 2))) (.cst (.int 1))) (.cons (.asg (.one 4) (.callV 3 (.cons (.var 4) (.cons (.var 5) .nil)))) .nil) .nil) (.cons (.asg (.one 6) (.bin .fdiv (.var 6) (.cst (.int 2)))) (.cons (.ite (.cmp .gt (.var 6) (.cst (.int 0))) (.cons (.asg (.one 5) (.callV 3 (.cons (.var 5) (.cons (.var 5) .nil)))) .nil) .nil) .nil)))) (.cons (.ret (.var 4)) .nil)))))⟩
noncomputable def ae6:Df:=⟨"power",2,0,(.cons (.ret (.call "raised" (.ex (.var 0) (.ex (.var 1) (.ex (.call "plain" (.ex (.bi .len (.cons (.var 0) .nil)) .nil)) (.ex (.glob "product") .nil)))))) .nil)⟩
noncomputable def aa5:Df:=⟨"letter_table",2,1,(.cons (.und 2) (.cons (.ret (.callC "grid" (.ex (.call "rooms_of" (.ex (.var 0) .nil)) (.lam "letter_table.least_fee" [0,1] .nil)))) .nil))⟩
noncomputable def aa3:Lm:=⟨"letter_table.least_fee",2,2,(.call "least" (.ex (.mk .list (.compIf (.tup [0,1,2,3]) (.seq (.call "doors_of" (.ex (.var 2) .nil))) (.cmp .eq (.tup (.cons (.var 0) (.cons (.var 1) (.cons (.var 2) .nil)))) (.tup (.cons (.var 4) (.cons (.var 5) (.cons (.var 6) .nil))))) (.var 3) [none,none,none,none,some 0,some 3,some 1])) .nil))⟩
noncomputable def aa9:Df:=⟨"word_table",2,3,(.cons (.asg (.one 2) (.dic .nil .nil)) (.cons (.asg (.one 3) (.call "plain" (.ex (.call "rooms_of" (.ex (.var 0) .nil)) .nil))) (.cons (.for_ (.one 4) (.seq (.var 1)) (.cons (.ite (.cmp .notin (.var 4) (.var 2)) (.cons (.setIx (.var 2) (.var 4) (.call "letter_table" (.ex (.var 0) (.ex (.var 4) .nil)))) .nil) .nil) (.cons (.asg (.one 3) (.call "product" (.ex (.var 3) (.ex (.ix (.var 2) (.var 4)) .nil)))) .nil))) (.cons (.ret (.var 3)) .nil))))⟩
noncomputable def aJ0:Df:=⟨"_law_from_room",3,7,(.cons (.asg (.one 3) (.mk .list (.comp (.one 0) (.rng1 (.ix (.var 0) (.cst (.int 1)))) (.cst .non) [none]))) (.cons (.setIx (.var 3) (.var 2) (.cst (.int 0))) (.cons (.for_ (.one 4) (.seq (.var 1)) (.cons (.asg (.one 5) (.mk .list (.comp (.one 0) (.seq (.var 3)) (.cst .non) [none]))) (.cons (.for_ (.tup [6,7,8,9]) (.seq (.ix (.var 0) (.cst (.int 4)))) (.cons (.ite (.and (.cmp .eq (.var 7) (.var 4)) (.notN (.ix (.var 3) (.var 6)))) (.cons (.ite (.or (.isN (.ix (.var 5) (.var 8))) (.cmp .lt (.bin .add (.ix (.var 3) (.var 6)) (.var 9)) (.ix (.var 5) (.var 8)))) (.cons (.setIx (.var 5) (.var 8) (.bin .add (.ix (.var 3) (.var 6)) (.var 9))) .nil) .nil) .nil) .nil) .nil)) (.cons (.asg (.one 3) (.var 5)) .nil)))) (.cons (.ret (.mk .tuple (.seq (.var 3)))) .nil))))⟩
noncomputable def ba9:Df:=⟨"law",1,7,(.cons (.for_ (.one 1) (.rng1 (.bin .add (.bi .min2 (.cons (.bi .len (.cons (.var 0) .nil)) (.cons (.cst (.int 3)) .nil))) (.cst (.int 1)))) (.cons (.asg (.one 2) (.call "_law_bag" (.ex (.var 0) (.ex (.var 1) .nil)))) (.cons (.asg (.one 3) (.call "_law_machine" (.ex (.var 2) .nil))) (.cons (.asg (.one 4) (.call "_law_word" (.ex (.var 2) (.ex (.ix (.var 3) (.cst (.int 0))) (.ex (.ix (.lst (.cons (.cst (.int 10)) (.cons (.cst (.int 10)) (.cons (.cst (.int 10)) (.cons (.ix (.lst (.cons (.cst (.int 30)) (.cons (.cst (.int 200)) .nil))) (.bi .int (.cons (.cmp .eq (.var 1) (.cst (.int 0))) .nil))) .nil))))) (.call "_law_take" (.ex (.var 2) (.ex (.cst (.int 4)) .nil)))) .nil))))) (.cons (.asg (.one 5) (.lst (.cons (.var 4) (.cons (.cst (.str [])) (.cons (.rev (.var 4)) (.cons (.var 4) .nil)))))) (.cons (.ite (.cmp .gt (.bi .len (.cons (.var 4) .nil)) (.cst (.int 60))) (.cons (.asg (.one 5) (.lst (.cons (.var 4) .nil))) .nil) .nil) (.cons (.for_ (.one 6) (.seq (.var 5)) (.cons (.asg (.one 7) (.mk .tuple (.comp (.one 0) (.rng1 (.ix (.var 3) (.cst (.int 1)))) (.call "_law_from_room" (.ex (.var 1) (.ex (.var 2) (.ex (.var 0) .nil)))) [none,some 3,some 6]))) (.cons (.ite (.not (.call "_law_same" (.ex (.call "word_table" (.ex (.var 3) (.ex (.var 6) .nil))) (.ex (.var 7) .nil)))) (.cons (.ret (.cst (.bl false))) .nil) .nil) .nil))) .nil))))))) (.cons (.ret (.cst (.bl true))) .nil))⟩
noncomputable def zK:Df:=⟨"at_begins_and_ends",2,2,(.cons (.asg (.one 2) (.lst .nil)) (.cons (.for_ (.one 3) (.seq (.call "begins_of" (.ex (.var 0) .nil))) (.cons (.ex (.ext (.var 2) (.comp (.one 0) (.seq (.call "ends_of" (.ex (.var 0) .nil))) (.ix (.ix (.var 1) (.var 2)) (.var 0)) [none,some 1,some 3]))) .nil)) (.cons (.ret (.var 2)) .nil)))⟩
noncomputable def aI9:Df:=⟨"price",2,0,(.cons (.ret (.call "least" (.ex (.call "at_begins_and_ends" (.ex (.var 0) (.ex (.call "word_table" (.ex (.var 0) (.ex (.var 1) .nil))) .nil))) .nil))) .nil)⟩
noncomputable def ae0:Df:=⟨"sign_of",1,0,(.cons (.ite (.isN (.var 0)) (.cons (.ret (.glob "NONE")) .nil) .nil) (.cons (.ret (.ite (.cmp .eq (.var 0) (.cst (.int 0))) (.glob "FREE") (.glob "SOME"))) .nil))⟩
noncomputable def ae2:Df:=⟨"reading",1,0,(.cons (.ret (.callC "grid" (.ex (.bi .len (.cons (.var 0) .nil)) (.lam "reading.0" [0] .nil)))) .nil)⟩
noncomputable def ac6:Lm:=⟨"reading.0",2,1,(.call "sign_of" (.ex (.ix (.ix (.var 2) (.var 0)) (.var 1)) .nil))⟩
noncomputable def ab7:Df:=⟨"plain_signs",1,0,(.cons (.ret (.callC "grid" (.ex (.var 0) (.lam "plain_signs.0" [] .nil)))) .nil)⟩
noncomputable def aa7:Lm:=⟨"plain_signs.0",2,0,(.ite (.cmp .eq (.var 0) (.var 1)) (.glob "FREE") (.glob "NONE"))⟩
noncomputable def ap5:Df:=⟨"_law_box",2,4,(.cons (.asg (.one 2) (.cst (.int 0))) (.cons (.ite (.cmp .lt (.var 1) (.bi .len (.cons (.var 0) .nil))) (.cons (.asg (.one 2) (.bi .abs (.cons (.ix (.var 0) (.var 1)) .nil))) .nil) .nil) (.cons (.ite (.cmp .ge (.var 2) (.bin .pow (.cst (.int 10)) (.cst (.int 18)))) (.cons (.ret (.lst (.cons (.var 2) .nil))) .nil) .nil) (.cons (.asg (.one 3) (.cst (.int 0))) (.cons (.for_ (.one 4) (.rng1 (.cst (.int 128))) (.cons (.asg (.one 5) (.bin .mod (.bin .mul (.bin .add (.bin .add (.bin .add (.bin .mod (.var 2) (.cst (.int 2147483647))) (.bin .mul (.cst (.int 7919)) (.var 1))) (.bin .mul (.cst (.int 104729)) (.var 4))) (.cst (.int 97))) (.cst (.int 48271))) (.cst (.int 2147483647)))) (.cons (.asg (.one 3) (.bin .add (.bin .mul (.var 3) (.cst (.int 2147483647))) (.bin .mod (.bin .add (.bin .add (.bin .mul (.var 5) (.var 5)) (.bin .mul (.cst (.int 31)) (.var 4))) (.bin .fdiv (.var 2) (.cst (.int 2147483647)))) (.cst (.int 2147483647))))) .nil))) (.cons (.ret (.lst (.cons (.var 3) .nil))) .nil))))))⟩
noncomputable def af0:Df:=⟨"_law_draw",2,1,(.cons (.asg (.one 2) (.bin .mod (.ix (.var 0) (.cst (.int 0))) (.var 1))) (.cons (.setIx (.var 0) (.cst (.int 0)) (.bin .fdiv (.ix (.var 0) (.cst (.int 0))) (.var 1))) (.cons (.ret (.var 2)) .nil)))⟩
noncomputable def bs5:Df:=⟨"_law_form",2,2,(.cons (.ite (.or (.not (.bi .isTup (.cons (.var 0) .nil))) (.cmp .ne (.bi .len (.cons (.var 0) .nil)) (.var 1))) (.cons (.ret (.cst (.bl false))) .nil) .nil) (.cons (.for_ (.one 2) (.seq (.var 0)) (.cons (.ite (.or (.not (.bi .isTup (.cons (.var 2) .nil))) (.cmp .ne (.bi .len (.cons (.var 2) .nil)) (.var 1))) (.cons (.ret (.cst (.bl false))) .nil) .nil) (.cons (.for_ (.one 3) (.seq (.var 2)) (.cons (.ite (.or (.not (.bi .isInt (.cons (.var 3) .nil))) (.bi .isBool (.cons (.var 3) .nil))) (.cons (.ret (.cst (.bl false))) .nil) .nil) .nil)) .nil))) (.cons (.ret (.cst (.bl true))) .nil)))⟩
noncomputable def aa4:Df:=⟨"sign_product",2,1,(.cons (.asg (.one 2) (.bi .len (.cons (.var 0) .nil))) (.cons (.ret (.callC "grid" (.ex (.var 2) (.lam "sign_product.0" [2,0,1] .nil)))) .nil))⟩
noncomputable def aa2:Lm:=⟨"sign_product.0",2,3,(.mk .min (.comp (.one 0) (.rng1 (.var 2)) (.bi .max2 (.cons (.ix (.ix (.var 1) (.var 2)) (.var 0)) (.cons (.ix (.ix (.var 3) (.var 0)) (.var 4)) .nil))) [none,some 3,some 0,some 4,some 1]))⟩
noncomputable def aI0:Df:=⟨"_law_signs",2,6,(.cons (.asg (.one 2) (.call "_law_draw" (.ex (.var 0) (.ex (.cst (.int 4)) .nil)))) (.cons (.asg (.one 3) (.lst .nil)) (.cons (.for_ (.one 4) (.rng1 (.var 1)) (.cons (.asg (.one 5) (.lst .nil)) (.cons (.for_ (.one 6) (.rng1 (.var 1)) (.cons (.asg (.one 7) (.call "_law_draw" (.ex (.var 0) (.ex (.cst (.int 4)) .nil)))) (.cons (.ite (.or (.and (.cmp .eq (.var 2) (.cst (.int 1))) (.cmp .gt (.call "_law_draw" (.ex (.var 0) (.ex (.cst (.int 3)) .nil))) (.cst (.int 0)))) (.and (.cmp .eq (.var 2) (.cst (.int 2))) (.cmp .gt (.var 4) (.var 6)))) (.cons (.asg (.one 7) (.cst (.int 3))) .nil) .nil) (.cons (.ite (.and (.cmp .eq (.var 2) (.cst (.int 3))) (.and (.cmp .ne (.var 6) (.bin .mod (.bin .add (.var 4) (.cst (.int 1))) (.var 1))) (.cmp .gt (.call "_law_draw" (.ex (.var 0) (.ex (.cst (.int 4)) .nil))) (.cst (.int 0))))) (.cons (.asg (.one 7) (.cst (.int 3))) .nil) .nil) (.cons (.ex (.meth .append (.var 5) (.cons (.var 7) .nil))) .nil))))) (.cons (.ex (.meth .append (.var 3) (.cons (.mk .tuple (.seq (.var 5))) .nil))) .nil)))) (.cons (.ret (.mk .tuple (.seq (.var 3)))) .nil))))⟩
noncomputable def qh:Df:=⟨"_law_product",2,4,(.cons (.asg (.one 2) (.lst .nil)) (.cons (.for_ (.one 3) (.seq (.var 0)) (.cons (.asg (.one 4) (.mk .list (.comp (.one 0) (.seq (.var 3)) (.cst (.int 3)) [none]))) (.cons (.for_ (.one 5) (.rng1 (.bi .len (.cons (.var 3) .nil))) (.cons (.ite (.cmp .lt (.ix (.var 3) (.var 5)) (.cst (.int 3))) (.cons (.asg (.one 4) (.mk .list (.comp (.one 0) (.rng1 (.bi .len (.cons (.var 3) .nil))) (.bi .min2 (.cons (.ix (.var 1) (.var 0)) (.cons (.bi .max2 (.cons (.ix (.var 2) (.var 3)) (.cons (.ix (.ix (.var 4) (.var 3)) (.var 0)) .nil))) .nil))) [none,some 4,some 3,some 5,some 1]))) .nil) .nil) .nil)) (.cons (.ex (.meth .append (.var 2) (.cons (.mk .tuple (.seq (.var 4))) .nil))) .nil)))) (.cons (.ret (.mk .tuple (.seq (.var 2)))) .nil)))⟩
noncomputable def ac2:Df:=⟨"sign_power",2,0,(.cons (.ret (.call "raised" (.ex (.var 0) (.ex (.var 1) (.ex (.call "plain_signs" (.ex (.bi .len (.cons (.var 0) .nil)) .nil)) (.ex (.glob "sign_product") .nil)))))) .nil)⟩
noncomputable def aA6:Df:=⟨"_law_unit",1,0,(.cons (.ret (.mk .tuple (.comp (.one 0) (.rng1 (.var 0)) (.mk .tuple (.comp (.one 0) (.rng1 (.var 1)) (.bin .mul (.cst (.int 3)) (.bi .int (.cons (.cmp .ne (.var 1) (.var 0)) .nil))) [none,some 0])) [none,some 0]))) .nil)⟩
noncomputable def aV2:Df:=⟨"_law_round",1,2,(.cons (.asg (.one 1) (.lst (.cons (.call "_law_unit" (.ex (.bi .len (.cons (.var 0) .nil)) .nil)) .nil))) (.cons (.whl (.cst (.bl true)) (.cons (.asg (.one 2) (.call "_law_product" (.ex (.ix (.var 1) (.neg (.cst (.int 1)))) (.ex (.var 0) .nil)))) (.cons (.ite (.cmp .isin (.var 2) (.var 1)) (.cons (.ret (.tup (.cons (.var 1) (.cons (.meth .index (.var 1) (.cons (.var 2) .nil)) .nil)))) .nil) .nil) (.cons (.ex (.meth .append (.var 1) (.cons (.var 2) .nil))) .nil)))) .nil))⟩
noncomputable def bz1:Df:=⟨"_law_due",3,0,(.cons (.ite (.cmp .lt (.var 2) (.bi .len (.cons (.var 0) .nil))) (.cons (.ret (.ix (.var 0) (.var 2))) .nil) .nil) (.cons (.ret (.ix (.var 0) (.bin .add (.var 1) (.bin .mod (.bin .sub (.var 2) (.var 1)) (.bin .sub (.bi .len (.cons (.var 0) .nil)) (.var 1)))))) .nil))⟩
noncomputable def aW0:Df:=⟨"law",1,9,(.cons (.for_ (.one 1) (.rng1 (.bin .add (.bi .min2 (.cons (.cst (.int 8)) (.cons (.bi .len (.cons (.var 0) .nil)) .nil))) (.cst (.int 1)))) (.cons (.asg (.one 2) (.call "_law_box" (.ex (.var 0) (.ex (.var 1) .nil)))) (.cons (.asg (.one 3) (.bin .add (.cst (.int 1)) (.call "_law_draw" (.ex (.var 2) (.ex (.cst (.int 5)) .nil))))) (.cons (.asg (.one 4) (.call "_law_signs" (.ex (.var 2) (.ex (.var 3) .nil)))) (.cons (.asg (.tup [5,6]) (.call "_law_round" (.ex (.var 4) .nil))) (.cons (.asg (.one 7) (.bin .mul (.call "_law_draw" (.ex (.var 2) (.ex (.bin .pow (.cst (.int 10)) (.cst (.int 30))) .nil))) (.bin .pow (.cst (.int 10)) (.cst (.int 29))))) (.cons (.ite (.cmp .gt (.var 1) (.cst (.int 0))) (.cons (.asg (.one 7) (.cst (.int 0))) .nil) .nil) (.cons (.for_ (.one 8) (.seq (.lst (.cons (.cst (.int 0)) (.cons (.cst (.int 1)) (.cons (.bin .add (.cst (.int 2)) (.call "_law_draw" (.ex (.var 2) (.ex (.cst (.int 30)) .nil)))) (.cons (.call "_law_draw" (.ex (.var 2) (.ex (.cst (.int 1000)) .nil))) (.cons (.bin .add (.var 7) (.call "_law_draw" (.ex (.var 2) (.ex (.cst (.int 1000)) .nil)))) .nil))))))) (.cons (.asg (.one 9) (.call "sign_power" (.ex (.var 4) (.ex (.var 8) .nil)))) (.cons (.ite (.or (.not (.call "_law_form" (.ex (.var 9) (.ex (.var 3) .nil)))) (.cmp .ne (.var 9) (.call "_law_due" (.ex (.var 5) (.ex (.var 6) (.ex (.var 8) .nil)))))) (.cons (.ret (.cst (.bl false))) .nil) .nil) (.cons (.ite (.cmp .ne (.call "sign_product" (.ex (.var 9) (.ex (.call "sign_power" (.ex (.var 4) (.ex (.cst (.int 7)) .nil))) .nil))) (.call "_law_due" (.ex (.var 5) (.ex (.var 6) (.ex (.bin .add (.var 8) (.cst (.int 7))) .nil))))) (.cons (.ret (.cst (.bl false))) .nil) .nil) .nil)))) .nil)))))))) (.cons (.ret (.cst (.bl true))) .nil))⟩
noncomputable def ac0:Df:=⟨"is_steady",1,0,(.cons (.ret (.cmp .eq (.call "sign_product" (.ex (.var 0) (.ex (.var 0) .nil))) (.var 0))) .nil)⟩
noncomputable def ac7:Df:=⟨"round_of",1,0,(.cons (.ite (.or (.cmp .eq (.var 0) (.glob "FREE")) (.cmp .eq (.var 0) (.glob "NONE"))) (.cons (.ret (.var 0)) .nil) .nil) (.cons (.ret (.glob "UNBOUND")) .nil))⟩
noncomputable def ac8:Df:=⟨"sharpened",1,2,(.cons (.ite (.not (.call "is_steady" (.ex (.var 0) .nil))) (.cons .raise .nil) .nil) (.cons (.asg (.one 1) (.bi .len (.cons (.var 0) .nil))) (.cons (.asg (.one 2) (.mk .list (.comp (.one 0) (.rng1 (.var 1)) (.call "round_of" (.ex (.ix (.ix (.var 1) (.var 0)) (.var 0)) .nil)) [none,some 0]))) (.cons (.ret (.callC "grid" (.ex (.var 1) (.lam "sharpened.0" [1,0,2] .nil)))) .nil))))⟩
noncomputable def ab3:Lm:=⟨"sharpened.0",2,3,(.mk .min (.comp (.one 0) (.rng1 (.var 2)) (.bi .max3 (.cons (.ix (.ix (.var 1) (.var 2)) (.var 0)) (.cons (.ix (.var 3) (.var 0)) (.cons (.ix (.ix (.var 1) (.var 0)) (.var 4)) .nil)))) [none,some 3,some 0,some 4,some 1]))⟩
noncomputable def aa8:Df:=⟨"steady_power",1,2,(.cons (.asg (.one 1) (.cst (.int 1))) (.cons (.asg (.one 2) (.var 0)) (.cons (.whl (.not (.call "is_steady" (.ex (.var 2) .nil))) (.cons (.aug 1 (.cst (.int 1))) (.cons (.asg (.one 2) (.call "sign_product" (.ex (.var 2) (.ex (.var 0) .nil)))) .nil))) (.cons (.ret (.tup (.cons (.var 1) (.cons (.var 2) .nil)))) .nil))))⟩
noncomputable def aH6:Df:=⟨"_law_goes_with",2,4,(.cons (.for_ (.tup [2,3]) (.zip (.seq (.var 0)) (.seq (.var 1))) (.cons (.for_ (.tup [4,5]) (.zip (.seq (.var 2)) (.seq (.var 3))) (.cons (.ite (.or (.cmp .lt (.var 5) (.var 4)) (.or (.cmp .ne (.cmp .eq (.var 5) (.cst (.int 0))) (.cmp .eq (.var 4) (.cst (.int 0)))) (.cmp .ne (.cmp .eq (.var 5) (.cst (.int 3))) (.cmp .eq (.var 4) (.cst (.int 3)))))) (.cons (.ret (.cst (.bl false))) .nil) .nil) .nil)) .nil)) (.cons (.ret (.cmp .eq (.bi .len (.cons (.var 0) .nil)) (.bi .len (.cons (.var 1) .nil)))) .nil))⟩
noncomputable def bJ8:Df:=⟨"_law_right",1,3,(.cons (.asg (.tup [1,2]) (.call "steady_power" (.ex (.var 0) .nil))) (.cons (.asg (.one 3) (.call "sharpened" (.ex (.var 2) .nil))) (.cons (.ite (.or (.notB (.call "is_steady" (.ex (.var 3) .nil)) true) (.cmp .ne (.call "sharpened" (.ex (.var 3) .nil)) (.var 3))) (.cons (.ret (.cst (.bl false))) .nil) .nil) (.cons (.ite (.or (.cmp .ne (.call "sign_product" (.ex (.var 3) (.ex (.var 2) .nil))) (.var 3)) (.cmp .ne (.call "sign_product" (.ex (.var 2) (.ex (.var 3) .nil))) (.var 3))) (.cons (.ret (.cst (.bl false))) .nil) .nil) (.cons (.ret (.call "_law_goes_with" (.ex (.var 2) (.ex (.var 3) .nil)))) .nil)))))⟩
noncomputable def bb1:Df:=⟨"law",1,7,(.cons (.for_ (.one 1) (.rng1 (.bin .add (.bi .min2 (.cons (.cst (.int 12)) (.cons (.bi .len (.cons (.var 0) .nil)) .nil))) (.cst (.int 1)))) (.cons (.asg (.one 2) (.call "_law_box" (.ex (.var 0) (.ex (.var 1) .nil)))) (.cons (.asg (.one 3) (.bin .add (.cst (.int 1)) (.call "_law_draw" (.ex (.var 2) (.ex (.cst (.int 5)) .nil))))) (.cons (.asg (.one 4) (.call "_law_signs" (.ex (.var 2) (.ex (.var 3) .nil)))) (.cons (.asg (.one 5) (.call "_law_signs" (.ex (.var 2) (.ex (.var 3) .nil)))) (.cons (.asg (.one 6) (.call "sign_product" (.ex (.call "sharpened" (.ex (.ix (.call "steady_power" (.ex (.var 4) .nil)) (.cst (.int 1))) .nil)) (.ex (.var 5) .nil)))) (.cons (.for_ (.one 7) (.seq (.lst (.cons (.var 4) (.cons (.call "sign_product" (.ex (.var 4) (.ex (.var 5) .nil))) (.cons (.call "sign_product" (.ex (.var 5) (.ex (.var 4) .nil))) (.cons (.var 6) .nil)))))) (.cons (.ite (.not (.call "_law_right" (.ex (.var 7) .nil))) (.cons (.ret (.cst (.bl false))) .nil) .nil) .nil)) .nil))))))) (.cons (.ret (.cst (.bl true))) .nil))⟩
noncomputable def ac4:Df:=⟨"word_signs",2,0,(.cons (.ret (.call "reading" (.ex (.call "word_table" (.ex (.var 0) (.ex (.var 1) .nil))) .nil))) .nil)⟩
noncomputable def at5:Df:=⟨"end_sign",2,0,(.cons (.ret (.mkDs .min (.call "at_begins_and_ends" (.ex (.var 0) (.ex (.var 1) .nil))) (.glob "NONE"))) .nil)⟩
noncomputable def ad9:Df:=⟨"_law_machine",1,12,(.cons (.asg (.one 1) (.bin .add (.cst (.int 1)) (.call "_law_draw" (.ex (.var 0) (.ex (.cst (.int 3)) .nil))))) (.cons (.asg (.one 2) (.bin .add (.cst (.int 1)) (.call "_law_draw" (.ex (.var 0) (.ex (.cst (.int 5)) .nil))))) (.cons (.asg (.one 3) (.call "_law_draw" (.ex (.var 0) (.ex (.bin .add (.bin .mul (.cst (.int 3)) (.var 2)) (.cst (.int 2))) .nil)))) (.cons (.ite (.cmp .eq (.call "_law_draw" (.ex (.var 0) (.ex (.cst (.int 8)) .nil))) (.cst (.int 5))) (.cons (.asg (.one 3) (.call "_law_draw" (.ex (.var 0) (.ex (.cst (.int 76)) .nil)))) .nil) .nil) (.cons (.asg (.one 4) (.ix (.lst (.cons (.cst (.int 2)) (.cons (.cst (.int 2)) (.cons (.cst (.int 4)) (.cons (.cst (.int 1)) .nil))))) (.call "_law_draw" (.ex (.var 0) (.ex (.cst (.int 4)) .nil))))) (.cons (.asg (.one 5) (.lst .nil)) (.cons (.for_ (.one 6) (.rng1 (.var 3)) (.cons (.asg (.one 7) (.call "_law_draw" (.ex (.var 0) (.ex (.var 2) .nil)))) (.cons (.asg (.one 8) (.call "_law_draw" (.ex (.var 0) (.ex (.var 2) .nil)))) (.cons (.asg (.one 9) (.ix (.cst (.str [97,98,99])) (.call "_law_draw" (.ex (.var 0) (.ex (.var 1) .nil))))) (.cons (.ex (.meth .append (.var 5) (.cons (.tup (.cons (.var 7) (.cons (.var 9) (.cons (.var 8) (.cons (.call "_law_draw" (.ex (.var 0) (.ex (.var 4) .nil))) .nil))))) .nil))) .nil))))) (.cons (.asg (.one 10) (.call "_law_draw" (.ex (.var 0) (.ex (.bin .shl (.cst (.int 1)) (.var 2)) .nil)))) (.cons (.asg (.one 11) (.mk .tuple (.compIf (.one 0) (.rng1 (.var 2)) (.cmp .eq (.bin .mod (.bin .shr (.var 1) (.var 0)) (.cst (.int 2))) (.cst (.int 1))) (.var 0) [none,some 10]))) (.cons (.asg (.one 10) (.call "_law_draw" (.ex (.var 0) (.ex (.bin .shl (.cst (.int 1)) (.var 2)) .nil)))) (.cons (.asg (.one 12) (.mk .tuple (.compIf (.one 0) (.rng1 (.var 2)) (.cmp .eq (.bin .mod (.bin .shr (.var 1) (.var 0)) (.cst (.int 2))) (.cst (.int 1))) (.var 0) [none,some 10]))) (.cons (.ret (.tup (.cons (.var 1) (.cons (.var 2) (.cons (.var 11) (.cons (.var 12) (.cons (.mk .tuple (.seq (.var 5))) .nil))))))) .nil))))))))))))⟩
noncomputable def js:Df:=⟨"_law_letter_signs",2,6,(.cons (.asg (.one 2) (.ix (.var 0) (.cst (.int 1)))) (.cons (.asg (.one 3) (.mk .list (.comp (.one 0) (.rng1 (.var 2)) (.mk .list (.comp (.one 0) (.rng1 (.var 1)) (.cst (.int 3)) [none])) [none,some 2]))) (.cons (.for_ (.tup [4,5,6,7]) (.seq (.ix (.var 0) (.cst (.int 4)))) (.cons (.ite (.cmp .eq (.var 5) (.var 1)) (.cons (.setIx (.ix (.var 3) (.var 4)) (.var 6) (.bi .min2 (.cons (.ix (.ix (.var 3) (.var 4)) (.var 6)) (.cons (.bi .int (.cons (.cmp .gt (.var 7) (.cst (.int 0))) .nil)) .nil)))) .nil) .nil) .nil)) (.cons (.ret (.mk .tuple (.comp (.one 0) (.seq (.var 3)) (.mk .tuple (.seq (.var 0))) [none]))) .nil))))⟩
noncomputable def bh4:Df:=⟨"law",1,11,(.cons (.for_ (.one 1) (.rng1 (.bin .add (.bi .min2 (.cons (.cst (.int 3)) (.cons (.bi .len (.cons (.var 0) .nil)) .nil))) (.cst (.int 1)))) (.cons (.asg (.one 2) (.call "_law_box" (.ex (.var 0) (.ex (.var 1) .nil)))) (.cons (.asg (.one 3) (.call "_law_machine" (.ex (.var 2) .nil))) (.cons (.asg (.one 4) (.call "_law_draw" (.ex (.var 2) (.ex (.cst (.int 61)) .nil)))) (.cons (.ite (.and (.cmp .eq (.call "_law_draw" (.ex (.var 2) (.ex (.cst (.int 8)) .nil))) (.cst (.int 3))) (.cmp .eq (.var 1) (.cst (.int 0)))) (.cons (.asg (.one 4) (.call "_law_draw" (.ex (.var 2) (.ex (.cst (.int 201)) .nil)))) .nil) .nil) (.cons (.asg (.one 5) (.cst (.str []))) (.cons (.asg (.one 6) (.call "_law_unit" (.ex (.ix (.var 3) (.cst (.int 1))) .nil))) (.cons (.asg (.one 7) (.mk .list (.comp (.one 0) (.seq (.slU (.cst (.str [97,98,99])) (.ix (.var 3) (.cst (.int 0))))) (.call "_law_letter_signs" (.ex (.var 1) (.ex (.var 0) .nil))) [none,some 3]))) (.cons (.for_ (.one 8) (.rng1 (.var 4)) (.cons (.asg (.one 9) (.call "_law_draw" (.ex (.var 2) (.ex (.ix (.var 3) (.cst (.int 0))) .nil)))) (.cons (.asg (.one 5) (.bin .add (.var 5) (.ix (.cst (.str [97,98,99])) (.var 9)))) (.cons (.asg (.one 6) (.call "_law_product" (.ex (.var 6) (.ex (.ix (.var 7) (.var 9)) .nil)))) .nil)))) (.cons (.asg (.one 10) (.call "word_signs" (.ex (.var 3) (.ex (.var 5) .nil)))) (.cons (.ite (.or (.not (.call "_law_form" (.ex (.var 10) (.ex (.ix (.var 3) (.cst (.int 1))) .nil)))) (.or (.cmp .ne (.var 10) (.var 6)) (.cmp .ne (.call "reading" (.ex (.call "word_table" (.ex (.var 3) (.ex (.var 5) .nil))) .nil)) (.var 6)))) (.cons (.ret (.cst (.bl false))) .nil) .nil) (.cons (.asg (.one 11) (.call "_law_draw" (.ex (.var 2) (.ex (.bin .add (.var 4) (.cst (.int 1))) .nil)))) (.cons (.ite (.cmp .ne (.call "sign_product" (.ex (.call "word_signs" (.ex (.var 3) (.ex (.slU (.var 5) (.var 11)) .nil))) (.ex (.call "word_signs" (.ex (.var 3) (.ex (.slL (.var 5) (.var 11)) .nil))) .nil))) (.var 6)) (.cons (.ret (.cst (.bl false))) .nil) .nil) (.cons (.ite (.cmp .ne (.call "end_sign" (.ex (.var 3) (.ex (.var 10) .nil))) (.call "sign_of" (.ex (.call "price" (.ex (.var 3) (.ex (.var 5) .nil))) .nil))) (.cons (.ret (.cst (.bl false))) .nil) .nil) .nil)))))))))))))) (.cons (.ret (.cst (.bl true))) .nil))⟩
noncomputable def aV1:Df:=⟨"_law_sharp",1,8,(.cons (.asg (.one 1) (.bi .len (.cons (.var 0) .nil))) (.cons (.asg (.one 2) (.lst .nil)) (.cons (.for_ (.one 3) (.rng1 (.var 1)) (.cons (.asg (.one 4) (.lst .nil)) (.cons (.for_ (.one 5) (.rng1 (.var 1)) (.cons (.asg (.one 6) (.cst (.int 3))) (.cons (.for_ (.one 7) (.rng1 (.var 1)) (.cons (.asg (.one 8) (.ix (.ix (.var 0) (.var 7)) (.var 7))) (.cons (.ite (.cmp .eq (.var 8) (.cst (.int 1))) (.cons (.asg (.one 8) (.cst (.int 2))) .nil) .nil) (.cons (.asg (.one 6) (.bi .min2 (.cons (.var 6) (.cons (.bi .max3 (.cons (.ix (.ix (.var 0) (.var 3)) (.var 7)) (.cons (.var 8) (.cons (.ix (.ix (.var 0) (.var 7)) (.var 5)) .nil)))) .nil)))) .nil)))) (.cons (.ex (.meth .append (.var 4) (.cons (.var 6) .nil))) .nil)))) (.cons (.ex (.meth .append (.var 2) (.cons (.mk .tuple (.seq (.var 4))) .nil))) .nil)))) (.cons (.ret (.mk .tuple (.seq (.var 2)))) .nil))))⟩
noncomputable def aj8:Df:=⟨"as_times",2,0,(.cons (.ret (.mk .list (.comp (.one 0) (.seq (.var 0)) (.ite (.cmp .eq (.ix (.var 0) (.cst (.int 0))) (.cst (.str [115,104,97,114,112]))) (.tup (.cons (.cst (.str [116,105,109,101,115])) (.cons (.ix (.var 0) (.cst (.int 1))) (.cons (.var 1) .nil)))) (.var 0)) [none,some 1]))) .nil)⟩
noncomputable def ad1:Df:=⟨"folded",4,2,(.cons (.asg (.one 4) (.lst .nil)) (.cons (.for_ (.one 5) (.seq (.var 0)) (.cons (.ite (.cmp .eq (.ix (.var 5) (.cst (.int 0))) (.cst (.str [108,101,116,116,101,114]))) (.cons (.ex (.meth .append (.var 4) (.cons (.callV 1 (.cons (.ix (.var 5) (.cst (.int 1))) .nil)) .nil))) .nil) (.cons (.ite (.cmp .eq (.ix (.var 5) (.cst (.int 0))) (.cst (.str [112,97,105,114]))) (.cons (.ex (.meth .append (.var 4) (.cons (.callV 2 (.cons (.ix (.var 4) (.ix (.var 5) (.cst (.int 1)))) (.cons (.ix (.var 4) (.ix (.var 5) (.cst (.int 2)))) .nil))) .nil))) .nil) (.cons (.ex (.meth .append (.var 4) (.cons (.callV 3 (.cons (.ix (.var 4) (.ix (.var 5) (.cst (.int 1)))) (.cons (.ix (.var 5) (.cst (.int 2))) .nil))) .nil))) .nil)) .nil)) .nil)) (.cons (.ret (.var 4)) .nil)))⟩
noncomputable def ap3:Df:=⟨"counted",2,0,(.cons (.ret (.callC "folded" (.ex (.var 0) (.lam "counted.2" [1] (.lam "counted.1" [] (.lam "counted.0" [] .nil)))))) .nil)⟩
noncomputable def jc:Lm:=⟨"counted.0",2,0,(.bin .mul (.var 0) (.var 1))⟩
noncomputable def je:Lm:=⟨"counted.1",2,0,(.bin .add (.var 0) (.var 1))⟩
noncomputable def jd:Lm:=⟨"counted.2",1,1,(.var 1)⟩
noncomputable def au4:Df:=⟨"unrolled",3,0,(.cons (.ret (.call "as_times" (.ex (.var 1) (.ex (.bin .mul (.bin .add (.var 2) (.cst (.int 1))) (.call "rooms_of" (.ex (.var 0) .nil))) .nil)))) .nil)⟩
noncomputable def bB9:Df:=⟨"begun",1,0,(.cons (.ret (.slU (.var 0) (.bin .add (.glob "MOST_WRITTEN") (.cst (.int 1))))) .nil)⟩
noncomputable def aw8:Df:=⟨"begun_times",2,1,(.cons (.asg (.one 2) (.bin .add (.bin .fdiv (.glob "MOST_WRITTEN") (.bi .len (.cons (.var 0) .nil))) (.cst (.int 1)))) (.cons (.ret (.call "begun" (.ex (.bin .mul (.var 0) (.bi .min2 (.cons (.var 1) (.cons (.var 2) .nil)))) .nil))) .nil))⟩
noncomputable def aK0:Df:=⟨"last_word",1,1,(.cons (.asg (.one 1) (.ix (.callC "folded" (.ex (.var 0) (.lam "last_word.1" [] (.lam "last_word.0" [] (.ex (.glob "begun_times") .nil))))) (.neg (.cst (.int 1))))) (.cons (.ite (.cmp .gt (.bi .len (.cons (.var 1) .nil)) (.glob "MOST_WRITTEN")) (.cons .raise .nil) .nil) (.cons (.ret (.var 1)) .nil)))⟩
noncomputable def as0:Lm:=⟨"last_word.0",2,0,(.call "begun" (.ex (.bin .add (.var 0) (.var 1)) .nil))⟩
noncomputable def ar5:Lm:=⟨"last_word.1",1,0,(.var 0)⟩
noncomputable def ao1:Df:=⟨"word_unrolled",3,0,(.cons (.ret (.call "last_word" (.ex (.call "unrolled" (.ex (.var 0) (.ex (.var 1) (.ex (.var 2) .nil)))) .nil))) .nil)⟩
noncomputable def af4:Df:=⟨"_law_tall",3,2,(.cons (.asg (.one 3) (.lst (.cons (.tup (.cons (.cst (.str [108,101,116,116,101,114])) (.cons (.ix (.cst (.str [97,98,99])) (.call "_law_draw" (.ex (.var 0) (.ex (.var 1) .nil)))) .nil))) .nil))) (.cons (.for_ (.one 4) (.rng1 (.call "_law_draw" (.ex (.var 0) (.ex (.var 2) .nil)))) (.cons (.ex (.meth .append (.var 3) (.cons (.tup (.cons (.cst (.str [112,97,105,114])) (.cons (.var 4) (.cons (.bin .sub (.var 4) (.call "_law_draw" (.ex (.var 0) (.ex (.bin .add (.bi .min2 (.cons (.var 4) (.cons (.cst (.int 1)) .nil))) (.cst (.int 1))) .nil)))) .nil)))) .nil))) .nil)) (.cons (.ret (.mk .tuple (.seq (.var 3)))) .nil)))⟩
noncomputable def ac5:Df:=⟨"last_table",2,0,(.cons (.ret (.ix (.callC "folded" (.ex (.var 1) (.lam "last_table.0" [0] (.ex (.glob "product") (.ex (.glob "power") .nil))))) (.neg (.cst (.int 1))))) .nil)⟩
noncomputable def ac1:Lm:=⟨"last_table.0",1,1,(.call "letter_table" (.ex (.var 1) (.ex (.var 0) .nil)))⟩
noncomputable def al8:Df:=⟨"table_unrolled",3,0,(.cons (.ret (.call "last_table" (.ex (.var 0) (.ex (.call "unrolled" (.ex (.var 0) (.ex (.var 1) (.ex (.var 2) .nil)))) .nil)))) .nil)⟩
noncomputable def jk:Df:=⟨"_law_least",2,0,(.cons (.ite (.or (.isN (.var 0)) (.and (.notN (.var 1)) (.cmp .lt (.var 1) (.var 0)))) (.cons (.ret (.var 1)) .nil) .nil) (.cons (.ret (.var 0)) .nil))⟩
noncomputable def aw1:Df:=⟨"_law_times",2,6,(.cons (.asg (.one 2) (.lst .nil)) (.cons (.for_ (.one 3) (.seq (.var 0)) (.cons (.asg (.one 4) (.lst .nil)) (.cons (.for_ (.one 5) (.rng1 (.bi .len (.cons (.var 0) .nil))) (.cons (.asg (.one 6) (.cst .non)) (.cons (.for_ (.one 7) (.rng1 (.bi .len (.cons (.var 0) .nil))) (.cons (.ite (.and (.notN (.ix (.var 3) (.var 7))) (.notN (.ix (.ix (.var 1) (.var 7)) (.var 5)))) (.cons (.asg (.one 6) (.call "_law_least" (.ex (.var 6) (.ex (.bin .add (.ix (.var 3) (.var 7)) (.ix (.ix (.var 1) (.var 7)) (.var 5))) .nil)))) .nil) .nil) .nil)) (.cons (.ex (.meth .append (.var 4) (.cons (.var 6) .nil))) .nil)))) (.cons (.ex (.meth .append (.var 2) (.cons (.mk .tuple (.seq (.var 4))) .nil))) .nil)))) (.cons (.ret (.mk .tuple (.seq (.var 2)))) .nil)))⟩
noncomputable def ao2:Df:=⟨"_law_power",2,1,(.cons (.asg (.one 2) (.cst .non)) (.cons (.whl (.cmp .gt (.var 1) (.cst (.int 0))) (.cons (.ite (.cmp .eq (.bin .mod (.var 1) (.cst (.int 2))) (.cst (.int 1))) (.cons (.asg (.one 2) (.ite (.isN (.var 2)) (.var 0) (.call "_law_times" (.ex (.var 2) (.ex (.var 0) .nil))))) .nil) .nil) (.cons (.asg (.one 1) (.bin .fdiv (.var 1) (.cst (.int 2)))) (.cons (.ite (.cmp .gt (.var 1) (.cst (.int 0))) (.cons (.asg (.one 0) (.call "_law_times" (.ex (.var 0) (.ex (.var 0) .nil)))) .nil) .nil) .nil)))) (.cons (.ret (.var 2)) .nil)))⟩
noncomputable def jb:Df:=⟨"_law_letter_table",2,6,(.cons (.asg (.one 2) (.ix (.var 0) (.cst (.int 1)))) (.cons (.asg (.one 3) (.mk .list (.comp (.one 0) (.rng1 (.var 2)) (.mk .list (.comp (.one 0) (.rng1 (.var 1)) (.cst .non) [none])) [none,some 2]))) (.cons (.for_ (.tup [4,5,6,7]) (.seq (.ix (.var 0) (.cst (.int 4)))) (.cons (.ite (.cmp .eq (.var 5) (.var 1)) (.cons (.setIx (.ix (.var 3) (.var 4)) (.var 6) (.call "_law_least" (.ex (.ix (.ix (.var 3) (.var 4)) (.var 6)) (.ex (.var 7) .nil)))) .nil) .nil) .nil)) (.cons (.ret (.mk .tuple (.comp (.one 0) (.seq (.var 3)) (.mk .tuple (.seq (.var 0))) [none]))) .nil))))⟩
noncomputable def bB7:Df:=⟨"_law_due",3,2,(.cons (.asg (.one 3) (.lst .nil)) (.cons (.for_ (.one 4) (.seq (.var 1)) (.cons (.ite (.cmp .eq (.ix (.var 4) (.cst (.int 0))) (.cst (.str [108,101,116,116,101,114]))) (.cons (.ex (.meth .append (.var 3) (.cons (.call "_law_letter_table" (.ex (.var 0) (.ex (.ix (.var 4) (.cst (.int 1))) .nil))) .nil))) .nil) (.cons (.ite (.cmp .eq (.ix (.var 4) (.cst (.int 0))) (.cst (.str [112,97,105,114]))) (.cons (.ex (.meth .append (.var 3) (.cons (.call "_law_times" (.ex (.ix (.var 3) (.ix (.var 4) (.cst (.int 1)))) (.ex (.ix (.var 3) (.ix (.var 4) (.cst (.int 2)))) .nil))) .nil))) .nil) (.cons (.ex (.meth .append (.var 3) (.cons (.call "_law_power" (.ex (.ix (.var 3) (.ix (.var 4) (.cst (.int 1)))) (.ex (.var 2) .nil))) .nil))) .nil)) .nil)) .nil)) (.cons (.ret (.ix (.var 3) (.neg (.cst (.int 1))))) .nil)))⟩
noncomputable def al0:Df:=⟨"_law_goes",4,4,(.cons (.ite (.cmp .ne (.bi .len (.cons (.var 0) .nil)) (.bi .len (.cons (.var 1) .nil))) (.cons (.ret (.cst (.bl false))) .nil) .nil) (.cons (.for_ (.tup [4,5]) (.zip (.seq (.var 0)) (.seq (.var 1))) (.cons (.for_ (.tup [6,7]) (.zip (.seq (.var 4)) (.seq (.var 5))) (.cons (.ite (.or (.cmp .ne (.cmp .eq (.var 7) (.cst (.int 3))) (.isN (.var 6))) (.cmp .ne (.cmp .eq (.var 7) (.cst (.int 0))) (.cmp .eq (.var 6) (.cst (.int 0))))) (.cons (.ret (.cst (.bl false))) .nil) .nil) (.cons (.ite (.or (.and (.cmp .eq (.var 7) (.cst (.int 2))) (.cmp .le (.var 6) (.var 2))) (.and (.cmp .eq (.var 7) (.cst (.int 1))) (.not (.chain .le .le (.cst (.int 1)) (.var 6) (.var 3))))) (.cons (.ret (.cst (.bl false))) .nil) .nil) .nil))) .nil)) (.cons (.ret (.cst (.bl true))) .nil)))⟩
noncomputable def aj0:Df:=⟨"_law_recipe",4,6,(.cons (.asg (.one 4) (.lst .nil)) (.cons (.for_ (.one 5) (.rng1 (.bin .add (.cst (.int 1)) (.call "_law_draw" (.ex (.var 0) (.ex (.var 2) .nil))))) (.cons (.asg (.one 6) (.call "_law_draw" (.ex (.var 0) (.ex (.cst (.int 6)) .nil)))) (.cons (.asg (.one 7) (.call "_law_draw" (.ex (.var 0) (.ex (.bin .add (.var 5) (.cst (.int 1))) .nil)))) (.cons (.asg (.one 8) (.call "_law_draw" (.ex (.var 0) (.ex (.bin .add (.var 5) (.cst (.int 1))) .nil)))) (.cons (.asg (.one 9) (.bin .add (.cst (.int 1)) (.call "_law_draw" (.ex (.var 0) (.ex (.cst (.int 6)) .nil))))) (.cons (.ite (.cmp .eq (.call "_law_draw" (.ex (.var 0) (.ex (.cst (.int 3)) .nil))) (.cst (.int 2))) (.cons (.asg (.one 9) (.bin .add (.cst (.int 1)) (.call "_law_draw" (.ex (.var 0) (.ex (.bin .pow (.cst (.int 10)) (.cst (.int 30))) .nil))))) .nil) .nil) (.cons (.ite (.and (.cmp .gt (.var 5) (.cst (.int 0))) (.and (.cmp .lt (.var 6) (.cst (.int 3))) (.cmp .gt (.var 3) (.cst (.int 0))))) (.cons (.ex (.meth .append (.var 4) (.cons (.tup (.cons (.cst (.str [116,105,109,101,115])) (.cons (.bi .min2 (.cons (.var 7) (.cons (.bin .sub (.var 5) (.cst (.int 1))) .nil))) (.cons (.var 9) .nil)))) .nil))) (.cons (.asg (.one 3) (.bin .sub (.var 3) (.cst (.int 1)))) .nil)) (.cons (.ite (.and (.cmp .gt (.var 5) (.cst (.int 0))) (.cmp .lt (.var 6) (.cst (.int 5)))) (.cons (.ex (.meth .append (.var 4) (.cons (.tup (.cons (.cst (.str [112,97,105,114])) (.cons (.bi .min2 (.cons (.var 7) (.cons (.bin .sub (.var 5) (.cst (.int 1))) .nil))) (.cons (.bi .min2 (.cons (.var 8) (.cons (.bin .sub (.var 5) (.cst (.int 1))) .nil))) .nil)))) .nil))) .nil) (.cons (.ex (.meth .append (.var 4) (.cons (.tup (.cons (.cst (.str [108,101,116,116,101,114])) (.cons (.ix (.cst (.str [97,98,99])) (.bin .mod (.var 7) (.var 1))) .nil))) .nil))) .nil)) .nil)) .nil))))))) (.cons (.ret (.mk .tuple (.seq (.var 4)))) .nil)))⟩
noncomputable def aw2:Df:=⟨"long_length",1,0,(.cons (.ret (.ix (.call "counted" (.ex (.var 0) (.ex (.cst (.int 1)) .nil))) (.neg (.cst (.int 1))))) .nil)⟩
noncomputable def aI7:Df:=⟨"letter_at",2,4,(.cons (.asg (.one 2) (.call "counted" (.ex (.var 0) (.ex (.cst (.int 1)) .nil)))) (.cons (.asg (.one 3) (.ix (.var 0) (.neg (.cst (.int 1))))) (.cons (.asg (.one 4) (.var 1)) (.cons (.whl (.cmp .ne (.ix (.var 3) (.cst (.int 0))) (.cst (.str [108,101,116,116,101,114]))) (.cons (.asg (.one 5) (.ix (.var 3) (.cst (.int 1)))) (.cons (.ite (.cmp .eq (.ix (.var 3) (.cst (.int 0))) (.cst (.str [116,105,109,101,115]))) (.cons (.asg (.one 4) (.bin .mod (.var 4) (.ix (.var 2) (.var 5)))) .nil) (.cons (.ite (.cmp .ge (.var 4) (.ix (.var 2) (.var 5))) (.cons (.asg (.one 4) (.bin .sub (.var 4) (.ix (.var 2) (.var 5)))) (.cons (.asg (.one 5) (.ix (.var 3) (.cst (.int 2)))) .nil)) .nil) .nil)) (.cons (.asg (.one 3) (.ix (.var 0) (.var 5))) .nil)))) (.cons (.ret (.ix (.var 3) (.cst (.int 1)))) .nil)))))⟩
noncomputable def ac9:Df:=⟨"long_table",2,0,(.cons (.ret (.call "last_table" (.ex (.var 0) (.ex (.var 1) .nil)))) .nil)⟩
noncomputable def aE7:Df:=⟨"long_price",2,0,(.cons (.ret (.call "least" (.ex (.call "at_begins_and_ends" (.ex (.var 0) (.ex (.call "long_table" (.ex (.var 0) (.ex (.var 1) .nil))) .nil))) .nil))) .nil)⟩
noncomputable def ae9:Df:=⟨"_law_recipe",4,6,(.cons (.asg (.one 4) (.lst .nil)) (.cons (.for_ (.one 5) (.rng1 (.bin .add (.cst (.int 1)) (.call "_law_draw" (.ex (.var 0) (.ex (.var 2) .nil))))) (.cons (.asg (.one 6) (.call "_law_draw" (.ex (.var 0) (.ex (.cst (.int 6)) .nil)))) (.cons (.asg (.one 7) (.call "_law_draw" (.ex (.var 0) (.ex (.bin .add (.var 5) (.cst (.int 1))) .nil)))) (.cons (.asg (.one 8) (.call "_law_draw" (.ex (.var 0) (.ex (.bin .add (.var 5) (.cst (.int 1))) .nil)))) (.cons (.asg (.one 9) (.bin .add (.cst (.int 1)) (.call "_law_draw" (.ex (.var 0) (.ex (.cst (.int 6)) .nil))))) (.cons (.ite (.cmp .eq (.call "_law_draw" (.ex (.var 0) (.ex (.cst (.int 3)) .nil))) (.cst (.int 2))) (.cons (.asg (.one 9) (.bin .add (.cst (.int 1)) (.call "_law_draw" (.ex (.var 0) (.ex (.bin .pow (.cst (.int 10)) (.cst (.int 30))) .nil))))) .nil) .nil) (.cons (.ite (.and (.cmp .gt (.var 5) (.cst (.int 0))) (.and (.cmp .lt (.var 6) (.cst (.int 3))) (.cmp .gt (.var 3) (.cst (.int 0))))) (.cons (.ex (.meth .append (.var 4) (.cons (.tup (.cons (.cst (.str [116,105,109,101,115])) (.cons (.bi .min2 (.cons (.var 7) (.cons (.bin .sub (.var 5) (.cst (.int 1))) .nil))) (.cons (.var 9) .nil)))) .nil))) (.cons (.asg (.one 3) (.bin .sub (.var 3) (.cst (.int 1)))) .nil)) (.cons (.ite (.and (.cmp .gt (.var 5) (.cst (.int 0))) (.cmp .lt (.var 6) (.cst (.int 5)))) (.cons (.ex (.meth .append (.var 4) (.cons (.tup (.cons (.cst (.str [112,97,105,114])) (.cons (.bi .min2 (.cons (.var 7) (.cons (.bin .sub (.var 5) (.cst (.int 1))) .nil))) (.cons (.bi .min2 (.cons (.var 8) (.cons (.bin .sub (.var 5) (.cst (.int 1))) .nil))) .nil)))) .nil))) .nil) (.cons (.ex (.meth .append (.var 4) (.cons (.tup (.cons (.cst (.str [108,101,116,116,101,114])) (.cons (.ix (.cst (.str [97,98,99])) (.bin .mod (.var 7) (.var 1))) .nil))) .nil))) .nil)) .nil)) .nil))))))) (.cons (.ret (.mk .tuple (.seq (.var 4)))) .nil)))⟩
noncomputable def by1:Df:=⟨"_law_due",2,2,(.cons (.asg (.one 2) (.lst .nil)) (.cons (.for_ (.one 3) (.seq (.var 1)) (.cons (.ite (.cmp .eq (.ix (.var 3) (.cst (.int 0))) (.cst (.str [108,101,116,116,101,114]))) (.cons (.ex (.meth .append (.var 2) (.cons (.call "_law_letter_table" (.ex (.var 0) (.ex (.ix (.var 3) (.cst (.int 1))) .nil))) .nil))) .nil) (.cons (.ite (.cmp .eq (.ix (.var 3) (.cst (.int 0))) (.cst (.str [112,97,105,114]))) (.cons (.ex (.meth .append (.var 2) (.cons (.call "_law_times" (.ex (.ix (.var 2) (.ix (.var 3) (.cst (.int 1)))) (.ex (.ix (.var 2) (.ix (.var 3) (.cst (.int 2)))) .nil))) .nil))) .nil) (.cons (.ex (.meth .append (.var 2) (.cons (.call "_law_power" (.ex (.ix (.var 2) (.ix (.var 3) (.cst (.int 1)))) (.ex (.ix (.var 3) (.cst (.int 2))) .nil))) .nil))) .nil)) .nil)) .nil)) (.cons (.ret (.ix (.var 2) (.neg (.cst (.int 1))))) .nil)))⟩
noncomputable def bb6:Df:=⟨"_law_price",2,3,(.cons (.asg (.one 2) (.cst .non)) (.cons (.for_ (.one 3) (.seq (.ix (.var 0) (.cst (.int 2)))) (.cons (.for_ (.one 4) (.seq (.ix (.var 0) (.cst (.int 3)))) (.cons (.ite (.notN (.ix (.ix (.var 1) (.var 3)) (.var 4))) (.cons (.asg (.one 2) (.call "_law_least" (.ex (.ix (.ix (.var 1) (.var 3)) (.var 4)) (.ex (.var 2) .nil)))) .nil) .nil) .nil)) .nil)) (.cons (.ret (.var 2)) .nil)))⟩
noncomputable def ag2:Df:=⟨"_law_tamed",2,2,(.cons (.asg (.one 2) (.lst .nil)) (.cons (.for_ (.one 3) (.seq (.var 0)) (.cons (.ite (.and (.cmp .eq (.ix (.var 3) (.cst (.int 0))) (.cst (.str [116,105,109,101,115]))) (.cmp .gt (.ix (.var 3) (.cst (.int 2))) (.cst (.int 1000)))) (.cons (.ite (.cmp .gt (.var 1) (.cst (.int 0))) (.cons (.asg (.one 1) (.bin .sub (.var 1) (.cst (.int 1)))) .nil) (.cons (.asg (.one 3) (.tup (.cons (.cst (.str [116,105,109,101,115])) (.cons (.ix (.var 3) (.cst (.int 1))) (.cons (.bin .add (.cst (.int 1)) (.bin .mod (.ix (.var 3) (.cst (.int 2))) (.cst (.int 1000)))) .nil))))) .nil)) .nil) .nil) (.cons (.ex (.meth .append (.var 2) (.cons (.var 3) .nil))) .nil))) (.cons (.ret (.mk .tuple (.seq (.var 2)))) .nil)))⟩
noncomputable def ab2:Df:=⟨"signs_of_pair",2,0,(.cons (.ret (.tup (.cons (.call "sign_product" (.ex (.ix (.var 0) (.cst (.int 0))) (.ex (.ix (.var 1) (.cst (.int 0))) .nil))) (.cons (.bin .add (.ix (.var 0) (.cst (.int 1))) (.ix (.var 1) (.cst (.int 1)))) .nil)))) .nil)⟩
noncomputable def ab4:Df:=⟨"signs_of_times",3,5,(.cons (.asg (.one 3) (.ix (.var 0) (.cst (.int 0)))) (.cons (.asg (.one 4) (.ix (.var 0) (.cst (.int 1)))) (.cons (.asg (.one 5) (.call "steady_power" (.ex (.var 3) .nil))) (.cons (.asg (.one 6) (.ix (.var 5) (.cst (.int 0)))) (.cons (.asg (.one 7) (.bin .mod (.var 1) (.var 6))) (.cons (.ite (.cmp .lt (.bin .fdiv (.var 1) (.var 6)) (.var 2)) (.cons (.ret (.tup (.cons (.call "sign_power" (.ex (.var 3) (.ex (.var 1) .nil))) (.cons (.bin .mul (.var 1) (.var 4)) .nil)))) .nil) .nil) (.cons (.ret (.tup (.cons (.call "sign_product" (.ex (.call "sharpened" (.ex (.ix (.var 5) (.cst (.int 1))) .nil)) (.ex (.call "sign_power" (.ex (.var 3) (.ex (.var 7) .nil))) .nil))) (.cons (.bin .mul (.bin .add (.bin .mul (.cst (.int 2)) (.var 6)) (.var 7)) (.var 4)) .nil)))) .nil)))))))⟩
noncomputable def ad5:Df:=⟨"long_signs",3,1,(.cons (.asg (.one 3) (.bin .mul (.bin .add (.var 2) (.cst (.int 1))) (.call "rooms_of" (.ex (.var 0) .nil)))) (.cons (.ret (.ix (.callC "folded" (.ex (.var 1) (.lam "long_signs.1" [0] (.ex (.glob "signs_of_pair") (.lam "long_signs.0" [3] .nil))))) (.neg (.cst (.int 1))))) .nil))⟩
noncomputable def ad4:Lm:=⟨"long_signs.0",2,1,(.call "signs_of_times" (.ex (.var 0) (.ex (.var 1) (.ex (.var 2) .nil))))⟩
noncomputable def ad3:Lm:=⟨"long_signs.1",1,1,(.tup (.cons (.call "word_signs" (.ex (.var 1) (.ex (.var 0) .nil))) (.cons (.glob "LETTER_WEIGHT") .nil)))⟩
noncomputable def as8:Df:=⟨"_law_steady",1,2,(.cons (.asg (.one 1) (.cst (.int 1))) (.cons (.asg (.one 2) (.var 0)) (.cons (.whl (.cmp .ne (.call "_law_product" (.ex (.var 2) (.ex (.var 2) .nil))) (.var 2)) (.cons (.asg (.one 2) (.call "_law_product" (.ex (.var 2) (.ex (.var 0) .nil)))) (.cons (.asg (.one 1) (.bin .add (.var 1) (.cst (.int 1)))) .nil))) (.cons (.ret (.tup (.cons (.var 1) (.cons (.var 2) .nil)))) .nil))))⟩
noncomputable def aC6:Df:=⟨"_law_power",2,3,(.cons (.asg (.one 2) (.lst (.cons (.call "_law_unit" (.ex (.bi .len (.cons (.var 0) .nil)) .nil)) .nil))) (.cons (.whl (.cmp .le (.bi .len (.cons (.var 2) .nil)) (.var 1)) (.cons (.asg (.one 3) (.call "_law_product" (.ex (.ix (.var 2) (.neg (.cst (.int 1)))) (.ex (.var 0) .nil)))) (.cons (.ite (.cmp .isin (.var 3) (.var 2)) (.cons (.asg (.one 4) (.meth .index (.var 2) (.cons (.var 3) .nil))) (.cons (.ret (.ix (.var 2) (.bin .add (.var 4) (.bin .mod (.bin .sub (.var 1) (.var 4)) (.bin .sub (.bi .len (.cons (.var 2) .nil)) (.var 4)))))) .nil)) .nil) (.cons (.ex (.meth .append (.var 2) (.cons (.var 3) .nil))) .nil)))) (.cons (.ret (.ix (.var 2) (.var 1))) .nil)))⟩
noncomputable def aB3:Df:=⟨"_law_many_times",4,3,(.cons (.asg (.tup [4,5]) (.call "_law_steady" (.ex (.var 0) .nil))) (.cons (.asg (.one 6) (.bin .mod (.var 2) (.var 4))) (.cons (.ite (.cmp .ge (.bin .fdiv (.var 2) (.var 4)) (.var 3)) (.cons (.ret (.tup (.cons (.call "_law_product" (.ex (.call "_law_sharp" (.ex (.var 5) .nil)) (.ex (.call "_law_power" (.ex (.var 0) (.ex (.var 6) .nil))) .nil))) (.cons (.bin .mul (.bin .add (.bin .mul (.cst (.int 2)) (.var 4)) (.var 6)) (.var 1)) .nil)))) .nil) .nil) (.cons (.ret (.tup (.cons (.call "_law_power" (.ex (.var 0) (.ex (.var 2) .nil))) (.cons (.bin .mul (.var 2) (.var 1)) .nil)))) .nil))))⟩
noncomputable def bL4:Df:=⟨"_law_due",3,6,(.cons (.asg (.one 3) (.lst .nil)) (.cons (.for_ (.one 4) (.seq (.var 1)) (.cons (.ite (.cmp .eq (.ix (.var 4) (.cst (.int 0))) (.cst (.str [108,101,116,116,101,114]))) (.cons (.ex (.meth .append (.var 3) (.cons (.tup (.cons (.call "_law_letter_signs" (.ex (.var 0) (.ex (.ix (.var 4) (.cst (.int 1))) .nil))) (.cons (.cst (.int 3)) .nil))) .nil))) .nil) (.cons (.ite (.cmp .eq (.ix (.var 4) (.cst (.int 0))) (.cst (.str [112,97,105,114]))) (.cons (.asg (.one 5) (.ix (.var 3) (.ix (.var 4) (.cst (.int 1))))) (.cons (.asg (.one 6) (.ix (.var 3) (.ix (.var 4) (.cst (.int 2))))) (.cons (.ex (.meth .append (.var 3) (.cons (.tup (.cons (.call "_law_product" (.ex (.ix (.var 5) (.cst (.int 0))) (.ex (.ix (.var 6) (.cst (.int 0))) .nil))) (.cons (.bin .add (.ix (.var 5) (.cst (.int 1))) (.ix (.var 6) (.cst (.int 1)))) .nil))) .nil))) .nil))) (.cons (.asg (.tup [7,8]) (.ix (.var 3) (.ix (.var 4) (.cst (.int 1))))) (.cons (.ex (.meth .append (.var 3) (.cons (.call "_law_many_times" (.ex (.var 7) (.ex (.var 8) (.ex (.ix (.var 4) (.cst (.int 2))) (.ex (.bin .mul (.bin .add (.var 2) (.cst (.int 1))) (.ix (.var 0) (.cst (.int 1)))) .nil))))) .nil))) .nil))) .nil)) .nil)) (.cons (.ret (.ix (.var 3) (.neg (.cst (.int 1))))) .nil)))⟩
noncomputable def ae1:Df:=⟨"law",1,9,(.cons (.for_ (.one 1) (.rng1 (.bin .add (.bi .min2 (.cons (.cst (.int 1)) (.cons (.bi .len (.cons (.var 0) .nil)) .nil))) (.cst (.int 1)))) (.cons (.asg (.one 2) (.call "_law_box" (.ex (.var 0) (.ex (.var 1) .nil)))) (.cons (.asg (.one 3) (.call "_law_machine" (.ex (.var 2) .nil))) (.cons (.asg (.one 4) (.call "_law_recipe" (.ex (.var 2) (.ex (.ix (.var 3) (.cst (.int 0))) (.ex (.cst (.int 10)) (.ex (.cst (.int 5)) .nil)))))) (.cons (.ite (.cmp .eq (.call "_law_draw" (.ex (.var 2) (.ex (.cst (.int 8)) .nil))) (.cst (.int 3))) (.cons (.asg (.one 4) (.call "_law_tall" (.ex (.var 2) (.ex (.ix (.var 3) (.cst (.int 0))) (.ex (.cst (.int 60)) .nil))))) .nil) .nil) (.cons (.asg (.one 4) (.call "_law_tamed" (.ex (.var 4) (.ex (.bin .mul (.cst (.int 2)) (.bi .int (.cons (.and (.cmp .eq (.var 1) (.cst (.int 0))) (.cmp .lt (.ix (.var 3) (.cst (.int 1))) (.cst (.int 4)))) .nil))) .nil)))) (.cons (.asg (.one 5) (.call "long_table" (.ex (.var 3) (.ex (.var 4) .nil)))) (.cons (.asg (.one 6) (.call "_law_draw" (.ex (.var 2) (.ex (.bin .add (.bin .pow (.cst (.int 10)) (.cst (.int 30))) (.cst (.int 1))) .nil)))) (.cons (.ite (.cmp .gt (.ix (.var 3) (.cst (.int 1))) (.cst (.int 3))) (.cons (.asg (.one 6) (.bin .mod (.var 6) (.cst (.int 100)))) .nil) .nil) (.cons (.for_ (.one 7) (.seq (.lst (.cons (.cst (.int 0)) (.cons (.bin .add (.cst (.int 1)) (.call "_law_draw" (.ex (.var 2) (.ex (.cst (.int 4)) .nil)))) (.cons (.var 6) .nil))))) (.cons (.asg (.tup [8,9]) (.call "long_signs" (.ex (.var 3) (.ex (.var 4) (.ex (.var 7) .nil))))) (.cons (.ite (.not (.call "_law_goes" (.ex (.var 5) (.ex (.var 8) (.ex (.var 7) (.ex (.var 9) .nil)))))) (.cons (.ret (.cst (.bl false))) .nil) .nil) .nil))) .nil)))))))))) (.cons (.ret (.cst (.bl true))) .nil))⟩
noncomputable def cq4:Df:=⟨"_law_on",3,5,(.cons (.asg (.one 3) (.mk .list (.comp (.one 0) (.seq (.var 2)) (.cst .non) [none]))) (.cons (.for_ (.tup [4,5,6,7]) (.seq (.ix (.var 0) (.cst (.int 4)))) (.cons (.ite (.and (.cmp .eq (.var 5) (.var 1)) (.notN (.ix (.var 2) (.var 4)))) (.cons (.ite (.or (.isN (.ix (.var 3) (.var 6))) (.cmp .lt (.bin .add (.ix (.var 2) (.var 4)) (.var 7)) (.ix (.var 3) (.var 6)))) (.cons (.setIx (.var 3) (.var 6) (.bin .add (.ix (.var 2) (.var 4)) (.var 7))) .nil) .nil) .nil) .nil) .nil)) (.cons (.ret (.var 3)) .nil)))⟩
class Has (P:Pr)(d:Df):Prop where
 eq:P.df d.name=some d
class HasL (P:Pr)(d:Lm):Prop where
 eq:P.lm d.id=some d
class HasC (P:Pr)(x:String)(v:D):Prop where
 eq:P.con x=some v
noncomputable def fin (s:Sto)(c:Ct)(s':Sto):R D:=match c with
 | .ret v=>zN s v s'
 | .next _=>zN s .non s'
 | _=>.bad
@[simp] theorem zQ (s:Sto) (v:D) (s':Sto):fin s (.ret v) s'=zN s v s':=rfl
@[simp] theorem fin_next (s:Sto) (ρ:Env) (s':Sto):fin s (.next ρ) s'=zN s .non s':=rfl
theorem zn {P:Pr}(d:Df)[h:Has P d]{n:Nat}{l:List D}{s:Sto}(hl:l.length=d.ps) :
  (aa1 P (n+1)).call d.name l s=(exs (aa1 P n) d.body (l.map some++am d.vs none) s).bind (fin s):=by
 simp only[aa1,h.eq,hl,if_true]
 rfl
theorem qM {P:Pr}(d:Lm)[h:HasL P d]{n:Nat}{cs l:List D}{s:Sto}(hl:l.length=d.ps)(hc:cs.length=d.cs)(hn:(D.nclL l&&D.nclL cs&&s.all O.ncl)=true) :
  (aa1 P (n+1)).lam d.id cs l s=(ev (aa1 P n) d.body (l.map some++cs.map some) s).bind (zN s):=by
 simp only[aa1,h.eq,hl,hc,hn,and_self,if_true]
theorem aH4 {P:Pr}{x:String}{v:D}[h:HasC P x v]{n:Nat}:(aa1 P n).con x=some v:=by
 cases n<;>exact h.eq
theorem aE6 (s t:Sto):ar7 s (s++t)=true:=by
 unfold ar7
 rw[aO]
 intro i h
 rw[aU]at h
 rw[aI h]
 simp
theorem aC9 (s t:Sto)(r:Nat)(o:O)(h:o.bnd s.length=true):ar7 s (s.set r o++t)=true:=by
 unfold ar7
 rw[aO]
 intro i y
 rw[aU]at y
 rw[aI (by rw[bA];exact y)]
 by_cases e:r=i
 ·subst e;rw[bp y];simp[h]
 ·rw[bz e];simp
theorem qe {s t:Sto}{d:D}(h:∀ n,d.bnd n=true)(y:∀ r,d≠.ref r):zN s d (s++t)=.ok d s:=by
 unfold zN
 rw[aE6,if_pos rfl]
 cases d with
 | ref r=>exact absurd rfl (y r)
 | _=>simp[h]
theorem zo {s:Sto}{d:D}(h:∀ n,d.bnd n=true)(y:∀ r,d≠.ref r):zN s d s=.ok d s:=by
 have:=qe (s:=s) (t:=[]) h y
 rwa [br]at this
theorem ai9 {s t:Sto}{d:D}{r:Nat}{o:O}(h:∀ n,d.bnd n=true)(y:∀ r,d≠.ref r)(ho:o.bnd s.length=true):zN s d (s.set r o++t)=.ok d (s.set r o):=by
 unfold zN
 rw[aC9 s t r o ho,if_pos rfl]
 have e:(s.set r o++t).take s.length=s.set r o:=by rw[List.take_append_of_le_length (by simp),List.take_of_length_le (by simp)]
 cases d with
 | ref r=>exact absurd rfl (y r)
 | _=>simp only[h,if_true,e]
theorem aS9 {s:Sto}{d:D}{r:Nat}{o:O}(h:∀ n,d.bnd n=true)(y:∀ r,d≠.ref r)(ho:o.bnd s.length=true):zN s d (s.set r o)=.ok d (s.set r o):=by
 have:=ai9 (s:=s) (t:=[]) (r:=r) h y ho
 rwa [br]at this
theorem aA0 {s t u:Sto}{o:O}(ho:o.bnd s.length=true):zN s (.ref (s.length+t.length)) (s++(t++o::u))=.ok (.ref s.length) (s++[o]):=by
 unfold zN
 rw[aE6,if_pos rfl]
 simp[ho,ax]
@[simp] theorem zM {s:Sto} {i:Int}:zN s (.int i) s=.ok (.int i) s:=zo (λ _=>rfl) (by nofun)
@[simp] theorem aN6 {s:Sto} {i:Bool}:zN s (.bl i) s=.ok (.bl i) s:=zo (λ _=>rfl) (by nofun)
@[simp] theorem ao4 {s:Sto}:zN s .non s=.ok .non s:=zo (λ _=>rfl) (by nofun)
@[simp] theorem bU9 {s:Sto} {x:List Nat}:zN s (.str x) s=.ok (.str x) s:=zo (λ _=>rfl) (by nofun)
theorem jf {c:Env->Sto->R D}{g:Env->Sto->R Ct}:∀ {n:Nat} {ρ:Env} {s:Sto},jB c g n ρ s≠.bad->jB c g (n+1) ρ s=jB c g n ρ s
 | 0,_,_,h=>absurd rfl h
 | n+1,ρ,s,h=>by
  rw[show jB c g (n+1+1) ρ s=tru (c ρ s) (λ b s=>if b then(g ρ s).bind λ y s=>match y with
   | .next ρ=>jB c g (n+1) ρ s|.cont ρ=>jB c g (n+1) ρ s|.brk ρ=>.ok (.next ρ) s|.ret d=>.ok (.ret d) s else .ok (.next ρ) s)from rfl]
  have e:jB c g (n+1) ρ s=tru (c ρ s) (λ b s=>if b then(g ρ s).bind λ y s=>match y with
   | .next ρ=>jB c g n ρ s|.cont ρ=>jB c g n ρ s|.brk ρ=>.ok (.next ρ) s|.ret d=>.ok (.ret d) s else .ok (.next ρ) s):=rfl
  rw[e]at h ⊢
  unfold tru at h ⊢
  cases hc:c ρ s with
  | exc _ _=>rfl
  | bad=>rfl
  | ok d s1 =>
   rw[hc]at h
   cases d with
   | bl b =>
    cases b with
    | false=>rfl
    | true =>
     simp only[R.bind_ok,if_true]at h ⊢
     cases hg:g ρ s1 with
     | exc _ _=>rfl
     | bad=>rfl
     | ok y s2 =>
      rw[hg]at h
      simp only[R.bind_ok]at h ⊢
      cases y with
      | next ρ'=>exact jf h
      | cont ρ'=>exact jf h
      | _=>rfl
   | _=>rfl
theorem qI {c:Env->Sto->R D}{g:Env->Sto->R Ct}{n:Nat}{ρ:Env}{s:Sto}(h:jB c g n ρ s≠.bad):∀ k,jB c g (n+k) ρ s=jB c g n ρ s
 | 0=>rfl
 | k+1=>by
  have e:=qI h k
  rw[<-Nat.add_assoc,jf (by rw[e];exact h),e]
theorem bQ7 {c:Env->Sto->R D}{g:Env->Sto->R Ct}{n:Nat}{ρ:Env}{s:Sto}{r:Ct}{t:Sto}(h:jB c g n ρ s=.ok r t):whl c g ρ s=.ok r t:=by
 have hb:jB c g n ρ s≠.bad:=by rw[h];nofun
 have hx:∃ n,jB c g n ρ s≠.bad:=⟨n,hb⟩
 unfold whl
 rw[dif_pos hx]
 have y:=qI hx.choose_spec n
 have B:=qI hb hx.choose
 rw[<-y,eK,B,h]
theorem bl4 {c:Env->Sto->R D}{g:Env->Sto->R Ct}{ρ ρ':Env}{s s1 s':Sto}(hc:c ρ s=.ok (.bl true) s1)(y:g ρ s1=.ok (.next ρ') s'):whl c g ρ s=whl c g ρ' s':=by
 have key:∀ n,jB c g (n+1) ρ s=jB c g n ρ' s':=λ n=>by
  show tru (c ρ s) _=_
  rw[hc,zE,if_pos rfl,y];rfl
 unfold whl
 by_cases hx:∃ n,jB c g n ρ' s'≠.bad
 ·have hy:∃ n,jB c g n ρ s≠.bad:=⟨hx.choose+1,by rw[key];exact hx.choose_spec⟩
  rw[dif_pos hx,dif_pos hy]
  have h:=qI hy.choose_spec (hx.choose+1)
  have B:=qI (n:=hx.choose+1) (ρ:=ρ) (s:=s) (by rw[key];exact hx.choose_spec) hy.choose
  rw[<-h,eK,B,key]
 ·have hy:¬ ∃ n,jB c g n ρ s≠.bad:=λ⟨n,hn⟩=>by
   cases n with
   | zero=>exact hn rfl
   | succ n=>exact hx ⟨n,by rw[<-key];exact hn⟩
  rw[dif_neg hx,dif_neg hy]
theorem by7 {c:Env->Sto->R D}{g:Env->Sto->R Ct}{ρ:Env}{s s1:Sto}(hc:c ρ s=.ok (.bl false) s1):whl c g ρ s=.ok (.next ρ) s1 :=
 bQ7 (n:=1) (by show tru (c ρ s) _=_;rw[hc,zE];rfl)
theorem qS {ok:Sto->Bool}{g:D->Env->Sto->R Ct}(P:Nat->Env->Sto->Prop):∀(l:List D) (k:Nat) (ρ:Env) (s:Sto),
  P k ρ s->(∀(j:Nat) (ρ:Env) (s:Sto),j<=l.length->P (k+j) ρ s->ok s=true)->(∀(j:Nat) (d:D) (ρ:Env) (s:Sto),l[j]?=some d->P (k+j) ρ s->∃ ρ' s',(g d ρ s=.ok (.next ρ') s'\/g d ρ s=.ok (.cont ρ') s')/\P (k+j+1) ρ' s') ->
  ∃ ρ' s',aT6 ok g l ρ s=.ok (.next ρ') s'/\P (k+l.length) ρ' s'
 | [],k,ρ,s,h,o,_=>⟨ρ,s,by show(if ok s then _ else _)=_;rw[if_pos (o 0 ρ s (aj _) h)],h⟩
 | d::l,k,ρ,s,h,o,t=>by
  have ho:=o 0 ρ s (dA _) h
  obtain⟨ρ1,s1,y,C⟩:=t 0 d ρ s rfl h
  obtain⟨ρ2,s2,e,G⟩:=qS P l (k+1) ρ1 s1 C (λ j ρ' s' hj B=>o (j+1) ρ' s' (by simpa using hj) (by rwa [show k+(j+1)=k+1+j by omega])) λ j d' ρ' s' hj B=>by
   have:=t (j+1) d' ρ' s' (by simpa using hj) (by rwa [show k+(j+1)=k+1+j by omega])
   rwa [show k+(j+1)+1=k+1+j+1 by omega]at this
  refine⟨ρ2,s2,?_,by rwa [aQ,show k+(l.length+1)=k+1+l.length by omega]⟩
  show(if ok s then _ else _)=_
  rw[if_pos ho]
  rcases y with y|y<;>(rw[y];exact e)
noncomputable def Nx (Q:Env->Sto->Prop):R Ct->Prop
 | .ok (.next ρ) s=>Q ρ s
 | .ok (.cont ρ) s=>Q ρ s
 | _=>False
@[simp] theorem cg9 (Q:Env->Sto->Prop) (ρ:Env) (s:Sto):Nx Q (.ok (.next ρ) s)=Q ρ s:=rfl
@[simp] theorem ch9 (Q:Env->Sto->Prop) (ρ:Env) (s:Sto):Nx Q (.ok (.cont ρ) s)=Q ρ s:=rfl
theorem bo5 {Q:Env->Sto->Prop}{r:R Ct}{ρ:Env}{s:Sto}(e:r=.ok (.next ρ) s)(h:Q ρ s):Nx Q r:=by rw[e];exact h
theorem Nx.out {Q:Env->Sto->Prop}:∀ {r:R Ct},Nx Q r->∃ ρ s,(r=.ok (.next ρ) s\/r=.ok (.cont ρ) s)/\Q ρ s
 | .ok (.next ρ) s,h=>⟨ρ,s,.inl rfl,h⟩
 | .ok (.cont ρ) s,h=>⟨ρ,s,.inr rfl,h⟩
 | .ok (.ret _) _,h=>h.elim
 | .ok (.brk _) _,h=>h.elim
 | .exc _ _,h=>h.elim
 | .bad,h=>h.elim
noncomputable def Tst (A B:Sto->Prop):R D->Prop
 | .ok (.bl false) s=>A s
 | .ok (.bl true) s=>B s
 | _=>False
@[simp] theorem bg4 (A B:Sto->Prop) (b:Bool) (s:Sto):Tst A B (.ok (.bl b) s)=if b then B s else A s:=by cases b<;>rfl
theorem Tst.out {A B:Sto->Prop}:∀ {r:R D},Tst A B r->(∃ s,r=.ok (.bl false) s/\A s)\/∃ s,r=.ok (.bl true) s/\B s
 | .ok (.bl false) s,h=>.inl ⟨s,rfl,h⟩
 | .ok (.bl true) s,h=>.inr ⟨s,rfl,h⟩
 | .ok .non _,h=>h.elim
 | .ok (.int _) _,h=>h.elim
 | .ok (.str _) _,h=>h.elim
 | .ok (.tup _) _,h=>h.elim
 | .ok (.ref _) _,h=>h.elim
 | .ok (.fn _) _,h=>h.elim
 | .ok (.clo _ _) _,h=>h.elim
 | .exc _ _,h=>h.elim
 | .bad,h=>h.elim
theorem br9 {c:Env->Sto->R D}{g:Env->Sto->R Ct}{ρ ρ':Env}{s s1 s':Sto}(hc:c ρ s=.ok (.bl true) s1)(y:g ρ s1=.ok (.cont ρ') s'):whl c g ρ s=whl c g ρ' s':=by
 have key:∀ n,jB c g (n+1) ρ s=jB c g n ρ' s':=λ n=>by
  show tru (c ρ s) _=_
  rw[hc,zE,if_pos rfl,y];rfl
 unfold whl
 by_cases hx:∃ n,jB c g n ρ' s'≠.bad
 ·have hy:∃ n,jB c g n ρ s≠.bad:=⟨hx.choose+1,by rw[key];exact hx.choose_spec⟩
  rw[dif_pos hx,dif_pos hy]
  have h:=qI hy.choose_spec (hx.choose+1)
  have B:=qI (n:=hx.choose+1) (ρ:=ρ) (s:=s) (by rw[key];exact hx.choose_spec) hy.choose
  rw[<-h,eK,B,key]
 ·have hy:¬ ∃ n,jB c g n ρ s≠.bad:=λ⟨n,hn⟩=>by
   cases n with
   | zero=>exact hn rfl
   | succ n=>exact hx ⟨n,by rw[<-key];exact hn⟩
  rw[dif_neg hx,dif_neg hy]
theorem bS9 {c:Env->Sto->R D}{g:Env->Sto->R Ct}(P:Nat->Env->Sto->Prop)(Q:Env->Sto->Prop)
  (step:∀ k ρ s,P k ρ s->Tst (λ s1=>Q ρ s1) (λ s1=>Nx (λ ρ' s'=>∃ y,y<k/\P y ρ' s') (g ρ s1)) (c ρ s)) :
  ∀(k:Nat) (ρ:Env) (s:Sto),P k ρ s->∃ ρ' s',whl c g ρ s=.ok (.next ρ') s'/\Q ρ' s':=by
 intro k
 induction k using eI with
 | _ k ih =>
  intro ρ s h
  rcases(step k ρ s h).out with⟨s1,hc,hq⟩|⟨s1,hc,hn⟩
  ·exact⟨ρ,s1,by7 hc,hq⟩
  ·obtain⟨ρ',s',B,y,hk,C⟩:=hn.out
   rcases B with B|B
   ·rw[bl4 hc B];exact ih y hk ρ' s' C
   ·rw[br9 hc B];exact ih y hk ρ' s' C
theorem bp7 {c:Env->Sto->R D}{g:Env->Sto->R Ct}{ρ:Env}{s:Sto}{α:Type}{f:Ct->Sto->R α}{W:R α->Prop}(P:Nat->Env->Sto->Prop)(Q:Env->Sto->Prop)(k:Nat)(h:P k ρ s)
  (step:∀ k ρ s,P k ρ s->Tst (λ s1=>Q ρ s1) (λ s1=>Nx (λ ρ' s'=>∃ y,y<k/\P y ρ' s') (g ρ s1)) (c ρ s))
  (B:∀ ρ' s',Q ρ' s'->W (f (.next ρ') s')):W ((whl c g ρ s).bind f):=by
 obtain⟨ρ',s',e,q⟩:=bS9 P Q step k ρ s h
 rw[e]
 exact B ρ' s' q
theorem aw5 {c:Env->Sto->R D}{g:Env->Sto->R Ct}{ρ:Env}{s:Sto}{α:Type}{f:Ct->Sto->R α}{x:R α}(P:Nat->Env->Sto->Prop)(Q:Env->Sto->Prop)(k:Nat)(h:P k ρ s)
  (step:∀ k ρ s,P k ρ s->Tst (λ s1=>Q ρ s1) (λ s1=>Nx (λ ρ' s'=>∃ y,y<k/\P y ρ' s') (g ρ s1)) (c ρ s))
  (B:∀ ρ' s',Q ρ' s'->f (.next ρ') s'=x):(whl c g ρ s).bind f=x:=bp7 (W:=(·=x)) P Q k h step B
theorem am8 {ok:Sto->Bool}{g:D->Env->Sto->R Ct}{l:List D}{ρ:Env}{s:Sto}{α:Type}{f:Ct->Sto->R α}{W:R α->Prop}(P:Nat->Env->Sto->Prop)(h:P 0 ρ s)
  (o:∀(j:Nat) (ρ:Env) (s:Sto),j<=l.length->P j ρ s->ok s=true) (step:∀(j:Nat) (d:D) (ρ:Env) (s:Sto),l[j]?=some d->P j ρ s->Nx (P (j+1)) (g d ρ s))
  (B:∀ ρ' s',P l.length ρ' s'->W (f (.next ρ') s')):W ((aT6 ok g l ρ s).bind f):=by
 obtain⟨ρ',s',e,q⟩:=qS P l 0 ρ s h (λ j ρ s hj y=>o j ρ s hj (by rwa [bU]at y)) (λ j d ρ s hj y=>by
  rw[bU]at y ⊢
  exact(step j d ρ s hj y).out)
 rw[e]
 rw[bU]at q
 exact B ρ' s' q
theorem aN3 {ok:Sto->Bool}{g:D->Env->Sto->R Ct}{l:List D}{ρ:Env}{s:Sto}{α:Type}{f:Ct->Sto->R α}{x:R α}(P:Nat->Env->Sto->Prop)(h:P 0 ρ s)
  (o:∀(j:Nat) (ρ:Env) (s:Sto),j<=l.length->P j ρ s->ok s=true) (step:∀(j:Nat) (d:D) (ρ:Env) (s:Sto),l[j]?=some d->P j ρ s->Nx (P (j+1)) (g d ρ s))
  (y:∀ ρ' s',P l.length ρ' s'->f (.next ρ') s'=x):(aT6 ok g l ρ s).bind f=x:=am8 (W:=(·=x)) P h o step y
section
variable {F:Fns} {ρ:Env} {s:Sto}
@[simp] theorem zd (i:Nat):ev F (.var i) ρ s=aK3 ρ i s:=rfl
@[simp] theorem zC (c:Cn):ev F (.cst c) ρ s=.ok c.d s:=rfl
@[simp] theorem qd (op:BOp) (a b:E):ev F (.bin op a b) ρ s=(ev F a ρ s).bind λ x s=>(ev F b ρ s).bind λ y s=>qK op x y s:=rfl
@[simp] theorem ev_not (a:E):ev F (.not a) ρ s=tru (ev F a ρ s) λ b s=>.ok (.bl (!b)) s:=rfl
@[simp] theorem zJ (op:COp) (a b:E):ev F (.cmp op a b) ρ s=(ev F a ρ s).bind λ x s=>(ev F b ρ s).bind λ y s=>qJ op x y s:=rfl
@[simp] theorem bk9 (o p:COp) (a b c:E):ev F (.chain o p a b c) ρ s=(ev F a ρ s).bind λ x s=>(ev F b ρ s).bind λ y s=>tru (qJ o x y s) λ k s=>if k then(ev F c ρ s).bind λ z s=>qJ p y z s else .ok (.bl false) s:=rfl
@[simp] theorem ev_isN (a:E):ev F (.isN a) ρ s=(ev F a ρ s).bind λ x s=>.ok (.bl (decide (x=.non))) s:=rfl
@[simp] theorem ev_notN (a:E):ev F (.notN a) ρ s=(ev F a ρ s).bind λ x s=>.ok (.bl (!decide (x=.non))) s:=rfl
@[simp] theorem ev_and (a b:E):ev F (.and a b) ρ s=tru (ev F a ρ s) λ c s=>if c then tru (ev F b ρ s) λ c s=>.ok (.bl c) s else .ok (.bl false) s:=rfl
@[simp] theorem ev_or (a b:E):ev F (.or a b) ρ s=tru (ev F a ρ s) λ c s=>if c then .ok (.bl true) s else tru (ev F b ρ s) λ c s=>.ok (.bl c) s:=rfl
@[simp] theorem ev_ite (c a b:E):ev F (.ite c a b) ρ s=tru (ev F c ρ s) λ k s=>if k then ev F a ρ s else ev F b ρ s:=rfl
@[simp] theorem ev_tup (es:Es):ev F (.tup es) ρ s=(evs F es ρ s).bind λ l s=>.ok (.tup l) s:=rfl
@[simp] theorem ev_lst (es:Es):ev F (.lst es) ρ s=(evs F es ρ s).bind λ l s=>af7 (.lst l) s:=rfl
@[simp] theorem ev_ix (a b:E):ev F (.ix a b) ρ s=(ev F a ρ s).bind λ x s=>(ev F b ρ s).bind λ y s=>ixM x y s:=rfl
@[simp] theorem qc (f:String) (h:As):ev F (.call f h) ρ s=(aq6 F h ρ s).bind λ l s=>F.call f l s:=rfl
@[simp] theorem qz (f:String) (h:As):ev F (.callC f h) ρ s=(aq6 F h ρ s).bind λ l s=>(F.call f l s).bind λ d s'=>if(d.ncl&&s'.all O.ncl)=true then .ok d s' else .bad:=rfl
@[simp] theorem ev_bi (b:Bi) (es:Es):ev F (.bi b es) ρ s=(evs F es ρ s).bind λ l s=>bi b l s:=rfl
@[simp] theorem ev_mk (k:Mk) (h:L):ev F (.mk k h) ρ s=(evL F h ρ s).bind λ q s=>mk k q s:=rfl
@[simp] theorem ev_mkD (k:Mk) (h:L) (d:E):ev F (.mkD k h d) ρ s=(evL F h ρ s).bind λ q s=>(ev F d ρ s).bind λ d s=>mkD k q d s:=rfl
@[simp] theorem ev_mks (k:Mk) (e:E):ev F (.mks k e) ρ s=(ev F e ρ s).bind λ x s=>(bM1 x s).bind λ q s=>mk k q s:=rfl
@[simp] theorem ev_mkDs (k:Mk) (e d:E):ev F (.mkDs k e d) ρ s=(ev F e ρ s).bind λ x s=>(ev F d ρ s).bind λ z s=>(bM1 x s).bind λ q s=>mkD k q z s:=rfl
@[simp] theorem qV (m:Mt) (o:E) (es:Es):ev F (.meth m o es) ρ s=(ev F o ρ s).bind λ x s=>(evs F es ρ s).bind λ l s=>meth m x l s:=rfl
@[simp] theorem ce0 (o e:E):ev F (.extS o e) ρ s=(ev F o ρ s).bind λ x s=>(ev F e ρ s).bind λ y s=>extS x y s:=rfl
@[simp] theorem ck7 (a:E):ev F (.rev a) ρ s=(ev F a ρ s).bind λ x s=>co0 x s:=rfl
@[simp] theorem ck8 (o:E) (h:L):ev F (.ext o h) ρ s=(ev F o ρ s).bind λ x s=>(evL F h ρ s).bind λ q s=>bS6 x q s:=rfl
@[simp] theorem zA:evs F .nil ρ s=.ok [] s:=rfl
@[simp] theorem zx (e:E) (es:Es):evs F (.cons e es) ρ s=(ev F e ρ s).bind λ d s=>(evs F es ρ s).bind λ l s=>.ok (d::l) s:=rfl
@[simp] theorem zF:aq6 F .nil ρ s=.ok [] s:=rfl
@[simp] theorem zL (e:E) (h:As):aq6 F (.ex e h) ρ s=(ev F e ρ s).bind λ d s=>(aq6 F h ρ s).bind λ l s=>.ok (d::l) s:=rfl
@[simp] theorem ci5 (f:String) (h:As):aq6 F (.fn f h) ρ s=(aq6 F h ρ s).bind λ l s=>.ok (.fn f::l) s:=rfl
@[simp] theorem evI_seq (e:E):evI F (.seq e) ρ s=(ev F e ρ s).bind λ d s=>aK5 d s:=rfl
@[simp] theorem cb2 (es:Es):evL F (.disp es) ρ s=evs F es ρ s:=rfl
@[simp] theorem evL_seq (e:E):evL F (.seq e) ρ s=(ev F e ρ s).bind λ d s=>bf2 d s:=rfl
noncomputable def bK1 (x:D):M Sq:=λ s=>match x with|.int i=>if -W62<=i/\i<W62 then .ok ⟨ag8 0 i,[]⟩ s else .bad|_=>.bad
@[simp] theorem qB (a:E):evI F (.rng1 a) ρ s=(ev F a ρ s).bind λ x s=>bK1 x s:=rfl
theorem qg {i:Int}(h0:-W62<=i)(h:i<W62):bK1 (.int i) s=.ok ⟨ag8 0 i,[]⟩ s:=by unfold bK1;simp only[h0,h,and_self,if_true]
noncomputable def nxt (F:Fns)(ss:Ss)(c:Ct)(s:Sto):R Ct:=match c with|.next ρ=>exs F ss ρ s|c=>.ok c s
@[simp] theorem zh (h:Ss) (ρ:Env) (s:Sto):nxt F h (.next ρ) s=exs F h ρ s:=rfl
@[simp] theorem zR (h:Ss) (d:D) (s:Sto):nxt F h (.ret d) s=.ok (.ret d) s:=rfl
@[simp] theorem nxt_cont (h:Ss) (ρ:Env) (s:Sto):nxt F h (.cont ρ) s=.ok (.cont ρ) s:=rfl
@[simp] theorem zg:exs F .nil ρ s=.ok (.next ρ) s:=rfl
@[simp] theorem za (st:S) (h:Ss):exs F (.cons st h) ρ s=(ex F st ρ s).bind (nxt F h):=rfl
noncomputable def cj9 (ρ:Option Env)(s:Sto):R Ct:=match ρ with|some ρ=>.ok (.next ρ) s|none=>.bad
@[simp] theorem zt (ρ:Env) (s:Sto):cj9 (some ρ) s=.ok (.next ρ) s:=rfl
@[simp] theorem zS (tg:Tg) (e:E):ex F (.asg tg e) ρ s=(ev F e ρ s).bind λ d s=>cj9 (ae8 ρ tg d) s:=rfl
@[simp] theorem ex_setIx (o i e:E):ex F (.setIx o i e) ρ s=(ev F e ρ s).bind λ d s=>(ev F o ρ s).bind λ x s=>(ev F i ρ s).bind λ y s=>(setIx x y d s).bind λ _ s=>.ok (.next ρ) s:=rfl
@[simp] theorem ex_ex (e:E):ex F (.ex e) ρ s=(ev F e ρ s).bind λ _ s=>.ok (.next ρ) s:=rfl
@[simp] theorem qt (e:E):ex F (.ret e) ρ s=(ev F e ρ s).bind λ d s=>.ok (.ret d) s:=rfl
@[simp] theorem cd4:ex F .retN ρ s=.ok (.ret .non) s:=rfl
@[simp] theorem zX (c:E) (a b:Ss):ex F (.ite c a b) ρ s=tru (ev F c ρ s) λ k s=>if k then exs F a ρ s else exs F b ρ s:=rfl
@[simp] theorem ex_whl (c:E) (b:Ss):ex F (.whl c b) ρ s=whl (ev F c) (exs F b) ρ s:=rfl
noncomputable def turn (F:Fns)(tg:Tg)(b:Ss)(d:D)(ρ:Env)(s:Sto):R Ct:=match ae8 ρ tg d with
 | some ρ=>exs F b ρ s
 | none=>.bad
@[simp] theorem ex_for (tg:Tg) (h:I) (b:Ss):ex F (.for_ tg h b) ρ s=(evI F h ρ s).bind λ q s0=>aT6 (λ s=>chk s0 s q.src) (turn F tg b) q.its ρ s0:=rfl
@[simp] theorem ex_cont:ex F .cont ρ s=.ok (.cont ρ) s:=rfl
@[simp] theorem ex_und (i:Nat):ex F (.und i) ρ s=cj9 (ag9 ρ i) s:=rfl
@[simp] theorem ex_pass:ex F .pass ρ s=.ok (.next ρ) s:=rfl
@[simp] theorem zb (i:Nat) (d:D):ae8 ρ (.one i) d=au3 ρ i d:=rfl
@[simp] theorem bindT_tup (is:List Nat) (l:List D):ae8 ρ (.tup is) (.tup l)=am2 ρ is l:=rfl
@[simp] theorem setVs_nil:am2 ρ [] []=some ρ:=rfl
@[simp] theorem setVs_cons (i:Nat) (is:List Nat) (d:D) (l:List D):am2 ρ (i::is) (d::l)=(au3 ρ i d).bind λ ρ=>am2 ρ is l:=rfl
@[simp] theorem ze (d:D) (ρ:Env):aK3 (some d::ρ) 0 s=.ok d s:=rfl
@[simp] theorem zl (x:Option D) (ρ:Env) (i:Nat):aK3 (x::ρ) (i+1) s=aK3 ρ i s:=by unfold aK3;rw[List.getElem?_cons_succ]
@[simp] theorem zB (d:D) (x:Option D) (ρ:Env):au3 (x::ρ) 0 d=some (some d::ρ):=rfl
@[simp] theorem zG (d:D) (x:Option D) (ρ:Env) (i:Nat):au3 (x::ρ) (i+1) d=(au3 ρ i d).map (x::·):=by
 unfold au3
 by_cases h:i < ρ.length
 ·rw[if_pos (by simpa using h),if_pos h];rfl
 ·rw[if_neg (by simpa using h),if_neg h];rfl
@[simp] theorem unsetV_0 (x:Option D) (ρ:Env):ag9 (x::ρ) 0=some (none::ρ):=rfl
@[simp] theorem unsetV_s (x:Option D) (ρ:Env) (i:Nat):ag9 (x::ρ) (i+1)=(ag9 ρ i).map (x::·):=by
 unfold ag9
 by_cases h:i < ρ.length
 ·rw[if_pos (by simpa using h),if_pos h];rfl
 ·rw[if_neg (by simpa using h),if_neg h];rfl
@[simp] theorem zD (i:Int):(Cn.int i).d=.int i:=rfl
@[simp] theorem Cn_bl (i:Bool):(Cn.bl i).d=.bl i:=rfl
@[simp] theorem Cn_str (i:List Nat):(Cn.str i).d=.str i:=rfl
@[simp] theorem Cn_non:Cn.non.d=.non:=rfl
@[simp] theorem add_int (a b:Int):qK .add (.int a) (.int b) s=.ok (.int (a+b)) s:=rfl
@[simp] theorem sub_int (a b:Int):qK .sub (.int a) (.int b) s=.ok (.int (a - b)) s:=rfl
theorem ae3 {a b:Int}(h:mulOk a b=true):qK .mul (.int a) (.int b) s=.ok (.int (a*b)) s:=by show(if mulOk a b then _ else _:M D) s=_;rw[if_pos h];rfl
theorem jv {a b:Int}(h:a.natAbs<2^64):mulOk a b=true:=by unfold mulOk;simp[h]
theorem aH9 {a b:Int}(h:b.natAbs<2^64):mulOk a b=true:=by unfold mulOk;simp[h]
theorem qW {a b:Int}(h:0<b):qK .mod (.int a) (.int b) s=.ok (.int (a % b)) s:=by show(if 0<b then _ else _:M D) s=_;rw[if_pos h];rfl
theorem bz4:(10:Int)^200<=(DIVL:Int):=by unfold DIVL;decide +kernel
theorem ah9 {a b:Int}(h:0<b)(y:b<10^200):qK .fdiv (.int a) (.int b) s=.ok (.int (a / b)) s:=by show(if 0<b/\b<(DIVL:Int)then _ else _:M D) s=_;rw[if_pos ⟨h,Int.lt_of_lt_of_le y bz4⟩];rfl
theorem ax9 {a b:Int}(h:0<=b/\b<=1000000/\a.natAbs<2^64):qK .pow (.int a) (.int b) s=.ok (.int (a^b.toNat)) s:=by show(if _ then _ else _:M D) s=_;rw[if_pos h];rfl
@[simp] theorem lt_int (a b:Int):qJ .lt (.int a) (.int b) s=.ok (.bl (decide (a<b))) s:=rfl
@[simp] theorem le_int (a b:Int):qJ .le (.int a) (.int b) s=.ok (.bl (decide (a<=b))) s:=rfl
@[simp] theorem gt_int (a b:Int):qJ .gt (.int a) (.int b) s=.ok (.bl (decide (b<a))) s:=rfl
@[simp] theorem ge_int (a b:Int):qJ .ge (.int a) (.int b) s=.ok (.bl (decide (b<=a))) s:=rfl
@[simp] theorem qZ (a b:Int):qJ .eq (.int a) (.int b) s=.ok (.bl (decide (a=b))) s:=rfl
@[simp] theorem ne_int (a b:Int):qJ .ne (.int a) (.int b) s=.ok (.bl (!decide (a=b))) s:=rfl
@[simp] theorem alloc_eq (o:O):af7 o s=.ok (.ref s.length) (s++[o]):=rfl
@[simp] theorem bF8 (l:List D):bi .len [.tup l] s=.ok (.int l.length) s:=rfl
@[simp] theorem bI6 (l:List Nat):bi .len [.str l] s=.ok (.int l.length) s:=rfl
theorem bt8 {r:Nat}{l:List D}(h:s[r]?=some (.ro l)):bi .len [.ref r] s=.ok (.int l.length) s:=by simp only[bi,bi1,bL9,h]
@[simp] theorem ck3 (i:Int):bi .abs [.int i] s=.ok (.int (if i<0 then -i else i)) s:=rfl
@[simp] theorem an0 (a b:Int):bi .min2 [.int a,.int b] s=.ok (.int (if b<a then b else a)) s:=rfl
@[simp] theorem bn4 (a b:Int):bi .max2 [.int a,.int b] s=.ok (.int (if b > a then b else a)) s:=rfl
@[simp] theorem bS4 (a:Int):bi .isInt [.int a] s=.ok (.bl true) s:=rfl
@[simp] theorem bL8 (a:Int):bi .isBool [.int a] s=.ok (.bl false) s:=rfl
@[simp] theorem bN3 (l:List D):bi .isTup [.tup l] s=.ok (.bl true) s:=rfl
theorem cj2 {r:Nat}{l:List D}{j:Nat}{d:D}(h:s[r]?=some (.ro l))(hj:l[j]?=some d):ixM (.ref r) (.int (j:Int)) s=.ok d s:=by
 have hl:j<l.length:=(ae.mp hj).1
 have e:l[j]=d:=(ae.mp hj).2
 simp[ixM,h,ixn,hl,e]
theorem at0 {r:Nat}{l:List D}{j:Nat}{d:D}(h:s[r]?=some (.lst l))(hj:l[j]?=some d):ixM (.ref r) (.int (j:Int)) s=.ok d s:=by
 have hl:j<l.length:=(ae.mp hj).1
 have e:l[j]=d:=(ae.mp hj).2
 simp[ixM,h,ixn,hl,e]
theorem ix_tup {l:List D}{j:Nat}{d:D}(hj:l[j]?=some d):ixM (.tup l) (.int (j:Int)) s=.ok d s:=by
 have hl:j<l.length:=(ae.mp hj).1
 have e:l[j]=d:=(ae.mp hj).2
 simp[ixM,ixn,hl,e]
theorem ak1 {r:Nat}{l:List D}{v:D}(h:s[r]?=some (.lst l))(hl:l.length<LIM):meth .append (.ref r) [v] s=.ok .non (s.set r (.lst (l++[v]))):=by
 simp[meth,h,hl]
end
theorem aF8 (s t:Sto)(b:Bool):∃ s',zN s (.bl b) t=.ok (.bl b) s':=by
 unfold zN
 by_cases h:ar7 s t=true
 ·rw[if_pos h];exact⟨_,rfl⟩
 ·rw[if_neg h];exact⟨_,rfl⟩
def Yes (r:R D):Prop:=∃ s',r=.ok (.bl true) s'
theorem be0 (s t:Sto):Yes (zN s (.bl true) t):=aF8 s t true
theorem aj6 {a b:Int}{j:Nat}{d:D}(h:(ag8 a b)[j]?=some d):(j:Int)<b - a/\d=.int (a+j):=by
 have hj:=(ae.mp h).1
 simp only[ag8,aG,ci]at hj
 unfold ag8 at h
 rw[aF,bI hj]at h
 exact⟨by omega,(ar h).symm⟩
def cj7 (P:Pr)(k:Nat):Prop:=∀ ns:List Int,ns.length<=63->Yes ((aa1 P k).call "law" [.ref 0] [.ro (ns.map D.int)])
noncomputable def qu:Option Int->D
 | none=>.non
 | some i=>.int i
@[simp] theorem ai3:qu none=.non:=rfl
@[simp] theorem ji (i:Int):qu (some i)=.int i:=rfl
@[simp] theorem qX (p:Option Int) (n:Nat):(qu p).bnd n=true:=by cases p<;>rfl
theorem aw7 (p:Option Int)(r:Nat):qu p≠.ref r:=by cases p<;>nofun
@[simp] theorem aT5 {s:Sto} {p:Option Int}:zN s (qu p) s=.ok (qu p) s:=zo (qX p) (aw7 p)
noncomputable def cq1 (b:Nat×Nat):O:=.lst [.int b.1,.int b.2]
@[simp] theorem cb8 (b:Nat×Nat) (n:Nat):(cq1 b).bnd n=true:=rfl
noncomputable def tkW (many:Nat):Nat->Nat->Nat->Nat->Nat×Nat
 | 0,mix,num,_=>(num,mix)
 | n+1,mix,num,room=>if room<many then tkW many n ((mix*48271+7919) % 2147483647) (num*1073741789+(mix*48271+7919) % 2147483647 / 8*69621 % 1073741789) (room*1073741789)else(num,mix)
noncomputable def tk (b:Nat×Nat)(many:Nat):Nat×(Nat×Nat) :=
 if 0<b.1 then(b.1 % many,(b.1 / many,b.2))else let r:=tkW many 12 b.2 0 1;(r.1 % many,(b.1,r.2))
theorem bx6 {s t:Sto}{r:Nat}{o:O}(h:r<s.length):(s++t).set r o=s.set r o++t:=by rw[i9,if_pos h]
theorem ay8 {s t:Sto}{r:Nat}{o:O}(h:s[r]?=some o):(s++t)[r]?=some o:=by
 rw[aI (ae.mp h).1];exact h
theorem bi3 {s:Sto}{r:Nat}{o:O}(h:r<s.length):(s.set r o)[r]?=some o:=bp h
noncomputable def bd (b:Nat×Nat):Nat×(Nat×Nat) :=
 let x0:=tk b 3
 let x1:=tk x0.2 13
 let x2:=tk x1.2 1000000000
 let x3:=tk x2.2 1000000000000000000000000000000
 let i:=tk x3.2 4
 ([x0.1,x1.1,x2.1,x3.1].getD i.1 0,i.2)
section
variable {F:Fns} {ρ:Env} {s:Sto}
noncomputable def ah7 (F:Fns)(tg:Tg)(e:E)(d:D)(ρ:Env)(s:Sto):R (Option D×Env):=match ae8 ρ tg d with
 | some ρ=>(ev F e ρ s).bind λ v s=>.ok (some v,ρ) s
 | none=>.bad
noncomputable def aB9 (F:Fns)(tg:Tg)(c e:E)(d:D)(ρ:Env)(s:Sto):R (Option D×Env):=match ae8 ρ tg d with
 | some ρ=>tru (ev F c ρ s) λ k s=>if k then(ev F e ρ s).bind λ v s=>.ok (some v,ρ) s else .ok (none,ρ) s
 | none=>.bad
@[simp] theorem ai1 (tg:Tg) (y:I) (e:E) (h:List (Option Nat)):evL F (.comp tg y e h) ρ s=(evI F y ρ s).bind λ q s0=>if q.its.length<=LIM then jr (λ s=>chk s0 s q.src) (ah7 F tg e) q.its (qp ρ h) s0 else .bad:=rfl
@[simp] theorem jo (tg:Tg) (y:I) (c e:E) (h:List (Option Nat)):evL F (.compIf tg y c e h) ρ s=(evI F y ρ s).bind λ q s0=>if q.its.length<=LIM then jr (λ s=>chk s0 s q.src) (aB9 F tg c e) q.its (qp ρ h) s0 else .bad:=rfl
@[simp] theorem cl4 (a h:E):ev F (.slU a h) ρ s=(ev F a ρ s).bind λ x s=>(ev F h ρ s).bind λ y s=>match y with|.int i=>slM x none (some i) s|_=>.bad:=rfl
@[simp] theorem cn1 (a h:E):ev F (.slL a h) ρ s=(ev F a ρ s).bind λ x s=>(ev F h ρ s).bind λ y s=>match y with|.int i=>slM x (some i) none s|_=>.bad:=rfl
end
theorem ai0 {ok:Sto->Bool}{g:D->Env->Sto->R (Option D×Env)}(P:Env->Sto->Prop)(f:D->Option D):∀(l:List D) (ρ:Env) (s:Sto),P ρ s ->
  (∀ ρ s,P ρ s->ok s=true)->(∀ d∈l,∀ ρ s,P ρ s->∃ ρ' s',g d ρ s=.ok (f d,ρ') s'/\P ρ' s')->∃ ρ' s',jr ok g l ρ s=.ok (l.filterMap f) s'/\P ρ' s'
 | [],ρ,s,h,o,_=>⟨ρ,s,by unfold jr;rw[if_pos (o ρ s h)];rfl,h⟩
 | d::l,ρ,s,h,o,st=>by
  obtain⟨ρ1,s1,e1,y⟩:=st d (aC ..) ρ s h
  obtain⟨ρ2,s2,e2,B⟩:=ai0 P f l ρ1 s1 y o λ x hx=>st x (aw _ hx)
  refine⟨ρ2,s2,?_,B⟩
  unfold jr
  rw[if_pos (o ρ s h),e1]
  simp only[R.bind_ok]
  rw[e2,bv]
  cases f d<;>rfl
theorem qk {k:Int}(h:k<=1000):k<=10^90:=bW h (by decide)
theorem bd6 {k:Int}{s:Sto}(h:0<=k/\k<=1000000):qK .shl (.int 1) (.int k) s=.ok (.int (1*2^k.toNat)) s:=by
 show(if 0<=k/\k<=1000000/\(1:Int).natAbs<2^64 then _ else _:M D) s=_
 rw[if_pos ⟨h.1,h.2,by decide⟩];rfl
theorem zU {l:List D}(h:∀ d∈l,∀ n,d.bnd n=true)(n:Nat):D.bndL n l=true:=by
 induction l with
 | nil=>rfl
 | cons d l ih=>unfold D.bndL;rw[h d (aC ..),ih λ x hx=>h x (aw _ hx)];rfl
noncomputable def aX3 (bits:Nat):D->Option D
 | .int i=>if(bits:Int) / (1*2^i.toNat) % 2=1 then some (.int i)else none
 | _=>none
theorem ba8 {k:Nat}(h:k<3)(s:Sto):ixM (.str [97,98,99]) (.int (k:Int)) s=.ok (.str [97+k]) s:=by
 match k,h with
 | 0,_=>rfl
 | 1,_=>rfl
 | 2,_=>rfl
theorem bx2 {a b:List Nat}{s:Sto}(h:a.length+b.length<=LIM):qK .add (.str a) (.str b) s=.ok (.str (a++b)) s:=by
 show(if a.length+b.length<=LIM then _ else _:M D) s=_;rw[if_pos h];rfl
def Lts (L:Nat)(w:List Nat):Prop:=∀ c∈w,97<=c/\c<97+L
theorem rep_len (l:List Nat):∀ n,(rep n l).length=l.length*n
 | 0=>by simp[rep]
 | n+1=>by simp[rep,rep_len l n,fv];omega
noncomputable def bY6 (L:Nat)(d:D):Bool:=match d with
 | .str w=>decide (w.length<=200)&&w.all λ c=>decide (97<=c/\c<97+L)
 | _=>false
noncomputable def bD8 (s:Sto):D->Prop
 | .fn _=>False
 | .clo _ _=>False
 | .ref k=>∃ l,s[k]?=some (.lst l)
 | _=>True
theorem aG1 {P:Pr}{x:String}{v:D}[HasC P x v]{n:Nat}{ρ:Env}{s:Sto}:ev (aa1 P n) (.glob x) ρ s=.ok v s:=by
 show(match(aa1 P n).con x with|some d=>R.ok d s|none=>.bad)=_
 rw[aH4 (v:=v)]
@[simp] theorem cm1 {F:Fns} {ρ:Env} {s:Sto} (a:E):ev F (.neg a) ρ s=(ev F a ρ s).bind λ x s=>match x with|.int i=>.ok (.int (-i)) s|_=>.bad:=rfl
structure Dr where
 a:Nat
 l:Nat
 b:Nat
 t:Nat
noncomputable def Dr.d (x:Dr):D:=.tup [.int x.a,.str [x.l],.int x.b,.int x.t]
structure Mc where
 L:Nat
 R:Nat
 bg:List Nat
 en:List Nat
 ds:List Dr
noncomputable def bG0 (l:List Nat):List D:=l.map λ(k:Nat)=>D.int (k:Int)
noncomputable def sg (w:List Nat):List D:=w.map λ c=>.str [c]
noncomputable def Mc.ps (m:Mc):List D:=[.int m.L,.int m.R,.tup (bG0 m.bg),.tup (bG0 m.en),.tup (m.ds.map Dr.d)]
noncomputable def Mc.d (m:Mc):D:=.tup m.ps
structure Dr.Ok (m:Mc)(x:Dr):Prop where
 a:x.a<m.R
 l:97<=x.l/\x.l<97+m.L
 b:x.b<m.R
 t:x.t<4
structure Mc.Ok (m:Mc):Prop where
 L1:1<=m.L
 L3:m.L<=3
 R1:1<=m.R
 R5:m.R<=5
 bg:(∀ k∈m.bg,k<m.R)/\m.bg.Pairwise (· < ·)
 en:(∀ k∈m.en,k<m.R)/\m.en.Pairwise (· < ·)
 ds:(∀ x∈m.ds,x.Ok m)/\m.ds.length<=75
theorem aP7 {l:List Nat}:∀ d∈bG0 l,∀ n,d.bnd n=true:=λ d hd n=>by
 obtain⟨c,_,rfl⟩:=ay.mp hd;rfl
theorem bi6 {l:List Dr}:∀ d∈l.map Dr.d,∀ n,d.bnd n=true:=λ d hd n=>by
 obtain⟨c,_,rfl⟩:=ay.mp hd;rfl
theorem by2 {m:Mc}:∀ d∈m.ps,∀ n,d.bnd n=true:=λ d hd n=>by
 simp only[Mc.ps,au,aP,or_false]at hd
 rcases hd with rfl|rfl|rfl|rfl|rfl
 ·rfl
 ·rfl
 ·unfold D.bnd;exact zU aP7 n
 ·unfold D.bnd;exact zU aP7 n
 ·unfold D.bnd;exact zU bi6 n
theorem bX6 (m:Mc)(n:Nat):m.d.bnd n=true:=by unfold Mc.d D.bnd;exact zU by2 n
noncomputable def ah8 (bits k:Nat):List Nat:=(ah k).filter λ i=>decide (bits / 2^i % 2=1)
theorem aC7 (h k:Nat):(∀ i∈ah8 h k,i<k)/\(ah8 h k).Pairwise (· < ·) :=
 ⟨λ i y=>aU.mp (eB.mp y).1,ku _ List.pairwise_lt_range⟩
theorem bp0 (y:Nat)(k:Nat):(ag8 0 (k:Int)).filterMap (aX3 y)=bG0 (ah8 y k):=by
 unfold ag8 ah8 bG0
 simp only[ki,dL]
 rw[eY]
 induction (ah k)with
 | nil=>rfl
 | cons i l ih =>
  rw[bv,List.filter_cons]
  have e:((y:Int) / (1*2^((0:Int)+(i:Int)).toNat) % 2=1)↔(y / 2^i % 2=1):=by
   rw[fA,show((0:Int)+(i:Int)).toNat=i by omega]
   have:((y:Int) / 2^i % 2)=((y / 2^i % 2:Nat):Int):=by simp
   rw[this];omega
  simp only[j5,aX3]
  by_cases h:y / 2^i % 2=1
  ·rw[if_pos (e.mpr h)]
   simp only[h,decide_true,if_true,aH]
   rw[<-ih,gu]
  ·rw[if_neg λ z=>h (e.mp z)]
   simp only[h,decide_false]
   exact ih
section
variable {P:Pr}
theorem bC8 {l:List D}{s:Sto}(j:Nat){d:D}(h:l[j]?=some d):ixM (.tup l) (.int (j:Int)) s=.ok d s:=ix_tup h
theorem ixL (m:Mc)(s:Sto):ixM m.d (.int 0) s=.ok (.int m.L) s:=bC8 0 rfl
theorem ixR (m:Mc)(s:Sto):ixM m.d (.int 1) s=.ok (.int m.R) s:=bC8 1 rfl
theorem ixD (m:Mc)(s:Sto):ixM m.d (.int 4) s=.ok (.tup (m.ds.map Dr.d)) s:=bC8 4 rfl
theorem ju [Has P ab1](n:Nat)(m:Mc)(s:Sto):(aa1 P (n+1)).call "rooms_of" [m.d] s=.ok (.int m.R) s:=by
 refine(zn ab1 rfl).trans ?_
 simp -implicitDefEqProofs [ab1,ixR]
theorem bf9 {s:Sto}{l:List D}(h:∀ d∈l,∀ n,d.bnd n=true):zN s (.tup l) s=.ok (.tup l) s:=zo (λ n=>by unfold D.bnd;exact zU h n) (by nofun)
theorem aJ3 [Has P ab5](n:Nat)(m:Mc)(s:Sto):(aa1 P (n+1)).call "doors_of" [m.d] s=.ok (.tup (m.ds.map Dr.d)) s:=by
 refine(zn ab5 rfl).trans ?_
 simp -implicitDefEqProofs [ab5,ixD,bf9 bi6]
@[simp] theorem cg0 (a b:Nat) (s:Sto):qJ .ne (.str [a]) (.str [b]) s=.ok (.bl (!decide (a=b))) s:=by
 show(match eqv s DEEP (.str [a]) (.str [b])with|some r=>R.ok (D.bl (!r)) s|none=>.bad)=_
 have:eqv s DEEP (.str [a]) (.str [b])=some ([a]==[b]):=rfl
 rw[this]
 have e:([a]==[b])=decide (a=b):=by rw[dr];simp
 rw[e]
@[simp] theorem cf1 (a b:Nat) (s:Sto):qJ .eq (.str [a]) (.str [b]) s=.ok (.bl (decide (a=b))) s:=by
 show(match eqv s DEEP (.str [a]) (.str [b])with|some r=>R.ok (D.bl r) s|none=>.bad)=_
 have:eqv s DEEP (.str [a]) (.str [b])=some ([a]==[b]):=rfl
 rw[this]
 have e:([a]==[b])=decide (a=b):=by rw[dr];simp
 rw[e]
end
theorem good_of {L:Nat}{w:List Nat}(h:w.length<=200)(hw:Lts L w):bY6 L (.str w)=true:=by
 unfold bY6
 simp only[h,decide_true,d5,aO,decide_eq_true_eq]
 exact hw
@[simp] theorem cg2 {F:Fns} {ρ:Env} {s:Sto} (a h B:E):ev F (.slLU a h B) ρ s=(ev F a ρ s).bind λ x s=>(ev F h ρ s).bind λ y s=>match y with|.int i=>(ev F B ρ s).bind (λ z s=>match z with|.int j=>slM x (some i) (some j) s|_=>.bad)|_=>.bad:=rfl
noncomputable def z9 (N:Int):O:=.lst [.int N]
theorem aP4 {s:Sto}{r:Nat}(h:∃ N,s[r]?=some (z9 N)):r<s.length:=by obtain⟨b,hb⟩:=h;exact(ae.mp hb).1
theorem aq1 {s:Sto}{r:Nat}{b:Int}(h:r<s.length):∃ y,(s.set r (z9 b))[r]?=some (z9 y):=⟨b,bi3 h⟩
theorem qN {P:Pr}[Has P af0](n:Nat){s:Sto}{r:Nat}(hs:∃ N,s[r]?=some (z9 N))(many:Int)(h0:0<many)(h:many<=10^90) :
  ∃(k:Nat) (N:Int),(k:Int)<many/\(aa1 P (n+1)).call "_law_draw" [.ref r,.int many] s=.ok (.int k) (s.set r (z9 N)):=by
 obtain⟨N,hN⟩:=hs
 have C:(aa1 P (n+1)).call "_law_draw" [.ref r,.int many] s=_:=zn af0 (n:=n) rfl
 have B:many<10^200:=by
  have:(10:Int)^90<10^200:=by decide +kernel
  omega
 have G:=jC N (show many≠0 by omega)
 have J:=iD N h0
 refine⟨(N % many).toNat,N / many,by omega,?_⟩
 rw[C]
 have y:s[r]?=some (.lst [.int N]):=hN
 simp -implicitDefEqProofs [af0,ixM,y,ixn,qW h0,ah9 h0 B,setIx]
 rw[show max (N % many) 0=N % many by omega]
 exact aS9 (λ _=>rfl) (by nofun) rfl
def cn4 (s:Sto)(x:R D):Prop:=∃ N:Int,x=.ok (.ref s.length) (s++[z9 N])
theorem bW4 {P:Pr}[Has P ap5](n:Nat)(ns:List Int)(k:Nat){s:Sto}{r:Nat}(hs:s[r]?=some (.ro (ns.map D.int))) :
  ∃ N:Int,(aa1 P (n+1)).call "_law_box" [.ref r,.int k] s=.ok (.ref s.length) (s++[z9 N]):=by
 have e0:(aa1 P (n+1)).call "_law_box" [.ref r,.int k] s=_:=zn ap5 (n:=n) rfl
 have hlen:bi .len [.ref r] s=.ok (.int ns.length) s:=by rw[bt8 hs,aG]
 have m1:∀ a:Int,mulOk 7919 a=true:=λ a=>jv (by decide)
 have G:∀ a:Int,mulOk a 48271=true:=λ a=>aH9 (by decide)
 have Z:∀ a:Int,mulOk 104729 a=true:=λ a=>jv (by decide)
 have Y:∀ a:Int,mulOk a 2147483647=true:=λ a=>aH9 (by decide)
 have J:∀ a:Int,mulOk 31 a=true:=λ a=>jv (by decide)
 have m6:∀ a:Int,mulOk (a % 2147483647) (a % 2147483647)=true:=λ a=>jv (by
  have h1:=jC a (show(2147483647:Int)≠0 by decide)
  have h2:=iD a (show(0:Int)<2147483647 by decide)
  omega)
 have C:∀ N:Int,zN s (.ref s.length) (s++[.lst [.int N]])=.ok (.ref s.length) (s++[z9 N]):=λ N=>by
  have:=aA0 (s:=s) (t:=[]) (u:=[]) (o:=z9 N) rfl
  simp only[dq,km,gy]at this
  exact this
 have h:∀ c:Int,cn4 s ((exs (aa1 P n) (.cons (.ite (.cmp .ge (.var 2) (.bin .pow (.cst (.int 10)) (.cst (.int 18)))) (.cons (.ret (.lst (.cons (.var 2) .nil))) .nil) .nil) (.cons (.asg (.one 3) (.cst (.int 0))) (.cons (.for_ (.one 4) (.rng1 (.cst (.int 128))) (.cons (.asg (.one 5) (.bin .mod (.bin .mul (.bin .add (.bin .add (.bin .add (.bin .mod (.var 2) (.cst (.int 2147483647))) (.bin .mul (.cst (.int 7919)) (.var 1))) (.bin .mul (.cst (.int 104729)) (.var 4))) (.cst (.int 97))) (.cst (.int 48271))) (.cst (.int 2147483647)))) (.cons (.asg (.one 3) (.bin .add (.bin .mul (.var 3) (.cst (.int 2147483647))) (.bin .mod (.bin .add (.bin .add (.bin .mul (.var 5) (.var 5)) (.bin .mul (.cst (.int 31)) (.var 4))) (.bin .fdiv (.var 2) (.cst (.int 2147483647)))) (.cst (.int 2147483647))))) .nil))) (.cons (.ret (.lst (.cons (.var 3) .nil))) .nil))))
   [some (.ref r),some (.int k),some (.int c),none,none,none] s).bind (fin s)):=by
  intro c
  by_cases hc:(10:Int)^18<=c
  ·have B:(1000000000000000000:Int)<=c:=hc
   exact⟨c,by simp -implicitDefEqProofs [ax9,B,C]⟩
  ·have B:¬(1000000000000000000:Int)<=c:=hc
   simp -implicitDefEqProofs [ax9,B]
   rw[qg (by decide) (by decide)]
   simp only[R.bind_ok]
   refine am8 (W:=cn4 s) (λ j ρ t=>t=s/\∃(N:Int) (x y:Option D),ρ=[some (.ref r),some (.int k),some (.int c),some (.int N),x,y]) ⟨rfl,0,_,_,rfl⟩ (λ _ _ _ _ _=>rfl) ?_ ?_
   ·rintro j d ρ t hj ⟨rfl,N,x,y,rfl⟩
    obtain⟨_,rfl⟩:=aj6 hj
    conv=>arg 2;simp -implicitDefEqProofs [turn,ae3 (m1 _),ae3 (G _),ae3 (Z _),ae3 (Y _),ae3 (J _),ae3 (m6 _),qW,ah9]
    exact⟨rfl,_,_,_,rfl⟩
   ·rintro ρ t ⟨rfl,N,x,y,rfl⟩
    exact⟨N,by simp -implicitDefEqProofs [C]⟩
 rw[e0]
 by_cases hk:k<ns.length
 ·have hx:ixM (.ref r) (.int k) s=.ok (.int (ns.getD k 0)) s:=cj2 hs (by simp[hk])
  obtain⟨N,e⟩:=h (if ns.getD k 0<0 then -ns.getD k 0 else ns.getD k 0)
  refine⟨N,?_⟩
  rw[<-e]
  simp -implicitDefEqProofs [ap5,hlen,hk,hx]
 ·obtain⟨N,e⟩:=h 0
  refine⟨N,?_⟩
  rw[<-e]
  simp -implicitDefEqProofs [ap5,hlen,hk]
theorem bc7 {s:Sto}{d:D}(h:bD8 s d)(w:List Nat):∃ b:Bool,qJ .eq d (.str w) s=.ok (.bl b) s/\(b=true↔d=.str w):=by
 cases d with
 | str v=>exact⟨v==w,rfl,by
   rw[beq_iff_eq]
   constructor
   ·intro h;rw[h]
   ·intro h;cases h;rfl⟩
 | ref k =>
  obtain⟨l,e⟩:=h
  refine⟨false,?_,by constructor<;>intro h<;>cases h⟩
  have:eqv s DEEP (.ref k) (.str w)=some false:=by
   show ae7 s (.ref k) (.str w)=_
   unfold ae7 aS2
   simp only[kd,e];rfl
  simp only[qJ,eqM,this]
 | fn _=>exact h.elim
 | clo _ _=>exact h.elim
 | _=>exact⟨false,rfl,by constructor<;>intro h<;>cases h⟩
theorem two {l:List D}(h:l.length=2):∃ a b,l=[a,b]:=by
 match l,h with
 | [a,b],_=>exact⟨a,b,rfl⟩
@[simp] theorem cc3 {F:Fns} {ρ:Env} {s:Sto} (e:E):evI F (.enum (.seq e)) ρ s=(ev F e ρ s).bind λ d s=>(bp6 d s).bind λ q s=>.ok ⟨bz9 0 q.its,q.src⟩ s:=rfl
theorem jj (v w:List Nat)(s:Sto):qJ .eq (.str v) (.str w) s=.ok (.bl (decide (v=w))) s:=by
 obtain⟨b,e,q⟩:=bc7 (s:=s) (d:=.str v) trivial w
 rw[e]
 congr 2
 rw[dr,q,decide_eq_true_iff]
 constructor
 ·intro h;cases h;rfl
 ·intro h;rw[h]
theorem zY {P:Pr}[Has P af0](n:Nat){s t:Sto}{r:Nat}(B:r<s.length)(b:Int)(many:Int)(h0:0<many)(h:many<=10^90) :
  ∃(k:Nat) (y:Int),(k:Int)<many/\(aa1 P (n+1)).call "_law_draw" [.ref r,.int many] (s.set r (z9 b)++t)=.ok (.int k) (s.set r (z9 y)++t):=by
 obtain⟨k,y,C,G⟩:=qN (P:=P) n (s:=s.set r (z9 b)++t) (r:=r) ⟨b,ay8 (bi3 B)⟩ many h0 h
 refine⟨k,y,C,?_⟩
 rw[G,bx6 (by rw[bA];exact B),eO]
theorem aV8 {s t:Sto}{r:Nat}{b:Int}{l:List D}{v:D}(h:l.length<LIM):meth .append (.ref s.length) [v] (s.set r (z9 b)++(.lst l::t))=.ok .non (s.set r (z9 b)++(.lst (l++[v])::t)):=by
 rw[ak1 (l:=l) (by rw[ax (by simp)];simp) h]
 congr 1
 rw[i9,if_neg (by simp)]
 simp
noncomputable def ah2:Ss:=(.cons (.ite (.and (.cmp .gt (.var 5) (.cst (.int 0))) (.and (.cmp .lt (.var 6) (.cst (.int 3))) (.cmp .gt (.var 3) (.cst (.int 0))))) (.cons (.ex (.meth .append (.var 4) (.cons (.tup (.cons (.cst (.str [116,105,109,101,115])) (.cons (.bi .min2 (.cons (.var 7) (.cons (.bin .sub (.var 5) (.cst (.int 1))) .nil))) (.cons (.var 9) .nil)))) .nil))) (.cons (.asg (.one 3) (.bin .sub (.var 3) (.cst (.int 1)))) .nil)) (.cons (.ite (.and (.cmp .gt (.var 5) (.cst (.int 0))) (.cmp .lt (.var 6) (.cst (.int 5)))) (.cons (.ex (.meth .append (.var 4) (.cons (.tup (.cons (.cst (.str [112,97,105,114])) (.cons (.bi .min2 (.cons (.var 7) (.cons (.bin .sub (.var 5) (.cst (.int 1))) .nil))) (.cons (.bi .min2 (.cons (.var 8) (.cons (.bin .sub (.var 5) (.cst (.int 1))) .nil))) .nil)))) .nil))) .nil) (.cons (.ex (.meth .append (.var 4) (.cons (.tup (.cons (.cst (.str [108,101,116,116,101,114])) (.cons (.ix (.cst (.str [97,98,99])) (.bin .mod (.var 7) (.var 1))) .nil))) .nil))) .nil)) .nil)) .nil)
noncomputable def row (m:Nat)(f:Nat->Int):List D:=(ah m).map λ j=>.int (f j)
noncomputable def gd (m:Nat)(f:Nat->Nat->Int):D:=.tup ((ah m).map λ i=>.tup (row m (f i)))
theorem aX5 {m:Nat}{f:Nat->Int}{j:Nat}(h:j<m):(row m f)[j]?=some (.int (f j)):=by
 unfold row;rw[aF,bI h];rfl
@[simp] theorem cf7 {m:Nat} {f:Nat->Int}:(row m f).length=m:=by unfold row;simp
theorem bH7 {m:Nat}{f:Nat->Int}(n:Nat):D.bndL n (row m f)=true:=zU (λ d hd n=>by
 obtain⟨j,_,rfl⟩:=ay.mp hd;rfl) n
theorem be7 {m:Nat}{f g:Nat->Int}(h:∀ j,j<m->f j=g j):row m f=row m g:=by
 unfold row;exact cK λ j hj=>by rw[h j (aU.mp hj)]
theorem ai6 {m:Nat}{f:Nat->Nat->Int}(n:Nat):(gd m f).bnd n=true:=by
 unfold gd D.bnd
 exact zU (λ d hd n=>by
  obtain⟨j,_,rfl⟩:=ay.mp hd
  unfold D.bnd;exact bH7 n) n
theorem bc0 {m:Nat}{f:Nat->Nat->Int}{i:Nat}(h:i<m)(s:Sto):ixM (gd m f) (.int (i:Int)) s=.ok (.tup (row m (f i))) s :=
 ix_tup (by rw[aF,bI h];rfl)
theorem aF2 {m:Nat}{f:Nat->Int}{j:Nat}(h:j<m)(s:Sto):ixM (.tup (row m f)) (.int (j:Int)) s=.ok (.int (f j)) s:=ix_tup (aX5 h)
theorem aW6 {l:List D}(s:Sto):aK5 (.tup l) s=.ok ⟨l,[]⟩ s:=rfl
theorem av0 {m:Nat}{f g:Nat->Nat->Int}(h:∀ i j,i<m->j<m->f i j=g i j):gd m f=gd m g:=by
 unfold gd
 congr 1
 exact cK λ i y=>by rw[be7 λ j hj=>h i j (aU.mp y) hj]
theorem bj9 {ok:Sto->Bool}{g:D->Env->Sto->R (Option D×Env)}(P:Env->Sto->Prop)(f:D->D)(l:List D)(ρ:Env)(s:Sto)(h:P ρ s)
  (o:∀ ρ s,P ρ s->ok s=true) (st:∀ d∈l,∀ ρ s,P ρ s->∃ ρ' s',g d ρ s=.ok (some (f d),ρ') s'/\P ρ' s'):∃ ρ' s',jr ok g l ρ s=.ok (l.map f) s'/\P ρ' s':=by
 obtain⟨ρ',s',e,p⟩:=ai0 P (λ d=>some (f d)) l ρ s h o st
 refine⟨ρ',s',?_,p⟩
 rw[e];congr 1;induction l<;>simp_all
theorem aj2 {ok:Sto->Bool}{g:D->Env->Sto->R (Option D×Env)}(P:Env->Sto->Prop)(f:Nat->D)(n:Nat)(ρ:Env)(s:Sto)(h:P ρ s)
  (o:∀ ρ s,P ρ s->ok s=true) (st:∀ j,j<n->∀ ρ s,P ρ s->∃ ρ' s',g (.int (j:Int)) ρ s=.ok (some (f j),ρ') s'/\P ρ' s'):∃ ρ' s',jr ok g (ag8 0 (n:Int)) ρ s=.ok ((ah n).map f) s'/\P ρ' s':=by
 obtain⟨ρ',s',e,p⟩:=bj9 (g:=g) P (λ d=>match d with|.int i=>f i.toNat|d=>d) (ag8 0 (n:Int)) ρ s h o λ d hd ρ s y=>by
  obtain⟨j,hj⟩:=ef hd
  obtain⟨B,rfl⟩:=aj6 hj
  obtain⟨ρ',s',e,p⟩:=st j (by omega) ρ s y
  refine⟨ρ',s',?_,p⟩
  rw[gu,e];rfl
 refine⟨ρ',s',?_,p⟩
 rw[e]
 congr 1
 unfold ag8
 rw[gq,show((n:Int) - 0).toNat=n by omega]
 exact cK λ j _=>by
  show f ((0:Int)+(j:Int)).toNat=f j
  congr 1;omega
theorem qC (n:Nat):(ag8 0 (n:Int)).length=n:=by simp[ag8]
theorem jx {n j:Nat}{d:D}(h:(ag8 0 (n:Int))[j]?=some d):j<n/\d=.int (j:Int):=by
 obtain⟨y,rfl⟩:=aj6 h
 exact⟨by omega,by rw[gu]⟩
theorem bE4 {s t:Sto}{l:List D}{v:D}(h:l.length<LIM):meth .append (.ref s.length) [v] (s++.lst l::t)=.ok .non (s++.lst (l++[v])::t):=by
 rw[ak1 (l:=l) (by rw[ax (aj _)];simp) h,dP _ _ (aj _)]
 simp
noncomputable def prN (f g:Nat->Nat->Int)(i j:Nat):Nat->Int
 | 0=>3
 | k+1=>if f i k<3 then(let b:=(if g k j > f i k then g k j else f i k);if b<prN f g i j k then b else prN f g i j k)else prN f g i j k
noncomputable def pr (m:Nat)(f g:Nat->Nat->Int)(i j:Nat):Int:=prN f g i j m
theorem bJ5 {a b:Int}{s:Sto}(h:0<=b):qK .shr (.int a) (.int b) s=.ok (.int (a / 2^b.toNat)) s:=by
 show(if 0<=b then _ else _:M D) s=_
 rw[if_pos h];rfl
theorem aV9 {P:Pr}{n c h:Nat}(C:c<=5){s:Sto}{ρ:Env}(B:qp ρ [none,some 10]=[none,some (.int h)]) :
  jr (λ y=>chk s y []) (aB9 (aa1 P n) (.one 0) (.cmp .eq (.bin .mod (.bin .shr (.var 1) (.var 0)) (.cst (.int 2))) (.cst (.int 1))) (.var 0)) (ag8 0 (c:Int)) (qp ρ [none,some 10]) s=.ok (bG0 (ah8 h c)) s:=by
 have key:∃(ρ':Env) (s':Sto),jr (λ y=>chk s y []) (aB9 (aa1 P n) (.one 0) (.cmp .eq (.bin .mod (.bin .shr (.var 1) (.var 0)) (.cst (.int 2))) (.cst (.int 1))) (.var 0)) (ag8 0 (c:Int)) (qp ρ [none,some 10]) s=.ok ((ag8 0 (c:Int)).filterMap (aX3 h)) s'/\(s'=s/\∃ x,ρ'=[x,some (D.int h)]):=by
  refine ai0 (λ ρ u=>u=s/\∃ x,ρ=[x,some (.int h)]) (aX3 h) (ag8 0 (c:Int)) _ _ ⟨rfl,none,B⟩ (λ _ _ _=>rfl) ?_
  rintro d hd ρ u ⟨rfl,x,rfl⟩
  obtain⟨j,hj⟩:=ef hd
  obtain⟨G,rfl⟩:=aj6 hj
  refine⟨[some (.int (0+j)),some (.int h)],_,?_,rfl,_,rfl⟩
  unfold aB9
  simp only[zb,zB,zJ,qd,zd,zC,zD,ze,zl,R.bind_ok]
  rw[bJ5 (by omega)]
  simp only[R.bind_ok]
  rw[qW (by decide)]
  simp only[R.bind_ok,qZ,zE]
  simp[aX3]
  split<;>rfl
 obtain⟨_,_,e,rfl,_⟩:=key
 rw[e,bp0]
theorem bC1 {s:Sto}{r:Nat}{b:Int}{o:O}{l:List D}{v:D}(h:l.length<LIM):meth .append (.ref (s.length+1)) [v] (s.set r (z9 b)++[o,.lst l])=.ok .non (s.set r (z9 b)++[o,.lst (l++[v])]):=by
 rw[ak1 (l:=l) (by rw[ax (by simp)];simp) h,dP _ _ (by simp)]
 simp
theorem co8 {k:Nat}(h:k<=5):(0:Int)<1*2^((k:Int)).toNat/\(1:Int)*2^((k:Int)).toNat<=32:=by
 have C:(2:Nat)^k<=2^5:=eA (by decide) h
 have h3:((2^k:Nat):Int)<=32:=by exact_mod_cast C
 have B:0<(2:Nat)^k:=Nat.pow_pos (by decide)
 have y:(0:Int)<((2^k:Nat):Int):=by exact_mod_cast B
 rw[dL,fA]
 push_cast at h3 y
 exact⟨y,h3⟩
def McB (s:Sto)(r:Nat)(x:R D):Prop:=∃(m:Mc) (b:Int),m.Ok/\x=.ok m.d (s.set r (z9 b))
theorem aF9 {P : Pr} [Has P af0] [Has P ad9] (n : Nat) {s : Sto} {r : Nat} (hs : ∃ b, s[r]? = some (z9 b)) : McB s r ((aa1 P (n + 2)).call "_law_machine" [.ref r] s) := by
  have e0 : (aa1 P (n + 2)).call "_law_machine" [.ref r] s = _ := zn ad9 (n := n + 1) rfl
  have hr := aP4 hs
  obtain⟨a, b1, ha, e1⟩ := qN (P := P) n hs 3 (by decide) (by decide)
  obtain⟨c, b2, hc, e2⟩ := qN (P := P) n (aq1 (b := b1) hr) 5 (by decide) (by decide)
  rw[eO]at e2
  obtain⟨m1, b3, hm1, e3⟩ := qN (P := P) n (aq1 (b := b2) hr) (3 * (1 + (c : Int)) + 2) (by omega) (qk (by omega))
  rw[eO]at e3
  obtain⟨m2, b4, hm2, e4⟩ := qN (P := P) n (aq1 (b := b3) hr) 8 (by decide) (by decide)
  rw[eO]at e4
  obtain⟨m3, b5, hm3, e5⟩ := qN (P := P) n (aq1 (b := b4) hr) 76 (by decide) (by decide)
  rw[eO]at e5
  rw[e0]
  have mo : ∀ x : Int, mulOk 3 x = true := λ x => jv (by decide)
  simp -implicitDefEqProofs [ad9, e1, e2, ae3 (mo _), e3, e4]
  obtain ⟨many, bb, hmany, hif⟩ : ∃ (many : Nat) (bb : Int), many <= 75 /\ (if (m2 : Int) = 5 then
                      ((aa1 P (n + 1)).call "_law_draw" [D.ref r, D.int 76] (List.set s r (z9 b4))).bind λ d s =>
                        R.ok
                          (Ct.next [some (D.ref r), some (D.int (1 + ↑a)), some (D.int (1 + ↑c)), some d, none, none, none, none, none, none, none, none, none]) s
                    else
                      R.ok
                        (Ct.next
                          [some (D.ref r), some (D.int (1 + ↑a)), some (D.int (1 + ↑c)), some (D.int ↑m1), none, none, none, none, none, none, none, none, none])
                        (List.set s r (z9 b4))) = .ok (.next [some (.ref r), some (.int (1 + a)), some (.int (1 + c)), some (.int many), none, none, none, none, none, none, none, none, none]) (s.set r (z9 bb)) := by
    by_cases h7 : (m2 : Int) = 5
    · exact⟨m3, b5, by omega, by rw[if_pos h7, e5]; rfl⟩
    · exact⟨m1, b4, by omega, by rw[if_neg h7]⟩
  rw[hif]
  simp -implicitDefEqProofs
  obtain⟨h4, b6, hh4, e6⟩ := zY (P := P) n (t := [.lst [.int 2, .int 2, .int 4, .int 1]]) hr bb 4 (by decide) (by decide)
  rw[e6]
  have hx : ∃ hi : Nat, 1 <= hi /\ hi <= 4 /\ ixM (.ref s.length) (.int h4) (s.set r (z9 b6) ++ [.lst [.int 2, .int 2, .int 4, .int 1]]) = .ok (.int hi) (s.set r (z9 b6) ++ [.lst [.int 2, .int 2, .int 4, .int 1]]) := by
    have hg : (s.set r (z9 b6) ++ [O.lst [.int 2, .int 2, .int 4, .int 1]])[s.length]? = some (.lst [.int 2, .int 2, .int 4, .int 1]) := by rw[ax (by simp)]; simp
    match h4, hh4 with
    | 0, _ => exact⟨2, by decide, by decide, at0 (j := 0) hg rfl⟩
    | 1, _ => exact⟨2, by decide, by decide, at0 (j := 1) hg rfl⟩
    | 2, _ => exact⟨4, by decide, by decide, at0 (j := 2) hg rfl⟩
    | 3, _ => exact⟨1, by decide, by decide, at0 (j := 3) hg rfl⟩
    | k + 4, h => omega
  obtain⟨hi, hi1, hi4, hx⟩ := hx
  simp -implicitDefEqProofs [hx]
  rw[qg (by unfold W62; omega) (by unfold W62; omega)]
  simp -implicitDefEqProofs only[R.bind_ok]
  have hc1 : ((1 : Int) + (c : Int)) = ((c + 1 : Nat) : Int) := by omega
  have ha1 : ((1 : Int) + (a : Int)) = ((a + 1 : Nat) : Int) := by omega
  rw[hc1, ha1]
  generalize hH : O.lst [D.int 2, D.int 2, D.int 4, D.int 1] = H
  have hHb : ∀ b : Int, ar7 s (s.set r (z9 b) ++ [H]) = true := λ b => aC9 s [H] r (z9 b) rfl
  refine am8 (W := McB s r) (λ j ρ u => ∃(b : Int) (l : List Dr) (x y z v : Option D), (∀ d ∈ l, d.Ok ⟨a + 1, c + 1, [], [], []⟩) /\ l.length = j /\ ρ = [some (.ref r), some (.int (a + 1 : Nat)), some (.int (c + 1 : Nat)), some (.int many), some (.int hi), some (.ref (s.length + 1)), x, y, z, v, none, none, none] /\ u = s.set r (z9 b) ++ [H, .lst (l.map Dr.d)]) ⟨b6, [], none, none, none, none, by simp, rfl, rfl, rfl⟩ (λ _ _ _ _ _ => rfl) ?_ ?_
  · rintro j d ρ u hj ⟨b, l, x, y, z, v, hl, hlen, rfl, rfl⟩
    obtain⟨hj2, rfl⟩ := aj6 hj
    obtain⟨k1, c1, hk1, f1⟩ := zY (P := P) n (t := [H, .lst (l.map Dr.d)]) hr b (c + 1 : Nat) (by omega) (qk (by omega))
    obtain⟨k3, c2, hk3, f2⟩ := zY (P := P) n (t := [H, .lst (l.map Dr.d)]) hr c1 (c + 1 : Nat) (by omega) (qk (by omega))
    obtain⟨k2, c3, hk2, f3⟩ := zY (P := P) n (t := [H, .lst (l.map Dr.d)]) hr c2 (a + 1 : Nat) (by omega) (qk (by omega))
    obtain⟨k4, c4, hk4, f4⟩ := zY (P := P) n (t := [H, .lst (l.map Dr.d)]) hr c3 hi (by omega) (qk (by omega))
    refine bo5 (ρ := [some (.ref r), some (.int (a + 1 : Nat)), some (.int (c + 1 : Nat)), some (.int many), some (.int hi), some (.ref (s.length + 1)), some (.int j), some (.int k1), some (.int k3), some (.str [97 + k2]), none, none, none]) (s := s.set r (z9 c4) ++ [H, .lst ((l ++ [(⟨k1, 97 + k2, k3, k4⟩ : Dr)]).map Dr.d)]) ?_ ⟨c4, l ++ [(⟨k1, 97 + k2, k3, k4⟩ : Dr)], _, _, _, _, ?_, ?_, rfl, rfl⟩
    · simp -implicitDefEqProofs only[turn, gu, zb, zG, zB, aE, za, zg, zS, ex_ex, qc, zd, ev_ix, zC, qV, ev_tup, zx, zA, zL, zF, ze, zl, R.bind_ok, Cn_str, f1, f2, f3, f4, ba8 (show k2 < 3 by omega), zt, zh]
      rw[bC1 (by unfold LIM; simp; omega)]
      simp -implicitDefEqProofs
      rfl
    · intro d hd
      rcases cj.mp hd with h|h
      · exact hl d h
      · rw[bK.mp h]; constructor <;> simp only <;> omega
    · simp[hlen]
  · rintro ρ u ⟨b, l, x, y, z, v, hl, hlen, rfl, rfl⟩
    have p5 := co8 (k := c + 1) (by omega)
    obtain⟨k1, c1, hk1, f1⟩ := zY (P := P) n (t := [H, .lst (l.map Dr.d)]) hr b _ p5.1 (qk (by omega))
    obtain⟨k2, c2, hk2, f2⟩ := zY (P := P) n (t := [H, .lst (l.map Dr.d)]) hr c1 _ p5.1 (qk (by omega))
    have hl3 : (s.set r (z9 c2) ++ [H, O.lst (l.map Dr.d)])[s.length + 1]? = some (.lst (l.map Dr.d)) := by rw[ax (by simp)]; simp
    have hll : l.length <= 75 := by
      rw[hlen]; simp[ag8]; omega
    have hrl : (ag8 0 ((c + 1 : Nat) : Int)).length <= LIM := by rw[qC]; unfold LIM; omega
    simp -implicitDefEqProofs only[zh, za, zg, zS, qc, zL, zF, zd, qd, zC, zD, ze, zl, R.bind_ok, bd6 ⟨show(0 : Int) <= ((c + 1 : Nat) : Int)by omega, by omega⟩, f1, zb, zG, zB, aE, zt, ev_mk, jo, qB]
    rw[qg (by unfold W62; omega) (by unfold W62; omega)]
    simp -implicitDefEqProofs only[R.bind_ok, if_pos hrl]
    rw[aV9 (by omega) rfl]
    simp -implicitDefEqProofs only[R.bind_ok, mk, f2, zt, zh, zb, zG, zB, aE, za, qc, zL, zF, zd, qd, zC, zD, ze, zl, zS, bd6 ⟨show(0 : Int) <= ((c + 1 : Nat) : Int)by omega, by omega⟩, ev_mk, jo, qB]
    rw[qg (by unfold W62; omega) (by unfold W62; omega)]
    simp -implicitDefEqProofs only[R.bind_ok, if_pos hrl]
    rw[aV9 (by omega) rfl]
    simp -implicitDefEqProofs only[R.bind_ok, mk, zt, zh, zR, zb, zG, zB, aE, za, zg, qt, ev_tup, zx, zA, zd, ze, zl, ev_mk, evL_seq, bf2, hl3, zQ]
    refine⟨⟨a + 1, c + 1, ah8 k1 (c + 1), ah8 k2 (c + 1), l⟩, c2, ⟨by simp, by simp; omega, by simp, by simp; omega, aC7 _ _, aC7 _ _, λ x hx => ?_, hll⟩, ?_⟩
    · have := hl x hx
      exact⟨this.a, this.l, this.b, this.t⟩
    · exact ai9 (bX6 ⟨a + 1, c + 1, ah8 k1 (c + 1), ah8 k2 (c + 1), l⟩) (by nofun) rfl
noncomputable def bQ3 (m:Nat)(f:Nat->Nat->Int):Sto:=(ah m).map λ i=>.lst (row m (f i))
@[simp] theorem bS1 {m:Nat} {f:Nat->Nat->Int}:(bQ3 m f).length=m:=by unfold bQ3;simp
noncomputable def cq6 (p m:Nat):List D:=(ah m).map λ i=>.ref (p+i)
noncomputable def sgF (ds:List Dr)(c i j:Nat):Nat->Int
 | 0=>3
 | k+1=>match ds[k]? with
  | some x=>if x.l=c/\i=x.a/\j=x.b then(if(if 0<x.t then(1:Int)else 0)<sgF ds c i j k then(if 0<x.t then(1:Int)else 0)else sgF ds c i j k)else sgF ds c i j k
  | none=>sgF ds c i j k
noncomputable def sgM (m:Mc)(c i j:Nat):Int:=sgF m.ds c i j m.ds.length
theorem bi0 {b:Bool}{s:Sto}:bi .int [.bl b] s=.ok (.int (if b then 1 else 0)) s:=rfl
@[simp] theorem be1 {F:Fns} {ρ:Env} {s:Sto} (a b:E):evI F (.zip (.seq a) (.seq b)) ρ s=(ev F a ρ s).bind λ x s=>(ev F b ρ s).bind λ y s=>(ah6 x s).bind λ p s=>(ah6 y s).bind λ q s=>.ok ⟨az4 p.its q.its,p.src++q.src⟩ s:=rfl
theorem ix_str {l:List Nat}{j c:Nat}{s:Sto}(hj:l[j]?=some c):ixM (.str l) (.int (j:Int)) s=.ok (.str [c]) s:=by
 have hl:j<l.length:=(ae.mp hj).1
 have e:l[j]=c:=(ae.mp hj).2
 simp[ixM,ixn,hl,e]
theorem bK5 (s:Sto)(n:Nat)(a b:Int):eqv s n (.int a) (.int b)=some (a==b):=by cases n<;>rfl
noncomputable def shN (f:Nat->Nat->Int)(i j:Nat):Nat->Int
 | 0=>3
 | k+1=>let b:=max (max (f i k) (if f k k=1 then 2 else f k k)) (f k j);if b<shN f i j k then b else shN f i j k
noncomputable def sh (m:Nat)(f:Nat->Nat->Int)(i j:Nat):Int:=shN f i j m
theorem bk5 {a b c:Int}{s:Sto}:bi .max3 [.int a,.int b,.int c] s=.ok (.int (max (max a b) c)) s:=rfl
theorem aP6 {m:Nat}{f:Nat->Nat->Int}{s:Sto}:bi .len [gd m f] s=.ok (.int m) s:=by
 show R.ok (D.int ((ah m).map λ i=>D.tup (row m (f i))).length) s=_
 simp
theorem ai4 {s:Sto}{l:List D}{v:D}(h:l.length<LIM):meth .append (.ref s.length) [v] (s++[.lst l])=.ok .non (s++[.lst (l++[v])]):=bE4 (t:=[]) h
theorem be4 {s:Sto}{n m:Nat}{f g:Nat->Int}:∀ l:List Nat,eqL (eqv s n) (l.map λ j=>.int (f j)) (l.map λ j=>.int (g j))=some (l.all λ j=>f j==g j)
 | []=>rfl
 | a::l=>by
  rw[aH,aH]
  unfold eqL
  rw[bK5,be4 (m:=m) l]
  simp
theorem bs6 {s:Sto}{n m:Nat}{f g:Nat->Nat->Int}:∀ l:List Nat,eqL (eqv s (n+1)) (l.map λ i=>.tup (row m (f i))) (l.map λ i=>.tup (row m (g i)))=some (l.all λ i=>(ah m).all λ j=>f i j==g i j)
 | []=>rfl
 | a::l=>by
  rw[aH,aH]
  unfold eqL
  rw[show eqv s (n+1) (.tup (row m (f a))) (.tup (row m (g a)))=eqL (eqv s n) (row m (f a)) (row m (g a))from rfl,row,row,be4 (m:=m),bs6 l]
  simp
def EqG (m:Nat)(f g:Nat->Nat->Int):Prop:=∀ i j,i<m->j<m->f i j=g i j
theorem bW3 {s:Sto}{m:Nat}{f g:Nat->Nat->Int}:∃ b:Bool,eqv s DEEP (gd m f) (gd m g)=some b/\(b=true↔EqG m f g):=by
 refine⟨_,bs6 (n:=28) (ah m),?_⟩
 simp[EqG,aO]
 exact⟨λ h i j y hj=>h i y j hj,λ h i y j hj=>h i j y hj⟩
theorem cg5 {s:Sto}{m:Nat}{f g:Nat->Nat->Int}:∃ b:Bool,qJ .eq (gd m f) (gd m g) s=.ok (.bl b) s/\(b=true↔EqG m f g):=by
 obtain⟨b,e,h⟩:=bW3 (s:=s) (m:=m) (f:=f) (g:=g)
 exact⟨b,by show(match eqv s DEEP (gd m f) (gd m g)with|some r=>R.ok (D.bl r) s|none=>.bad)=_;rw[e],h⟩
inductive Stp where
 | let_ (c:Nat)|pair (i j:Nat)|sharp (i:Nat)
noncomputable def cf9:List Nat:=[108,101,116,116,101,114]
noncomputable def bp8:List Nat:=[112,97,105,114]
noncomputable def au0:List Nat:=[116,105,109,101,115]
noncomputable def Stp.d:Stp->D
 | .let_ c=>.tup [.str [108,101,116,116,101,114],.str [c]]
 | .pair i j=>.tup [.str [112,97,105,114],.int i,.int j]
 | .sharp i=>.tup [.str [115,104,97,114,112],.int i]
theorem zI {l:List D}(h:∀ d∈l,d.ncl=true):D.nclL l=true:=by
 induction l with
 | nil=>rfl
 | cons d l ih=>unfold D.nclL;rw[h d (aC ..),ih λ x hx=>h x (aw _ hx)];rfl
theorem bj8 {l:List Nat}:D.nclL (bG0 l)=true:=zI λ d hd=>by obtain⟨x,_,rfl⟩:=ay.mp hd;rfl
theorem bm9 {l:List Int}:D.nclL (l.map D.int)=true:=zI λ d hd=>by obtain⟨x,_,rfl⟩:=ay.mp hd;rfl
theorem bb7 {m:Nat}{f:Nat->Int}:D.nclL (row m f)=true:=zI λ d hd=>by obtain⟨x,_,rfl⟩:=ay.mp hd;rfl
theorem ar1 {m:Nat}{f:Nat->Nat->Int}:(gd m f).ncl=true:=by
 unfold gd D.ncl
 exact zI λ d hd=>by obtain⟨x,_,rfl⟩:=ay.mp hd;unfold D.ncl;exact bb7
theorem by4 {s:Sto}{r:Nat}{o:O}(h:s.all O.ncl=true)(ho:o.ncl=true):(s.set r o).all O.ncl=true:=by
 rw[aO]at h ⊢
 intro x hx
 rcases e9 hx with h1|h1
 ·exact h x h1
 ·rw[h1];exact ho
section
variable {s:Sto} {r:Nat} {b:Int} {A B C:List D} {T:Sto}
end
theorem bf0 {f g:Nat->Nat->Int}{i j:Nat}{x:Int}:∀ k,prN f g i j k<=x↔3<=x\/∃ l,l<k/\f i l<3/\f i l<=x/\g l j<=x
 | 0=>by unfold prN;exact⟨.inl,λ h=>h.elim id λ⟨l,hl,_⟩=>absurd hl (dm _)⟩
 | k+1=>by
  have y:=bf0 (f:=f) (g:=g) (i:=i) (j:=j) (x:=x) k
  have key:prN f g i j (k+1)<=x↔prN f g i j k<=x\/(f i k<3/\f i k<=x/\g k j<=x):=by
   conv=>lhs;unfold prN
   simp only
   repeat' split
   all_goals omega
  rw[key,y]
  constructor
  ·rintro((h|⟨l,h1,h2⟩)|h)
   ·exact .inl h
   ·exact .inr ⟨l,by omega,h2⟩
   ·exact .inr ⟨k,by omega,h⟩
  ·rintro(h|⟨l,h1,h2⟩)
   ·exact .inl (.inl h)
   ·by_cases e:l=k
    ·subst e;exact .inr h2
    ·exact .inl (.inr ⟨l,by omega,h2⟩)
theorem bJ4 {m:Nat}{f g:Nat->Nat->Int}{i j:Nat}{x:Int}(hx:x<3):pr m f g i j<=x↔∃ l,l<m/\f i l<=x/\g l j<=x:=by
 unfold pr
 rw[bf0]
 constructor
 ·rintro(h|⟨l,y,_,B,h3⟩)
  ·omega
  ·exact⟨l,y,B,h3⟩
 ·rintro⟨l,y,B,h3⟩
  exact .inr ⟨l,y,by omega,B,h3⟩
theorem ci9 {m:Nat}{f g:Nat->Nat->Int}{i j:Nat}:pr m f g i j<=3:=by
 unfold pr;exact(bf0 _).mpr (.inl (bH _))
theorem bK0 {a b:Int}(ha:a<=3)(hb:b<=3)(h:∀ x,x<3->(a<=x↔b<=x)):a=b:=by
 by_cases h1:a<3
 ·have:=(h a h1).mp (bH _)
  have:=(h b (by omega)).mpr (bH _)
  omega
 ·by_cases h2:b<3
  ·have:=(h b h2).mpr (bH _);omega
  ·omega
noncomputable def pw (m:Nat)(f:Nat->Nat->Int):Nat->Nat->Nat->Int
 | 0=>f
 | n+1=>pr m (pw m f n) f
theorem cp3 {m:Nat}{f:Nat->Nat->Int}(h:∀ i j,f i j<=3):∀ n i j,pw m f n i j<=3
 | 0,i,j=>h i j
 | n+1,i,j=>ci9
def Wlk (m:Nat)(f:Nat->Nat->Int)(x:Int)(n i j:Nat):Prop:=∃ w:Nat->Nat,w 0=i/\w n=j/\(∀ k,k<=n->w k<m)/\∀ k,k<n->f (w k) (w (k+1))<=x
section
variable {m:Nat} {f:Nat->Nat->Int} {x:Int}
theorem Wlk.app {a b i k j:Nat}:Wlk m f x a i k->Wlk m f x b k j->Wlk m f x (a+b) i j:=by
 rintro⟨w,B,G,w2,C⟩ ⟨v,v0,J,Y,Z⟩
 refine⟨λ t=>if t<a then w t else v (t - a),?_,?_,λ t ht=>?_,λ t ht=>?_⟩
 ·by_cases h:0<a
  ·simp only[h,if_true];exact B
  ·have:a=0:=by omega
   subst this
   simp only[bq,if_false]
   rw[v0,<-G,B]
 ·have:¬ a+b<a:=by omega
  simp only[this,if_false]
  rw[Nat.add_sub_cancel_left];exact J
 ·by_cases h:t<a
  ·simp only[h,if_true];exact w2 t (by omega)
  ·simp only[h,if_false];exact Y _ (by omega)
 ·by_cases h:t<a
  ·by_cases y:t+1<a
   ·simp only[h,y,if_true];exact C t h
   ·have e:t+1=a:=by omega
    simp only[h,y,if_true,if_false]
    rw[show t+1 - a=0 by omega,v0,<-G,<-e]
    exact C t h
  ·have y:¬ t+1<a:=by omega
   simp only[h,y,if_false]
   rw[show t+1 - a=t - a+1 by omega]
   exact Z _ (by omega)
theorem Wlk.split {a b i j:Nat}:Wlk m f x (a+b) i j->∃ k,k<m/\Wlk m f x a i k/\Wlk m f x b k j:=by
 rintro⟨w,y,B,w2,h⟩
 refine⟨w a,w2 a (by omega),⟨w,y,rfl,λ k hk=>w2 k (by omega),λ k hk=>h k (by omega)⟩,⟨λ t=>w (a+t),rfl,B,λ k hk=>w2 _ (by omega),λ k hk=>h (a+k) (by omega)⟩⟩
theorem Wlk.one {i j:Nat}(G:i<m)(hj:j<m):Wlk m f x 1 i j↔f i j<=x:=by
 constructor
 ·rintro⟨w,y,C,w2,B⟩
  have:=B 0 (by decide)
  rw[y,C]at this
  exact this
 ·intro h
  refine⟨λ t=>if t=0 then i else j,rfl,rfl,λ k _=>?_,λ k hk=>?_⟩
  ·show(if k=0 then i else j)<m
   split<;>assumption
  ·have:k=0:=by omega
   subst this;exact h
theorem am0 (hx:x<3):∀ n i j,i<m->j<m->(pw m f n i j<=x↔Wlk m f x (n+1) i j)
 | 0,i,j,hi,hj=>(Wlk.one hi hj).symm
 | n+1,i,j,hi,hj=>by
  show pr m (pw m f n) f i j<=x↔_
  rw[bJ4 hx]
  constructor
  ·rintro⟨l,hl,y,B⟩
   exact((am0 hx n i l hi hl).mp y).app ((Wlk.one hl hj).mpr B)
  ·intro h
   obtain⟨k,hk,y,B⟩:=h.split
   exact⟨k,hk,(am0 hx n i k hi hk).mpr y,(Wlk.one hk hj).mp B⟩
theorem pig:∀(B:Nat) (f:Nat->Nat),(∀ i,i<=B->f i<B)->∃ i j,i<j/\j<=B/\f i=f j
 | 0,f,h=>absurd (h 0 (aj _)) (dm _)
 | B+1,f,h=>by
  by_cases hx:∃ i,i<=B/\f i=f (B+1)
  ·obtain⟨i,C,y⟩:=hx
   exact⟨i,B+1,by omega,aj _,y⟩
  ·obtain⟨i,j,C,y,h3⟩:=pig B (λ i=>if f i=B then f (B+1)else f i) λ i Y=>by
    have G:=h i (by omega)
    have J:=h (B+1) (aj _)
    have Z:f i≠f (B+1):=λ e=>hx ⟨i,Y,e⟩
    show(if f i=B then f (B+1)else f i)<B
    split<;>omega
   refine⟨i,j,C,by omega,?_⟩
   have G:f i≠f (B+1):=λ e=>hx ⟨i,by omega,e⟩
   have J:f j≠f (B+1):=λ e=>hx ⟨j,y,e⟩
   have h3:(if f i=B then f (B+1)else f i)=(if f j=B then f (B+1)else f j):=h3
   split at h3<;>split at h3<;>omega
theorem Wlk.pump (G:m<=5){n i j:Nat}(hn:5<=n):Wlk m f x n i j->Wlk m f x (n+60) i j:=by
 rintro⟨w,Y,w1,w2,y⟩
 obtain⟨p,q,h1,h2,h3⟩:=pig 5 w λ k hk=>ak (w2 k (by omega)) G
 obtain⟨c,hc⟩:∃ c,q=p+c:=⟨q - p,by omega⟩
 have a0:1<=c:=by omega
 have a1:c<=5:=by omega
 have J:60 % c=0:=by
  have:c=1\/c=2\/c=3\/c=4\/c=5:=by omega
  rcases this with rfl|rfl|rfl|rfl|rfl<;>rfl
 have A:Wlk m f x p i (w p):=⟨w,Y,rfl,λ k hk=>w2 k (by omega),λ k hk=>y k (by omega)⟩
 have C:Wlk m f x c (w p) (w p):=⟨λ t=>w (p+t),rfl,by show w (p+c)=_;rw[<-hc,h3],λ k hk=>w2 _ (by omega),λ k hk=>y (p+k) (by omega)⟩
 have B:Wlk m f x (n - p) (w p) j:=⟨λ t=>w (p+t),rfl,by show w (p+(n - p))=_;rw[show p+(n - p)=n by omega];exact w1,λ k hk=>w2 _ (by omega),λ k hk=>y (p+k) (by omega)⟩
 have Z:∀ t,Wlk m f x (c*t) (w p) (w p):=λ t=>by
  induction t with
  | zero=>exact⟨λ _=>w p,rfl,rfl,λ _ _=>w2 p (by omega),λ k hk=>by omega⟩
  | succ t ih=>exact ih.app C
 have h:c*(60 / c)=60:=by
  have:=jD 60 c
  omega
 have:=(A.app (Z (60 / c))).app B
 rw[h,show p+60+(n - p)=n+60 by omega]at this
 exact this
end
noncomputable def bk4 (m:Nat)(f:Nat->Nat->Int):Nat:=((ah m).map λ i=>((ah m).map λ j=>(f i j).toNat).sum).sum
theorem bt3 {l:List Nat}{f g:Nat->Nat}(h:∀ i∈l,f i<=g i):(l.map f).sum<=(l.map g).sum/\((l.map f).sum=(l.map g).sum->∀ i∈l,f i=g i):=by
 induction l with
 | nil=>exact⟨aj _,λ _ i y=>by cases y⟩
 | cons a l ih =>
  obtain⟨C,B⟩:=ih λ i y=>h i (aw _ y)
  have ha:=h a (aC ..)
  simp only[aH,j6]
  refine⟨by omega,λ e i y=>?_⟩
  rcases au.mp y with rfl|y
  ·omega
  ·exact B (by omega) i y
theorem bE1 {m:Nat}{f g:Nat->Nat->Int}(h0:∀ i j,i<m->j<m->0<=f i j)(h:∀ i j,i<m->j<m->f i j<=g i j):bk4 m f<=bk4 m g/\(bk4 m f=bk4 m g->EqG m f g):=by
 have row:∀ i,i<m->((ah m).map λ j=>(f i j).toNat).sum<=((ah m).map λ j=>(g i j).toNat).sum/\(((ah m).map λ j=>(f i j).toNat).sum=((ah m).map λ j=>(g i j).toNat).sum->∀ j∈ah m,(f i j).toNat=(g i j).toNat):=λ i y=>bt3 λ j hj=>by
  have:=h i j y (aU.mp hj)
  omega
 obtain⟨B,C⟩:=bt3 (l:=ah m) (f:=λ i=>((ah m).map λ j=>(f i j).toNat).sum) (g:=λ i=>((ah m).map λ j=>(g i j).toNat).sum) λ i y=>(row i (aU.mp y)).1
 refine⟨B,λ e i j y hj=>?_⟩
 have e1:=C e i (aU.mpr y)
 have e2:=(row i y).2 e1 j (aU.mpr hj)
 have:=h0 i j y hj
 have:=h i j y hj
 omega
theorem aC0 {l:List Nat}{f:Nat->Nat}{c:Nat}(h:∀ i∈l,f i<=c):(l.map f).sum<=l.length*c:=by
 induction l with
 | nil=>simp
 | cons a l ih =>
  have B:=ih λ i y=>h i (aw _ y)
  have C:=h a (aC ..)
  simp only[aH,j6,aQ,gb]
  omega
theorem bF0 {m:Nat}(B:m<=5){f:Nat->Nat->Int}(h:∀ i j,f i j<=3):bk4 m f<=75:=by
 have y:bk4 m f<=(ah m).length*15:=aC0 λ i _=>by
  have:((ah m).map λ j=>(f i j).toNat).sum<=(ah m).length*3:=aC0 λ j _=>by have:=h i j;omega
  rw[ci]at this
  omega
 rw[ci]at y
 omega
theorem aV0 {m:Nat}(hm:m<=5){f:Nat->Nat->Int}(h0:∀ i j,0<=f i j)(h3:∀ i j,f i j<=3):∃ M,M<=5000/\EqG m (pr m (pw m f M) (pw m f M)) (pw m f M):=by
 have J:=cp3 (m:=m) h3
 have p0:∀ n i j,i<m->j<m->0<=pw m f n i j:=λ n i j y hj=>by
  by_cases h:0<=pw m f n i j
  ·exact h
  ·obtain⟨w,w0,w1,w2,w3⟩:=(am0 (m:=m) (f:=f) (x:=-1) (by decide) n i j y hj).mp (by omega)
   have:=w3 0 (by omega)
   have:=h0 (w 0) (w (0+1))
   omega
 have Z:∀ t i j,i<m->j<m->pw m f (60*(t+1)+59) i j<=pw m f (60*t+59) i j:=λ t i j y hj=>by
  by_cases hx:pw m f (60*t+59) i j<3
  ·have:=(am0 hx _ i j y hj).mp (bH _)
   exact(am0 hx _ i j y hj).mpr (by
    have:=this.pump hm (by omega)
    rwa [show 60*t+59+1+60=60*(t+1)+59+1 by omega]at this)
  ·have:=J (60*(t+1)+59) i j
   omega
 have ex:∃ t,t<=75/\EqG m (pw m f (60*(t+1)+59)) (pw m f (60*t+59)):=by
  by_cases hne:∃ t,t<=75/\EqG m (pw m f (60*(t+1)+59)) (pw m f (60*t+59))
  ·exact hne
  ·have G:∀ t,t<=76->bk4 m (pw m f (60*t+59))+t<=75:=by
    intro t
    induction t with
    | zero=>intro _;exact bF0 hm (J _)
    | succ t ih =>
     intro ht
     have B:=ih (by omega)
     obtain⟨C,h4⟩:=bE1 (p0 (60*(t+1)+59)) (Z t)
     have:bk4 m (pw m f (60*(t+1)+59))≠bk4 m (pw m f (60*t+59)):=λ e=>hne ⟨t,by omega,h4 e⟩
     omega
   have:=G 76 (by omega)
   omega
 obtain⟨t,ht,he⟩:=ex
 refine⟨60*t+59,by omega,λ i j y hj=>?_⟩
 have same:∀ x,x<3->∀ i j,i<m->j<m->(Wlk m f x (60*(t+1)+60) i j↔Wlk m f x (60*(t+1)) i j):=λ x hx i j y hj=>by
  have B:=am0 (m:=m) (f:=f) hx (60*(t+1)+59) i j y hj
  have C:=am0 (m:=m) (f:=f) hx (60*t+59) i j y hj
  rw[he i j y hj]at B
  exact B.symm.trans C
 have Y:∀ x,x<3->∀ s i j,i<m->j<m->(Wlk m f x (60*(t+1)+60*s) i j↔Wlk m f x (60*(t+1)) i j):=λ x hx s=>by
  induction s with
  | zero=>intro i j _ _;exact Iff.rfl
  | succ s ih =>
   intro i j y hj
   rw[<-ih i j y hj]
   constructor
   ·intro h
    rw[show 60*(t+1)+60*(s+1)=(60*(t+1)+60)+60*s by omega]at h
    obtain⟨k,hk,B,C⟩:=h.split
    exact((same x hx i k y hk).mp B).app C
   ·intro h
    obtain⟨k,hk,B,C⟩:=h.split
    have:=((same x hx i k y hk).mpr B).app C
    rwa [show(60*(t+1)+60)+60*s=60*(t+1)+60*(s+1)by omega]at this
 refine bK0 ci9 (J _ i j) λ x hx=>?_
 rw[bJ4 hx,am0 hx _ i j y hj]
 have key:=Y x hx (t+1) i j y hj
 constructor
 ·rintro⟨l,hl,B,C⟩
  have:=((am0 hx _ i l y hl).mp B).app ((am0 hx _ l j hl hj).mp C)
  rw[show 60*t+59+1+(60*t+59+1)=60*(t+1)+60*(t+1)by omega]at this
  exact key.mp this
 ·intro h
  obtain⟨k,hk,B,C⟩:=(key.mpr h).split
  exact⟨k,hk,(am0 hx _ i k y hk).mpr B,(am0 hx _ k j hk hj).mpr C⟩
theorem ap6 {α:Type}{l:List α}{k:Nat}{x:α}(h:l[k]?=some x):l.take (k+1)=l.take k++[x]:=by
 rw[List.take_succ,h];rfl
noncomputable def TB:Int:=2^(2+104*99)
theorem jq {a b:Nat}(h:a<=b):(2:Int)^a<=2^b:=by
 have y:(2:Nat)^a<=2^b:=eA (by decide) h
 have:((2^a:Nat):Int)<=((2^b:Nat):Int):=by exact_mod_cast y
 simpa using this
theorem bt0 {v:Int}(h0:0<=v)(h:v<=TB+100000):v.natAbs<BIG:=by
 have y:TB+100000<2^11000:=by unfold TB;decide +kernel
 have B:(2:Nat)^11000<=BIG:=by unfold BIG;exact eA (by decide) (by decide)
 have h3:((2^11000:Nat):Int)=(2:Int)^11000:=by push_cast;rfl
 omega
theorem ck1 {c:Int}(h0:0<=c)(h:c<=2^103):c.natAbs<BIG:=bt0 h0 (bW h (by
 have:(2:Int)^103<=TB:=by unfold TB;exact jq (by omega)
 omega))
theorem bG9 {a b:Int}(h:a.natAbs<BIG)(y:b.natAbs<BIG):mulOk a b=true:=by
 unfold mulOk;simp[h,y]
section
variable {F:Fns} {ρ:Env} {s:Sto}
noncomputable def apV (F:Fns)(d:D)(l:List D)(s:Sto):R D:=match d with
 | .fn f=>F.call f l s
 | .clo id cs=>F.lam id cs l s
 | _=>.bad
theorem qL {i:Nat}{d:D}(es:Es)(h:ρ[i]?=some (some d)):ev F (.callV i es) ρ s=(evs F es ρ s).bind λ l s=>apV F d l s:=by
 show(evs F es ρ s).bind (λ l s=>match ρ[i]? with
  | some (some (.fn f))=>F.call f l s
  | some (some (.clo id cs))=>F.lam id cs l s
  | _=>.bad)=_
 rw[h]
 cases d<;>rfl
theorem qo {id:String}{y:List Nat}{cs:List D}(B:As)(h:ag7 ρ y=some cs):aq6 F (.lam id y B) ρ s=(aq6 F B ρ s).bind λ l s=>.ok (.clo id cs::l) s:=by
 show(match ag7 ρ y with
  | some cs=>(aq6 F B ρ s).bind λ l s=>R.ok (D.clo id cs::l) s
  | none=>.bad)=_
 rw[h]
end
theorem qA {s:Sto}{o:O}(h:s.all O.ncl=true)(ho:o.ncl=true):(s++[o]).all O.ncl=true:=by rw[i6,h];simp[ho]
noncomputable def Stp.t (c:Int):Stp->D
 | .sharp i=>.tup [.str [116,105,109,101,115],.int i,.int c]
 | x=>x.d
theorem bf7 {s:Sto}{o:O}(ho:o.bnd s.length=true):zN s (.ref s.length) (s++[o])=.ok (.ref s.length) (s++[o]):=by
 have:=aA0 (s:=s) (t:=[]) (u:=[]) ho
 simpa using this
noncomputable def gdD (m:Nat)(W:Nat->Nat->D):D:=.tup ((ah m).map λ i=>.tup ((ah m).map λ j=>W i j))
theorem ba5 {m:Nat}{W:Nat->Nat->D}(h:∀ i j n,(W i j).bnd n=true)(n:Nat):(gdD m W).bnd n=true:=by
 unfold gdD D.bnd
 refine zU (λ d hd n=>?_) n
 obtain⟨i,_,rfl⟩:=ay.mp hd
 unfold D.bnd
 refine zU (λ d hd n=>?_) n
 obtain⟨j,_,rfl⟩:=ay.mp hd
 exact h i j n
theorem jy {P : Pr} [Has P ad0] (n : Nat) {m : Nat} (hm : m <= 1000) {d : D} {s : Sto} {W : Nat -> Nat -> D} (hW : ∀ i j n, (W i j).bnd n = true)
    (h : ∀ i j, i < m -> j < m -> apV (aa1 P n) d [.int i, .int j] (s ++ [.lst ((ah i).map λ i => .tup ((ah m).map λ j => W i j))]) = .ok (W i j) (s ++ [.lst ((ah i).map λ i => .tup ((ah m).map λ j => W i j))])) :
    (aa1 P (n + 1)).call "grid" [.int m, d] s = .ok (gdD m W) s := by
  have e0 : (aa1 P (n + 1)).call "grid" [.int m, d] s = _ := zn ad0 (n := n) rfl
  rw[e0, show(bw some [D.int m, d] ++ am ad0.vs none) = [some (D.int m), some d, none, none]from rfl]
  simp -implicitDefEqProofs only[ad0]
  simp -implicitDefEqProofs only[za, zg, zS, ev_lst, zA, R.bind_ok, alloc_eq, zb, zG, zB, aE, zt, zh, ex_for, qB, zd, ze, zl]
  rw[qg (by unfold W62; omega) (by unfold W62; omega)]
  simp only[R.bind_ok]
  rw[R.bind_assoc]
  refine aN3 (λ i ρ t => ∃(x : Option D), ρ = [some (D.int m), some d, some (.ref s.length), x] /\ t = s ++ [.lst ((ah i).map λ i => .tup ((ah m).map λ j => W i j))]) ⟨none, rfl, rfl⟩ (λ _ _ _ _ _ => rfl) ?_ ?_
  · rintro i dd ρ t hi ⟨x, rfl, rfl⟩
    have hi5 := (jx hi).1
    rw[(jx hi).2]
    generalize hS : s ++ [O.lst ((ah i).map λ i => D.tup ((ah m).map λ j => W i j))] = S
    have e1 : jr (λ s1 => chk S s1 []) (ah7 (aa1 P n) (.one 0) (.callV 1 (.cons (.var 2) (.cons (.var 0) .nil)))) (ag8 0 (m : Int)) (qp [some (D.int m), some d, some (.ref s.length), some (.int (i : Int))] [none, some 1, some 3]) S = .ok ((ah m).map λ j => W i j) S := by
     obtain⟨ρ1, s1, e1, h1⟩ := aj2 (ok := λ s1 => chk S s1 []) (g := ah7 (aa1 P n) (.one 0) (.callV 1 (.cons (.var 2) (.cons (.var 0) .nil)))) (λ ρ u => u = S /\ ∃ x, ρ = [x, some d, some (.int i)]) (λ j => W i j) m (qp [some (D.int m), some d, some (.ref s.length), some (.int (i : Int))] [none, some 1, some 3]) S ⟨rfl, none, rfl⟩ (λ _ _ _ => rfl) (by
      rintro j hj ρ u ⟨rfl, x, rfl⟩
      refine⟨[some (.int j), some d, some (.int i)], u, ?_, rfl, _, rfl⟩
      have hc := h i j hi5 hj
      rw[hS]at hc
      unfold ah7
      simp -implicitDefEqProofs only[zb, zB]
      rw[qL (d := d) _ rfl]
      simp -implicitDefEqProofs only[zx, zA, zd, ze, zl, R.bind_ok, hc])
     obtain⟨rfl, _⟩ := h1
     exact e1
    have e2 : turn (aa1 P n) (.one 3) (.cons (.ex (.meth .append (.var 2) (.cons (.mk .tuple (.comp (.one 0) (.rng1 (.var 0)) (.callV 1 (.cons (.var 2) (.cons (.var 0) .nil))) [none, some 1, some 3])) .nil))) .nil) (.int i) [some (D.int m), some d, some (.ref s.length), x] S = .ok (.next [some (D.int m), some d, some (.ref s.length), some (.int i)]) (s ++ [.lst ((ah (i + 1)).map λ i => .tup ((ah m).map λ j => W i j))]) := by
      unfold turn
      simp -implicitDefEqProofs only[zb, zG, zB, aE, za, zg, ex_ex, qV, zx, zA, ev_mk, ai1, qB, zd, ze, zl, R.bind_ok]
      rw[qg (by unfold W62; omega) (by unfold W62; omega)]
      simp only[R.bind_ok]
      rw[if_pos (by rw[qC]; unfold LIM; omega), e1, <- hS]
      simp -implicitDefEqProofs only[R.bind_ok, mk]
      rw[ai4 (by unfold LIM; simp; omega), jE, bX]
      rfl
    rw[e2]
    show ∃ x, _
    exact⟨some (.int i), rfl, rfl⟩
  · rintro ρ t ⟨x, rfl, rfl⟩
    rw[qC]
    have h0 : (s ++ [O.lst ((ah m).map λ i => D.tup ((ah m).map λ j => W i j))])[s.length]? = some (.lst ((ah m).map λ i => D.tup ((ah m).map λ j => W i j))) := by rw[ax (aj _)]; simp
    simp -implicitDefEqProofs only[zh, za, zg, qt, ev_mk, evL_seq, zd, ze, zl, R.bind_ok, bf2, h0, mk, zR, zQ]
    exact qe (d := gdD m W) (ba5 hW) (by nofun)
def InG (m:Nat)(f:Nat->Nat->Int):Prop:=∀ i j,i<m->j<m->0<=f i j/\f i j<=3
theorem ja {m:Nat}(C:1<=m){f g:Nat->Nat->Int}(h:InG m f)(y:InG m g){i j:Nat}(B:i<m)(hj:j<m){x:Int}:pr m f g i j<=x↔∃ l,l<m/\f i l<=x/\g l j<=x:=by
 by_cases hx:x<3
 ·exact bJ4 hx
 ·refine⟨λ _=>⟨0,by omega,?_,?_⟩,λ _=>bW ci9 (by omega)⟩
  ·have:=h i 0 B (by omega);omega
  ·have:=y 0 j (by omega) hj;omega
theorem aN0 {m:Nat}(h:1<=m){f g:Nat->Nat->Int}(y:InG m f)(B:InG m g):EqG m (pr m f g) (L2.aH7 m f g):=λ i j C hj=>L2.ag6 λ x=>by
 rw[ja h y B C hj,L2.am6 h]
theorem aN2 {f:Nat->Nat->Int}{i j:Nat}{x:Int}:∀ k,shN f i j k<=x↔3<=x\/∃ l,l<k/\f i l<=x/\(if f l l=1 then 2 else f l l)<=x/\f l j<=x
 | 0=>by unfold shN;exact⟨.inl,λ h=>h.elim id λ⟨l,hl,_⟩=>absurd hl (dm _)⟩
 | k+1=>by
  have y:=aN2 (f:=f) (i:=i) (j:=j) (x:=x) k
  have key:shN f i j (k+1)<=x↔shN f i j k<=x\/(f i k<=x/\(if f k k=1 then 2 else f k k)<=x/\f k j<=x):=by
   conv=>lhs;unfold shN
   simp only
   generalize (if f k k=1 then(2:Int)else f k k)=z
   split<;>omega
  rw[key,y]
  constructor
  ·rintro((h|⟨l,h1,h2⟩)|h)
   ·exact .inl h
   ·exact .inr ⟨l,by omega,h2⟩
   ·exact .inr ⟨k,by omega,h⟩
  ·rintro(h|⟨l,h1,h2⟩)
   ·exact .inl (.inl h)
   ·by_cases e:l=k
    ·subst e;exact .inr h2
    ·exact .inl (.inr ⟨l,by omega,h2⟩)
theorem bu4 {y:Int}(h:0<=y)(h3:y<=3):(if y=1 then 2 else y)=L2.rnd y:=by
 unfold L2.rnd
 repeat' split
 all_goals omega
theorem ay6 {m:Nat}(G:1<=m){f:Nat->Nat->Int}(y:InG m f):EqG m (sh m f) (L2.sharp m f):=λ i j J hj=>L2.ag6 λ x=>by
 unfold sh
 rw[aN2,L2.af8 G]
 constructor
 ·rintro(h|⟨l,hl,B,C,h3⟩)
  ·refine⟨0,by omega,?_,?_,?_⟩
   ·have:=y i 0 J (by omega);omega
   ·have:=y 0 0 (by omega) (by omega)
    have:=(L2.bw6 this.1 this.2).2;omega
   ·have:=y 0 j (by omega) hj;omega
  ·exact⟨l,hl,B,by rw[<-bu4 (y l l hl hl).1 (y l l hl hl).2];exact C,h3⟩
 ·rintro⟨l,hl,B,C,h3⟩
  exact .inr ⟨l,hl,B,by rw[bu4 (y l l hl hl).1 (y l l hl hl).2];exact C,h3⟩
theorem aG9 {m:Nat}(h:1<=m){f g:Nat->Nat->Int}(B:InG m f)(y:InG m g):InG m (pr m f g):=λ i j C hj=>by
 rw[aN0 h B y i j C hj];exact L2.aK8 h B y C hj
theorem bL1 {m:Nat}(h:1<=m){f:Nat->Nat->Int}(B:InG m f):InG m (sh m f):=λ i j y hj=>by
 rw[ay6 h B i j y hj];exact L2.au9 h B i j y hj
theorem ak7 {x:Int}:∀(l:List Int) (a:Int),l.foldl min a<=x↔∃ y∈a::l,y<=x
 | [],a=>by simp
 | b::l,a=>by
  rw[cu,ak7 l]
  constructor
  ·rintro⟨y,hy,hx⟩
   rcases au.mp hy with rfl|hy
   ·by_cases h:a<=b
    ·exact⟨a,by simp,by omega⟩
    ·exact⟨b,by simp,by omega⟩
   ·exact⟨y,by simp[hy],hx⟩
  ·rintro⟨y,hy,hx⟩
   simp only[au]at hy
   rcases hy with rfl|rfl|hy
   ·exact⟨min y b,by simp,by omega⟩
   ·exact⟨min a y,by simp,by omega⟩
   ·exact⟨y,by simp[hy],hx⟩
theorem bD0 {l:List Int}{m x:Int}(h:minI l=some m):m<=x↔∃ y∈l,y<=x:=by
 cases l with
 | nil=>cases h
 | cons a l=>rw[<-ar (show some (l.foldl min a)=some m from h)];exact ak7 l a
theorem aS7 {l:List Nat}{f:Nat->Int}:qx (l.map λ k=>D.int (f k))=some (l.map f):=by
 induction l with
 | nil=>rfl
 | cons a l ih=>rw[aH];unfold qx;rw[ih];rfl
theorem bt1 {m:Nat}(h:1<=m){f:Nat->Int}{v:Int}(hv:∀ x,v<=x↔∃ k,k<m/\f k<=x)(s:Sto):mk .min ((ah m).map λ k=>D.int (f k)) s=.ok (.int v) s:=by
 obtain⟨w,hw⟩:∃ w,minI ((ah m).map f)=some w:=by
  obtain⟨m',rfl⟩:∃ m',m=m'+1:=⟨m - 1,by omega⟩
  rw[gj]
  exact⟨_,rfl⟩
 show(match(qx ((ah m).map λ k=>D.int (f k))).bind minI with|some m=>R.ok (D.int m) s|none=>.bad)=_
 rw[aS7]
 show(match minI ((ah m).map f)with|some m=>R.ok (D.int m) s|none=>.bad)=_
 rw[hw]
 have:w=v:=L2.ag6 λ x=>by
  rw[bD0 hw,hv]
  constructor
  ·rintro⟨y,hy,hx⟩
   obtain⟨k,hk,rfl⟩:=ay.mp hy
   exact⟨k,aU.mp hk,hx⟩
  ·rintro⟨k,hk,hx⟩
   exact⟨_,ay.mpr ⟨k,aU.mpr hk,rfl⟩,hx⟩
 rw[this]
section
variable {P:Pr} [Has P ad0] [Has P aa4] [HasL P aa2]
theorem zT (n:Nat){m:Nat}(B:1<=m)(G:m<=5){f g:Nat->Nat->Int}(hf:InG m f)(Y:InG m g){s:Sto}(hs:s.all O.ncl=true) :
  (aa1 P (n+3)).call "sign_product" [gd m f,gd m g] s=.ok (gd m (pr m f g)) s:=by
 have Z:(aa1 P (n+3)).call "sign_product" [gd m f,gd m g] s=_:=zn aa4 (n:=n+2) rfl
 have y:=jy (P:=P) (n+1) (m:=m) (by omega) (d:=.clo "sign_product.0" [.int m,gd m f,gd m g]) (s:=s) (W:=λ i j=>.int (pr m f g i j)) (λ _ _ _=>rfl) (λ i j C hj=>by
  generalize hS:s++[O.lst ((ah i).map λ i=>D.tup ((ah m).map λ j=>D.int (pr m f g i j)))]=S
  have J:S.all O.ncl=true:=by
   rw[<-hS]
   refine qA hs (zI λ d hd=>?_)
   obtain⟨x,_,rfl⟩:=ay.mp hd
   unfold D.ncl
   exact zI λ d hd=>by obtain⟨x,_,rfl⟩:=ay.mp hd;rfl
  refine(qM aa2 (n:=n) rfl rfl (by rw[J];simp[D.nclL,D.ncl,ar1])).trans ?_
  show(ev (aa1 P n) aa2.body [some (.int i),some (.int j),some (.int m),some (gd m f),some (gd m g)] S).bind (zN S)=_
  simp -implicitDefEqProofs only[aa2,ev_mk,ai1,qB,zd,ze,zl,R.bind_ok]
  rw[qg (by unfold W62;omega) (by unfold W62;omega)]
  simp only[R.bind_ok]
  rw[if_pos (by rw[qC];unfold LIM;omega)]
  obtain⟨ρ1,s1,e1,h⟩:=aj2 (ok:=λ s1=>chk S s1 []) (g:=ah7 (aa1 P n) (.one 0) (.bi .max2 (.cons (.ix (.ix (.var 1) (.var 2)) (.var 0)) (.cons (.ix (.ix (.var 3) (.var 0)) (.var 4)) .nil)))) (λ ρ u=>u=S/\∃ x,ρ=[x,some (gd m f),some (.int i),some (gd m g),some (.int j)]) (λ k=>.int (if g k j > f i k then g k j else f i k)) m (qp [some (.int i),some (.int j),some (.int m),some (gd m f),some (gd m g)] [none,some 3,some 0,some 4,some 1]) S ⟨rfl,none,rfl⟩ (λ _ _ _=>rfl) (by
   rintro k hk ρ u ⟨rfl,x,rfl⟩
   refine⟨[some (.int k),some (gd m f),some (.int i),some (gd m g),some (.int j)],u,?_,rfl,_,rfl⟩
   unfold ah7
   simp -implicitDefEqProofs only[zb,zB,ev_bi,zx,zA,ev_ix,zd,ze,zl,R.bind_ok,bc0 C,bc0 hk,aF2 hk,aF2 hj,bn4])
  obtain⟨rfl,_⟩:=h
  rw[e1]
  simp only[R.bind_ok]
  rw[bt1 (v:=pr m f g i j) B (λ x=>by
   rw[ja B hf Y C hj]
   constructor
   ·rintro⟨l,hl,h,h2⟩;exact⟨l,hl,by split<;>omega⟩
   ·rintro⟨l,hl,h⟩;exact⟨l,hl,by split at h<;>omega,by split at h<;>omega⟩)]
  exact zM)
 rw[Z,show(bw some [gd m f,gd m g]++am aa4.vs none)=[some (gd m f),some (gd m g),none]from rfl]
 simp -implicitDefEqProofs only[aa4,za,zg,zS,ev_bi,zx,zA,zd,ze,zl,R.bind_ok,aP6,zb,zG,zB,aE,zt,zh,qt,qz,zL]
 rw[qo (cs:=[.int m,gd m f,gd m g]) _ rfl]
 simp -implicitDefEqProofs only[zF,R.bind_ok,y]
 have e:gdD m (λ i j=>.int (pr m f g i j))=gd m (pr m f g):=rfl
 rw[e,if_pos (by rw[ar1,hs];rfl)]
 simp -implicitDefEqProofs only[R.bind_ok,zR,zQ]
 exact zo ai6 (by nofun)
end
def bv9 (m:Nat)(f:Nat->Nat->Int):Prop:=EqG m (pr m f f) f
section
variable {P:Pr} [Has P ad0] [Has P aa4] [HasL P aa2] [Has P ac0]
theorem al3 (n:Nat){m:Nat}(C:1<=m)(y:m<=5){f:Nat->Nat->Int}(B:InG m f){s:Sto}(hs:s.all O.ncl=true) :
  ∃ b:Bool,(aa1 P (n+4)).call "is_steady" [gd m f] s=.ok (.bl b) s/\(b=true↔bv9 m f):=by
 have G:(aa1 P (n+4)).call "is_steady" [gd m f] s=_:=zn ac0 (n:=n+3) rfl
 obtain⟨b,e,h⟩:=cg5 (s:=s) (m:=m) (f:=pr m f f) (g:=f)
 refine⟨b,?_,h⟩
 rw[G,show(bw some [gd m f]++am ac0.vs none)=[some (gd m f)]from rfl]
 simp -implicitDefEqProofs only[ac0,za,zg,qt,zJ,qc,zL,zF,zd,ze,R.bind_ok,zT n C y B B hs,e,zR,zQ]
 exact aN6
variable [Has P ac7] [Has P ac8] [HasL P ab3] [HasC P "FREE" (.int 0)] [HasC P "UNBOUND" (.int 2)] [HasC P "NONE" (.int 3)]
theorem aH2 {n:Nat}{x:String}{d:D}[HasC P x d](ρ:Env)(s:Sto):ev (aa1 P n) (.glob x) ρ s=.ok d s:=by
 show(match(aa1 P n).con x with|some d=>R.ok d s|none=>.bad)=_
 rw[aH4 (v:=d)]
theorem aJ9 (n:Nat)(x:Int)(s:Sto):(aa1 P (n+1)).call "round_of" [.int x] s=.ok (.int (L2.rnd x)) s:=by
 have B:(aa1 P (n+1)).call "round_of" [.int x] s=_:=zn ac7 (n:=n) rfl
 rw[B,show(bw some [D.int x]++am ac7.vs none)=[some (D.int x)]from rfl]
 have g1:=λ ρ s=>aH2 (P:=P) (n:=n) (x := "FREE") (d:=.int 0) ρ s
 have h:=λ ρ s=>aH2 (P:=P) (n:=n) (x := "NONE") (d:=.int 3) ρ s
 have y:=λ ρ s=>aH2 (P:=P) (n:=n) (x := "UNBOUND") (d:=.int 2) ρ s
 by_cases h0:x=0
 ·have e:L2.rnd x=x:=by unfold L2.rnd;rw[if_pos (.inl h0)]
  simp -implicitDefEqProofs only[ac7,za,zg,zX,ev_or,zJ,zd,ze,R.bind_ok,g1,qZ,h0,decide_true,zE,if_true,qt,zR,zQ]
  rw[<-h0,e];exact zM
 ·by_cases h3:x=3
  ·have e:L2.rnd x=x:=by unfold L2.rnd;rw[if_pos (.inr h3)]
   simp -implicitDefEqProofs only[ac7,za,zg,zX,ev_or,zJ,zd,ze,R.bind_ok,g1,h,qZ,h0,h3,decide_true,decide_false,aJ,if_false,zE,if_true,qt,zR,zQ]
   rw[<-h3,e]
   simp -implicitDefEqProofs only[show ¬((3:Int)=0)by decide,h3,decide_false,decide_true,aJ,if_false,if_true,zE,R.bind_ok,zR,zQ]
   exact zM
  ·have e:L2.rnd x=2:=by unfold L2.rnd;rw[if_neg (by omega)]
   simp -implicitDefEqProofs only[ac7,za,zg,zX,ev_or,zJ,zd,ze,R.bind_ok,g1,h,y,qZ,h0,h3,decide_false,aJ,if_false,zE,zh,qt,zR,zQ]
   rw[e];exact zM
theorem aE4 (n:Nat){m:Nat}(B:1<=m)(C:m<=5){f:Nat->Nat->Int}(hf:InG m f)(G:bv9 m f){s:Sto}(hs:s.all O.ncl=true) :
  (aa1 P (n+5)).call "sharpened" [gd m f] s=.ok (gd m (sh m f)) s:=by
 have e0:(aa1 P (n+5)).call "sharpened" [gd m f] s=_:=zn ac8 (n:=n+4) rfl
 obtain⟨b,eb,hb⟩:=al3 (P:=P) n B C hf hs
 have J:b=true:=hb.mpr G
 subst J
 have nL:(O.lst (row m λ k=>L2.rnd (f k k))).ncl=true:=bb7
 have y:(s++[O.lst (row m λ k=>L2.rnd (f k k))]).all O.ncl=true:=qA hs nL
 have gL:∀ t:Sto,(s++[O.lst (row m λ k=>L2.rnd (f k k))]++t)[s.length]?=some (.lst (row m λ k=>L2.rnd (f k k))):=λ t=>by rw[fj,ax (aj _)];simp
 have Y:=jy (P:=P) (n+3) (m:=m) (by omega) (d:=.clo "sharpened.0" [.int m,gd m f,.ref s.length]) (s:=s++[O.lst (row m λ k=>L2.rnd (f k k))]) (W:=λ i j=>.int (sh m f i j)) (λ _ _ _=>rfl) (λ i j Z hj=>by
  have g0:=gL [O.lst ((ah i).map λ i=>D.tup ((ah m).map λ j=>D.int (sh m f i j)))]
  generalize hS:s++[O.lst (row m λ k=>L2.rnd (f k k))]++[O.lst ((ah i).map λ i=>D.tup ((ah m).map λ j=>D.int (sh m f i j)))]=S at g0
  have nS:S.all O.ncl=true:=by
   rw[<-hS]
   refine qA y (zI λ d hd=>?_)
   obtain⟨x,_,rfl⟩:=ay.mp hd
   unfold D.ncl
   exact zI λ d hd=>by obtain⟨x,_,rfl⟩:=ay.mp hd;rfl
  refine(qM ab3 (n:=n+2) rfl rfl (by rw[nS];simp[D.nclL,D.ncl,ar1])).trans ?_
  show(ev (aa1 P (n+2)) ab3.body [some (.int i),some (.int j),some (.int m),some (gd m f),some (.ref s.length)] S).bind (zN S)=_
  simp -implicitDefEqProofs only[ab3,ev_mk,ai1,qB,zd,ze,zl,R.bind_ok]
  rw[qg (by unfold W62;omega) (by unfold W62;omega)]
  simp only[R.bind_ok]
  rw[if_pos (by rw[qC];unfold LIM;omega)]
  have e1:jr (λ s1=>chk S s1 []) (ah7 (aa1 P (n+2)) (.one 0) (.bi .max3 (.cons (.ix (.ix (.var 1) (.var 2)) (.var 0)) (.cons (.ix (.var 3) (.var 0)) (.cons (.ix (.ix (.var 1) (.var 0)) (.var 4)) .nil))))) (ag8 0 (m:Int)) (qp [some (.int i),some (.int j),some (.int m),some (gd m f),some (.ref s.length)] [none,some 3,some 0,some 4,some 1]) S=.ok ((ah m).map λ k=>.int (max (max (f i k) (L2.rnd (f k k))) (f k j))) S:=by
   obtain⟨ρ1,s1,e1,h⟩:=aj2 (ok:=λ s1=>chk S s1 []) (g:=ah7 (aa1 P (n+2)) (.one 0) (.bi .max3 (.cons (.ix (.ix (.var 1) (.var 2)) (.var 0)) (.cons (.ix (.var 3) (.var 0)) (.cons (.ix (.ix (.var 1) (.var 0)) (.var 4)) .nil))))) (λ ρ u=>u=S/\∃ x,ρ=[x,some (gd m f),some (.int i),some (.ref s.length),some (.int j)]) (λ k=>.int (max (max (f i k) (L2.rnd (f k k))) (f k j))) m (qp [some (.int i),some (.int j),some (.int m),some (gd m f),some (.ref s.length)] [none,some 3,some 0,some 4,some 1]) S ⟨rfl,none,rfl⟩ (λ _ _ _=>rfl) (by
    rintro k hk ρ u ⟨rfl,x,rfl⟩
    refine⟨[some (.int k),some (gd m f),some (.int i),some (.ref s.length),some (.int j)],u,?_,rfl,_,rfl⟩
    unfold ah7
    simp -implicitDefEqProofs only[zb,zB,ev_bi,zx,zA,ev_ix,zd,ze,zl,R.bind_ok,bc0 Z,bc0 hk,aF2 hk,aF2 hj,at0 g0 (aX5 hk),bk5])
   obtain⟨rfl,_⟩:=h
   exact e1
  rw[e1]
  simp only[R.bind_ok]
  rw[bt1 (v:=sh m f i j) B (λ x=>by
   rw[ay6 B hf i j Z hj,L2.af8 B]
   constructor
   ·rintro⟨l,hl,h,h2,h3⟩;exact⟨l,hl,by omega⟩
   ·rintro⟨l,hl,h⟩;exact⟨l,hl,by omega,by omega,by omega⟩)]
  exact zM)
 have er:jr (λ s1=>chk s s1 []) (ah7 (aa1 P (n+4)) (.one 0) (.call "round_of" (.ex (.ix (.ix (.var 1) (.var 0)) (.var 0)) .nil))) (ag8 0 (m:Int)) (qp [some (gd m f),some (.int m),none] [none,some 0]) s=.ok (row m λ k=>L2.rnd (f k k)) s:=by
  obtain⟨ρ1,s1,e1,h⟩:=aj2 (ok:=λ s1=>chk s s1 []) (g:=ah7 (aa1 P (n+4)) (.one 0) (.call "round_of" (.ex (.ix (.ix (.var 1) (.var 0)) (.var 0)) .nil))) (λ ρ u=>u=s/\∃ x,ρ=[x,some (gd m f)]) (λ k=>.int (L2.rnd (f k k))) m (qp [some (gd m f),some (.int m),none] [none,some 0]) s ⟨rfl,none,rfl⟩ (λ _ _ _=>rfl) (by
   rintro k hk ρ u ⟨rfl,x,rfl⟩
   refine⟨[some (.int k),some (gd m f)],u,?_,rfl,_,rfl⟩
   unfold ah7
   simp -implicitDefEqProofs only[zb,zB,qc,zL,zF,ev_ix,zd,ze,zl,R.bind_ok,bc0 hk,aF2 hk,aJ9 (n+3)])
  obtain⟨rfl,_⟩:=h
  exact e1
 rw[e0,show(bw some [gd m f]++am ac8.vs none)=[some (gd m f),none,none]from rfl]
 simp -implicitDefEqProofs only[ac8,za,zg,zX,ev_not,qc,zL,zF,zd,ze,zl,R.bind_ok,eb,zE,j1,if_false,aJ,zh,zS,ev_bi,zx,zA,aP6,zb,zG,zB,aE,zt,ev_mk,ai1,qB]
 rw[qg (by unfold W62;omega) (by unfold W62;omega)]
 simp only[R.bind_ok]
 rw[if_pos (by rw[qC];unfold LIM;omega),er]
 simp -implicitDefEqProofs only[R.bind_ok,mk,alloc_eq,zt,zh,zb,zG,zB,aE,za,zg,qt,qz,zL,zd,ze,zl]
 rw[qo (cs:=[.int m,gd m f,.ref s.length]) _ rfl]
 simp -implicitDefEqProofs only[zF,R.bind_ok,Y]
 have e:gdD m (λ i j=>.int (sh m f i j))=gd m (sh m f):=rfl
 rw[e,if_pos (by rw[ar1,y];rfl)]
 simp -implicitDefEqProofs only[R.bind_ok,zR,zQ]
 exact qe ai6 (by nofun)
end
theorem pw_in {m:Nat}(y:1<=m){f:Nat->Nat->Int}(h:InG m f):∀ n,InG m (pw m f n)
 | 0=>h
 | n+1=>aG9 y (pw_in y h n) h
theorem EqG.pr {m:Nat}{f h g g':Nat->Nat->Int}(y:EqG m f h)(B:EqG m g g'):EqG m (DV.pr m f g) (DV.pr m h g'):=λ i j C hj=>by
 have key:∀ k,k<=m->prN f g i j k=prN h g' i j k:=λ k=>by
  induction k with
  | zero=>intro _;rfl
  | succ k ih=>intro hk;unfold prN;rw[y i k C (by omega),B k j (by omega) hj,ih (by omega)]
 exact key m (aj _)
section
variable {P:Pr} [Has P ad0] [Has P aa4] [HasL P aa2] [Has P ac0] [Has P aa8]
theorem aR5 {F:Fns}{ρ ρ':Env}{s:Sto}{i:Nat}{a b:Int}{e:E}(h:aK3 ρ i s=.ok (.int a) s)(B:ev F e ρ s=.ok (.int b) s)(h3:au3 ρ i (.int (a+b))=some ρ'):ex F (.aug i e) ρ s=.ok (.next ρ') s:=by
 show(aK3 ρ i s).bind (λ x s=>(ev F e ρ s).bind λ y s=>match x,y with
  | .int a,.int b=>match au3 ρ i (.int (a+b))with|some ρ=>R.ok (Ct.next ρ) s|none=>.bad
  | _,_=>.bad)=_
 rw[h]
 simp only[R.bind_ok]
 rw[B]
 simp only[R.bind_ok]
 rw[h3]
end
section
variable {P:Pr} [Has P af0]
variable [Has P aI0]
end
section
variable {m:Nat} (hm:1<=m) {g:Nat->Nat->Int} (hg:InG m g) (hst:bv9 m g)
include hm hg hst
theorem bc3:L2.Std m g:=λ i j h hj=>by rw[<-aN0 hm hg hg i j h hj];exact hst i j h hj
theorem bC3 {i j:Nat}(h:i<m)(hj:j<m):g i j<=sh m g i j/\(sh m g i j=0↔g i j=0)/\(sh m g i j=3↔g i j=3):=by
 rw[ay6 hm hg i j h hj]
 exact⟨L2.av1 hm (bc3 hm hg hst) h hj,L2.aQ6 hm hg (bc3 hm hg hst) h hj,L2.aK1 hm hg (bc3 hm hg hst) h hj⟩
end
theorem aL9 {l:List Nat}{f g:Nat->D}:az4 (l.map f) (l.map g)=l.map λ i=>.tup [f i,g i]:=by
 induction l with
 | nil=>rfl
 | cons a l ih=>rw[aH,aH,aH];unfold az4;rw[ih]
theorem bm6 {a b:Bool}{s:Sto}:qJ .ne (.bl a) (.bl b) s=.ok (.bl (!(a==b))) s:=rfl
theorem bx1 {m:Nat}{f:Nat->Nat->Int}{s:Sto}:ah6 (gd m f) s=.ok ⟨(ah m).map λ i=>.tup (row m (f i)),[]⟩ s:=rfl
theorem bm1 {m:Nat}{f:Nat->Int}{s:Sto}:ah6 (.tup (row m f)) s=.ok ⟨(ah m).map λ j=>.int (f j),[]⟩ s:=rfl
theorem aD6 {m j:Nat}{f:Nat->D}{d:D}(h:((ah m).map f)[j]?=some d):j<m/\d=f j:=by
 have hj:=(ae.mp h).1
 simp at hj
 rw[aF,bI hj]at h
 exact⟨hj,(ar h).symm⟩
section
variable {P:Pr} [Has P af0] [Has P ad0] [Has P aa4] [HasL P aa2] [Has P ac0] [Has P ac7] [Has P ac8] [HasL P ab3] [HasC P "FREE" (.int 0)] [HasC P "UNBOUND" (.int 2)] [HasC P "NONE" (.int 3)] [Has P aa8] [Has P aH6] [Has P bJ8]
variable [Has P ap5] [Has P aI0] [Has P bb1]
end
theorem jh {P:Pr}{n:Nat}{x:String}{d:D}[HasC P x d](ρ:Env)(s:Sto):ev (aa1 P n) (.glob x) ρ s=.ok d s:=by
 show(match(aa1 P n).con x with|some d=>R.ok d s|none=>.bad)=_
 rw[aH4 (v:=d)]
noncomputable def un (i j:Nat):Int:=if i=j then 0 else 3
noncomputable def qw (m:Nat)(f:Nat->Nat->Int):Nat->Nat->Nat->Int
 | 0=>un
 | n+1=>pr m (qw m f n) f
section
variable {m:Nat} (hm:1<=m)
theorem by9:InG m un:=λ i j _ _=>by unfold un;split<;>decide
include hm
theorem ax1 {f:Nat->Nat->Int}(h:InG m f):∀ n,InG m (qw m f n)
 | 0=>by9
 | n+1=>aG9 hm (ax1 h n) h
theorem bj2 {f g h:Nat->Nat->Int}(G:InG m f)(y:InG m g)(B:InG m h):EqG m (pr m (pr m f g) h) (pr m f (pr m g h)):=λ i j C hj=>L2.ag6 λ x=>by
 rw[ja hm (aG9 hm G y) B C hj,ja hm G (aG9 hm y B) C hj]
 constructor
 ·rintro⟨l,hl,Y,Z⟩
  obtain⟨k,hk,h3,J⟩:=(ja hm G y C hl).mp Y
  exact⟨k,hk,h3,(ja hm y B hk hj).mpr ⟨l,hl,J,Z⟩⟩
 ·rintro⟨k,hk,h3,J⟩
  obtain⟨l,hl,Y,Z⟩:=(ja hm y B hk hj).mp J
  exact⟨l,hl,(ja hm G y C hl).mpr ⟨k,hk,h3,Y⟩,Z⟩
theorem ce8 {f:Nat->Nat->Int}(y:InG m f):EqG m (pr m f un) f:=λ i j B hj=>L2.ag6 λ x=>by
 rw[ja hm y by9 B hj]
 constructor
 ·rintro⟨l,hl,G,C⟩
  unfold un at C
  split at C
  ·rename_i e;subst e;exact G
  ·have:=(y i j B hj).2;omega
 ·intro h
  exact⟨j,hj,h,by unfold un;rw[if_pos rfl];have:=(y i j B hj).1;omega⟩
theorem bG8 {f:Nat->Nat->Int}(B:InG m f):EqG m (pr m un f) f:=λ i j y hj=>L2.ag6 λ x=>by
 rw[ja hm by9 B y hj]
 constructor
 ·rintro⟨l,hl,C,G⟩
  unfold un at C
  split at C
  ·rename_i e;subst e;exact G
  ·have:=(B i j y hj).2;omega
 ·intro h
  exact⟨i,y,by unfold un;rw[if_pos rfl];have:=(B i j y hj).1;omega,h⟩
theorem bs2 {f:Nat->Nat->Int}(h:InG m f)(a:Nat):∀ b,EqG m (pr m (qw m f a) (qw m f b)) (qw m f (a+b))
 | 0=>ce8 hm (ax1 hm h a)
 | b+1=>λ i j y hj=>by
  show pr m (qw m f a) (pr m (qw m f b) f) i j=pr m (qw m f (a+b)) f i j
  rw[<-bj2 hm (ax1 hm h a) (ax1 hm h b) h i j y hj]
  exact EqG.pr (bs2 h a b) (λ _ _ _ _=>rfl) i j y hj
theorem bV9 {f:Nat->Nat->Int}(h:InG m f):∀ n,EqG m (qw m f (n+1)) (pw m f n)
 | 0=>bG8 hm h
 | n+1=>EqG.pr (bV9 h n) λ _ _ _ _=>rfl
end
theorem bz3 {m:Nat}(hm1:1<=m)(G:m<=5){f:Nat->Nat->Int}(C:InG m f):∃ M,M<=5000/\bv9 m (pw m f M):=by
 obtain⟨M,J,h⟩:=aV0 (m:=m) G (f:=λ i j=>if i<m/\j<m then f i j else 0) (λ i j=>by
  show 0<=(if i<m/\j<m then f i j else 0)
  split
  ·rename_i h;exact(C i j h.1 h.2).1
  ·decide) (λ i j=>by
  show(if i<m/\j<m then f i j else 0)<=3
  split
  ·rename_i h;exact(C i j h.1 h.2).2
  ·decide)
 have e:EqG m (λ i j=>if i<m/\j<m then f i j else 0) f:=λ i j y hj=>if_pos ⟨y,hj⟩
 have B:∀ n,EqG m (pw m (λ i j=>if i<m/\j<m then f i j else 0) n) (pw m f n):=λ n=>by
  induction n with
  | zero=>exact e
  | succ n ih=>exact EqG.pr ih e
 refine⟨M,J,λ i j y hj=>?_⟩
 rw[<-B M i j y hj,<-h i j y hj]
 exact(EqG.pr (B M) (B M) i j y hj).symm
section
variable {P:Pr} [Has P ad0] [Has P ab7] [HasL P aa7] [HasC P "FREE" (.int 0)] [HasC P "NONE" (.int 3)]
theorem as4 (n:Nat){m:Nat}(C:m<=5){s:Sto}(hs:s.all O.ncl=true) :
  (aa1 P (n+3)).call "plain_signs" [.int m] s=.ok (gd m un) s:=by
 have J:(aa1 P (n+3)).call "plain_signs" [.int m] s=_:=zn ab7 (n:=n+2) rfl
 have g1:=λ ρ s=>jh (P:=P) (n:=n) (x := "FREE") (d:=.int 0) ρ s
 have G:=λ ρ s=>jh (P:=P) (n:=n) (x := "NONE") (d:=.int 3) ρ s
 have y:=jy (P:=P) (n+1) (m:=m) (by omega) (d:=.clo "plain_signs.0" []) (s:=s) (W:=λ i j=>.int (un i j)) (λ _ _ _=>rfl) (λ i j Y hj=>by
  generalize hS:s++[O.lst ((ah i).map λ i=>D.tup ((ah m).map λ j=>D.int (un i j)))]=S
  have B:S.all O.ncl=true:=by
   rw[<-hS]
   refine qA hs (zI λ d hd=>?_)
   obtain⟨x,_,rfl⟩:=ay.mp hd
   unfold D.ncl
   exact zI λ d hd=>by obtain⟨x,_,rfl⟩:=ay.mp hd;rfl
  refine(qM aa7 (n:=n) rfl rfl (by rw[B];rfl)).trans ?_
  show(ev (aa1 P n) aa7.body [some (.int i),some (.int j)] S).bind (zN S)=_
  by_cases h:(i:Int)=(j:Int)
  ·have e:un i j=0:=by unfold un;rw[if_pos (by omega)]
   simp -implicitDefEqProofs only[aa7,ev_ite,zJ,zd,ze,zl,R.bind_ok,qZ,h,decide_true,zE,if_true,g1]
   rw[e];exact zM
  ·have e:un i j=3:=by unfold un;rw[if_neg (by omega)]
   simp -implicitDefEqProofs only[aa7,ev_ite,zJ,zd,ze,zl,R.bind_ok,qZ,h,decide_false,zE,if_false,aJ,G]
   rw[e];exact zM)
 rw[J,show(bw some [D.int m]++am ab7.vs none)=[some (.int m)]from rfl]
 simp -implicitDefEqProofs only[ab7,za,zg,zd,ze,R.bind_ok,qt,qz,zL]
 rw[qo (cs:=[]) _ rfl]
 simp -implicitDefEqProofs only[zF,R.bind_ok,y]
 have e:gdD m (λ i j=>.int (un i j))=gd m un:=rfl
 rw[e,if_pos (by rw[ar1,hs];rfl)]
 simp -implicitDefEqProofs only[R.bind_ok,zR,zQ]
 exact zo ai6 (by nofun)
variable [Has P ac3] [Has P aa4] [HasL P aa2]
theorem aX9 (n:Nat){m:Nat}(C:1<=m)(Y:m<=5){f:Nat->Nat->Int}(J:InG m f){s:Sto}(hs:s.all O.ncl=true)(many:Nat) :
  (aa1 P (n+4)).call "raised" [gd m f,.int many,gd m un,.fn "sign_product"] s=.ok (gd m (qw m f many)) s:=by
 have e0:(aa1 P (n+4)).call "raised" [gd m f,.int many,gd m un,.fn "sign_product"] s=_:=zn ac3 (n:=n+3) rfl
 have key:∀ a b,apV (aa1 P (n+3)) (.fn "sign_product") [gd m (qw m f a),gd m (qw m f b)] s=.ok (gd m (qw m f (a+b))) s:=λ a b=>by
  show(aa1 P (n+3)).call "sign_product" _ _=_
  rw[zT n C Y (ax1 C J a) (ax1 C J b) hs,av0 (bs2 C J a b)]
 have h1:gd m f=gd m (qw m f 1):=av0 λ i j hi hj=>(bG8 C J i j hi hj).symm
 rw[e0,h1,show(bw some [gd m (qw m f 1),.int many,gd m un,.fn "sign_product"]++am ac3.vs none)=[some (gd m (qw m f 1)),some (.int many),some (gd m un),some (.fn "sign_product"),none,none,none]from rfl]
 simp -implicitDefEqProofs only[ac3]
 simp -implicitDefEqProofs only[za,zg,zS,zd,ze,zl,R.bind_ok,zb,zG,zB,aE,zt,zh,ex_whl]
 rw[R.bind_assoc]
 refine aw5 (λ k ρ t=>∃(a b left:Nat),left=k/\a+b*left=many/\ρ=[some (gd m (qw m f 1)),some (.int many),some (gd m un),some (.fn "sign_product"),some (gd m (qw m f a)),some (gd m (qw m f b)),some (.int left)]/\t=s) (λ ρ t=>∃(b:Nat) (x:Option D),ρ=[some (gd m (qw m f 1)),some (.int many),some (gd m un),some (.fn "sign_product"),some (gd m (qw m f many)),some (gd m (qw m f b)),x]/\t=s) many ⟨0,1,many,rfl,by omega,rfl,rfl⟩ ?_ ?_
 ·rintro k ρ t ⟨a,b,left,rfl,hab,rfl,rfl⟩
  simp -implicitDefEqProofs only[zJ,zd,zC,zD,ze,zl,R.bind_ok,gt_int,bg4]
  by_cases hl:(0:Int)<(left:Int)
  ·simp only[hl,decide_true,if_true]
   have h:qK .fdiv (.int left) (.int 2) t=.ok (.int ((left / 2:Nat):Int)) t:=by rw[ah9 (by decide) (by decide)];simp
   have B:qK .mod (.int left) (.int 2) t=.ok (.int ((left % 2:Nat):Int)) t:=by rw[qW (by decide)];simp
   obtain⟨y,ha',e1⟩:∃ y:Nat,y+b*(2*(left / 2))=many/\ex (aa1 P (n+3)) (.ite (.cmp .eq (.bin .mod (.var 6) (.cst (.int 2))) (.cst (.int 1))) (.cons (.asg (.one 4) (.callV 3 (.cons (.var 4) (.cons (.var 5) .nil)))) .nil) .nil) [some (gd m (qw m f 1)),some (.int many),some (gd m un),some (.fn "sign_product"),some (gd m (qw m f a)),some (gd m (qw m f b)),some (.int left)] t=.ok (.next [some (gd m (qw m f 1)),some (.int many),some (gd m un),some (.fn "sign_product"),some (gd m (qw m f y)),some (gd m (qw m f b)),some (.int left)]) t:=by
    by_cases ho:((left % 2:Nat):Int)=1
    ·refine⟨a+b,?_,?_⟩
     ·have:left=2*(left / 2)+1:=by omega
      rw[this,fv]at hab
      have e2:2*((2*(left / 2)+1) / 2)=2*(left / 2):=by omega
      omega
     ·simp -implicitDefEqProofs only[zX,zJ,qd,zd,zC,zD,ze,zl,R.bind_ok,B,qZ,ho,decide_true,zE,if_true,za,zg,zS]
      rw[qL (d:=.fn "sign_product") _ rfl]
      simp -implicitDefEqProofs only[zx,zA,zd,ze,zl,R.bind_ok,key a b,zb,zG,zB,aE,zt,zh,zg]
    ·refine⟨a,?_,?_⟩
     ·have:left=2*(left / 2):=by omega
      rw[<-this];exact hab
     ·simp -implicitDefEqProofs only[zX,zJ,qd,zd,zC,zD,ze,zl,R.bind_ok,B,qZ,ho,decide_false,zE,if_false,aJ,zg]
   have e2:∃ G:Nat,y+G*(left / 2)=many/\exs (aa1 P (n+3)) (.cons (.asg (.one 6) (.bin .fdiv (.var 6) (.cst (.int 2)))) (.cons (.ite (.cmp .gt (.var 6) (.cst (.int 0))) (.cons (.asg (.one 5) (.callV 3 (.cons (.var 5) (.cons (.var 5) .nil)))) .nil) .nil) .nil)) [some (gd m (qw m f 1)),some (.int many),some (gd m un),some (.fn "sign_product"),some (gd m (qw m f y)),some (gd m (qw m f b)),some (.int left)] t=.ok (.next [some (gd m (qw m f 1)),some (.int many),some (gd m un),some (.fn "sign_product"),some (gd m (qw m f y)),some (gd m (qw m f G)),some (.int ((left / 2:Nat):Int))]) t:=by
    by_cases hl2:(0:Int)<((left / 2:Nat):Int)
    ·refine⟨b+b,?_,?_⟩
     ·rw[<-ha',Nat.add_mul,<-fL,gf b 2,fL];omega
     ·simp -implicitDefEqProofs only[za,zS,qd,zd,zC,zD,ze,zl,R.bind_ok,h,zb,zG,zB,aE,zt,zh,zX,zJ,gt_int,hl2,decide_true,zE,if_true,zg]
      rw[qL (d:=.fn "sign_product") _ rfl]
      simp -implicitDefEqProofs only[zx,zA,zd,ze,zl,R.bind_ok,key b b,zb,zG,zB,aE,zt,zh,zg]
    ·refine⟨b,?_,?_⟩
     ·have:left / 2=0:=by omega
      rw[this]at ha' ⊢
      exact ha'
     ·simp -implicitDefEqProofs only[za,zS,qd,zd,zC,zD,ze,zl,R.bind_ok,h,zb,zG,zB,aE,zt,zh,zX,zJ,gt_int,hl2,decide_false,zE,if_false,aJ,zg]
   obtain⟨G,Z,e2⟩:=e2
   have e3:exs (aa1 P (n+3)) (.cons (.ite (.cmp .eq (.bin .mod (.var 6) (.cst (.int 2))) (.cst (.int 1))) (.cons (.asg (.one 4) (.callV 3 (.cons (.var 4) (.cons (.var 5) .nil)))) .nil) .nil) (.cons (.asg (.one 6) (.bin .fdiv (.var 6) (.cst (.int 2)))) (.cons (.ite (.cmp .gt (.var 6) (.cst (.int 0))) (.cons (.asg (.one 5) (.callV 3 (.cons (.var 5) (.cons (.var 5) .nil)))) .nil) .nil) .nil))) [some (gd m (qw m f 1)),some (.int many),some (gd m un),some (.fn "sign_product"),some (gd m (qw m f a)),some (gd m (qw m f b)),some (.int left)] t=.ok (.next [some (gd m (qw m f 1)),some (.int many),some (gd m un),some (.fn "sign_product"),some (gd m (qw m f y)),some (gd m (qw m f G)),some (.int ((left / 2:Nat):Int))]) t:=by
    rw[za,e1,R.bind_ok,zh,e2]
   rw[e3]
   exact⟨left / 2,by omega,y,G,left / 2,rfl,Z,rfl,rfl⟩
  ·simp only[hl,decide_false,if_false,aJ]
   have h0:left=0:=by omega
   subst h0
   have:a=many:=by omega
   subst this
   exact⟨b,_,rfl,trivial⟩
 ·rintro ρ t ⟨b,x,rfl,rfl⟩
  simp -implicitDefEqProofs only[zh,za,zg,qt,zd,ze,zl,R.bind_ok,zR,zQ]
  exact zo ai6 (by nofun)
variable [Has P ac2] [HasC P "sign_product" (.fn "sign_product")]
theorem aj3 (n:Nat){m:Nat}(y:1<=m)(h:m<=5){f:Nat->Nat->Int}(B:InG m f){s:Sto}(hs:s.all O.ncl=true)(many:Nat) :
  (aa1 P (n+5)).call "sign_power" [gd m f,.int many] s=.ok (gd m (qw m f many)) s:=by
 have C:(aa1 P (n+5)).call "sign_power" [gd m f,.int many] s=_:=zn ac2 (n:=n+4) rfl
 have e1:(aa1 P (n+4)).call "plain_signs" [.int m] s=_:=as4 (P:=P) (n+1) h hs
 have g1:=λ ρ s=>jh (P:=P) (n:=n+4) (x := "sign_product") (d:=.fn "sign_product") ρ s
 rw[C,show(bw some [gd m f,D.int many]++am ac2.vs none)=[some (gd m f),some (.int many)]from rfl]
 simp -implicitDefEqProofs only[ac2,za,zg,qt,qc,zL,zF,zd,ev_bi,zx,zA,ze,zl,R.bind_ok,aP6,e1,g1,aX9 n y h B hs,zR,zQ]
 exact zo ai6 (by nofun)
end
section
variable {P:Pr} [Has P qh] [Has P aA6] [Has P aV2]
end
section
variable {P:Pr} [Has P ap5] [Has P af0] [Has P aI0] [Has P bs5] [Has P qh] [Has P aA6] [Has P aV2] [Has P bz1] [Has P aW0] [Has P ad0] [Has P ac3] [Has P ab7] [HasL P aa7] [Has P aa4] [HasL P aa2] [Has P ac2] [HasC P "FREE" (.int 0)] [HasC P "NONE" (.int 3)] [HasC P "sign_product" (.fn "sign_product")]
end
noncomputable def ag5 (S:Int->Prop):Option Int->Prop
 | none=>∀ c,¬ S c
 | some c=>S c/\∀ c',S c'->c<=c'
theorem ag5.eq {S B:Int->Prop}{o y:Option Int}(h:ag5 S o)(h':ag5 B y)(e:∀ c,S c↔B c):o=y:=by
 cases o with
 | none =>
  cases y with
  | none=>rfl
  | some c=>exact absurd ((e c).mpr h'.1) (h c)
 | some c =>
  cases y with
  | none=>exact absurd ((e c).mp h.1) (h' c)
  | some c' =>
   have C:=h.2 c' ((e c').mpr h'.1)
   have G:=h'.2 c ((e c).mp h.1)
   rw[show c=c' by omega]
theorem ag5.congr {S y:Int->Prop}{o:Option Int}(h:ag5 S o)(e:∀ c,S c↔y c):ag5 y o:=by
 cases o with
 | none=>exact λ c hc=>h c ((e c).mpr hc)
 | some c=>exact⟨(e c).mp h.1,λ B hc=>h.2 B ((e B).mpr hc)⟩
noncomputable def minO:Option Int->Option Int->Option Int
 | none,x=>x
 | some a,none=>some a
 | some a,some b=>if b<a then some b else some a
noncomputable def Wk (ds:List Dr):List Nat->Nat->Nat->Int->Prop
 | [],p,q,c=>p=q/\c=0
 | x::w,p,q,c=>∃ d∈ds,d.a=p/\d.l=x/\∃ c':Int,Wk ds w d.b q c'/\c=(d.t:Int)+c'
noncomputable def Dr.turn (x:Dr):Dr:=⟨x.b,x.l,x.a,x.t⟩
def Mc.Wk (m:Mc)(w:List Nat)(c:Int):Prop:=∃ p∈m.bg,∃ q∈m.en,DV.Wk m.ds w p q c
noncomputable def Mc.turn (m:Mc):Mc:=⟨m.L,m.R,m.en,m.bg,m.ds.map Dr.turn⟩
noncomputable def aS6 (row:List (Option Int)):List D:=row.map qu
theorem bk8 (row:List (Option Int)):(aS6 row).length=row.length:=aG ..
theorem at9:∀ l:List Int,qx (l.map D.int)=some l
 | []=>rfl
 | a::l=>by rw[aH];unfold qx;rw[at9 l];rfl
theorem aB2:∀(l:List Int) (a:Int),(l.foldl min a=a\/l.foldl min a∈l)/\l.foldl min a<=a/\∀ y∈l,l.foldl min a<=y
 | [],a=>⟨.inl rfl,bH _,λ y hy=>by cases hy⟩
 | b::l,a=>by
  obtain⟨B,C,h3⟩:=aB2 l (min a b)
  rw[cu]
  refine⟨?_,by omega,λ y hy=>?_⟩
  ·rcases B with h|h
   ·rw[h]
    rcases kj a b with z|z
    ·left;omega
    ·right;rw[show min a b=b by omega];exact aC ..
   ·exact .inr (aw _ h)
  ·rcases au.mp hy with z|z
   ·rw[z];omega
   ·exact h3 y z
theorem aR6 (l:List Int):ag5 (λ c=>c∈l) (minI l):=by
 cases l with
 | nil=>exact λ c hc=>by cases hc
 | cons a l =>
  obtain⟨B,C,h3⟩:=aB2 l a
  refine⟨?_,λ y hy=>?_⟩
  ·rcases B with h|h
   ·rw[h];exact aC ..
   ·exact aw _ h
  ·rcases au.mp hy with z|z
   ·rw[z];exact C
   ·exact h3 y z
theorem bA3 (l:List Int)(s:Sto):mkD .min (l.map D.int) .non s=.ok (qu (minI l)) s:=by
 unfold mkD
 simp only[at9]
 cases minI l<;>rfl
theorem al5 {α β:Type}{f g:α->Option β}:∀ {l:List α},(∀ x∈l,f x=g x)->l.filterMap f=l.filterMap g
 | [],_=>rfl
 | a::l,h=>by rw[bv,bv,h a (aC ..),al5 λ x hx=>h x (aw _ hx)]
end DV
end
local macro_rules | `(tactic| tbr_iter [$xs,*]) => `(tactic| simp -implicitDefEqProofs only [DV.za, DV.zg, DV.zS, DV.zX, DV.qt, DV.ex_ex, DV.ex_for, DV.ex_whl, DV.ex_setIx, DV.ex_cont, DV.ex_pass, DV.ex_und, DV.zd, DV.zC, DV.qd, DV.ev_not, DV.zJ, DV.ev_and, DV.ev_or, DV.ev_ite, DV.ev_tup, DV.ev_lst, DV.ev_ix, DV.qc, DV.ev_bi, DV.ev_mk, DV.ev_mkD, DV.ev_mks, DV.ev_mkDs, DV.qV, DV.ev_isN, DV.ev_notN, DV.zA, DV.zx, DV.zF, DV.zL, DV.evI_seq, DV.qB, DV.evL_seq, DV.Cn_bl, DV.zD, DV.Cn_non, DV.Cn_str, DV.R.bind_ok, DV.zb, DV.bindT_tup, DV.setVs_nil, DV.setVs_cons, DV.zG, DV.zB, DV.unsetV_s, DV.unsetV_0, DV.ze, DV.zl, Option.map_some, Option.bind_some, DV.zt, DV.zh, DV.zR, DV.nxt_cont, DV.zQ, DV.fin_next, DV.add_int, DV.sub_int, DV.lt_int, DV.le_int, DV.gt_int, DV.ge_int, DV.qZ, DV.ne_int, DV.alloc_eq, DV.zE, if_true, if_false, Bool.false_eq_true, decide_true, decide_false, Bool.not_true, Bool.not_false, $[$xs:term],*])
noncomputable section
namespace DV
noncomputable def gdO (m:Nat)(f:Nat->Nat->Option Int):D:=gdD m λ i j=>qu (f i j)
theorem an2 (o:Option Int):(qu o).ncl=true:=by cases o<;>rfl
theorem aq9 {m:Nat}{f:Nat->Nat->Option Int}(n:Nat):(gdO m f).bnd n=true:=ba5 (λ i j n=>qX _ n) n
theorem jz {m:Nat}{f:Nat->Nat->Option Int}:(gdO m f).ncl=true:=by
 unfold gdO gdD D.ncl
 refine zI λ d hd=>?_
 obtain⟨i,_,rfl⟩:=ay.mp hd
 unfold D.ncl
 refine zI λ d hd=>?_
 obtain⟨j,_,rfl⟩:=ay.mp hd
 exact an2 _
noncomputable def rowO (m:Nat)(f:Nat->Option Int):List D:=(ah m).map λ j=>qu (f j)
theorem bn5 {m j:Nat}{f:Nat->Option Int}(h:j<m):(rowO m f)[j]?=some (qu (f j)):=by unfold rowO;rw[aF,bI h];rfl
theorem aY9 {m i:Nat}{f:Nat->Nat->Option Int}(h:i<m)(s:Sto):ixM (gdO m f) (.int (i:Int)) s=.ok (.tup (rowO m (f i))) s:=ix_tup (by rw[aF,bI h];rfl)
theorem aJ5 {m j:Nat}{f:Nat->Option Int}(h:j<m)(s:Sto):ixM (.tup (rowO m f)) (.int (j:Int)) s=.ok (qu (f j)) s:=ix_tup (bn5 h)
theorem ay9 {m:Nat}{f:Nat->Nat->Option Int}{s:Sto}:bi .len [gdO m f] s=.ok (.int m) s:=by unfold gdO gdD;rw[bF8];simp
theorem bc8 {m:Nat}{f g:Nat->Nat->Option Int}(h:∀ i j,i<m->j<m->f i j=g i j):gdO m f=gdO m g:=by
 unfold gdO gdD
 congr 1
 refine cK λ i y=>?_
 congr 1
 exact cK λ j hj=>by show qu (f i j)=qu (g i j);rw[h i j (aU.mp y) (aU.mp hj)]
noncomputable def addO:Option Int->Option Int->Option Int
 | some a,some b=>some (a+b)
 | _,_=>none
theorem an9:∀ l:List (Option Int),(aS6 l).filterMap (λ d=>if d=D.non then none else some d)=(l.filterMap id).map D.int
 | []=>rfl
 | o::l=>by
  have h:=an9 l
  unfold aS6 at h ⊢
  cases o with
  | none=>rw[aH,bv,bv];simpa using h
  | some i=>rw[aH,bv,bv];simpa using h
theorem aQ2 {P:Pr}[Has P ad2](n:Nat){s:Sto}{q:Nat}{l:List (Option Int)}(hq:s[q]?=some (.lst (aS6 l)))(hl:l.length<=1000):(aa1 P (n+1)).call "least" [.ref q] s=.ok (qu (minI (l.filterMap id))) s:=by
 have B:(aa1 P (n+1)).call "least" [.ref q] s=_:=zn ad2 (n:=n) rfl
 rw[B,show(bw some [D.ref q]++am ad2.vs none)=[some (D.ref q)]from rfl]
 have y:aK5 (.ref q) s=.ok ⟨aS6 l,[q]⟩ s:=by simp only[aK5,hq]
 obtain⟨ρ1,s1,e1,rfl,_⟩:=ai0 (ok:=λ s1=>chk s s1 [q]) (g:=aB9 (aa1 P n) (.one 0) (.notN (.var 0)) (.var 0)) (λ ρ u=>u=s/\∃ x,ρ=[x]) (λ d=>if d=D.non then none else some d) (aS6 l) [none] s ⟨rfl,none,rfl⟩ (λ _ u h=>by obtain⟨rfl,_⟩:=h;simp[chk]) (by
  rintro d hd ρ u ⟨rfl,x,rfl⟩
  refine⟨[some d],u,?_,rfl,_,rfl⟩
  unfold aB9
  by_cases hn:d=.non
  ·tbr_iter [hn]
  ·tbr_iter [hn])
 rw[an9]at e1
 simp -implicitDefEqProofs only[ad2]
 tbr_iter [jo,y,if_pos (show(aS6 l).length<=LIM by rw[bk8];unfold LIM;omega),show qp [some (D.ref q)] [none]=[none]from rfl,e1,bA3]
 exact aT5
theorem bm0 {P:Pr}[Has P ad6](n:Nat)(a b:Option Int)(s:Sto):(aa1 P (n+1)).call "added" [qu a,qu b] s=.ok (qu (addO a b)) s:=by
 have h:(aa1 P (n+1)).call "added" [qu a,qu b] s=_:=zn ad6 (n:=n) rfl
 rw[h,show(bw some [qu a,qu b]++am ad6.vs none)=[some (qu a),some (qu b)]from rfl]
 simp -implicitDefEqProofs only[ad6]
 cases a with
 | none=>tbr_iter [ai3,show(D.non=D.non)=True from eq_self _];exact ao4
 | some a=>cases b with
  | none=>tbr_iter [ai3,ji,show(D.non=D.non)=True from eq_self _,show(D.int a=D.non)=False from eq_false (by nofun)];exact ao4
  | some b=>tbr_iter [ji,show(D.int a=D.non)=False from eq_false (by nofun),show(D.int b=D.non)=False from eq_false (by nofun)];exact zM
noncomputable def prO (m:Nat)(f g:Nat->Nat->Option Int)(i j:Nat):Option Int:=minI (((ah m).map λ k=>addO (f i k) (g k j)).filterMap id)
theorem an5 {s:Sto}(hs:s.all O.ncl=true){m i:Nat}{W:Nat->Nat->D}(h:∀ i j,(W i j).ncl=true):(s++[O.lst ((ah i).map λ i=>D.tup ((ah m).map λ j=>W i j))]).all O.ncl=true:=by
 refine qA hs (zI λ d hd=>?_)
 obtain⟨x,_,rfl⟩:=ay.mp hd
 unfold D.ncl
 exact zI λ d hd=>by obtain⟨x,_,rfl⟩:=ay.mp hd;exact h _ _
section
variable {P:Pr} [Has P ad0]
theorem aO1 [Has P ad8][HasL P ab0](n:Nat){m:Nat}(G:m<=5){s:Sto}(hs:s.all O.ncl=true) :
  (aa1 P (n+3)).call "plain" [.int m] s=.ok (gdO m λ i j=>if i=j then some 0 else none) s:=by
 have C:(aa1 P (n+3)).call "plain" [.int m] s=_:=zn ad8 (n:=n+2) rfl
 have B:=jy (P:=P) (n+1) (m:=m) (by omega) (d:=.clo "plain.0" []) (s:=s) (W:=λ i j=>qu (if i=j then some 0 else none)) (λ _ _ n=>qX _ n) (λ i j J hj=>by
  generalize hS:s++[O.lst ((ah i).map λ i=>D.tup ((ah m).map λ j=>qu (if i=j then some 0 else none)))]=S
  have y:S.all O.ncl=true:=by rw[<-hS];exact an5 hs (W:=λ i j=>qu (if i=j then some 0 else none)) (λ _ _=>an2 _)
  refine(qM ab0 (n:=n) rfl rfl (by rw[y];rfl)).trans ?_
  show(ev (aa1 P n) ab0.body [some (.int i),some (.int j)] S).bind (zN S)=_
  simp -implicitDefEqProofs only[ab0]
  by_cases h:i=j
  ·tbr_iter [show((i:Int)=(j:Int))=True from eq_true (by omega),if_pos h,ji];exact zM
  ·tbr_iter [show((i:Int)=(j:Int))=False from eq_false (by omega),if_neg h,ai3];exact ao4)
 rw[C,show(bw some [D.int m]++am ad8.vs none)=[some (D.int m)]from rfl]
 simp -implicitDefEqProofs only[ad8]
 tbr_iter [qz]
 rw[qo (cs:=[]) _ rfl]
 have e:gdD m (λ i j=>qu (if i=j then some 0 else none))=gdO m (λ i j=>if i=j then some 0 else none):=rfl
 tbr_iter [B,e,if_pos (show((gdO m λ i j=>if i=j then some 0 else none).ncl&&s.all O.ncl)=true by rw[jz,hs];rfl)]
 exact zo aq9 (by nofun)
theorem qR [Has P ad2][Has P ad6][Has P ab8][HasL P aa6](n:Nat){m:Nat}(Z:m<=5)(f g:Nat->Nat->Option Int){s:Sto}(hs:s.all O.ncl=true) :
  (aa1 P (n+4)).call "product" [gdO m f,gdO m g] s=.ok (gdO m (prO m f g)) s:=by
 have J:(aa1 P (n+4)).call "product" [gdO m f,gdO m g] s=_:=zn ab8 (n:=n+3) rfl
 have G:=jy (P:=P) (n+2) (m:=m) (by omega) (d:=.clo "product.0" [.int m,gdO m f,gdO m g]) (s:=s) (W:=λ i j=>qu (prO m f g i j)) (λ _ _ n=>qX _ n) (λ i j Y hj=>by
  generalize hS:s++[O.lst ((ah i).map λ i=>D.tup ((ah m).map λ j=>qu (prO m f g i j)))]=S
  have y:S.all O.ncl=true:=by rw[<-hS];exact an5 hs (W:=λ i j=>qu (prO m f g i j)) (λ _ _=>an2 _)
  refine(qM aa6 (n:=n+1) rfl rfl (by rw[y];simp[D.nclL,D.ncl,jz])).trans ?_
  show(ev (aa1 P (n+1)) aa6.body [some (.int i),some (.int j),some (.int m),some (gdO m f),some (gdO m g)] S).bind (zN S)=_
  obtain⟨ρ1,s1,e1,rfl,_⟩:=aj2 (ok:=λ s1=>chk S s1 []) (g:=ah7 (aa1 P (n+1)) (.one 0) (.call "added" (.ex (.ix (.ix (.var 1) (.var 2)) (.var 0)) (.ex (.ix (.ix (.var 3) (.var 0)) (.var 4)) .nil)))) (λ ρ u=>u=S/\∃ x,ρ=[x,some (gdO m f),some (.int i),some (gdO m g),some (.int j)]) (λ k=>qu (addO (f i k) (g k j))) m [none,some (gdO m f),some (.int i),some (gdO m g),some (.int j)] S ⟨rfl,none,rfl⟩ (λ _ _ _=>rfl) (by
   rintro k hk ρ u ⟨rfl,x,rfl⟩
   refine⟨[some (.int k),some (gdO m f),some (.int i),some (gdO m g),some (.int j)],u,?_,rfl,_,rfl⟩
   unfold ah7
   tbr_iter [aY9 Y,aY9 hk,aJ5 hk,aJ5 hj,bm0 n])
  have B:((ah m).map λ k=>qu (addO (f i k) (g k j)))=aS6 ((ah m).map λ k=>addO (f i k) (g k j)):=by unfold aS6;rw[gq];rfl
  rw[B]at e1
  have h:∀ q (s:Sto),mk .list q s=.ok (.ref s.length) (s++[.lst q]):=λ _ _=>rfl
  have C:=aQ2 (P:=P) n (s:=s1++[O.lst (aS6 ((ah m).map λ k=>addO (f i k) (g k j)))]) (q:=s1.length) (l:=(ah m).map λ k=>addO (f i k) (g k j)) (by rw[ax (aj _)];simp) (by simp;omega)
  simp -implicitDefEqProofs only[aa6]
  tbr_iter [ai1,qg (s:=s1) (i:=(m:Int)) (by unfold W62;omega) (by unfold W62;omega),if_pos (show(ag8 0 (m:Int)).length<=LIM by rw[qC];unfold LIM;omega),show qp [some (D.int (i:Int)),some (D.int (j:Int)),some (D.int (m:Int)),some (gdO m f),some (gdO m g)] [none,some 3,some 0,some 4,some 1]=[none,some (gdO m f),some (.int i),some (gdO m g),some (.int j)]from rfl,e1,h,C]
  exact qe (qX _) (aw7 _))
 rw[J,show(bw some [gdO m f,gdO m g]++am ab8.vs none)=[some (gdO m f),some (gdO m g),none]from rfl]
 simp -implicitDefEqProofs only[ab8]
 tbr_iter [ay9,qz]
 rw[qo (cs:=[.int m,gdO m f,gdO m g]) _ rfl]
 have e:gdD m (λ i j=>qu (prO m f g i j))=gdO m (prO m f g):=rfl
 tbr_iter [G,e,if_pos (show((gdO m (prO m f g)).ncl&&s.all O.ncl)=true by rw[jz,hs];rfl)]
 exact zo aq9 (by nofun)
end
theorem ag5.low {S:Int->Prop}{l:List Int}(C:∀ x∈l,S x)(B:∀ c,S c->∃ x∈l,x<=c):ag5 S (minI l):=by
 have h:=aR6 l
 cases e:minI l with
 | none =>
  rw[e]at h
  exact λ c hc=>by obtain⟨x,hx,_⟩:=B c hc;exact h x hx
 | some i =>
  rw[e]at h
  refine⟨C i h.1,λ c hc=>?_⟩
  obtain⟨x,hx,y⟩:=B c hc
  exact bW (h.2 x hx) y
theorem bh0 {m:Nat}{A B:Nat->Nat->Int->Prop}{f g:Nat->Nat->Option Int}(G:∀ i j,i<m->j<m->ag5 (A i j) (f i j))(J:∀ i j,i<m->j<m->ag5 (B i j) (g i j)){i j:Nat}(C:i<m)(hj:j<m) :
  ag5 (λ c=>∃ k,k<m/\∃ a b,A i k a/\B k j b/\c=a+b) (prO m f g i j):=by
 unfold prO
 refine ag5.low (λ x hx=>?_) λ c hc=>?_
 ·obtain⟨o,ho,e⟩:=b7.mp hx
  obtain⟨k,hk,rfl⟩:=ay.mp ho
  have hk:=aU.mp hk
  have h:=G i k C hk
  have y:=J k j hk hj
  cases e1:f i k with
  | none=>rw[e1]at e;cases e
  | some a =>
   cases e2:g k j with
   | none=>rw[e1,e2]at e;cases e
   | some b =>
    rw[e1]at h;rw[e2]at y
    rw[e1,e2]at e
    cases e
    exact⟨k,hk,a,b,h.1,y.1,rfl⟩
 ·obtain⟨k,hk,a,b,ha,hb,rfl⟩:=hc
  have h:=G i k C hk
  have y:=J k j hk hj
  cases e1:f i k with
  | none=>rw[e1]at h;exact absurd ha (h a)
  | some a' =>
   cases e2:g k j with
   | none=>rw[e2]at y;exact absurd hb (y b)
   | some b' =>
    rw[e1]at h;rw[e2]at y
    refine⟨a'+b',b7.mpr ⟨some (a'+b'),ay.mpr ⟨k,aU.mpr hk,by rw[e1,e2];rfl⟩,rfl⟩,?_⟩
    have:=h.2 a ha
    have:=y.2 b hb
    omega
def al1 (m:Mc)(w:List Nat)(f:Nat->Nat->Option Int):Prop:=∀ i j,i<m.R->j<m.R->ag5 (Wk m.ds w i j) (f i j)
theorem al1.eq {m:Mc}{w:List Nat}{f g:Nat->Nat->Option Int}(h:al1 m w f)(h':al1 m w g):gdO m.R f=gdO m.R g:=bc8 λ i j y hj=>(h i j y hj).eq (h' i j y hj) λ _=>Iff.rfl
theorem ag0 {y:List Dr}:∀ {v w:List Nat} {p q:Nat} {c:Int},Wk y (v++w) p q c↔∃ k a b,Wk y v p k a/\Wk y w k q b/\c=a+b
 | [],w,p,q,c=>by
  constructor
  ·intro h;exact⟨p,0,c,⟨rfl,rfl⟩,h,by omega⟩
  ·rintro⟨k,a,b,⟨rfl,rfl⟩,h,e⟩
   have:c=b:=by omega
   rw[this];exact h
 | x::v,w,p,q,c=>by
  show(∃ d∈y,_)↔_
  constructor
  ·rintro⟨d,hd,G,J,Z,h3,e⟩
   obtain⟨k,a,b,B,C,e2⟩:=ag0.mp h3
   exact⟨k,a+d.t,b,⟨d,hd,G,J,a,B,by omega⟩,C,by omega⟩
  ·rintro⟨k,a,b,⟨d,hd,G,J,Y,B,e⟩,C,e2⟩
   exact⟨d,hd,G,J,Y+b,ag0.mpr ⟨k,Y,b,B,C,rfl⟩,by omega⟩
theorem aH5 {m:Mc}(y:m.Ok):∀ {w:List Nat} {p q:Nat} {c:Int},p<m.R->Wk m.ds w p q c->q<m.R
 | [],p,q,c,hp,h=>by obtain⟨rfl,_⟩:=h;exact hp
 | x::w,p,q,c,hp,h=>by
  obtain⟨d,hd,_,_,B,h3,_⟩:=h
  exact aH5 y (y.ds.1 d hd).b h3
theorem al1.nil {m:Mc}:al1 m [] λ i j=>if i=j then some 0 else none:=λ i j y hj=>by
 show ag5 (Wk m.ds [] i j) (if i=j then some 0 else none)
 by_cases h:i=j
 ·rw[if_pos h];exact⟨⟨h,rfl⟩,λ c hc=>by have:=hc.2;omega⟩
 ·rw[if_neg h];exact λ c hc=>h hc.1
theorem al1.mul {m:Mc}(G:m.Ok){v w:List Nat}{f g:Nat->Nat->Option Int}(h:al1 m v f)(h':al1 m w g):al1 m (v++w) (prO m.R f g):=λ i j C hj=>(bh0 h h' C hj).congr λ c=>by
 rw[ag0]
 constructor
 ·rintro⟨k,_,a,b,y,B,e⟩;exact⟨k,a,b,y,B,e⟩
 ·rintro⟨k,a,b,y,B,e⟩;exact⟨k,aH5 G C y,a,b,y,B,e⟩
noncomputable def ltF (ds:List Dr)(c i j:Nat):Option Int:=minI (ds.filterMap λ d=>if d.a=i/\d.l=c/\d.b=j then some (d.t:Int)else none)
theorem aj1 {B:List Dr}{x p q:Nat}{c:Int}:Wk B [x] p q c↔∃ d∈B,d.l=x/\d.a=p/\d.b=q/\c=d.t:=by
 constructor
 ·rintro⟨d,hd,h,y,G,⟨h3,C⟩,e⟩;exact⟨d,hd,y,h,h3,by omega⟩
 ·rintro⟨d,hd,h,y,h3,e⟩;exact⟨d,hd,y,h,0,⟨h3,rfl⟩,by omega⟩
theorem al1.letter {m:Mc}(c:Nat):al1 m [c] (ltF m.ds c):=λ i j C hj=>by
 unfold ltF
 refine ag5.low (λ x hx=>?_) λ x hx=>?_
 ·obtain⟨d,hd,e⟩:=b7.mp hx
  split at e
  ·rename_i h;cases e;exact aj1.mpr ⟨d,hd,h.2.1,h.1,h.2.2,rfl⟩
  ·cases e
 ·obtain⟨d,hd,y,B,h3,e⟩:=aj1.mp hx
  exact⟨x,b7.mpr ⟨d,hd,by rw[if_pos ⟨B,y,h3⟩,e]⟩,bH _⟩
theorem bb0 {a b i j l c:Nat}{s:Sto}:qJ .eq (.tup [.int (a:Int),.str [l],.int (b:Int)]) (.tup [.int (i:Int),.str [c],.int (j:Int)]) s=.ok (.bl (decide (a=i/\l=c/\b=j))) s:=by
 have:eqv s DEEP (.tup [.int (a:Int),.str [l],.int (b:Int)]) (.tup [.int (i:Int),.str [c],.int (j:Int)])=some (((a:Int)==(i:Int))&&(([l]==[c])&&(((b:Int)==(j:Int))&&true))):=rfl
 show(match eqv s DEEP (.tup [.int (a:Int),.str [l],.int (b:Int)]) (.tup [.int (i:Int),.str [c],.int (j:Int)])with|some r=>R.ok (D.bl r) s|none=>.bad)=_
 rw[this]
 show R.ok (D.bl _) s=_
 congr 2
 rw[dr]
 simp
 omega
section
variable {P:Pr} [Has P ad0] [Has P ad2] [Has P ab1] [Has P ab5] [Has P aa5] [HasL P aa3]
theorem bc6 {m:Mc}:m.d.ncl=true:=by
 unfold Mc.d Mc.ps D.ncl
 simp only[D.nclL,D.ncl,bj8,d5,d4]
 exact zI λ d hd=>by obtain⟨x,_,rfl⟩:=ay.mp hd;rfl
theorem jl (n:Nat){m:Mc}(G:m.Ok)(c:Nat){s:Sto}(hs:s.all O.ncl=true) :
  (aa1 P (n+4)).call "letter_table" [m.d,.str [c]] s=.ok (gdO m.R (ltF m.ds c)) s:=by
 have e0:(aa1 P (n+4)).call "letter_table" [m.d,.str [c]] s=_:=zn aa5 (n:=n+3) rfl
 have hR:=G.R5
 have hD:=G.ds.2
 have hg:=jy (P:=P) (n+2) (m:=m.R) (by omega) (d:=.clo "letter_table.least_fee" [m.d,.str [c]]) (s:=s) (W:=λ i j=>qu (ltF m.ds c i j)) (λ _ _ n=>qX _ n) (λ i j hi hj=>by
  generalize hS:s++[O.lst ((ah i).map λ i=>D.tup ((ah m.R).map λ j=>qu (ltF m.ds c i j)))]=S
  have nS:S.all O.ncl=true:=by rw[<-hS];exact an5 hs (W:=λ i j=>qu (ltF m.ds c i j)) (λ _ _=>an2 _)
  refine(qM aa3 (n:=n+1) rfl rfl (by rw[nS];simp[D.nclL,D.ncl,bc6])).trans ?_
  show(ev (aa1 P (n+1)) aa3.body [some (.int i),some (.int j),some m.d,some (.str [c])] S).bind (zN S)=_
  obtain⟨ρ1,s1,e1,rfl,_⟩:=ai0 (ok:=λ s1=>chk S s1 []) (g:=aB9 (aa1 P (n+1)) (.tup [0,1,2,3]) (.cmp .eq (.tup (.cons (.var 0) (.cons (.var 1) (.cons (.var 2) .nil)))) (.tup (.cons (.var 4) (.cons (.var 5) (.cons (.var 6) .nil))))) (.var 3)) (λ ρ u=>u=S/\∃ Y x1 B Z,ρ=[Y,x1,B,Z,some (.int (i:Int)),some (.str [c]),some (.int (j:Int))]) (λ d=>match d with|.tup [.int a,.str [l],.int b,.int t]=>if a=i/\l=c/\b=j then some (.int t)else none|_=>none) (m.ds.map Dr.d) [none,none,none,none,some (.int (i:Int)),some (.str [c]),some (.int (j:Int))] S ⟨rfl,none,none,none,none,rfl⟩ (λ _ _ _=>rfl) (by
   rintro d hd ρ u ⟨rfl,Y,x1,B,Z,rfl⟩
   obtain⟨x,_,rfl⟩:=ay.mp hd
   refine⟨[some (.int x.a),some (.str [x.l]),some (.int x.b),some (.int x.t),some (.int i),some (.str [c]),some (.int j)],u,?_,rfl,_,_,_,_,rfl⟩
   unfold aB9 Dr.d
   by_cases h:x.a=i/\x.l=c/\x.b=j
   ·tbr_iter [bb0,h]
    simp
   ·have h2:¬((x.a:Int)=(i:Int)/\x.l=c/\(x.b:Int)=(j:Int)):=by omega
    tbr_iter [bb0,h,if_neg h2])
  have er:(m.ds.map Dr.d).filterMap (λ d=>match d with|.tup [.int a,.str [l],.int b,.int t]=>if a=i/\l=c/\b=j then some (D.int t)else none|_=>none)=aS6 ((m.ds.filterMap λ d=>if d.a=i/\d.l=c/\d.b=j then some (d.t:Int)else none).map some):=by
   unfold aS6
   rw[gq,eY,List.map_filterMap]
   refine al5 λ x _=>?_
   unfold Dr.d
   simp only[j5]
   by_cases h:x.a=i/\x.l=c/\x.b=j
   ·rw[if_pos h,if_pos (by omega)];rfl
   ·rw[if_neg h,if_neg (by omega)];rfl
  rw[er]at e1
  generalize C:(m.ds.filterMap λ d=>if d.a=i/\d.l=c/\d.b=j then some (d.t:Int)else none)=L at e1
  have a0:L.length<=75:=by rw[<-C];exact aq (List.length_filterMap_le _ _) hD
  have y:∀ q (s:Sto),mk .list q s=.ok (.ref s.length) (s++[.lst q]):=λ _ _=>rfl
  have J:=aQ2 (P:=P) n (s:=s1++[O.lst (aS6 (L.map some))]) (q:=s1.length) (l:=L.map some) (by rw[ax (aj _)];simp) (by simp;omega)
  have eL:(L.map some).filterMap id=L:=by rw[eY];exact List.filterMap_some
  rw[eL]at J
  simp -implicitDefEqProofs only[aa3]
  tbr_iter [aJ3 n,aW6,jo,if_pos (show(m.ds.map Dr.d).length<=LIM by rw[aG];unfold LIM;omega),show qp [some (D.int (i:Int)),some (D.int (j:Int)),some m.d,some (D.str [c])] [none,none,none,none,some 0,some 3,some 1]=[none,none,none,none,some (.int (i:Int)),some (.str [c]),some (.int (j:Int))]from rfl,e1,y,J]
  rw[<-C]
  exact qe (qX _) (aw7 _))
 rw[e0,show(bw some [m.d,D.str [c]]++am aa5.vs none)=[some m.d,some (D.str [c]),none]from rfl]
 simp -implicitDefEqProofs only[aa5]
 tbr_iter [qz,ju (n+2)]
 rw[qo (cs:=[m.d,.str [c]]) _ rfl]
 have e:gdD m.R (λ i j=>qu (ltF m.ds c i j))=gdO m.R (ltF m.ds c):=rfl
 tbr_iter [hg,e,if_pos (show((gdO m.R (ltF m.ds c)).ncl&&s.all O.ncl)=true by rw[jz,hs];rfl)]
 exact zo aq9 (by nofun)
end
theorem bZ0 {s:Sto}{o:O}:(s++[o])[s.length]?=some o:=by rw[ax (aj _)];simp
theorem bV0 (a:List Nat):(sg a).length=a.length:=by unfold sg;exact aG _
theorem av4 (k a v:D):∀ l:List (D×D),look k (l++[(a,v)])=match look k l with|some x=>some x|none=>if a=k then some v else none
 | []=>by unfold look;rfl
 | (b,u)::l=>by
  rw[fR]
  unfold look
  by_cases h:b=k
  ·rw[if_pos h,if_pos h]
  ·rw[if_neg h,if_neg h];exact av4 k a v l
theorem aE2 {s:Sto}{r:Nat}{l:List (D×D)}{k:D}(h:s[r]?=some (.dic l))(hk:k.key=true):qJ .notin k (.ref r) s=.ok (.bl (!(look k l).isSome)) s:=by
 show(inM k (.ref r) s).bind (λ r s=>R.ok (D.bl (!r)) s)=_
 simp only[inM,h,hk,if_true,R.bind_ok]
theorem bv3 {s:Sto}{r:Nat}{l:List (D×D)}{k v:D}(h:s[r]?=some (.dic l))(hk:k.key=true)(hv:look k l=some v):ixM (.ref r) k s=.ok v s:=by
 simp only[ixM,h,hk,if_true,hv]
theorem by8 {s:Sto}{r:Nat}{l:List (D×D)}{k v:D}(h:s[r]?=some (.dic l))(hk:k.key=true)(hl:l.length<LIM):setIx (.ref r) k v s=.ok () (s.set r (.dic (aU5 k v l))):=by
 simp[setIx,h,hk,hl]
theorem bD4 {F:Fns}{ρ:Env}{s:Sto}:ev F (.dic .nil .nil) ρ s=.ok (.ref s.length) (s++[.dic []]):=rfl
theorem bI4 {k v:D}{l:List (D×D)}(h:look k l=none):aU5 k v l=l++[(k,v)]:=by unfold aU5;rw[h];rfl
theorem bq8 {s:Sto}{o p:O}:(s++[o]).set s.length p=s++[p]:=by rw[dP _ _ (aj _)];simp
section
variable {P:Pr} [Has P ad0] [Has P ad2] [Has P ad6] [Has P ab1] [Has P ab5] [Has P aa5] [HasL P aa3] [Has P ad8] [HasL P ab0] [Has P ab8] [HasL P aa6] [Has P aa9]
def bC0 (m:Mc)(l:List (D×D)):Prop:=(∀ c v,look (.str [c]) l=some v->v=gdO m.R (ltF m.ds c))/\∀ p∈l,p.2.ncl=true
theorem bC0.nil {m:Mc}:bC0 m []:=⟨λ c v h=>(by cases h),λ p y=>(by cases y)⟩
theorem ay5 (n:Nat){m:Mc}(J:m.Ok)(w:List Nat)(hw:w.length<=5000){s:Sto}(hs:s.all O.ncl=true) :
  ∃ f,al1 m w f/\(aa1 P (n+5)).call "word_table" [m.d,.str w] s=.ok (gdO m.R f) s:=by
 have e0:(aa1 P (n+5)).call "word_table" [m.d,.str w] s=_:=zn aa9 (n:=n+4) rfl
 have Z:=J.R5
 have nd:∀ l:List (D×D),bC0 m l->(s++[O.dic l]).all O.ncl=true:=λ l h=>qA hs (zI λ d hd=>by
  obtain⟨p,G,rfl⟩:=ay.mp hd;exact h.2 p G)
 have key:=qS (ok:=λ s1=>chk (s++[O.dic []]) s1 []) (g:=turn (aa1 P (n+4)) (.one 4) (.cons (.ite (.cmp .notin (.var 4) (.var 2)) (.cons (.setIx (.var 2) (.var 4) (.call "letter_table" (.ex (.var 0) (.ex (.var 4) .nil)))) .nil) .nil) (.cons (.asg (.one 3) (.call "product" (.ex (.var 3) (.ex (.ix (.var 2) (.var 4)) .nil)))) .nil)))
  (λ k ρ t=>∃ f l x,al1 m (w.take k) f/\bC0 m l/\l.length<=k/\ρ=[some m.d,some (.str w),some (.ref s.length),some (gdO m.R f),x]/\t=s++[.dic l]) (sg w) 0 [some m.d,some (.str w),some (.ref s.length),some (gdO m.R λ i j=>if i=j then some 0 else none),none] (s++[O.dic []])
  ⟨_,[],none,by rw[jW];exact al1.nil,bC0.nil,aj _,rfl,rfl⟩ (λ _ _ _ _ _=>rfl) (by
  rintro k d ρ t hk ⟨f,l,x,B,hl,Y,rfl,rfl⟩
  rw[bU]at B Y ⊢
  unfold sg at hk
  rw[aF]at hk
  obtain⟨c,hc,rfl⟩:=cQ.mp hk
  have a0:=(ae.mp hc).1
  have y:∀ l:List (D×D),(s++[O.dic l])[s.length]?=some (.dic l):=λ l=>by rw[ax (aj _)];simp
  have e1:=jl (P:=P) n J c (nd l hl)
  have hT:al1 m (w.take (k+1)) (prO m.R f (ltF m.ds c)):=by
   rw[ap6 hc];exact al1.mul J B (al1.letter c)
  cases hlk:look (.str [c]) l with
  | none =>
   have hl2:bC0 m (l++[(.str [c],gdO m.R (ltF m.ds c))]):=by
    refine⟨λ c' v hv=>?_,λ p G=>?_⟩
    ·rw[av4]at hv
     cases q:look (.str [c']) l with
     | none =>
      rw[q]at hv
      simp only at hv
      split at hv
      ·rename_i e;cases e;cases hv;rfl
      ·cases hv
     | some v'=>rw[q]at hv;cases hv;exact hl.1 c' v q
    ·rcases cj.mp G with h|h
     ·exact hl.2 p h
     ·rw[bK.mp h];exact jz
   have e2:=qR (P:=P) n Z f (ltF m.ds c) (nd _ hl2)
   have C:=bv3 (y (l++[(.str [c],gdO m.R (ltF m.ds c))])) (k:=.str [c]) rfl (v:=gdO m.R (ltF m.ds c)) (by rw[av4,hlk];simp)
   have e4:=by8 (v:=gdO m.R (ltF m.ds c)) (y l) (k:=.str [c]) rfl (by unfold LIM;omega)
   rw[bI4 hlk,bq8]at e4
   refine⟨_,_,.inl ?_,_,_,some (.str [c]),hT,hl2,by simp;omega,rfl,rfl⟩
   unfold turn
   tbr_iter [aE2 (y l) (k:=.str [c]) rfl,hlk,iz,e1,e4,C,e2]
  | some v =>
   have hv:=hl.1 c v hlk
   have e2:=qR (P:=P) n Z f (ltF m.ds c) (nd _ hl)
   have C:=bv3 (y l) (k:=.str [c]) rfl hlk
   rw[hv]at C
   refine⟨_,_,.inl ?_,_,_,some (.str [c]),hT,hl,by omega,rfl,rfl⟩
   unfold turn
   tbr_iter [aE2 (y l) (k:=.str [c]) rfl,hlk,eW,C,e2])
 obtain⟨ρ',s',ek,f,l,x,B,hl,_,rfl,rfl⟩:=key
 rw[bU,bV0,i3]at B
 refine⟨f,B,?_⟩
 have e1:=aO1 (P:=P) (n+1) Z (nd [] bC0.nil)
 have h2:∀ t,aK5 (.str w) t=.ok ⟨sg w,[]⟩ t:=λ _=>rfl
 rw[e0,show(bw some [m.d,D.str w]++am aa9.vs none)=[some m.d,some (D.str w),none,none,none]from rfl]
 simp -implicitDefEqProofs only[aa9]
 tbr_iter [bD4,ju (n+3),e1,h2]
 rw[ek]
 tbr_iter []
 exact qe aq9 (by nofun)
end
section
variable {P:Pr} [Has P ad0] [Has P ad2] [Has P ad6] [Has P ab1] [Has P ab5] [Has P aa5] [HasL P aa3] [Has P ad8] [HasL P ab0] [Has P ab8] [HasL P aa6] [Has P aa9]
 [Has P cf2] [Has P bS3] [Has P bD5] [Has P bg3] [Has P bN7] [Has P br6] [Has P aJ0] [Has P ba9]
end
section
variable {P:Pr} [Has P qT] [Has P ai8] [Has P zK]
variable [Has P ad0] [Has P ad2] [Has P ad6] [Has P ab1] [Has P ab5] [Has P aa5] [HasL P aa3] [Has P ad8] [HasL P ab0] [Has P ab8] [HasL P aa6] [Has P aa9] [Has P aI9]
end
noncomputable def sgn:Option Int->Int
 | none=>3
 | some i=>if i=0 then 0 else 1
theorem bN2 (o:Option Int):0<=sgn o/\sgn o<=3/\sgn o≠2:=by
 cases o with
 | none=>exact⟨by decide,by decide,by decide⟩
 | some i=>unfold sgn;simp only;split<;>exact⟨by decide,by decide,by decide⟩
theorem ar4 {y:List Dr}:∀ {w:List Nat} {p q:Nat} {c:Int},Wk y w p q c->0<=c
 | [],p,q,c,h=>by have:=h.2;omega
 | x::w,p,q,c,h=>by
  obtain⟨d,hd,_,_,B,h3,e⟩:=h
  have:=ar4 h3
  omega
structure SgW1 (S:Int->Prop)(x:Int):Prop where
 lo:0<=x
 hi:x<=3
 n2:x≠2
 z:x=0↔S 0
 t:x=3↔∀ c,¬ S c
theorem SgW1.eq {S:Int->Prop}{x y:Int}(h:SgW1 S x)(g:SgW1 S y):x=y:=by
 have B:=h.z.trans g.z.symm
 have C:=h.t.trans g.t.symm
 have:=h.lo;have:=h.hi;have:=h.n2;have:=g.lo;have:=g.hi;have:=g.n2
 by_cases a:x=0
 ·rw[a,B.mp a]
 ·by_cases b:x=3
  ·rw[b,C.mp b]
  ·have G:¬ y=0:=λ z=>a (B.mpr z)
   have J:¬ y=3:=λ z=>b (C.mpr z)
   omega
theorem aZ2 {S:Int->Prop}{o:Option Int}(h:ag5 S o)(B:∀ c,S c->0<=c):SgW1 S (sgn o):=by
 obtain⟨h0,h3,y⟩:=bN2 o
 refine⟨h0,h3,y,?_,?_⟩
 ·cases o with
  | none=>exact⟨λ z=>(by cases z),λ z=>absurd z (h 0)⟩
  | some i =>
   show(if i=0 then(0:Int)else 1)=0↔_
   constructor
   ·intro z
    split at z
    ·rename_i e;rw[<-e];exact h.1
    ·cases z
   ·intro z
    have C:=h.2 0 z
    have y:=B i h.1
    rw[if_pos (by omega)]
 ·cases o with
  | none=>exact⟨λ _=>h,λ _=>rfl⟩
  | some i =>
   show(if i=0 then(0:Int)else 1)=3↔_
   constructor
   ·intro z;split at z<;>cases z
   ·intro z;exact absurd h.1 (z i)
def SgW (m:Mc)(w:List Nat)(g:Nat->Nat->Int):Prop:=∀ i j,i<m.R->j<m.R->SgW1 (Wk m.ds w i j) (g i j)
theorem al1.sg {m:Mc}{w:List Nat}{f:Nat->Nat->Option Int}(h:al1 m w f):SgW m w λ i j=>sgn (f i j):=λ i j y hj=>aZ2 (h i j y hj) λ c hc=>ar4 hc
theorem SgW.eqG {m:Mc}{w:List Nat}{f g:Nat->Nat->Int}(h:SgW m w f)(h':SgW m w g):EqG m.R f g:=λ i j y hj=>(h i j y hj).eq (h' i j y hj)
theorem SgW.inG {m:Mc}{w:List Nat}{f:Nat->Nat->Int}(h:SgW m w f):InG m.R f:=λ i j hi hj=>⟨(h i j hi hj).lo,(h i j hi hj).hi⟩
theorem aP1 (B:List Dr)(c i j:Nat):∀ k,k<=B.length->(sgF B c i j k=3/\∀ d∈B.take k,¬(d.l=c/\d.a=i/\d.b=j))\/(sgF B c i j k=1/\(∃ d∈B.take k,d.l=c/\d.a=i/\d.b=j)/\∀ d∈B.take k,d.l=c/\d.a=i/\d.b=j->d.t≠0)\/(sgF B c i j k=0/\∃ d∈B.take k,(d.l=c/\d.a=i/\d.b=j)/\d.t=0)
 | 0,_=>.inl ⟨rfl,λ d hd=>by rw[jW]at hd;cases hd⟩
 | k+1,hk=>by
  have J:=aP1 B c i j k (by omega)
  have hx:=ai (show k<B.length by omega)
  have y:∀ d,d∈B.take (k+1)↔d∈B.take k\/d=B[k]:=λ d=>by rw[ap6 hx,cj,bK]
  have key:sgF B c i j (k+1)=if B[k].l=c/\i=B[k].a/\j=B[k].b then(if(if 0<B[k].t then(1:Int)else 0)<sgF B c i j k then(if 0<B[k].t then(1:Int)else 0)else sgF B c i j k)else sgF B c i j k:=by
   conv=>lhs;unfold sgF
   rw[hx]
  rw[key]
  generalize Y:B[k]=x at *
  by_cases hc:x.l=c/\i=x.a/\j=x.b
  ·rw[if_pos hc]
   have C:x.l=c/\x.a=i/\x.b=j:=⟨hc.1,hc.2.1.symm,hc.2.2.symm⟩
   by_cases ht:0<x.t
   ·rw[if_pos ht]
    rcases J with⟨e,h⟩|⟨e,h1,h2⟩|⟨e,d,hd,h1⟩
    ·rw[e,if_pos (by decide)]
     refine .inr (.inl ⟨rfl,⟨x,(y x).mpr (.inr rfl),C⟩,λ d hd G=>?_⟩)
     rcases(y d).mp hd with z|z
     ·exact absurd G (h d z)
     ·rw[z];omega
    ·rw[e,if_neg (by decide)]
     refine .inr (.inl ⟨rfl,⟨x,(y x).mpr (.inr rfl),C⟩,λ d hd G=>?_⟩)
     rcases(y d).mp hd with z|z
     ·exact h2 d z G
     ·rw[z];omega
    ·rw[e,if_neg (by decide)]
     exact .inr (.inr ⟨rfl,d,(y d).mpr (.inl hd),h1⟩)
   ·rw[if_neg ht]
    have hz:x.t=0:=by omega
    rcases J with⟨e,h⟩|⟨e,h1,h2⟩|⟨e,d,hd,h1⟩
    ·rw[e,if_pos (by decide)];exact .inr (.inr ⟨rfl,x,(y x).mpr (.inr rfl),C,hz⟩)
    ·rw[e,if_pos (by decide)];exact .inr (.inr ⟨rfl,x,(y x).mpr (.inr rfl),C,hz⟩)
    ·rw[e,if_neg (by decide)];exact .inr (.inr ⟨rfl,x,(y x).mpr (.inr rfl),C,hz⟩)
  ·rw[if_neg hc]
   have C:¬(x.l=c/\x.a=i/\x.b=j):=λ z=>hc ⟨z.1,z.2.1.symm,z.2.2.symm⟩
   rcases J with⟨e,h⟩|⟨e,⟨d,hd,h1⟩,h2⟩|⟨e,d,hd,h1⟩
   ·refine .inl ⟨e,λ d hd G=>?_⟩
    rcases(y d).mp hd with z|z
    ·exact h d z G
    ·rw[z]at G;exact C G
   ·refine .inr (.inl ⟨e,⟨d,(y d).mpr (.inl hd),h1⟩,λ d hd G=>?_⟩)
    rcases(y d).mp hd with z|z
    ·exact h2 d z G
    ·rw[z]at G;exact absurd G C
   ·exact .inr (.inr ⟨e,d,(y d).mpr (.inl hd),h1⟩)
theorem SgW.letter (m:Mc)(c:Nat):SgW m [c] (sgM m c):=λ i j B hj=>by
 have h:=aP1 m.ds c i j m.ds.length (aj _)
 rw[i3]at h
 unfold sgM
 rcases h with⟨e,h⟩|⟨e,⟨d,hd,h1⟩,h2⟩|⟨e,d,hd,h1,h3⟩
 ·rw[e]
  refine⟨by decide,by decide,by decide,⟨λ z=>(by cases z),λ z=>?_⟩,⟨λ _ x hx=>?_,λ _=>rfl⟩⟩
  ·obtain⟨d,hd,a,b,y,_⟩:=aj1.mp z;exact absurd ⟨a,b,y⟩ (h d hd)
  ·obtain⟨d,hd,a,b,y,_⟩:=aj1.mp hx;exact h d hd ⟨a,b,y⟩
 ·rw[e]
  refine⟨by decide,by decide,by decide,⟨λ z=>(by cases z),λ z=>?_⟩,⟨λ z=>(by cases z),λ z=>?_⟩⟩
  ·obtain⟨d,hd,a,b,y,e2⟩:=aj1.mp z;have:=h2 d hd ⟨a,b,y⟩;omega
  ·exact absurd (aj1.mpr ⟨d,hd,h1.1,h1.2.1,h1.2.2,rfl⟩) (z _)
 ·rw[e]
  refine⟨by decide,by decide,by decide,⟨λ _=>aj1.mpr ⟨d,hd,h1.1,h1.2.1,h1.2.2,by rw[h3];rfl⟩,λ _=>rfl⟩,⟨λ z=>(by cases z),λ z=>?_⟩⟩
  exact absurd (aj1.mpr ⟨d,hd,h1.1,h1.2.1,h1.2.2,rfl⟩) (z _)
section
variable {P:Pr} [HasC P "FREE" (.int 0)] [HasC P "SOME" (.int 1)] [HasC P "NONE" (.int 3)] [Has P ae0]
theorem aT2 (n:Nat)(o:Option Int)(s:Sto):(aa1 P (n+1)).call "sign_of" [qu o] s=.ok (.int (sgn o)) s:=by
 have B:(aa1 P (n+1)).call "sign_of" [qu o] s=_:=zn ae0 (n:=n) rfl
 have y:=λ ρ s=>(aG1 (P:=P) (n:=n) (x := "NONE") (v:=.int 3) (ρ:=ρ) (s:=s))
 have g0:=λ ρ s=>(aG1 (P:=P) (n:=n) (x := "FREE") (v:=.int 0) (ρ:=ρ) (s:=s))
 have g1:=λ ρ s=>(aG1 (P:=P) (n:=n) (x := "SOME") (v:=.int 1) (ρ:=ρ) (s:=s))
 rw[B,show(bw some [qu o]++am ae0.vs none)=[some (qu o)]from rfl]
 simp -implicitDefEqProofs only[ae0]
 cases o with
 | none=>tbr_iter [ai3,y];exact zM
 | some i =>
  by_cases h:i=0
  ·subst h;tbr_iter [ji,show(D.int 0=D.non)=False from eq_false (by nofun),g0,sgn];exact zM
  ·tbr_iter [ji,show(D.int i=D.non)=False from eq_false (by nofun),h,g1,sgn];exact zM
variable [Has P ad0] [Has P ae2] [HasL P ac6]
theorem aU1 (n:Nat){m:Nat}(G:m<=5)(f:Nat->Nat->Option Int){s:Sto}(hs:s.all O.ncl=true) :
  (aa1 P (n+4)).call "reading" [gdO m f] s=.ok (gd m λ i j=>sgn (f i j)) s:=by
 have C:(aa1 P (n+4)).call "reading" [gdO m f] s=_:=zn ae2 (n:=n+3) rfl
 have B:=jy (P:=P) (n+2) (m:=m) (by omega) (d:=.clo "reading.0" [gdO m f]) (s:=s) (W:=λ i j=>.int (sgn (f i j))) (λ _ _ n=>rfl) (λ i j y hj=>by
  generalize hS:s++[O.lst ((ah i).map λ i=>D.tup ((ah m).map λ j=>.int (sgn (f i j))))]=S
  have h:S.all O.ncl=true:=by rw[<-hS];exact an5 hs (W:=λ i j=>.int (sgn (f i j))) (λ _ _=>rfl)
  refine(qM ac6 (n:=n+1) rfl rfl (by rw[h];simp[D.nclL,D.ncl,jz])).trans ?_
  show(ev (aa1 P (n+1)) ac6.body [some (.int i),some (.int j),some (gdO m f)] S).bind (zN S)=_
  simp -implicitDefEqProofs only[ac6]
  tbr_iter [aY9 y,aJ5 hj,aT2 n]
  exact zM)
 rw[C,show(bw some [gdO m f]++am ae2.vs none)=[some (gdO m f)]from rfl]
 simp -implicitDefEqProofs only[ae2]
 tbr_iter [qz,ay9]
 rw[qo (cs:=[gdO m f]) _ rfl]
 have e:gdD m (λ i j=>.int (sgn (f i j)))=gd m (λ i j=>sgn (f i j)):=rfl
 tbr_iter [B,e,if_pos (show((gd m λ i j=>sgn (f i j)).ncl&&s.all O.ncl)=true by rw[ar1,hs];rfl)]
 exact zo ai6 (by nofun)
variable [Has P ad2] [Has P ad6] [Has P ab1] [Has P ab5] [Has P aa5] [HasL P aa3] [Has P ad8] [HasL P ab0] [Has P ab8] [HasL P aa6] [Has P aa9] [Has P ac4]
theorem ax2 (n:Nat){m:Mc}(h:m.Ok)(w:List Nat)(hw:w.length<=5000){s:Sto}(hs:s.all O.ncl=true) :
  ∃ g,SgW m w g/\(aa1 P (n+6)).call "word_signs" [m.d,.str w] s=.ok (gd m.R g) s:=by
 have B:(aa1 P (n+6)).call "word_signs" [m.d,.str w] s=_:=zn ac4 (n:=n+5) rfl
 obtain⟨f,y,e1⟩:=ay5 (P:=P) n h w hw hs
 refine⟨_,y.sg,?_⟩
 rw[B,show(bw some [m.d,D.str w]++am ac4.vs none)=[some m.d,some (D.str w)]from rfl]
 simp -implicitDefEqProofs only[ac4]
 tbr_iter [e1,aU1 (P:=P) (n+1) h.R5 f hs]
 exact zo ai6 (by nofun)
variable [Has P qT] [Has P ai8] [Has P zK] [Has P at5]
end
inductive Rst where
 | let_ (c:Nat)|pair (i j:Nat)|times (i n:Nat)
noncomputable def Rst.d:Rst->D
 | .let_ c=>.tup [.str [108,101,116,116,101,114],.str [c]]
 | .pair i j=>.tup [.str [112,97,105,114],.int i,.int j]
 | .times i n=>.tup [.str [116,105,109,101,115],.int i,.int n]
theorem Rst.bnd (x:Rst)(n:Nat):x.d.bnd n=true:=by cases x<;>rfl
noncomputable def bQ0 (k:Nat):Rst->Prop
 | .let_ c=>97<=c/\c<100
 | .pair i j=>i<k/\j<k
 | .times i n=>i<k/\1<=n/\n<=10^30
def af2 (l:List Rst):Prop:=∀ k x,l[k]?=some x->bQ0 k x
theorem af2.nil:af2 []:=λ k x h=>by cases h
theorem af2.snoc {l:List Rst}{x:Rst}(h:af2 l)(hx:bQ0 l.length x):af2 (l++[x]):=λ k y e=>by
 by_cases hk:k<l.length
 ·rw[aI hk]at e;exact h k y e
 ·have hk2:=(ae.mp e).1
  simp at hk2
  have:k=l.length:=by omega
  subst this
  rw[ax (aj _),iQ]at e
  cases e;exact hx
noncomputable def aw6:Ss->Ss:=λ t=>(.cons (.asg (.one 6) (.call "_law_draw" (.ex (.var 0) (.ex (.cst (.int 6)) .nil)))) (.cons (.asg (.one 7) (.call "_law_draw" (.ex (.var 0) (.ex (.bin .add (.var 5) (.cst (.int 1))) .nil)))) (.cons (.asg (.one 8) (.call "_law_draw" (.ex (.var 0) (.ex (.bin .add (.var 5) (.cst (.int 1))) .nil)))) (.cons (.asg (.one 9) (.bin .add (.cst (.int 1)) (.call "_law_draw" (.ex (.var 0) (.ex (.cst (.int 6)) .nil))))) (.cons (.ite (.cmp .eq (.call "_law_draw" (.ex (.var 0) (.ex (.cst (.int 3)) .nil))) (.cst (.int 2))) (.cons (.asg (.one 9) (.bin .add (.cst (.int 1)) (.call "_law_draw" (.ex (.var 0) (.ex (.bin .pow (.cst (.int 10)) (.cst (.int 30))) .nil))))) .nil) .nil) t)))))
def cm9 (s:Sto)(r most:Nat)(x:R D):Prop:=∃(l:List Rst) (b:Int),af2 l/\1<=l.length/\l.length<=most/\x=.ok (.tup (l.map Rst.d)) (s.set r (z9 b))
theorem rl0 {ch:Nat}{s:Sto}:ixM (Rst.let_ ch).d (.int 0) s=.ok (.str cf9) s:=rfl
theorem rl1 {ch:Nat}{s:Sto}:ixM (Rst.let_ ch).d (.int 1) s=.ok (.str [ch]) s:=rfl
theorem rp0 {i j:Nat}{s:Sto}:ixM (Rst.pair i j).d (.int 0) s=.ok (.str bp8) s:=rfl
theorem rp1 {i j:Nat}{s:Sto}:ixM (Rst.pair i j).d (.int 1) s=.ok (.int i) s:=rfl
theorem rp2 {i j:Nat}{s:Sto}:ixM (Rst.pair i j).d (.int 2) s=.ok (.int j) s:=rfl
theorem rt0 {i n:Nat}{s:Sto}:ixM (Rst.times i n).d (.int 0) s=.ok (.str au0) s:=rfl
theorem rt1 {i n:Nat}{s:Sto}:ixM (Rst.times i n).d (.int 1) s=.ok (.int i) s:=rfl
theorem rt2 {i n:Nat}{s:Sto}:ixM (Rst.times i n).d (.int 2) s=.ok (.int n) s:=rfl
theorem bK8 {n:Nat}(h:n<=10^30):((n:Int)).natAbs<BIG:=ck1 (by omega) (by
 have:((n:Nat):Int)<=((10^30:Nat):Int):=by exact_mod_cast h
 exact bW this (by decide +kernel))
section
variable {P:Pr} [Has P ad1] [Has P ap3] [HasL P jc] [HasL P je] [HasL P jd]
end
theorem bc5 {F:Fns}{ρ:Env}{s:Sto}:ev F (.neg (.cst (.int 1))) ρ s=.ok (.int (-1)) s:=rfl
theorem aN4 {s:Sto}{r:Nat}{l:List D}{d:D}(h:s[r]?=some (.lst l))(hd:l[l.length - 1]?=some d):ixM (.ref r) (.int (-1)) s=.ok d s:=by
 have hl:=(ae.mp hd).1
 have hx:ixn l.length (-1)=some (l.length - 1):=by
  unfold ixn
  rw[if_neg (by decide),if_pos (by omega)]
  congr 1;omega
 simp only[ixM,h,hx,Option.bind_some,hd]
section
variable {P:Pr} [Has P ad1] [Has P ap3] [HasL P jc] [HasL P je] [HasL P jd] [Has P aI7] [Has P aw2]
end
noncomputable def cj4:Ss:=(.cons (.ex (.meth .append (.var 3) (.cons (.tup (.cons (.cst (.str [112,97,105,114])) (.cons (.var 4) (.cons (.bin .sub (.var 4) (.call "_law_draw" (.ex (.var 0) (.ex (.bin .add (.bi .min2 (.cons (.var 4) (.cons (.cst (.int 1)) .nil))) (.cst (.int 1))) .nil)))) .nil)))) .nil))) .nil)
section
variable {α:Type} (d:α) (fl:Nat->α) (fp:α->α->α) (ft:α->Nat->α)
noncomputable def foV (vs:List α):Rst->α
 | .let_ c=>fl c
 | .pair i j=>fp (vs.getD i d) (vs.getD j d)
 | .times i n=>ft (vs.getD i d) n
noncomputable def foR (l:List Rst):List α:=l.foldl (λ vs x=>vs++[foV d fl fp ft vs x]) []
theorem aM1 {l:List Rst}{k:Nat}{x:Rst}(h:l[k]?=some x):foR d fl fp ft (l.take (k+1))=foR d fl fp ft (l.take k)++[foV d fl fp ft (foR d fl fp ft (l.take k)) x]:=by
 rw[ap6 h];unfold foR;rw[iR];rfl
theorem aI6 {l:List Rst}:∀ k,k<=l.length->(foR d fl fp ft (l.take k)).length=k
 | 0,_=>by simp[foR]
 | k+1,h=>by
  rw[aM1 d fl fp ft (ai (show k<l.length by omega)),bn,aI6 k (by omega)];rfl
theorem aO9:∀(l:List Rst) (vs:List α),∃ t,l.foldl (λ vs x=>vs++[foV d fl fp ft vs x]) vs=vs++t
 | [],vs=>⟨[],by simp⟩
 | x::l,vs=>by
  obtain⟨t,e⟩:=aO9 l (vs++[foV d fl fp ft vs x])
  exact⟨foV d fl fp ft vs x::t,by rw[cu,e];simp⟩
theorem ax4 {l:List Rst}{k i:Nat}(hk:k<=l.length)(h:i<k):(foR d fl fp ft (l.take k)).getD i d=(foR d fl fp ft l).getD i d:=by
 obtain⟨t,e⟩:=aO9 d fl fp ft (l.drop k) (foR d fl fp ft (l.take k))
 have:foR d fl fp ft l=foR d fl fp ft (l.take k)++t:=by
  rw[<-e]
  conv=>lhs;rw[<-List.take_append_drop k l]
  unfold foR;rw[iR]
 have hl:=aI6 d fl fp ft (l:=l) k hk
 rw[this,aS,aS,aI (by omega)]
theorem ba7 {l:List Rst}{k:Nat}{x:Rst}(h:l[k]?=some x):(foR d fl fp ft l).getD k d=foV d fl fp ft (foR d fl fp ft (l.take k)) x:=by
 have hk:=(ae.mp h).1
 rw[<-ax4 d fl fp ft (k:=k+1) (by omega) (dU k),aM1 d fl fp ft h]
 have hl:=aI6 d fl fp ft (l:=l) k (by omega)
 rw[aS,ax (by omega),hl,iQ];rfl
theorem bV2 {l:List Rst}{k c:Nat}(h:l[k]?=some (.let_ c)):(foR d fl fp ft l).getD k d=fl c:=ba7 d fl fp ft h
theorem bS8 {l:List Rst}{k i j:Nat}(h:l[k]?=some (.pair i j))(y:i<k)(hj:j<k):(foR d fl fp ft l).getD k d=fp ((foR d fl fp ft l).getD i d) ((foR d fl fp ft l).getD j d):=by
 have hk:=(ae.mp h).1
 rw[ba7 d fl fp ft h,<-ax4 d fl fp ft (k:=k) (by omega) y,<-ax4 d fl fp ft (k:=k) (by omega) hj];rfl
theorem bP8 {l:List Rst}{k i n:Nat}(h:l[k]?=some (.times i n))(y:i<k):(foR d fl fp ft l).getD k d=ft ((foR d fl fp ft l).getD i d) n:=by
 have hk:=(ae.mp h).1
 rw[ba7 d fl fp ft h,<-ax4 d fl fp ft (k:=k) (by omega) y];rfl
end
noncomputable def wds (l:List Rst):List (List Nat):=foR [] (λ c=>[c]) (·++·) (λ w n=>rep n w) l
noncomputable def wd (l:List Rst)(k:Nat):List Nat:=(wds l).getD k []
theorem ck6 {l:List Rst}{k c:Nat}(h:l[k]?=some (.let_ c)):wd l k=[c]:=bV2 _ _ _ _ h
theorem cl0 {l:List Rst}{k i j:Nat}(h:l[k]?=some (.pair i j))(y:i<k)(hj:j<k):wd l k=wd l i++wd l j:=bS8 _ _ _ _ h y hj
theorem cm5 {l:List Rst}{k i n:Nat}(h:l[k]?=some (.times i n))(y:i<k):wd l k=rep n (wd l i):=bP8 _ _ _ _ h y
theorem aQ4 {P:Pr}[Has P ac3](n:Nat)(W:Nat->D)(h:String){s:Sto}(hb:∀ k n,(W k).bnd n=true)(hr:∀ k r,W k≠.ref r)(G:∀ a b,(aa1 P n).call h [W a,W b] s=.ok (W (a+b)) s)(many:Nat) :
  (aa1 P (n+1)).call "raised" [W 1,.int many,W 0,.fn h] s=.ok (W many) s:=by
 have e0:(aa1 P (n+1)).call "raised" [W 1,.int many,W 0,.fn h] s=_:=zn ac3 (n:=n) rfl
 have key:∀ a b,apV (aa1 P n) (.fn h) [W a,W b] s=.ok (W (a+b)) s:=G
 rw[e0,show(bw some [W 1,.int many,W 0,.fn h]++am ac3.vs none)=[some (W 1),some (.int many),some (W 0),some (.fn h),none,none,none]from rfl]
 simp -implicitDefEqProofs only[ac3]
 simp -implicitDefEqProofs only[za,zg,zS,zd,ze,zl,R.bind_ok,zb,zG,zB,aE,zt,zh,ex_whl]
 rw[R.bind_assoc]
 refine aw5 (λ k ρ t=>∃(a b left:Nat),left=k/\a+b*left=many/\ρ=[some (W 1),some (.int many),some (W 0),some (.fn h),some (W a),some (W b),some (.int left)]/\t=s) (λ ρ t=>∃(b:Nat) (x:Option D),ρ=[some (W 1),some (.int many),some (W 0),some (.fn h),some (W many),some (W b),x]/\t=s) many ⟨0,1,many,rfl,by omega,rfl,rfl⟩ ?_ ?_
 ·rintro k ρ t ⟨a,b,left,rfl,hab,rfl,rfl⟩
  simp -implicitDefEqProofs only[zJ,zd,zC,zD,ze,zl,R.bind_ok,gt_int,bg4]
  by_cases hl:(0:Int)<(left:Int)
  ·simp only[hl,decide_true,if_true]
   have y:qK .fdiv (.int left) (.int 2) t=.ok (.int ((left / 2:Nat):Int)) t:=by rw[ah9 (by decide) (by decide)];simp
   have C:qK .mod (.int left) (.int 2) t=.ok (.int ((left % 2:Nat):Int)) t:=by rw[qW (by decide)];simp
   obtain⟨B,ha',e1⟩:∃ B:Nat,B+b*(2*(left / 2))=many/\ex (aa1 P n) (.ite (.cmp .eq (.bin .mod (.var 6) (.cst (.int 2))) (.cst (.int 1))) (.cons (.asg (.one 4) (.callV 3 (.cons (.var 4) (.cons (.var 5) .nil)))) .nil) .nil) [some (W 1),some (.int many),some (W 0),some (.fn h),some (W a),some (W b),some (.int left)] t=.ok (.next [some (W 1),some (.int many),some (W 0),some (.fn h),some (W B),some (W b),some (.int left)]) t:=by
    by_cases ho:((left % 2:Nat):Int)=1
    ·refine⟨a+b,?_,?_⟩
     ·have:left=2*(left / 2)+1:=by omega
      rw[this,fv]at hab
      have e2:2*((2*(left / 2)+1) / 2)=2*(left / 2):=by omega
      omega
     ·simp -implicitDefEqProofs only[zX,zJ,qd,zd,zC,zD,ze,zl,R.bind_ok,C,qZ,ho,decide_true,zE,if_true,za,zg,zS]
      rw[qL (d:=.fn h) _ rfl]
      simp -implicitDefEqProofs only[zx,zA,zd,ze,zl,R.bind_ok,key a b,zb,zG,zB,aE,zt,zh,zg]
    ·refine⟨a,?_,?_⟩
     ·have:left=2*(left / 2):=by omega
      rw[<-this];exact hab
     ·simp -implicitDefEqProofs only[zX,zJ,qd,zd,zC,zD,ze,zl,R.bind_ok,C,qZ,ho,decide_false,zE,if_false,aJ,zg]
   have e2:∃ J:Nat,B+J*(left / 2)=many/\exs (aa1 P n) (.cons (.asg (.one 6) (.bin .fdiv (.var 6) (.cst (.int 2)))) (.cons (.ite (.cmp .gt (.var 6) (.cst (.int 0))) (.cons (.asg (.one 5) (.callV 3 (.cons (.var 5) (.cons (.var 5) .nil)))) .nil) .nil) .nil)) [some (W 1),some (.int many),some (W 0),some (.fn h),some (W B),some (W b),some (.int left)] t=.ok (.next [some (W 1),some (.int many),some (W 0),some (.fn h),some (W B),some (W J),some (.int ((left / 2:Nat):Int))]) t:=by
    by_cases hl2:(0:Int)<((left / 2:Nat):Int)
    ·refine⟨b+b,?_,?_⟩
     ·rw[<-ha',Nat.add_mul,<-fL,gf b 2,fL];omega
     ·simp -implicitDefEqProofs only[za,zS,qd,zd,zC,zD,ze,zl,R.bind_ok,y,zb,zG,zB,aE,zt,zh,zX,zJ,gt_int,hl2,decide_true,zE,if_true,zg]
      rw[qL (d:=.fn h) _ rfl]
      simp -implicitDefEqProofs only[zx,zA,zd,ze,zl,R.bind_ok,key b b,zb,zG,zB,aE,zt,zh,zg]
    ·refine⟨b,?_,?_⟩
     ·have:left / 2=0:=by omega
      rw[this]at ha' ⊢
      exact ha'
     ·simp -implicitDefEqProofs only[za,zS,qd,zd,zC,zD,ze,zl,R.bind_ok,y,zb,zG,zB,aE,zt,zh,zX,zJ,gt_int,hl2,decide_false,zE,if_false,aJ,zg]
   obtain⟨J,Y,e2⟩:=e2
   have Z:exs (aa1 P n) (.cons (.ite (.cmp .eq (.bin .mod (.var 6) (.cst (.int 2))) (.cst (.int 1))) (.cons (.asg (.one 4) (.callV 3 (.cons (.var 4) (.cons (.var 5) .nil)))) .nil) .nil) (.cons (.asg (.one 6) (.bin .fdiv (.var 6) (.cst (.int 2)))) (.cons (.ite (.cmp .gt (.var 6) (.cst (.int 0))) (.cons (.asg (.one 5) (.callV 3 (.cons (.var 5) (.cons (.var 5) .nil)))) .nil) .nil) .nil))) [some (W 1),some (.int many),some (W 0),some (.fn h),some (W a),some (W b),some (.int left)] t=.ok (.next [some (W 1),some (.int many),some (W 0),some (.fn h),some (W B),some (W J),some (.int ((left / 2:Nat):Int))]) t:=by
    rw[za,e1,R.bind_ok,zh,e2]
   rw[Z]
   exact⟨left / 2,by omega,B,J,left / 2,rfl,Y,rfl,rfl⟩
  ·simp only[hl,decide_false,if_false,aJ]
   have h0:left=0:=by omega
   subst h0
   have:a=many:=by omega
   subst this
   exact⟨b,_,rfl,trivial⟩
 ·rintro ρ t ⟨b,x,rfl,rfl⟩
  simp -implicitDefEqProofs only[zh,za,zg,qt,zd,ze,zl,R.bind_ok,zR,zQ]
  exact zo (hb many) (hr many)
theorem jg (w:List Nat)(b:Nat):∀ a,rep (a+b) w=rep a w++rep b w
 | 0=>by rw[bU];rfl
 | a+1=>by rw[Nat.succ_add];show w++rep (a+b) w=(w++rep a w)++rep b w;rw[jg w b a,fj]
theorem bf4 (w:List Nat):rep 1 w=w:=br w
noncomputable def tbO (m:Mc):List Nat->Nat->Nat->Option Int
 | []=>λ i j=>if i=j then some 0 else none
 | c::w=>prO m.R (ltF m.ds c) (tbO m w)
theorem az9 {m:Mc}(h:m.Ok):∀ w,al1 m w (tbO m w)
 | []=>al1.nil
 | c::w=>al1.mul h (al1.letter c) (az9 h w)
noncomputable def tbD (m:Mc)(w:List Nat):D:=gdO m.R (tbO m w)
theorem ak2 {m:Mc}{w:List Nat}(n:Nat):(tbD m w).bnd n=true:=aq9 n
theorem bK6 {m:Mc}{w:List Nat}:(tbD m w).ncl=true:=jz
theorem bw1 {m:Mc}(y:m.Ok){w:List Nat}{f:Nat->Nat->Option Int}(h:al1 m w f):gdO m.R f=tbD m w:=h.eq (az9 y w)
theorem bc2 {m:Mc}(h:m.Ok)(v w:List Nat):gdO m.R (prO m.R (tbO m v) (tbO m w))=tbD m (v++w):=bw1 h ((az9 h v).mul h (az9 h w))
section
variable {P:Pr} [Has P ad0] [Has P ad2] [Has P ad6] [Has P ad8] [HasL P ab0] [Has P ab8] [HasL P aa6] [Has P ac3] [Has P ae6] [HasC P "product" (.fn "product")]
theorem aW3 (n:Nat){m:Mc}(y:m.Ok)(w:List Nat)(many:Nat){s:Sto}(hs:s.all O.ncl=true) :
  (aa1 P (n+6)).call "power" [tbD m w,.int many] s=.ok (tbD m (rep many w)) s:=by
 have C:(aa1 P (n+6)).call "power" [tbD m w,.int many] s=_:=zn ae6 (n:=n+5) rfl
 have e1:=aQ4 (P:=P) (n+4) (λ a=>tbD m (rep a w)) "product" (s:=s) (λ _ n=>ak2 n) (λ _ _ h=>by cases h) (λ a b=>by
  rw[tbD,tbD,qR (P:=P) n y.R5 _ _ hs,bc2 y,<-jg]) many
 rw[show rep 1 w=w from bf4 w]at e1
 have e2:=aO1 (P:=P) (n+2) y.R5 hs
 have g1:=λ ρ s=>jh (P:=P) (n:=n+5) (x := "product") (d:=.fn "product") ρ s
 have B:bi .len [tbD m w] s=.ok (.int m.R) s:=ay9
 rw[C,show(bw some [tbD m w,D.int many]++am ae6.vs none)=[some (tbD m w),some (.int many)]from rfl,show ae6.body=(.cons (.ret (.call "raised" (.ex (.var 0) (.ex (.var 1) (.ex (.call "plain" (.ex (.bi .len (.cons (.var 0) .nil)) .nil)) (.ex (.glob "product") .nil)))))) .nil)from rfl]
 tbr_iter [B,e2,g1]
 rw[show(gdO m.R λ i j=>if i=j then some 0 else none)=tbD m (rep 0 w)from rfl,e1]
 tbr_iter []
 exact zo ak2 (by nofun)
end
noncomputable def RsB (k:Nat):Rst->Prop
 | .let_ _=>True
 | .pair i j=>i<k/\j<k
 | .times i _=>i<k
def cc6 (l:List Rst):Prop:=∀ k x,l[k]?=some x->RsB k x
theorem af2.b {l:List Rst}(h:af2 l):cc6 l:=λ k x e=>by
 have:=h k x e
 cases x
 ·trivial
 ·exact this
 ·exact this.1
theorem at7 {P:Pr}[Has P ad1](n:Nat){l:List Rst}(hl:l.length<=5100)(hk:cc6 l){s:Sto}{d0:D}{src:List Nat}(hsr:∀ r∈src,r<s.length)(Y:∀ t,aK5 d0 (s++t)=.ok ⟨l.map Rst.d,src⟩ (s++t))(d1 B C:D)(W:Nat->D)(hW:∀ k n,(W k).bnd n=true)
  (h1:∀ k ch,l[k]?=some (.let_ ch)->apV (aa1 P n) d1 [.str [ch]] (s++[.lst ((ah k).map W)])=.ok (W k) (s++[.lst ((ah k).map W)]))
  (h2:∀ k i j,l[k]?=some (.pair i j)->apV (aa1 P n) B [W i,W j] (s++[.lst ((ah k).map W)])=.ok (W k) (s++[.lst ((ah k).map W)]))
  (h3:∀ k i m,l[k]?=some (.times i m)->apV (aa1 P n) C [W i,.int (m:Nat)] (s++[.lst ((ah k).map W)])=.ok (W k) (s++[.lst ((ah k).map W)])) :
  (aa1 P (n+1)).call "folded" [d0,d1,B,C] s=.ok (.ref s.length) (s++[.lst ((ah l.length).map W)]):=by
 have e0:(aa1 P (n+1)).call "folded" [d0,d1,B,C] s=_:=zn ad1 (n:=n) rfl
 rw[e0,show(bw some [d0,d1,B,C]++am ad1.vs none)=[some d0,some d1,some B,some C,none,none]from rfl]
 simp -implicitDefEqProofs only[ad1]
 simp -implicitDefEqProofs only[za,zg,zS,ev_lst,zA,R.bind_ok,alloc_eq,zb,zG,zB,aE,zt,zh,ex_for,evI_seq,zd,ze,zl]
 rw[Y]
 simp only[R.bind_ok]
 rw[R.bind_assoc]
 refine aN3 (λ k ρ t=>∃(x:Option D),ρ=[some d0,some d1,some B,some C,some (.ref s.length),x]/\t=s++[.lst ((ah k).map W)]) ⟨none,rfl,rfl⟩ (λ _ _ _ _ h=>?_) ?_ ?_
 ·obtain⟨_,_,rfl⟩:=h
  unfold chk
  exact aO.mpr λ r Z=>by rw[aI (hsr r Z),aI (hsr r Z)];simp
 ·rintro k d ρ t hkk ⟨x,rfl,rfl⟩
  rw[aF]at hkk
  obtain⟨v,hv,hd⟩:∃ v,l[k]?=some v/\Rst.d v=d:=by
   cases e:l[k]? with
   | none=>rw[e]at hkk;cases hkk
   | some v=>rw[e]at hkk;exact⟨v,rfl,ar hkk⟩
  subst hd
  have a0:=(ae.mp hv).1
  have hok:=hk k v hv
  have L1:((ah k).map W).length<LIM:=by unfold LIM;rw[aG,ci];omega
  have g0:(s++[O.lst ((ah k).map W)])[s.length]?=some (.lst ((ah k).map W)):=by rw[ax (aj _)];simp
  have J:∀ i,i<k->ixM (.ref s.length) (.int (i:Int)) (s++[O.lst ((ah k).map W)])=.ok (W i) (s++[O.lst ((ah k).map W)]):=λ i G=>at0 g0 (by rw[aF,bI G];rfl)
  refine bo5 (ρ:=[some d0,some d1,some B,some C,some (.ref s.length),some v.d]) (s:=s++[.lst ((ah (k+1)).map W)]) ?_ ⟨_,rfl,rfl⟩
  rw[jE,bX]
  unfold turn
  cases v with
  | let_ ch =>
   have y:=h1 k ch hv
   simp -implicitDefEqProofs only[zb,zG,zB,aE,za,zg,zX,zJ,ev_ix,zd,zC,zD,Cn_str,ze,zl,R.bind_ok,rl0,jj,show(cf9=[108,101,116,116,101,114])=True from eq_self _,decide_true,zE,if_true,ex_ex,qV,zx,zA]
   rw[qL (d:=d1) _ rfl]
   simp -implicitDefEqProofs only[zx,zA,ev_ix,zd,zC,zD,ze,zl,R.bind_ok,rl1,y]
   rw[ai4 L1];rfl
  | pair i j =>
   obtain⟨G,hj⟩:=hok
   have y:=h2 k i j hv
   simp -implicitDefEqProofs only[zb,zG,zB,aE,za,zg,zX,zJ,ev_ix,zd,zC,zD,Cn_str,ze,zl,R.bind_ok,rp0,jj,show(bp8=[108,101,116,116,101,114])=False by decide,show(bp8=[112,97,105,114])=True from eq_self _,decide_true,decide_false,aJ,zE,if_true,if_false,ex_ex,qV,zx,zA]
   rw[qL (d:=B) _ rfl]
   simp -implicitDefEqProofs only[zx,zA,ev_ix,zd,zC,zD,ze,zl,R.bind_ok,rp1,rp2,J i G,J j hj,y]
   rw[ai4 L1];rfl
  | times i m =>
   have G:=hok
   have y:=h3 k i m hv
   simp -implicitDefEqProofs only[zb,zG,zB,aE,za,zg,zX,zJ,ev_ix,zd,zC,zD,Cn_str,ze,zl,R.bind_ok,rt0,jj,show(au0=[108,101,116,116,101,114])=False by decide,show(au0=[112,97,105,114])=False by decide,decide_false,aJ,zE,if_false,ex_ex,qV,zx,zA]
   rw[qL (d:=C) _ rfl]
   simp -implicitDefEqProofs only[zx,zA,ev_ix,zd,zC,zD,ze,zl,R.bind_ok,rt1,rt2,J i G,y]
   rw[ai4 L1];rfl
 ·rintro ρ t ⟨x,rfl,rfl⟩
  rw[aG]
  simp -implicitDefEqProofs only[zh,za,zg,qt,zd,ze,zl,R.bind_ok,zR,zQ]
  exact bf7 (by unfold O.bnd;exact zU (λ d hd n=>by obtain⟨x,_,rfl⟩:=ay.mp hd;exact hW x n) _)
section
variable {P:Pr} [Has P ad1] [Has P ap3] [HasL P jc] [HasL P je] [HasL P jd] [Has P aj8]
end
section
variable {P:Pr} [Has P ad0] [Has P ad2] [Has P ad6] [Has P ab1] [Has P ab5] [Has P aa5] [HasL P aa3] [Has P ad8] [HasL P ab0] [Has P ab8] [HasL P aa6] [Has P ac3] [Has P ae6] [HasC P "product" (.fn "product")] [HasC P "power" (.fn "power")] [Has P ad1] [Has P ac5] [HasL P ac1]
theorem aL8 {α:Type}{n:Nat}(h:1<=n)(W:Nat->α):((ah n).map W)[((ah n).map W).length - 1]?=some (W (n - 1)):=by
 rw[aG,ci,aF,bI (by omega)];rfl
theorem aB5 {s:Sto}(hs:s.all O.ncl=true){W:Nat->D}(h:∀ k,(W k).ncl=true)(k:Nat):(s++[O.lst ((ah k).map W)]).all O.ncl=true :=
 qA hs (zI λ d hd=>by obtain⟨x,_,rfl⟩:=ay.mp hd;exact h x)
theorem ax6 (n:Nat){m:Mc}(y:m.Ok){l:List Rst}(hl:l.length<=5100)(G:1<=l.length)(hk:cc6 l){s:Sto}(hs:s.all O.ncl=true){d0:D}{src:List Nat}(hsr:∀ r∈src,r<s.length)(B:∀ t,aK5 d0 (s++t)=.ok ⟨l.map Rst.d,src⟩ (s++t)) :
  (aa1 P (n+8)).call "last_table" [m.d,d0] s=.ok (tbD m (wd l (l.length - 1))) s:=by
 have Z:(aa1 P (n+8)).call "last_table" [m.d,d0] s=_:=zn ac5 (n:=n+7) rfl
 have h:=aB5 hs (W:=λ k=>tbD m (wd l k)) (λ k=>bK6)
 have J:=at7 (P:=P) (n+6) hl hk hsr B (.clo "last_table.0" [m.d]) (.fn "product") (.fn "power") (λ k=>tbD m (wd l k)) (λ _ n=>ak2 n)
  (λ k ch hv=>by
   refine(qM ac1 (n:=n+5) rfl rfl (by rw[h k];unfold D.nclL;rw[bc6];rfl)).trans ?_
   have e1:=jl (P:=P) (n+1) y ch (h k)
   rw[bw1 y (al1.letter ch)]at e1
   rw[show wd l k=[ch]from ck6 hv]
   show(ev (aa1 P (n+5)) (.call "letter_table" (.ex (.var 1) (.ex (.var 0) .nil))) [some (.str [ch]),some m.d] _).bind (zN _)=_
   tbr_iter [e1]
   exact zo ak2 (by nofun))
  (λ k i j hv=>by
   obtain⟨C,hj⟩:=hk k _ hv
   rw[cl0 hv C hj,<-bc2 y]
   exact qR (P:=P) (n+2) y.R5 _ _ (h k))
  (λ k i q hv=>by
   have C:=hk k _ hv
   rw[cm5 hv C]
   exact aW3 (P:=P) n y _ q (h k))
 have g1:=λ ρ s=>jh (P:=P) (n:=n+7) (x := "product") (d:=.fn "product") ρ s
 have g2:=λ ρ s=>jh (P:=P) (n:=n+7) (x := "power") (d:=.fn "power") ρ s
 have Y:=aN4 (bZ0 (s:=s)) (aL8 G λ k=>tbD m (wd l k))
 rw[Z,show(bw some [m.d,d0]++am ac5.vs none)=[some m.d,some d0]from rfl,show ac5.body=(.cons (.ret (.ix (.callC "folded" (.ex (.var 1) (.lam "last_table.0" [0] (.ex (.glob "product") (.ex (.glob "power") .nil))))) (.neg (.cst (.int 1))))) .nil)from rfl]
 simp -implicitDefEqProofs only[za,zg,qt,ev_ix,qz,zL,zd,ze,zl,R.bind_ok]
 rw[qo (cs:=[m.d]) _ rfl]
 simp -implicitDefEqProofs only[zL,zF,g1,g2,R.bind_ok,J]
 rw[if_pos (by rw[h l.length];rfl)]
 simp -implicitDefEqProofs only[R.bind_ok,bc5,Y,zR,zQ]
 exact qe ak2 (by nofun)
theorem bc4 {l:List Rst}{s:Sto}:∀ t,aK5 (.tup (l.map Rst.d)) (s++t)=.ok ⟨l.map Rst.d,[]⟩ (s++t):=λ _=>rfl
theorem az3 [Has P ac9](n:Nat){m:Mc}(B:m.Ok){l:List Rst}(hl:l.length<=5100)(y:1<=l.length)(hk:cc6 l){s:Sto}(hs:s.all O.ncl=true) :
  (aa1 P (n+9)).call "long_table" [m.d,.tup (l.map Rst.d)] s=.ok (tbD m (wd l (l.length - 1))) s:=by
 have C:(aa1 P (n+9)).call "long_table" [m.d,.tup (l.map Rst.d)] s=_:=zn ac9 (n:=n+8) rfl
 have e1:=ax6 (P:=P) n B hl y hk hs (src:=[]) (λ _ h=>by cases h) (bc4 (l:=l))
 rw[C,show(bw some [m.d,D.tup (l.map Rst.d)]++am ac9.vs none)=[some m.d,some (.tup (l.map Rst.d))]from rfl,show ac9.body=(.cons (.ret (.call "last_table" (.ex (.var 0) (.ex (.var 1) .nil)))) .nil)from rfl]
 tbr_iter [e1]
 exact zo ak2 (by nofun)
end
noncomputable def Stp.r (c:Nat):Stp->Rst
 | .let_ x=>.let_ x
 | .pair i j=>.pair i j
 | .sharp i=>.times i c
section
variable {P:Pr} [Has P aj8] [Has P ab1] [Has P au4]
variable [Has P ad0] [Has P ad2] [Has P ad6] [Has P ab5] [Has P aa5] [HasL P aa3] [Has P ad8] [HasL P ab0] [Has P ab8] [HasL P aa6] [Has P ac3] [Has P ae6] [HasC P "product" (.fn "product")] [HasC P "power" (.fn "power")] [Has P ad1] [Has P ac5] [HasL P ac1] [Has P al8]
end
noncomputable def bg (w:List Nat):List Nat:=w.take 2001
section
variable {P:Pr} [HasC P "MOST_WRITTEN" (.int 2000)] [Has P bB9] [Has P aw8]
variable [HasC P "begun_times" (.fn "begun_times")] [Has P ad1] [Has P aK0] [HasL P as0] [HasL P ar5]
variable [Has P aj8] [Has P ab1] [Has P au4] [Has P ao1]
end
section
variable {P:Pr} [Has P jk] [Has P aw1]
end
section
variable {P:Pr} [Has P jk] [Has P aw1] [Has P ao2]
end
noncomputable def bs1 (m:Nat)(f:Nat->Nat->Option Int):Sto:=(ah m).map λ i=>.lst (rowO m (f i))
@[simp] theorem bM2 {m:Nat} {f:Nat->Nat->Option Int}:(bs1 m f).length=m:=by unfold bs1;simp
section
variable {P:Pr} [Has P jk] [Has P aw1] [Has P ao2] [Has P jb] [Has P bB7]
end
section
variable {P:Pr} [Has P jk] [Has P aw1] [Has P ao2] [Has P jb] [Has P by1]
end
section
variable {P:Pr} [Has P jk] [Has P bb6]
end
noncomputable def bi7 (L:Nat)(s:Sto)(r:Nat)(most z:Int)(x5 x6 x7 x8 x9:Option D):Env:=[some (.ref r),some (.int (L:Int)),some (.int most),some (.int z),some (.ref s.length),x5,x6,x7,x8,x9]
theorem aI2 {F:Fns}{s:Sto}{r:Nat}{b most z:Int}{k way one other many:Nat}{l:List Rst}{L:Nat}(C:1<=L)(Y:L<=3)(hl:l.length=k)(hk:k<1000)(h1:one<k+1)(h2:other<k+1)(J:1<=many)(hm2:many<=10^30) :
  ∃(x:Rst) (z':Int),bQ0 k x/\exs F ah2 (bi7 L s r most z (some (.int k)) (some (.int way)) (some (.int one)) (some (.int other)) (some (.int many))) (s.set r (z9 b)++[.lst (l.map Rst.d)])=.ok (.next (bi7 L s r most z' (some (.int k)) (some (.int way)) (some (.int one)) (some (.int other)) (some (.int many)))) (s.set r (z9 b)++[.lst ((l++[x]).map Rst.d)]):=by
 have B:∀ v,meth .append (.ref s.length) [v] (s.set r (z9 b)++[.lst (l.map Rst.d)])=.ok .non (s.set r (z9 b)++[.lst (l.map Rst.d++[v])]):=λ v=>aV8 (by unfold LIM;rw[aG];omega)
 have h:∀ a:Nat,0<k->(if(k:Int) - 1<(a:Int)then(k:Int) - 1 else(a:Int))=((min a (k - 1):Nat):Int):=λ a _=>by omega
 unfold ah2 bi7
 by_cases hA:0<k/\(way:Int)<3/\(0:Int)<z
 ·obtain⟨a1,a2,a3⟩:=hA
  have y:(0:Int)<(k:Int):=by omega
  refine⟨.times (min one (k - 1)) many,z - 1,⟨by omega,J,hm2⟩,?_⟩
  simp -implicitDefEqProofs only[za,zg,zX,ev_and,zJ,zd,zC,zD,Cn_str,ze,zl,R.bind_ok,gt_int,lt_int,y,a2,a3,decide_true,zE,if_true,ex_ex,qV,zx,zA,ev_tup,ev_bi,qd,sub_int,an0,h one a1,B,zh,zS,zb,zG,zB,aE,zt,bX]
  rfl
 ·have G:ev F (.and (.cmp .gt (.var 5) (.cst (.int 0))) (.and (.cmp .lt (.var 6) (.cst (.int 3))) (.cmp .gt (.var 3) (.cst (.int 0))))) [some (.ref r),some (.int (L:Int)),some (.int most),some (.int z),some (.ref s.length),some (.int k),some (.int way),some (.int one),some (.int other),some (.int many)] (s.set r (z9 b)++[.lst (l.map Rst.d)])=.ok (.bl false) (s.set r (z9 b)++[.lst (l.map Rst.d)]):=by
   by_cases a1:(0:Int)<(k:Int)
   ·by_cases a2:(way:Int)<3
    ·have a3:¬(0:Int)<z:=λ q=>hA ⟨by omega,a2,q⟩
     simp -implicitDefEqProofs only[ev_and,zJ,zd,zC,zD,ze,zl,R.bind_ok,gt_int,lt_int,a1,a2,a3,decide_true,decide_false,zE,if_true]
    ·simp -implicitDefEqProofs only[ev_and,zJ,zd,zC,zD,ze,zl,R.bind_ok,gt_int,lt_int,a1,a2,decide_true,decide_false,zE,if_true,if_false,aJ]
   ·simp -implicitDefEqProofs only[ev_and,zJ,zd,zC,zD,ze,zl,R.bind_ok,gt_int,a1,decide_false,zE,if_false,aJ]
  by_cases hB:0<k/\(way:Int)<5
  ·obtain⟨a1,a2⟩:=hB
   have y:(0:Int)<(k:Int):=by omega
   refine⟨.pair (min one (k - 1)) (min other (k - 1)),z,⟨by omega,by omega⟩,?_⟩
   rw[za,zX,G]
   simp -implicitDefEqProofs only[zE,if_false,aJ,za,zg,zX,ev_and,zJ,zd,zC,zD,Cn_str,ze,zl,R.bind_ok,gt_int,lt_int,y,a2,decide_true,if_true,ex_ex,qV,zx,zA,ev_tup,ev_bi,qd,sub_int,an0,h one a1,h other a1,B,zh,bX]
   rfl
  ·have c2:ev F (.and (.cmp .gt (.var 5) (.cst (.int 0))) (.cmp .lt (.var 6) (.cst (.int 5)))) [some (.ref r),some (.int (L:Int)),some (.int most),some (.int z),some (.ref s.length),some (.int k),some (.int way),some (.int one),some (.int other),some (.int many)] (s.set r (z9 b)++[.lst (l.map Rst.d)])=.ok (.bl false) (s.set r (z9 b)++[.lst (l.map Rst.d)]):=by
    by_cases a1:(0:Int)<(k:Int)
    ·have a2:¬(way:Int)<5:=λ q=>hB ⟨by omega,q⟩
     simp -implicitDefEqProofs only[ev_and,zJ,zd,zC,zD,ze,zl,R.bind_ok,gt_int,lt_int,a1,a2,decide_true,decide_false,zE,if_true]
    ·simp -implicitDefEqProofs only[ev_and,zJ,zd,zC,zD,ze,zl,R.bind_ok,gt_int,a1,decide_false,zE,if_false,aJ]
   have Z:((one:Int) % (L:Int))=((one % L:Nat):Int):=rfl
   have a0:one % L<L:=jX _ C
   refine⟨.let_ (97+one % L),z,⟨by omega,by omega⟩,?_⟩
   rw[za,zX,G]
   simp -implicitDefEqProofs only[zE,if_false,aJ,za,zg,zX,c2,ex_ex,qV,zx,zA,ev_tup,ev_ix,qd,zd,zC,zD,Cn_str,ze,zl,R.bind_ok,qW (show(0:Int)<(L:Int)by omega),Z,ba8 (show one % L<3 by omega),B,zh,bX]
   rfl
theorem aR4 {P:Pr}[Has P af0][Has P ae9](n:Nat){s:Sto}{r:Nat}(hs:∃ b,s[r]?=some (z9 b)){L:Nat}(a2:1<=L)(a1:L<=3)(most:Nat)(h0:1<=most)(hm:most<=500)(z:Int):cm9 s r most ((aa1 P (n+2)).call "_law_recipe" [.ref r,.int (L:Int),.int most,.int z] s):=by
 have e0:(aa1 P (n+2)).call "_law_recipe" [.ref r,.int (L:Int),.int most,.int z] s=_:=zn ae9 (n:=n+1) rfl
 have body:ae9.body=.cons (.asg (.one 4) (.lst .nil)) (.cons (.for_ (.one 5) (.rng1 (.bin .add (.cst (.int 1)) (.call "_law_draw" (.ex (.var 0) (.ex (.var 2) .nil))))) (aw6 ah2)) (.cons (.ret (.mk .tuple (.seq (.var 4)))) .nil)):=rfl
 have h:=aP4 hs
 obtain⟨b0,a3⟩:=hs
 have es:s.set r (z9 b0)=s:=by
  rw[show z9 b0=s[r]from((ae.mp a3).2).symm,List.set_getElem_self]
 obtain⟨d,b1,hd,ed⟩:=zY (P:=P) n (t:=[.lst []]) h b0 most (by omega) (qk (by omega))
 rw[es]at ed
 have key:=qS (ok:=λ s1=>chk (s.set r (z9 b1)++[O.lst []]) s1 []) (g:=turn (aa1 P (n+1)) (.one 5) (aw6 ah2)) (λ k ρ t=>∃(l:List Rst) (b:Int) (z:Int) (C x6 Y G Z:Option D),af2 l/\l.length=k/\ρ=bi7 L s r most z C x6 Y G Z/\t=s.set r (z9 b)++[.lst (l.map Rst.d)]) (ag8 0 ((d+1:Nat):Int)) 0 (bi7 L s r most z none none none none none) (s.set r (z9 b1)++[O.lst []]) ⟨[],b1,z,none,none,none,none,none,.nil,rfl,rfl,rfl⟩ (λ _ _ _ _ _=>rfl) (by
  rintro k dd ρ t hk ⟨l,b,z,C,x6,Y,G,Z,hl,hlk,rfl,rfl⟩
  have a4:=(jx hk).1
  rw[(jx hk).2,bU]at *
  obtain⟨way,c1,_,f1⟩:=zY (P:=P) n (t:=[.lst (l.map Rst.d)]) h b 6 (by decide) (by decide)
  obtain⟨one,c2,h1,f2⟩:=zY (P:=P) n (t:=[.lst (l.map Rst.d)]) h c1 ((k:Int)+1) (by omega) (qk (by omega))
  obtain⟨other,c3,h2,f3⟩:=zY (P:=P) n (t:=[.lst (l.map Rst.d)]) h c2 ((k:Int)+1) (by omega) (qk (by omega))
  obtain⟨q4,c4,h4,f4⟩:=zY (P:=P) n (t:=[.lst (l.map Rst.d)]) h c3 6 (by decide) (by decide)
  obtain⟨q5,c5,h5,f5⟩:=zY (P:=P) n (t:=[.lst (l.map Rst.d)]) h c4 3 (by decide) (by decide)
  obtain⟨q6,c6,h6,f6⟩:=zY (P:=P) n (t:=[.lst (l.map Rst.d)]) h c5 (10^30) (by decide) (by decide)
  have B:∀ s:Sto,qK .pow (.int 10) (.int 30) s=.ok (.int (10^30)) s:=λ s=>ax9 (by decide)
  obtain⟨many,J,hm1,hm2,eh⟩:∃(many:Nat) (J:Int),1<=many/\many<=10^30/\turn (aa1 P (n+1)) (.one 5) (aw6 ah2) (.int k) (bi7 L s r most z C x6 Y G Z) (s.set r (z9 b)++[.lst (l.map Rst.d)])=exs (aa1 P (n+1)) ah2 (bi7 L s r most z (some (.int k)) (some (.int way)) (some (.int one)) (some (.int other)) (some (.int many))) (s.set r (z9 J)++[.lst (l.map Rst.d)]):=by
   unfold turn aw6 bi7
   generalize ah2=rt
   by_cases h52:(q5:Int)=2
   ·refine⟨q6+1,c6,by omega,by omega,?_⟩
    simp -implicitDefEqProofs only[zb,zG,zB,aE,za,zg,zS,qc,zL,zF,zd,qd,zC,zD,ze,zl,R.bind_ok,f1,f2,f3,f4,add_int,zt,zh,zX,zJ,f5,qZ,h52,decide_true,zE,if_true,B,f6,show((1:Int)+(q6:Int))=((q6+1:Nat):Int)by omega]
   ·refine⟨q4+1,c5,by omega,?_,?_⟩
    ·have:q4+1<=6:=by omega
     exact aq this (by decide)
    ·simp -implicitDefEqProofs only[zb,zG,zB,aE,za,zg,zS,qc,zL,zF,zd,qd,zC,zD,ze,zl,R.bind_ok,f1,f2,f3,f4,add_int,zt,zh,zX,zJ,f5,qZ,h52,decide_false,aJ,zE,if_false,show((1:Int)+(q4:Int))=((q4+1:Nat):Int)by omega]
  obtain⟨x,z',hx,et⟩:=aI2 a2 a1 (F:=aa1 P (n+1)) (s:=s) (r:=r) (b:=J) (most:=most) (z:=z) (k:=k) (way:=way) (one:=one) (other:=other) (many:=many) (l:=l) hlk (by omega) (by omega) (by omega) hm1 hm2
  exact⟨_,_,.inl (eh.trans et),l++[x],J,z',_,_,_,_,_,hl.snoc (by rw[hlk];exact hx),by simp[hlk],rfl,rfl⟩)
 obtain⟨ρ',s',ek,l,b,z',C,x6,Y,G,Z,hl,hlk,rfl,rfl⟩:=key
 rw[qC,bU]at hlk
 have a0:(s.set r (z9 b)++[O.lst (l.map Rst.d)])[s.length]?=some (.lst (l.map Rst.d)):=by rw[ax (by simp)];simp
 refine⟨l,b,hl,by omega,by omega,?_⟩
 rw[e0,body,show(bw some [D.ref r,.int (L:Int),.int most,.int z]++am ae9.vs none)=[some (D.ref r),some (.int (L:Int)),some (.int most),some (.int z),none,none,none,none,none,none]from rfl]
 simp -implicitDefEqProofs only[za,zg,zS,ev_lst,zA,R.bind_ok,alloc_eq,zb,zG,zB,aE,zt,zh,ex_for,qB,qd,zC,zD,qc,zL,zF,zd,ze,zl,ed,add_int,show((1:Int)+(d:Int))=((d+1:Nat):Int)by omega]
 rw[qg (by unfold W62;omega) (by unfold W62;omega)]
 simp only[R.bind_ok]
 rw[show([some (D.ref r),some (.int (L:Int)),some (.int most),some (.int z),some (.ref s.length),none,none,none,none,none]:Env)=bi7 L s r most z none none none none none from rfl,ek]
 unfold bi7
 simp -implicitDefEqProofs only[R.bind_ok,zh,za,zg,qt,ev_mk,evL_seq,zd,ze,zl,bf2,a0,mk,zR,zQ]
 refine ai9 (λ m=>?_) (by nofun) rfl
 unfold D.bnd
 exact zU (λ x hx n=>by obtain⟨y,_,rfl⟩:=ay.mp hx;exact y.bnd n) m
noncomputable def bt2:S:=(.ite (.and (.cmp .eq (.ix (.var 3) (.cst (.int 0))) (.cst (.str [116,105,109,101,115]))) (.cmp .gt (.ix (.var 3) (.cst (.int 2))) (.cst (.int 1000)))) (.cons (.ite (.cmp .gt (.var 1) (.cst (.int 0))) (.cons (.asg (.one 1) (.bin .sub (.var 1) (.cst (.int 1)))) .nil) (.cons (.asg (.one 3) (.tup (.cons (.cst (.str [116,105,109,101,115])) (.cons (.ix (.var 3) (.cst (.int 1))) (.cons (.bin .add (.cst (.int 1)) (.bin .mod (.ix (.var 3) (.cst (.int 2))) (.cst (.int 1000)))) .nil))))) .nil)) .nil) .nil)
theorem bG1:ag2.body=(.cons (.asg (.one 2) (.lst .nil)) (.cons (.for_ (.one 3) (.seq (.var 0)) (.cons bt2 (.cons (.ex (.meth .append (.var 2) (.cons (.var 3) .nil))) .nil))) (.cons (.ret (.mk .tuple (.seq (.var 2)))) .nil))):=rfl
theorem bA6 {F:Fns}{k:Nat}{x:Rst}(hx:bQ0 k x)(z:Int)(J Z:Option D)(s:Sto):∃(Y:Rst) (z':Int),bQ0 k Y/\ex F bt2 [J,some (.int z),Z,some x.d] s=.ok (.next [J,some (.int z'),Z,some Y.d]) s:=by
 cases x with
 | let_ c =>
  refine⟨.let_ c,z,hx,?_⟩
  unfold bt2
  tbr_iter [rl0,jj,show(cf9=[116,105,109,101,115])=False by decide]
 | pair i j =>
  refine⟨.pair i j,z,hx,?_⟩
  unfold bt2
  tbr_iter [rp0,jj,show(bp8=[116,105,109,101,115])=False by decide]
 | times i n =>
  obtain⟨G,B,C⟩:=hx
  by_cases h:(1000:Int)<(n:Int)
  ·by_cases hz:(0:Int)<z
   ·refine⟨.times i n,z - 1,⟨G,B,C⟩,?_⟩
    unfold bt2
    tbr_iter [rt0,rt2,jj,show(au0=[116,105,109,101,115])=True from eq_self _,h,hz]
   ·have y:qK .mod (.int (n:Int)) (.int 1000) s=.ok (.int ((n % 1000:Nat):Int)) s:=by rw[qW (by decide)];simp
    refine⟨.times i (1+n % 1000),z,⟨G,by omega,by omega⟩,?_⟩
    unfold bt2
    tbr_iter [rt0,rt1,rt2,jj,show(au0=[116,105,109,101,115])=True from eq_self _,h,hz,y]
    rfl
  ·refine⟨.times i n,z,⟨G,B,C⟩,?_⟩
   unfold bt2
   tbr_iter [rt0,rt2,jj,show(au0=[116,105,109,101,115])=True from eq_self _,h]
theorem bl5 {P:Pr}[Has P ag2](n:Nat){l:List Rst}(hl:l.length<=500)(hk:af2 l)(z:Int)(s:Sto):∃ h:List Rst,af2 h/\h.length=l.length/\(aa1 P (n+1)).call "_law_tamed" [.tup (l.map Rst.d),.int z] s=.ok (.tup (h.map Rst.d)) s:=by
 have Y:(aa1 P (n+1)).call "_law_tamed" [.tup (l.map Rst.d),.int z] s=_:=zn ag2 (n:=n) rfl
 have key:=qS (ok:=λ s1=>chk (s++[O.lst []]) s1 []) (g:=turn (aa1 P n) (.one 3) (.cons bt2 (.cons (.ex (.meth .append (.var 2) (.cons (.var 3) .nil))) .nil))) (λ k ρ u=>∃(h:List Rst) (G:Int) (x:Option D),af2 h/\h.length=k/\u=s++[.lst (h.map Rst.d)]/\ρ=[some (.tup (l.map Rst.d)),some (.int G),some (.ref s.length),x]) (l.map Rst.d) 0 [some (.tup (l.map Rst.d)),some (.int z),some (.ref s.length),none] (s++[O.lst []]) ⟨[],z,none,af2.nil,rfl,rfl,rfl⟩ (λ _ _ _ _ _=>rfl) (by
  rintro k d ρ u hkk ⟨h,G,x,B,hlk,rfl,rfl⟩
  rw[bU]at hlk ⊢
  rw[aF,cQ]at hkk
  obtain⟨y,hy,rfl⟩:=hkk
  have Z:=(ae.mp hy).1
  obtain⟨C,z2,J,e1⟩:=bA6 (F:=aa1 P n) (hk k y hy) G (some (.tup (l.map Rst.d))) (some (.ref s.length)) (s++[.lst (h.map Rst.d)])
  have ha:meth .append (.ref s.length) [C.d] (s++[.lst (h.map Rst.d)])=.ok .non (s++[.lst ((h++[C]).map Rst.d)]):=by
   rw[ai4 (by unfold LIM;rw[aG];omega),bX];rfl
  refine⟨_,_,.inl ?_,h++[C],z2,some C.d,B.snoc (by rw[hlk];exact J),by simp[hlk],rfl,rfl⟩
  unfold turn
  tbr_iter [e1,ha])
 obtain⟨ρ',u',ek,h,G,x,B,hlk,rfl,rfl⟩:=key
 rw[bU,aG]at hlk
 have h0:bf2 (.ref s.length) (s++[O.lst (h.map Rst.d)])=.ok (h.map Rst.d) (s++[O.lst (h.map Rst.d)]):=by simp only[bf2,bZ0]
 refine⟨h,B,hlk,?_⟩
 rw[Y,bG1,show(bw some [D.tup (l.map Rst.d),D.int z]++am ag2.vs none)=[some (.tup (l.map Rst.d)),some (.int z),none,none]from rfl]
 tbr_iter [aW6]
 rw[ek]
 tbr_iter [h0,mk]
 refine qe (λ m=>?_) (by nofun)
 unfold D.bnd
 exact zU (λ x hx n=>by obtain⟨y,_,rfl⟩:=ay.mp hx;exact y.bnd n) m
theorem bn8 {P:Pr}[Has P af0][Has P af4](n:Nat){s:Sto}{r:Nat}(hs:∃ b,s[r]?=some (z9 b)){L:Nat}(a1:1<=L)(a0:L<=3)(most:Nat)(h0:1<=most)(hm:most<=200):cm9 s r most ((aa1 P (n+2)).call "_law_tall" [.ref r,.int (L:Int),.int most] s):=by
 have e0:(aa1 P (n+2)).call "_law_tall" [.ref r,.int (L:Int),.int most] s=_:=zn af4 (n:=n+1) rfl
 have body:af4.body=.cons (.asg (.one 3) (.lst (.cons (.tup (.cons (.cst (.str [108,101,116,116,101,114])) (.cons (.ix (.cst (.str [97,98,99])) (.call "_law_draw" (.ex (.var 0) (.ex (.var 1) .nil)))) .nil))) .nil))) (.cons (.for_ (.one 4) (.rng1 (.call "_law_draw" (.ex (.var 0) (.ex (.var 2) .nil)))) cj4) (.cons (.ret (.mk .tuple (.seq (.var 3)))) .nil)):=rfl
 have Z:=aP4 hs
 obtain⟨c,b1,hc,e1⟩:=qN (P:=P) n hs (L:Int) (by omega) (qk (by omega))
 obtain⟨d,G,hd,e2⟩:=zY (P:=P) n (t:=[.lst ([Rst.let_ (97+c)].map Rst.d)]) Z b1 most (by omega) (qk (by omega))
 have key:=qS (ok:=λ s1=>chk (s.set r (z9 G)++[O.lst ([Rst.let_ (97+c)].map Rst.d)]) s1 []) (g:=turn (aa1 P (n+1)) (.one 4) cj4) (λ k ρ t=>∃(l:List Rst) (b:Int) (x:Option D),af2 l/\l.length=k+1/\ρ=[some (D.ref r),some (.int (L:Int)),some (.int (most:Int)),some (.ref s.length),x]/\t=s.set r (z9 b)++[.lst (l.map Rst.d)]) (ag8 0 (d:Int)) 0 [some (D.ref r),some (.int (L:Int)),some (.int (most:Int)),some (.ref s.length),none] (s.set r (z9 G)++[O.lst ([Rst.let_ (97+c)].map Rst.d)]) ⟨[.let_ (97+c)],G,none,af2.nil.snoc (x:=.let_ (97+c)) ⟨by omega,by omega⟩,rfl,rfl,rfl⟩ (λ _ _ _ _ _=>rfl) (by
  rintro k dd ρ t hk ⟨l,b,x,hl,hlk,rfl,rfl⟩
  have a2:=(jx hk).1
  rw[(jx hk).2]
  rw[bU]at hlk ⊢
  have Y:(if(1:Int)<(k:Int)then(1:Int)else(k:Int))+1=((min k 1+1:Nat):Int):=by omega
  obtain⟨q,B,hq,f1⟩:=zY (P:=P) n (t:=[.lst (l.map Rst.d)]) Z b ((min k 1+1:Nat):Int) (by omega) (qk (by omega))
  have J:(k:Int) - (q:Int)=((k - q:Nat):Int):=by omega
  have ap:∀ v,meth .append (.ref s.length) [v] (s.set r (z9 B)++[.lst (l.map Rst.d)])=.ok .non (s.set r (z9 B)++[.lst (l.map Rst.d++[v])]):=λ v=>aV8 (by unfold LIM;rw[aG];omega)
  refine⟨[some (D.ref r),some (.int (L:Int)),some (.int (most:Int)),some (.ref s.length),some (.int (k:Int))],s.set r (z9 B)++[.lst ((l++[Rst.pair k (k - q)]).map Rst.d)],.inl ?_,l++[Rst.pair k (k - q)],B,_,hl.snoc (x:=.pair k (k - q)) ⟨by omega,by omega⟩,by simp[hlk],rfl,rfl⟩
  unfold turn cj4
  simp -implicitDefEqProofs only[zb,zG,zB,aE,za,zg,ex_ex,qV,zx,zA,ev_tup,zC,Cn_str,zD,zd,qd,qc,zL,zF,ev_bi,ze,zl,R.bind_ok,an0,add_int,Y,f1,sub_int,J,ap,zh,bX]
  rfl)
 obtain⟨ρ',s',ek,l,b,x,hl,hlk,rfl,rfl⟩:=key
 rw[qC,bU]at hlk
 have C:(s.set r (z9 b)++[O.lst (l.map Rst.d)])[s.length]?=some (.lst (l.map Rst.d)):=by rw[ax (by simp)];simp
 refine⟨l,b,hl,by omega,by omega,?_⟩
 rw[e0,body,show(bw some [D.ref r,.int (L:Int),.int most]++am af4.vs none)=[some (D.ref r),some (.int (L:Int)),some (.int (most:Int)),none,none]from rfl]
 simp -implicitDefEqProofs only[za,zg,zS,ev_lst,zx,zA,ev_tup,zC,Cn_str,ev_ix,qc,zL,zF,zd,ze,zl,R.bind_ok,e1,ba8 (show c<3 by omega),alloc_eq,bA,zb,zG,zB,aE,zt,zh,ex_for,qB]
 have h:[Rst.let_ (97+c)].map Rst.d=[D.tup [.str [108,101,116,116,101,114],.str [97+c]]]:=by simp only[aH,cG,Rst.d]
 rw[h]at e2 ek
 rw[e2]
 simp -implicitDefEqProofs only[R.bind_ok]
 rw[qg (by unfold W62;omega) (by unfold W62;omega)]
 simp -implicitDefEqProofs only[R.bind_ok]
 rw[ek]
 simp -implicitDefEqProofs only[R.bind_ok,zh,za,zg,qt,ev_mk,evL_seq,zd,ze,zl,bf2,C,mk,zR,zQ]
 refine ai9 (λ m=>?_) (by nofun) rfl
 unfold D.bnd
 exact zU (λ x hx n=>by obtain⟨y,_,rfl⟩:=ay.mp hx;exact y.bnd n) m
section
variable {P:Pr} [Has P ad0] [Has P ad2] [Has P ad6] [Has P ab1] [Has P qT] [Has P ai8] [Has P ab5] [Has P aa5] [HasL P aa3] [Has P ad8] [HasL P ab0] [Has P ab8] [HasL P aa6] [Has P ac3] [Has P ae6] [HasC P "product" (.fn "product")] [HasC P "power" (.fn "power")] [Has P ad1] [Has P ac5] [HasL P ac1] [Has P ac9] [Has P zK] [Has P aa9] [Has P aI9] [Has P aE7]
end
theorem bb5 {Q:Nat->Prop}:∀ {M:Nat},Q M->∃ L,L<=M/\Q L/\∀ k,k<L->¬ Q k:=by
 intro M
 induction M using eI with
 | _ M ih =>
  intro h
  by_cases hk:∃ k,k<M/\Q k
  ·obtain⟨k,y,B⟩:=hk
   obtain⟨L,a,b,c⟩:=ih k y B
   exact⟨L,by omega,b,c⟩
  ·exact⟨M,aj _,h,λ k y B=>hk ⟨k,y,B⟩⟩
def IsL (m:Nat)(f:Nat->Nat->Int)(L:Nat):Prop:=L<=5000/\bv9 m (pw m f L)/\∀ k,k<L->¬ bv9 m (pw m f k)
noncomputable def stL (m:Nat)(f:Nat->Nat->Int):Nat:=Classical.epsilon λ L=>IsL m f L
theorem aP5 {m:Nat}(hm1:1<=m)(h:m<=5){f:Nat->Nat->Int}(y:InG m f):IsL m f (stL m f):=by
 refine Classical.epsilon_spec (p:=λ L=>IsL m f L) ?_
 obtain⟨M,C,B⟩:=bz3 hm1 h y
 obtain⟨L,a,b,c⟩:=bb5 (Q:=λ M=>bv9 m (pw m f M)) B
 exact⟨L,by omega,b,c⟩
section
variable {P:Pr} [Has P ad0] [Has P aa4] [HasL P aa2] [Has P ac0] [Has P aa8]
theorem av5 (n:Nat){m:Nat}(C:1<=m)(B:m<=5){f:Nat->Nat->Int}(G:InG m f){s:Sto}(hs:s.all O.ncl=true) :
  (aa1 P (n+5)).call "steady_power" [gd m f] s=.ok (.tup [.int ((stL m f+1:Nat):Int),gd m (pw m f (stL m f))]) s:=by
 have e0:(aa1 P (n+5)).call "steady_power" [gd m f] s=_:=zn aa8 (n:=n+4) rfl
 obtain⟨Y,Z,y⟩:=aP5 C B G
 generalize stL m f=M at Y Z y
 rw[e0,show(bw some [gd m f]++am aa8.vs none)=[some (gd m f),none,none]from rfl]
 simp -implicitDefEqProofs only[aa8,za,zg,zS,zC,zD,zd,ze,zl,R.bind_ok,zb,zG,zB,aE,zt,zh,ex_whl]
 rw[R.bind_assoc]
 refine aw5 (λ k ρ t=>∃ L:Nat,L+k=M/\ρ=[some (gd m f),some (.int ((L+1:Nat):Int)),some (gd m (pw m f L))]/\t=s) (λ ρ t=>ρ=[some (gd m f),some (.int ((M+1:Nat):Int)),some (gd m (pw m f M))]/\t=s) M ⟨0,by omega,rfl,rfl⟩ ?_ ?_
 ·rintro k ρ t ⟨L,hL,rfl,rfl⟩
  obtain⟨b,eb,hb⟩:=al3 (P:=P) n C B (pw_in C G L) hs
  simp -implicitDefEqProofs only[ev_not,qc,zL,zF,zd,ze,zl,R.bind_ok,eb,zE,bg4]
  cases b with
  | true =>
   have J:L=M:=by
    rcases iP L M with h|h
    ·exact absurd (hb.mp rfl) (y L h)
    ·omega
   subst J
   exact⟨rfl,trivial⟩
  | false =>
   have hne:L≠M:=λ e=>by subst e;exact absurd (hb.mpr Z) (by decide)
   simp only[Bool.not_false,if_true]
   have ea:=aR5 (F:=aa1 P (n+4)) (ρ:=[some (gd m f),some (.int ((L+1:Nat):Int)),some (gd m (pw m f L))]) (ρ':=[some (gd m f),some (.int (((L+1:Nat):Int)+1)),some (gd m (pw m f L))]) (s:=t) (i:=1) (a:=((L+1:Nat):Int)) (b:=1) (e:=.cst (.int 1)) rfl rfl rfl
   have ep:(aa1 P (n+4)).call "sign_product" [gd m (pw m f L),gd m f] t=.ok (gd m (pw m f (L+1))) t:=zT (P:=P) (n+1) C B (pw_in C G L) G hs
   refine bo5 (ρ:=[some (gd m f),some (.int ((L+1+1:Nat):Int)),some (gd m (pw m f (L+1)))]) (s:=t) ?_ ⟨k - 1,by omega,L+1,by omega,rfl,rfl⟩
   rw[za,ea]
   simp -implicitDefEqProofs only[R.bind_ok,zh,za,zg,zS,qc,zL,zF,zd,ze,zl,ep,zb,zG,zB,aE,zt,show(((L+1:Nat):Int)+1)=((L+1+1:Nat):Int)by omega]
 ·rintro ρ t ⟨rfl,rfl⟩
  simp -implicitDefEqProofs only[zh,za,zg,qt,ev_tup,zx,zA,zd,ze,zl,R.bind_ok,zR,zQ]
  refine zo (λ n=>?_) (by nofun)
  unfold D.bnd D.bndL D.bndL D.bndL
  rw[ai6];rfl
end
section
variable {P:Pr} [Has P qh] [Has P as8]
end
section
variable {P:Pr} [Has P qh] [Has P aA6] [Has P aC6]
end
noncomputable abbrev SV:=(Nat->Nat->Int)×Int
noncomputable def tmV (Z c:Nat)(a:SV)(q:Nat):SV :=
 if q / (stL Z a.1+1)<c then(qw Z a.1 q,(q:Int)*a.2)
 else(pr Z (sh Z (pw Z a.1 (stL Z a.1))) (qw Z a.1 (q % (stL Z a.1+1))),((2*(stL Z a.1+1)+q % (stL Z a.1+1):Nat):Int)*a.2)
noncomputable def sws (m:Mc)(c:Nat)(l:List Rst):List SV:=foR (un,0) (λ ch=>(sgM m ch,3)) (λ a b=>(pr m.R a.1 b.1,a.2+b.2)) (tmV m.R c) l
noncomputable def sw (m:Mc)(c:Nat)(l:List Rst)(k:Nat):SV:=(sws m c l).getD k (un,0)
section
variable {m:Mc} {c:Nat} {l:List Rst}
theorem ci8 {k ch:Nat}(h:l[k]?=some (.let_ ch)):sw m c l k=(sgM m ch,3):=bV2 _ _ _ _ h
theorem cg3 {k i j:Nat}(h:l[k]?=some (.pair i j))(y:i<k)(hj:j<k):sw m c l k=(pr m.R (sw m c l i).1 (sw m c l j).1,(sw m c l i).2+(sw m c l j).2):=bS8 _ _ _ _ h y hj
theorem cc7 {k i q:Nat}(h:l[k]?=some (.times i q))(y:i<k):sw m c l k=tmV m.R c (sw m c l i) q:=bP8 _ _ _ _ h y
end
theorem wbd {k i:Nat}(h:i<k){F w:Int}(h0:0<=F)(B:F<=2^103)(y:0<=w)(hw:w<=2^(2+104*i)):0<=F*w/\F*w<=2^(2+104*k):=by
 refine⟨jY h0 y,bW (Int.mul_le_mul B hw y (by decide)) ?_⟩
 rw[<-Int.pow_add]
 exact jq (by omega)
theorem ch6 {q:Nat}(h:q<=10^30):(q:Int)<=2^103:=by
 have:(q:Int)<=((10^30:Nat):Int):=by omega
 exact bW this (by decide)
theorem bV6 {Z c:Nat}(h:1<=Z)(B:Z<=5){a:SV}(y:InG Z a.1)(h0:0<=a.2){q k i:Nat}(hq:q<=10^30)(C:i<k)(hw:a.2<=2^(2+104*i)):InG Z (tmV Z c a q).1/\0<=(tmV Z c a q).2/\(tmV Z c a q).2<=2^(2+104*k):=by
 have G:=(aP5 h B y).1
 unfold tmV
 split
 ·exact⟨ax1 h y q,wbd C (by omega) (ch6 hq) h0 hw⟩
 ·have J:q % (stL Z a.1+1)<stL Z a.1+1:=jX _ (by omega)
  exact⟨aG9 h (bL1 h (pw_in h y _)) (ax1 h y _),wbd C (by omega) (bW (show _<=(20000:Int)by omega) (by decide)) h0 hw⟩
theorem bZ7 {m:Mc}(y:m.Ok){c:Nat}{l:List Rst}(hl:af2 l):∀ k,k<l.length->InG m.R (sw m c l k).1/\0<=(sw m c l k).2/\(sw m c l k).2<=2^(2+104*k):=by
 intro k
 induction k using eI with
 | _ k ih =>
  intro hk
  have hx:=ai hk
  have hok:=hl k _ hx
  generalize l[k]=x at hx hok
  have J:(4:Int)<=2^(2+104*k):=bW (show(4:Int)<=2^2 by decide) (jq (by omega))
  cases x with
  | let_ ch=>rw[ci8 hx];exact⟨(SgW.letter m ch).inG,by show(0:Int)<=3;decide,by show(3:Int)<=_;omega⟩
  | pair i j =>
   obtain⟨h,hj⟩:=hok
   obtain⟨a1,a2,a3⟩:=ih i h (by omega)
   obtain⟨b1,Y,B⟩:=ih j hj (by omega)
   rw[cg3 hx h hj]
   refine⟨aG9 y.R1 a1 b1,by show(0:Int)<=_+_;omega,?_⟩
   have C:(2:Int)^(2+104*i)<=2^(1+104*k):=jq (by omega)
   have G:(2:Int)^(2+104*j)<=2^(1+104*k):=jq (by omega)
   have Z:(2:Int)^(2+104*k)=2^(1+104*k)*2:=by rw[show 2+104*k=(1+104*k)+1 by omega,Int.pow_succ]
   show(sw m c l i).2+(sw m c l j).2<=_
   omega
  | times i q =>
   obtain⟨h,_,hq⟩:=hok
   obtain⟨a1,a2,a3⟩:=ih i h (by omega)
   rw[cc7 hx h]
   exact bV6 y.R1 y.R5 a1 a2 hq h a3
theorem ci1 {k:Nat}(hk:k<=90){v:Int}(h0:0<=v)(h:v<=2^(2+104*k)):v.natAbs<BIG:=bt0 h0 (bW h (bW (show(2:Int)^(2+104*k)<=TB from by unfold TB;exact jq (by omega)) (by omega)))
noncomputable def SD (Z:Nat)(v:SV):D:=.tup [gd Z v.1,.int v.2]
theorem ar0 {Z:Nat}{v:SV}(n:Nat):(SD Z v).bnd n=true:=by
 unfold SD D.bnd D.bndL D.bndL D.bndL
 rw[ai6];rfl
theorem bt5 {Z:Nat}{v:SV}:(SD Z v).ncl=true:=by
 unfold SD D.ncl D.nclL D.nclL D.nclL
 rw[ar1];rfl
theorem sd0 {Z:Nat}{v:SV}{s:Sto}:ixM (SD Z v) (.int 0) s=.ok (gd Z v.1) s:=rfl
theorem sd1 {Z:Nat}{v:SV}{s:Sto}:ixM (SD Z v) (.int 1) s=.ok (.int v.2) s:=rfl
section
variable {P:Pr} [Has P ad0] [Has P aa4] [HasL P aa2] [Has P ac0] [Has P aa8] [Has P ac7] [Has P ac8] [HasL P ab3] [HasC P "FREE" (.int 0)] [HasC P "SOME" (.int 1)] [HasC P "UNBOUND" (.int 2)] [HasC P "NONE" (.int 3)] [Has P ac3] [Has P ab7] [HasL P aa7] [Has P ac2] [HasC P "sign_product" (.fn "sign_product")] [Has P ab2] [Has P ab4]
theorem al9 (n:Nat){Z:Nat}(h:1<=Z)(y:Z<=5){a b:SV}(ha:InG Z a.1)(hb:InG Z b.1){s:Sto}(hs:s.all O.ncl=true) :
  (aa1 P (n+4)).call "signs_of_pair" [SD Z a,SD Z b] s=.ok (SD Z (pr Z a.1 b.1,a.2+b.2)) s:=by
 have B:(aa1 P (n+4)).call "signs_of_pair" [SD Z a,SD Z b] s=_:=zn ab2 (n:=n+3) rfl
 have e1:=zT (P:=P) n h y ha hb hs
 rw[B,show(bw some [SD Z a,SD Z b]++am ab2.vs none)=[some (SD Z a),some (SD Z b)]from rfl,show ab2.body=(.cons (.ret (.tup (.cons (.call "sign_product" (.ex (.ix (.var 0) (.cst (.int 0))) (.ex (.ix (.var 1) (.cst (.int 0))) .nil))) (.cons (.bin .add (.ix (.var 0) (.cst (.int 1))) (.ix (.var 1) (.cst (.int 1)))) .nil)))) .nil)from rfl]
 tbr_iter [sd0,sd1,e1]
 exact zo (d:=SD Z (pr Z a.1 b.1,a.2+b.2)) ar0 (by nofun)
theorem ak0 (n:Nat){Z:Nat}(B:1<=Z)(C:Z<=5){a:SV}(G:InG Z a.1)(hw:a.2.natAbs<BIG){q:Nat}(hq:q<=10^30)(c:Nat){s:Sto}(hs:s.all O.ncl=true) :
  (aa1 P (n+6)).call "signs_of_times" [SD Z a,.int (q:Int),.int (c:Int)] s=.ok (SD Z (tmV Z c a q)) s:=by
 have e0:(aa1 P (n+6)).call "signs_of_times" [SD Z a,.int (q:Int),.int (c:Int)] s=_:=zn ab4 (n:=n+5) rfl
 obtain⟨h5,a0,_⟩:=aP5 B C G
 have e1:=av5 (P:=P) n B C G hs
 have e2:=aj3 (P:=P) n B C G hs q
 have e3:=aj3 (P:=P) n B C G hs (q % (stL Z a.1+1))
 have e4:=aE4 (P:=P) n B C (pw_in B G (stL Z a.1)) a0 hs
 have e5:(aa1 P (n+5)).call "sign_product" [gd Z (sh Z (pw Z a.1 (stL Z a.1))),gd Z (qw Z a.1 (q % (stL Z a.1+1)))] s=_:=zT (P:=P) (n+2) B C (bL1 B (pw_in B G (stL Z a.1))) (ax1 B G (q % (stL Z a.1+1))) hs
 have em:∀ u:Sto,qK .mod (.int (q:Int)) (.int ((stL Z a.1+1:Nat):Int)) u=.ok (.int ((q % (stL Z a.1+1):Nat):Int)) u:=λ u=>by rw[qW (by omega)];rfl
 have ed:∀ u:Sto,qK .fdiv (.int (q:Int)) (.int ((stL Z a.1+1:Nat):Int)) u=.ok (.int ((q / (stL Z a.1+1):Nat):Int)) u:=λ u=>by rw[ah9 (by omega) (Int.lt_of_le_of_lt (show _<=(5001:Int)by omega) (by decide))];rfl
 have Y:mulOk (q:Int) a.2=true:=bG9 (bK8 hq) hw
 have a4:q % (stL Z a.1+1)<stL Z a.1+1:=jX _ (by omega)
 have a1:mulOk 2 ((stL Z a.1+1:Nat):Int)=true:=jv (by decide)
 have a2:mulOk (2*((stL Z a.1+1:Nat):Int)+((q % (stL Z a.1+1):Nat):Int)) a.2=true:=jv (by omega)
 rw[e0,show(bw some [SD Z a,D.int (q:Int),.int (c:Int)]++am ab4.vs none)=[some (SD Z a),some (.int (q:Int)),some (.int (c:Int)),none,none,none,none,none]from rfl]
 simp -implicitDefEqProofs only[ab4]
 have J:∀(x y:D) (u:Sto),ixM (.tup [x,y]) (.int 0) u=.ok x u:=λ _ _ _=>rfl
 have a3:∀(x y:D) (u:Sto),ixM (.tup [x,y]) (.int 1) u=.ok y u:=λ _ _ _=>rfl
 by_cases h:q / (stL Z a.1+1)<c
 ·have hd:(((q / (stL Z a.1+1):Nat):Int)<(c:Int)):=by omega
  have hv:tmV Z c a q=(qw Z a.1 q,(q:Int)*a.2):=if_pos h
  tbr_iter [sd0,sd1,e1,J,em,ed,hd,e2,ae3 Y]
  rw[hv]
  exact zo (d:=SD Z (qw Z a.1 q,(q:Int)*a.2)) ar0 (by nofun)
 ·have hd:¬(((q / (stL Z a.1+1):Nat):Int)<(c:Int)):=by omega
  have hv:tmV Z c a q=_:=if_neg h
  tbr_iter [sd0,sd1,e1,J,a3,em,ed,hd,e3,e4,e5,ae3 a1,ae3 a2]
  rw[hv,show((2*(stL Z a.1+1)+q % (stL Z a.1+1):Nat):Int)=2*((stL Z a.1+1:Nat):Int)+((q % (stL Z a.1+1):Nat):Int)by omega]
  exact zo (d:=SD Z (pr Z (sh Z (pw Z a.1 (stL Z a.1))) (qw Z a.1 (q % (stL Z a.1+1))),_)) ar0 (by nofun)
end
section
variable {P:Pr} [Has P ad0] [Has P aa4] [HasL P aa2] [Has P ac0] [Has P aa8] [Has P ac7] [Has P ac8] [HasL P ab3] [HasC P "FREE" (.int 0)] [HasC P "SOME" (.int 1)] [HasC P "UNBOUND" (.int 2)] [HasC P "NONE" (.int 3)] [Has P ac3] [Has P ab7] [HasL P aa7] [Has P ac2] [HasC P "sign_product" (.fn "sign_product")] [Has P ab2] [Has P ab4]
 [Has P ae0] [Has P ae2] [HasL P ac6] [Has P ad2] [Has P ad6] [Has P ab1] [Has P ab5] [Has P aa5] [HasL P aa3] [Has P ad8] [HasL P ab0] [Has P ab8] [HasL P aa6] [Has P aa9] [Has P ac4] [Has P ad1] [Has P ad5] [HasL P ad4] [HasL P ad3] [HasC P "LETTER_WEIGHT" (.int 3)] [HasC P "signs_of_pair" (.fn "signs_of_pair")]
theorem ax5 (n:Nat){m:Mc}(y:m.Ok){l:List Rst}(hl:l.length<=90)(h1:1<=l.length)(hk:af2 l)(z:Nat){s:Sto}(hs:s.all O.ncl=true) :
  (aa1 P (n+10)).call "long_signs" [m.d,.tup (l.map Rst.d),.int (z:Int)] s=.ok (SD m.R (sw m ((z+1)*m.R) l (l.length - 1))) s:=by
 have e0:(aa1 P (n+10)).call "long_signs" [m.d,.tup (l.map Rst.d),.int (z:Int)] s=_:=zn ad5 (n:=n+9) rfl
 generalize hc:(z+1)*m.R=c
 have G:((z:Int)+1)*(m.R:Int)=(c:Int):=by rw[<-hc];push_cast;rfl
 have B:=aB5 hs (W:=λ k=>SD m.R (sw m c l k)) (λ k=>bt5)
 have ok:=λ k (h:k<l.length)=>bZ7 y (c:=c) hk k h
 have hf:=at7 (P:=P) (n+8) (l:=l) (by omega) hk.b (s:=s) (d0:=.tup (l.map Rst.d)) (src:=[]) (λ _ h=>by cases h) (bc4 (l:=l)) (.clo "long_signs.1" [m.d]) (.fn "signs_of_pair") (.clo "long_signs.0" [.int (c:Int)]) (λ k=>SD m.R (sw m c l k)) (λ _ n=>ar0 n)
  (λ k ch hv=>by
   refine(qM ad3 (n:=n+7) rfl rfl (by rw[B k];unfold D.nclL;rw[bc6];rfl)).trans ?_
   obtain⟨g,hg,e1⟩:=ax2 (P:=P) (n+1) y [ch] (by simp) (B k)
   rw[av0 (hg.eqG (SgW.letter m ch))]at e1
   have g1:=λ ρ s=>jh (P:=P) (n:=n+7) (x := "LETTER_WEIGHT") (d:=.int 3) ρ s
   rw[ci8 hv]
   show(ev (aa1 P (n+7)) (.tup (.cons (.call "word_signs" (.ex (.var 1) (.ex (.var 0) .nil))) (.cons (.glob "LETTER_WEIGHT") .nil))) [some (.str [ch]),some m.d] _).bind (zN _)=_
   tbr_iter [e1,g1]
   exact zo (d:=SD m.R (sgM m ch,3)) ar0 (by nofun))
  (λ k i j hv=>by
   obtain⟨J,hj⟩:=hk k _ hv
   have Y:=(ae.mp hv).1
   rw[cg3 hv J hj]
   exact al9 (P:=P) (n+4) y.R1 y.R5 (ok i (by omega)).1 (ok j (by omega)).1 (B k))
  (λ k i q hv=>by
   obtain⟨J,_,hq⟩:=hk k _ hv
   have Y:=(ae.mp hv).1
   obtain⟨o1,Z,o3⟩:=ok i (by omega)
   have e1:=ak0 (P:=P) (n+1) y.R1 y.R5 o1 (ci1 (k:=i) (by omega) Z o3) hq c (B k)
   rw[<-cc7 (m:=m) (c:=c) hv J]at e1
   refine(qM ad4 (n:=n+7) rfl rfl (by rw[B k];unfold D.nclL D.nclL D.nclL;rw[bt5];rfl)).trans ?_
   show(ev (aa1 P (n+7)) (.call "signs_of_times" (.ex (.var 0) (.ex (.var 1) (.ex (.var 2) .nil)))) [some (SD m.R (sw m c l i)),some (.int (q:Int)),some (.int (c:Int))] _).bind (zN _)=_
   tbr_iter [e1]
   exact zo ar0 (by nofun))
 have g1:=λ ρ s=>jh (P:=P) (n:=n+9) (x := "signs_of_pair") (d:=.fn "signs_of_pair") ρ s
 have il:=aN4 (bZ0 (s:=s)) (aL8 h1 λ k=>SD m.R (sw m c l k))
 have er:=ju (P:=P) (n+8) m s
 have C:mulOk ((z:Int)+1) (m.R:Int)=true:=aH9 (by have:=y.R5;omega)
 rw[e0,show(bw some [m.d,D.tup (l.map Rst.d),.int (z:Int)]++am ad5.vs none)=[some m.d,some (.tup (l.map Rst.d)),some (.int (z:Int)),none]from rfl,show ad5.body=(.cons (.asg (.one 3) (.bin .mul (.bin .add (.var 2) (.cst (.int 1))) (.call "rooms_of" (.ex (.var 0) .nil)))) (.cons (.ret (.ix (.callC "folded" (.ex (.var 1) (.lam "long_signs.1" [0] (.ex (.glob "signs_of_pair") (.lam "long_signs.0" [3] .nil))))) (.neg (.cst (.int 1))))) .nil))from rfl]
 tbr_iter [er,ae3 C,G,qz]
 rw[qo (cs:=[m.d]) _ rfl]
 tbr_iter [g1]
 rw[qo (cs:=[.int (c:Int)]) _ rfl]
 tbr_iter [hf]
 rw[if_pos (by rw[B l.length];rfl)]
 tbr_iter [bc5,il]
 exact qe ar0 (by nofun)
end
section
variable {P:Pr} [Has P qh] [Has P aA6] [Has P aC6] [Has P as8] [Has P aV1] [Has P aB3] [Has P js] [Has P bL4]
end
structure Go1 (n:Nat)(S:Int->Prop)(x W:Int):Prop where
 lo:0<=x
 hi:x<=3
 z:x=0↔S 0
 t:x=3↔∀ c,¬ S c
 one:x<=1->∃ c,S c/\c<=W
 few:∀ c,S c->c<=n->x<=1
def Go (m:Mc)(n:Nat)(w:List Nat)(g:Nat->Nat->Int)(W:Int):Prop:=∀ i j,i<m.R->j<m.R->Go1 n (Wk m.ds w i j) (g i j) W
section
variable {m:Mc} {n:Nat}
theorem Go.inG {w:List Nat}{g:Nat->Nat->Int}{W:Int}(h:Go m n w g W):InG m.R g:=λ i j hi hj=>⟨(h i j hi hj).lo,(h i j hi hj).hi⟩
theorem Go.congr {w:List Nat}{f g:Nat->Nat->Int}{W:Int}(h:Go m n w f W)(e:EqG m.R f g):Go m n w g W:=λ i j y hj=>by
 rw[<-e i j y hj];exact h i j y hj
theorem Go.there {w:List Nat}{g:Nat->Nat->Int}{W:Int}(h:Go m n w g W){i j:Nat}(y:i<m.R)(hj:j<m.R)(B:g i j<=2):∃ c,Wk m.ds w i j c :=
 cE λ k=>by have:=(h i j y hj).t.mpr λ c hc=>k ⟨c,hc⟩;omega
theorem Go.mul (Y:m.Ok){v w:List Nat}{f g:Nat->Nat->Int}{A B:Int}(h:Go m n v f A)(h':Go m n w g B):Go m n (v++w) (pr m.R f g) (A+B):=λ i j hi hj=>by
 have J:=aG9 Y.R1 h.inG h'.inG i j hi hj
 have le:∀ x:Int,pr m.R f g i j<=x↔∃ l,l<m.R/\f i l<=x/\g l j<=x:=λ x=>ja Y.R1 h.inG h'.inG hi hj
 refine⟨J.1,J.2,⟨λ e=>?_,λ e=>?_⟩,⟨λ e c hc=>?_,λ e=>?_⟩,λ e=>?_,λ c hc hn=>?_⟩
 ·obtain⟨l,hl,C,G⟩:=(le 0).mp (by omega)
  have a:=h i l hi hl
  have b:=h' l j hl hj
  exact ag0.mpr ⟨l,0,0,a.z.mp (by have:=a.lo;omega),b.z.mp (by have:=b.lo;omega),rfl⟩
 ·obtain⟨l,a,b,C,G,e2⟩:=ag0.mp e
  have:=ar4 C
  have:=ar4 G
  have ea:a=0:=by omega
  have eb:b=0:=by omega
  subst ea eb
  have hl:=aH5 Y hi C
  have:=(le 0).mpr ⟨l,hl,by rw[(h i l hi hl).z.mpr C];exact bH _,by rw[(h' l j hl hj).z.mpr G];exact bH _⟩
  omega
 ·obtain⟨l,a,b,C,G,_⟩:=ag0.mp hc
  have hl:=aH5 Y hi C
  have x:=h i l hi hl
  have y:=h' l j hl hj
  have n1:f i l≠3:=λ z=>x.t.mp z a C
  have n2:g l j≠3:=λ z=>y.t.mp z b G
  have:=(le 2).mpr ⟨l,hl,by have:=x.hi;omega,by have:=y.hi;omega⟩
  omega
 ·refine cE λ k=>?_
  obtain⟨l,hl,C,G⟩:=(le 2).mp (by have:=J.2;omega)
  obtain⟨a,ha⟩:=h.there hi hl C
  obtain⟨b,hb⟩:=h'.there hl hj G
  exact e _ (ag0.mpr ⟨l,a,b,ha,hb,rfl⟩)
 ·obtain⟨l,hl,C,G⟩:=(le 1).mp e
  obtain⟨a,ha,Z⟩:=(h i l hi hl).one C
  obtain⟨b,hb,a0⟩:=(h' l j hl hj).one G
  exact⟨a+b,ag0.mpr ⟨l,a,b,ha,hb,rfl⟩,by omega⟩
 ·obtain⟨l,a,b,C,G,e2⟩:=ag0.mp hc
  have:=ar4 C
  have:=ar4 G
  have hl:=aH5 Y hi C
  exact(le 1).mpr ⟨l,hl,(h i l hi hl).few a C (by omega),(h' l j hl hj).few b G (by omega)⟩
theorem Go.unit:Go m n [] un 0:=λ i j h hj=>by
 unfold un
 by_cases e:i=j
 ·rw[if_pos e]
  exact⟨by decide,by decide,⟨λ _=>⟨e,rfl⟩,λ _=>rfl⟩,⟨λ z=>by omega,λ z=>absurd ⟨e,rfl⟩ (z 0)⟩,λ _=>⟨0,⟨e,rfl⟩,by decide⟩,λ _ _ _=>by decide⟩
 ·rw[if_neg e]
  exact⟨by decide,by decide,⟨λ z=>by omega,λ z=>absurd z.1 e⟩,⟨λ _ c hc=>e hc.1,λ _=>rfl⟩,λ z=>by omega,λ c hc _=>absurd hc.1 e⟩
theorem Go.letter (h:m.Ok)(ch:Nat):Go m n [ch] (sgM m ch) 3:=λ i j hi hj=>by
 have x:=SgW.letter m ch i j hi hj
 refine⟨x.lo,x.hi,x.z,x.t,λ e=>?_,λ c hc _=>?_⟩
 ·obtain⟨c,hc⟩:∃ c,Wk m.ds [ch] i j c:=cE λ k=>by have:=x.t.mpr λ c hc=>k ⟨c,hc⟩;omega
  refine⟨c,hc,?_⟩
  obtain⟨d,hd,_,_,_,rfl⟩:=aj1.mp hc
  have:=(h.ds.1 d hd).t
  omega
 ·have h3:sgM m ch i j≠3:=λ z=>x.t.mp z c hc
  have:=x.n2
  have:=x.hi
  omega
theorem Go.pow (y:m.Ok){w:List Nat}{f:Nat->Nat->Int}{A:Int}(h:Go m n w f A):∀ q:Nat,Go m n (rep q w) (qw m.R f q) ((q:Int)*A)
 | 0=>by rw[show((0:Nat):Int)*A=0 by simp];exact Go.unit
 | q+1=>by
  have:=(Go.pow y h q).mul y h
  rw[show rep (q+1) w=rep q w++w by rw[jg,bf4],show((q+1:Nat):Int)*A=(q:Int)*A+A by push_cast;rw[gX,fA]]
  exact this
theorem bL3 (a b:Nat)(w:List Nat):rep (a*b) w=rep a (rep b w):=by
 induction a with
 | zero=>rw[Nat.zero_mul];rfl
 | succ a ih=>rw[gb,eK,jg,ih];rfl
end
theorem aw0:∀(R:Nat) (S:List Nat),S.Nodup->(∀ x∈S,x<R)->S.length<=R
 | 0,[],_,_=>aj _
 | 0,x::S,_,h=>absurd (h x (aC ..)) (dm _)
 | R+1,S,hn,h=>by
  have B:=aw0 R (S.filter λ x=>decide (x≠R)) (hn.filter _) λ x hx=>by
   have:=eB.mp hx
   have y:=h x this.1
   have h3:x≠R:=of_decide_eq_true this.2
   omega
  have y:∀ T:List Nat,T.Nodup->T.length<=(T.filter λ x=>decide (x≠R)).length+1:=by
   intro T
   induction T with
   | nil=>intro _;exact dA _
   | cons a T ih =>
    intro hn
    rw[cr]at hn
    by_cases e:a=R
    ·subst e
     have h3:(T.filter λ x=>decide (x≠a))=T:=List.filter_eq_self.mpr λ x hx=>decide_eq_true λ z=>hn.1 (z▸hx)
     rw[List.filter_cons_of_neg (by simp),h3]
     exact aj _
    ·have:=ih hn.2
     rw[List.filter_cons_of_pos (by simpa using e)]
     simp only[aQ]
     omega
  have:=y S hn
  omega
section
variable {m:Mc} (hm:m.Ok) {n:Nat} {u:List Nat} {g:Nat->Nat->Int} {W:Int} (h:Go m n u g W) (hst:bv9 m.R g)
include hm h hst
theorem bT6:∀ t,1<=t->EqG m.R (qw m.R g t) g
 | 1,_=>bG8 hm.R1 h.inG
 | t+2,_=>λ i j y hj=>by
  have:=bT6 (t+1) (by omega)
  exact((this.pr (λ _ _ _ _=>rfl)) i j y hj).trans (hst i j y hj)
theorem ca2 {t:Nat}(ht:1<=t):Go m n (rep t u) g ((t:Int)*W):=(h.pow hm t).congr (bT6 hm h hst t ht)
theorem bU7 {i k j:Nat}(y:i<m.R)(hk:k<m.R)(hj:j<m.R){x:Int}(B:g i k<=x)(C:g k j<=x):g i j<=x:=by
 rw[<-hst i j y hj]
 exact(ja hm.R1 h.inG h.inG y hj).mpr ⟨k,hk,B,C⟩
theorem st_walk {i:Nat}(Y:i<m.R):∀(t j:Nat) (c:Int),Wk m.ds (rep t u) i j c->c<=n ->
  (∃ l,l<m.R/\(g i l<=1\/i=l)/\g l l=0/\(g l j<=1\/l=j)) \/
  ∃ S:List Nat,S.Nodup/\(∀ l∈S,l<m.R/\(g i l<=1\/i=l)/\(g l j=0\/l=j))/\(g i j<=1\/i=j)/\(t:Int)+1<=c*m.R+S.length
 | 0,j,c,hw,hn=>by
  obtain⟨e1,e2⟩:=hw
  subst e1 e2
  exact .inr ⟨[i],by simp,λ l hl=>by rw[bK.mp hl];exact⟨Y,.inr rfl,.inr rfl⟩,.inr rfl,by simp⟩
 | t+1,j,c,hw,hn=>by
  rw[show rep (t+1) u=rep t u++u by rw[jg,bf4]]at hw
  obtain⟨k,a,b,B,J,e⟩:=ag0.mp hw
  have na:=ar4 B
  have nb:=ar4 J
  have hk:=aH5 hm Y B
  have hj:=aH5 hm hk J
  have G:g k j<=1:=(h k j hk hj).few b J (by omega)
  have Z:∀ l,l<m.R->(g l k<=1\/l=k)->g l j<=1:=λ l hl hx=>by
   rcases hx with hx|rfl
   ·exact bU7 hm h hst hl hk hj hx G
   ·exact G
  rcases st_walk Y t k a B (by omega)with⟨l,hl,l1,y,l3⟩|⟨S,hS,hA,hik,hlen⟩
  ·exact .inl ⟨l,hl,l1,y,.inl (Z l hl l3)⟩
  ·have hij:=Z i Y hik
   have a0:=aw0 m.R S hS λ l hl=>(hA l hl).1
   by_cases hb:b=0
   ·subst hb
    have gz:g k j=0:=(h k j hk hj).z.mpr J
    have C:∀ l,l<m.R->(g l k=0\/l=k)->g l j=0:=λ l hl hx=>by
     rcases hx with hx|rfl
     ·have:=bU7 hm h hst hl hk hj (x:=0) (by omega) (by omega)
      have:=(h l j hl hj).lo
      omega
     ·exact gz
    by_cases hjS:j∈S
    ·obtain⟨_,l1,y⟩:=hA j hjS
     exact .inl ⟨j,hj,l1,C j hj y,.inr rfl⟩
    ·refine .inr ⟨j::S,cr.mpr ⟨hjS,hS⟩,λ l hl=>?_,.inl hij,?_⟩
     ·rcases au.mp hl with rfl|hl
      ·exact⟨hj,.inl hij,.inr rfl⟩
      ·obtain⟨l0,l1,y⟩:=hA l hl
       exact⟨l0,l1,.inl (C l l0 y)⟩
     ·have:c=a:=by omega
      rw[this]
      simp only[aQ]
      push_cast
      omega
   ·refine .inr ⟨[j],by simp,λ l hl=>by rw[bK.mp hl];exact⟨hj,.inl hij,.inr rfl⟩,.inl hij,?_⟩
    have B:(a+1)*(m.R:Int)<=c*m.R:=dX (by omega) (by omega)
    rw[gX,fA]at B
    simp only[aQ,dq]
    push_cast
    omega
theorem bl2 (hW:0<=W){t:Nat}(ht:(n+1)*m.R<=t):Go m n (rep t u) (sh m.R g) (2*W):=λ i j y hj=>by
 have hR:=hm.R1
 have Y:1<=t:=aq (by rw[gb];omega) ht
 have G:=ca2 hm h hst Y i j y hj
 obtain⟨s1,s2,s3⟩:=bC3 hR h.inG hst y hj
 have C:=bL1 hR h.inG i j y hj
 refine⟨C.1,C.2,s2.trans G.z,s3.trans G.t,λ e=>?_,λ c hc hn=>?_⟩
 ·rcases(aN2 m.R).mp (show shN g i j m.R<=1 from e)with z|⟨l,hl,l1,B,J⟩
  ·omega
  ·have l0:g l l=0:=by
    have:=(h l l hl hl).lo
    by_cases q:g l l=1
    ·rw[if_pos q]at B;omega
    ·rw[if_neg q]at B;omega
   by_cases t1:t=1
   ·subst t1
    obtain⟨c,hc,a3⟩:=(h i j y hj).one (by omega)
    exact⟨c,by rw[bf4];exact hc,by omega⟩
   ·obtain⟨a,ha,a0⟩:=(h i l y hl).one l1
    obtain⟨b,hb,a4⟩:=(h l j hl hj).one J
    have hz:Wk m.ds (rep (t - 2) u) l l 0:=by
     by_cases t2:t - 2=0
     ·rw[t2];exact⟨rfl,rfl⟩
     ·exact(ca2 hm h hst (t:=t - 2) (by omega) l l hl hl).z.mp l0
    refine⟨a+(0+b),?_,by omega⟩
    rw[show t=1+((t - 2)+1)by omega,jg,jg,bf4]
    exact ag0.mpr ⟨l,a,0+b,ha,ag0.mpr ⟨l,0,b,hz,hb,rfl⟩,rfl⟩
 ·have fin:∀ l,l<m.R->(g i l<=1\/i=l)->g l l=0->(g l j<=1\/l=j)->sh m.R g i j<=1:=λ l hl l1 B J=>by
   refine(aN2 m.R).mpr (.inr ⟨l,hl,?_,?_,?_⟩)
   ·rcases l1 with q|rfl
    ·exact q
    ·omega
   ·rw[if_neg (by omega)];omega
   ·rcases J with q|rfl
    ·exact q
    ·omega
  rcases st_walk hm h hst y t j c hc hn with⟨l,hl,l1,B,J⟩|⟨S,hS,hA,_,hlen⟩
  ·exact fin l hl l1 B J
  ·have a2:=aw0 m.R S hS λ l hl=>(hA l hl).1
   have a1:=ar4 hc
   have h1:c*(m.R:Int)<=(n:Int)*m.R:=dX (by omega) (by omega)
   have Z:(((n+1)*m.R:Nat):Int)<=(t:Int):=by omega
   push_cast at Z
   rw[gX,fA]at Z
   omega
end
theorem bM7 {m:Mc}(y:m.Ok){n:Nat}{w:List Nat}{a:SV}(h:Go m n w a.1 a.2)(h0:0<=a.2)(q:Nat):Go m n (rep q w) (tmV m.R ((n+1)*m.R) a q).1 (tmV m.R ((n+1)*m.R) a q).2:=by
 obtain⟨_,B,_⟩:=aP5 y.R1 y.R5 h.inG
 unfold tmV
 split
 ·exact h.pow y q
 ·rename_i hq
  have C:=(h.pow y (stL m.R a.1+1)).congr (bV9 y.R1 h.inG (stL m.R a.1))
  have hs:=bl2 y C B (jY (by omega) h0) (fQ hq)
  have G:=h.pow y (q % (stL m.R a.1+1))
  have:=hs.mul y G
  rw[<-bL3,<-jg,gf (q / _),jD]at this
  rw[show((2*(stL m.R a.1+1)+q % (stL m.R a.1+1):Nat):Int)*a.2=2*(((stL m.R a.1+1:Nat):Int)*a.2)+((q % (stL m.R a.1+1):Nat):Int)*a.2 by rw[Int.natCast_add,gX,gC,Int.mul_assoc];rfl]
  exact this
theorem cj0 {m:Mc}(y:m.Ok){n:Nat}{l:List Rst}(hl:af2 l):∀ k,k<l.length->Go m n (wd l k) (sw m ((n+1)*m.R) l k).1 (sw m ((n+1)*m.R) l k).2:=by
 intro k
 induction k using eI with
 | _ k ih =>
  intro hk
  have hx:=ai hk
  have hok:=hl k _ hx
  generalize l[k]=x at hx hok
  cases x with
  | let_ ch=>rw[ci8 hx,ck6 hx];exact Go.letter y ch
  | pair i j =>
   obtain⟨h,hj⟩:=hok
   rw[cg3 hx h hj,cl0 hx h hj]
   exact(ih i h (by omega)).mul y (ih j hj (by omega))
  | times i q =>
   obtain⟨h,_,hq⟩:=hok
   rw[cc7 hx h,cm5 hx h]
   exact bM7 y (ih i h (by omega)) (bZ7 y (c:=(n+1)*m.R) hl i (by omega)).2.1 q
structure Gx (ns:List Int)(r:Nat)(u:Sto):Prop where
 scr:u[0]?=some (.ro (ns.map D.int))
 ncl:u.all O.ncl=true
 box:∃ b,u[r]?=some (z9 b)
 r0:r≠0
theorem Gx.put {ns:List Int}{r:Nat}{u:Sto}(h:Gx ns r u)(b:Int):Gx ns r (u.set r (z9 b)):=⟨by rw[bz h.r0];exact h.scr,by4 h.ncl rfl,aq1 (aP4 h.box),h.r0⟩
theorem Gx.snoc {ns:List Int}{r:Nat}{u:Sto}(h:Gx ns r u){o:O}(ho:o.ncl=true):Gx ns r (u++[o]):=⟨ay8 h.scr,qA h.ncl ho,by obtain⟨b,hb⟩:=h.box;exact⟨b,ay8 hb⟩,h.r0⟩
section
variable {P:Pr} [HasC P "FREE" (.int 0)] [HasC P "SOME" (.int 1)] [HasC P "NONE" (.int 3)] [Has P ae0] [Has P ad0] [Has P ae2] [HasL P ac6] [Has P ad2] [Has P ad6] [Has P ab1] [Has P ab5] [Has P aa5] [HasL P aa3] [Has P ad8] [HasL P ab0] [Has P ab8] [HasL P aa6] [Has P aa9] [Has P ac4] [Has P qT] [Has P ai8] [Has P zK] [Has P at5] [Has P aI9] [Has P aa4] [HasL P aa2]
 [Has P ap5] [Has P af0] [Has P bs5] [Has P qh] [Has P aA6] [Has P ad9] [Has P js] [Has P bh4]
end
noncomputable def bL6:Ss:=(.cons (.ite (.or (.cmp .ne (.cmp .eq (.var 7) (.cst (.int 3))) (.isN (.var 6))) (.cmp .ne (.cmp .eq (.var 7) (.cst (.int 0))) (.cmp .eq (.var 6) (.cst (.int 0))))) (.cons (.ret (.cst (.bl false))) .nil) .nil) (.cons (.ite (.or (.and (.cmp .eq (.var 7) (.cst (.int 2))) (.cmp .le (.var 6) (.var 2))) (.and (.cmp .eq (.var 7) (.cst (.int 1))) (.not (.chain .le .le (.cst (.int 1)) (.var 6) (.var 3))))) (.cons (.ret (.cst (.bl false))) .nil) .nil) .nil))
theorem bF5:al0.body=(.cons (.ite (.cmp .ne (.bi .len (.cons (.var 0) .nil)) (.bi .len (.cons (.var 1) .nil))) (.cons (.ret (.cst (.bl false))) .nil) .nil) (.cons (.for_ (.tup [4,5]) (.zip (.seq (.var 0)) (.seq (.var 1))) (.cons (.for_ (.tup [6,7]) (.zip (.seq (.var 4)) (.seq (.var 5))) bL6) .nil)) (.cons (.ret (.cst (.bl true))) .nil))):=rfl
structure GoT (n W:Int)(o:Option Int)(x:Int):Prop where
 lo:0<=x
 hi:x<=3
 t:x=3↔o=none
 z:x=0↔o=some 0
 two:x=2->∀ c,o=some c->n<c
 one:x=1->∀ c,o=some c->1<=c/\c<=W
theorem bD9 {s:Sto}:qJ .eq .non (.int 0) s=.ok (.bl false) s:=rfl
theorem cj6 {F:Fns}{n W x:Int}{o:Option Int}(h:GoT n W o x)(s:Sto)(C x1 J G:Option D) :
  exs F bL6 [C,x1,some (.int n),some (.int W),J,G,some (qu o),some (.int x)] s=.ok (.next [C,x1,some (.int n),some (.int W),J,G,some (qu o),some (.int x)]) s:=by
 have hn:∀ c:Int,¬ D.int c=D.non:=λ c e=>nomatch e
 cases o with
 | none =>
  have hx:x=3:=h.t.mpr rfl
  subst hx
  unfold bL6
  rw[show qu none=D.non from rfl]
  tbr_iter [ev_isN,bD9,bm6,show((3:Int)=0)=False by decide,show((3:Int)=2)=False by decide,show((3:Int)=1)=False by decide,beq_self_eq_true]
 | some c =>
  have h3:¬ x=3:=λ e=>nomatch h.t.mp e
  have hz:(x=0)=(c=0):=propext ⟨λ e=>ar (h.z.mp e),λ e=>h.z.mpr (by rw[e])⟩
  unfold bL6
  rw[show qu (some c)=D.int c from rfl]
  by_cases q2:x=2
  ·have hc:=h.two q2 c rfl
   have B:¬ c<=n:=by omega
   have y:¬ c=0:=by rw[<-hz];omega
   subst q2
   tbr_iter [ev_isN,hn,y,bm6,beq_self_eq_true,B,eq_self,show((2:Int)=1)=False by decide,show((2:Int)=3)=False by decide,show((2:Int)=0)=False by decide]
  ·by_cases q1:x=1
   ·obtain⟨a1,a2⟩:=h.one q1 c rfl
    have y:¬ c=0:=by omega
    tbr_iter [ev_isN,bk9,hn,bm6,beq_self_eq_true,q1,y,a1,a2,show((1:Int)=2)=False by decide,show((1:Int)=3)=False by decide,show((1:Int)=0)=False by decide]
   ·tbr_iter [ev_isN,hn,h3,hz,bm6,beq_self_eq_true,q2,q1]
theorem bq5 {m:Nat}{f:Nat->Nat->Option Int}{s:Sto}:ah6 (gdO m f) s=.ok ⟨(ah m).map λ i=>.tup (rowO m (f i)),[]⟩ s:=rfl
theorem bb3 {m:Nat}{f:Nat->Option Int}{s:Sto}:ah6 (.tup (rowO m f)) s=.ok ⟨(ah m).map λ j=>qu (f j),[]⟩ s:=rfl
theorem bS5 {P:Pr}[Has P al0](k:Nat){m:Nat}{f:Nat->Nat->Option Int}{g:Nat->Nat->Int}{n W:Int}(h:∀ i j,i<m->j<m->GoT n W (f i j) (g i j))(s:Sto) :
  (aa1 P (k+1)).call "_law_goes" [gdO m f,gd m g,.int n,.int W] s=.ok (.bl true) s:=by
 have e0:(aa1 P (k+1)).call "_law_goes" [gdO m f,gd m g,.int n,.int W] s=_:=zn al0 (n:=k) rfl
 rw[e0,bF5,show(bw some [gdO m f,gd m g,D.int n,.int W]++am al0.vs none)=[some (gdO m f),some (gd m g),some (.int n),some (.int W),none,none,none,none]from rfl]
 tbr_iter [ay9,aP6,be1,bq5,bx1,aL9,br]
 have J:∀ i,i<m->∀ C G B y,∃ ρ' s',aT6 (λ s1=>chk s s1 []) (turn (aa1 P k) (.tup [6,7]) bL6) ((ah m).map λ j=>.tup [qu (f i j),.int (g i j)]) [some (gdO m f),some (gd m g),some (.int n),some (.int W),C,G,B,y] s=.ok (.next ρ') s'/\∃ B y,ρ'=[some (gdO m f),some (gd m g),some (.int n),some (.int W),C,G,B,y]/\s'=s:=λ i hi C G B y=>by
  refine qS (λ _ ρ t=>∃ B y,ρ=[some (gdO m f),some (gd m g),some (.int n),some (.int W),C,G,B,y]/\t=s) _ 0 _ _ ⟨B,y,rfl,rfl⟩ (λ _ _ _ _ _=>rfl) ?_
  rintro j d ρ t hj ⟨B,y,rfl,rfl⟩
  obtain⟨Z,rfl⟩:=aD6 hj
  refine⟨[some (gdO m f),some (gd m g),some (.int n),some (.int W),C,G,some (qu (f i j)),some (.int (g i j))],t,.inl ?_,_,_,rfl,rfl⟩
  ·unfold turn
   rw[show ae8 [some (gdO m f),some (gd m g),some (.int n),some (.int W),C,G,B,y] (.tup [6,7]) (.tup [qu (f i j),.int (g i j)])=some [some (gdO m f),some (gd m g),some (.int n),some (.int W),C,G,some (qu (f i j)),some (.int (g i j))]from rfl]
   exact cj6 (h i j hi Z) t _ _ _ _
 have outer:=qS (ok:=λ s1=>chk s s1 []) (g:=turn (aa1 P k) (.tup [4,5]) (.cons (.for_ (.tup [6,7]) (.zip (.seq (.var 4)) (.seq (.var 5))) bL6) .nil)) (λ _ ρ t=>∃ C G B y,ρ=[some (gdO m f),some (gd m g),some (.int n),some (.int W),C,G,B,y]/\t=s) ((ah m).map λ i=>.tup [.tup (rowO m (f i)),.tup (row m (g i))]) 0 [some (gdO m f),some (gd m g),some (.int n),some (.int W),none,none,none,none] s ⟨none,none,none,none,rfl,rfl⟩ (λ _ _ _ _ _=>rfl) (by
  rintro i d ρ t hi ⟨C,G,B,y,rfl,rfl⟩
  obtain⟨Y,rfl⟩:=aD6 hi
  obtain⟨ρ',s',e,y6,y7,rfl,rfl⟩:=J i Y (some (.tup (rowO m (f i)))) (some (.tup (row m (g i)))) B y
  refine⟨[some (gdO m f),some (gd m g),some (.int n),some (.int W),some (.tup (rowO m (f i))),some (.tup (row m (g i))),y6,y7],s',.inl ?_,_,_,y6,y7,rfl,rfl⟩
  unfold turn
  tbr_iter [be1,bb3,bm1,aL9,br]
  rw[e]
  rfl)
 obtain⟨ρ',s',e,C,G,B,y,rfl,rfl⟩:=outer
 rw[e]
 tbr_iter []
 exact aN6
theorem bW0 {m:Mc}{n:Nat}{w:List Nat}{g:Nat->Nat->Int}{W:Int}(h:Go m n w g W){f:Nat->Nat->Option Int}(B:al1 m w f):∀ i j,i<m.R->j<m.R->GoT (n:Int) W (f i j) (g i j):=λ i j hi hj=>by
 have G:=h i j hi hj
 have L:=B i j hi hj
 have y:∀ c,Wk m.ds w i j c->0<=c:=λ c hc=>ar4 hc
 generalize f i j=o at L
 generalize Wk m.ds w i j=S at G L y
 cases o with
 | none=>exact⟨G.lo,G.hi,⟨λ _=>rfl,λ _=>G.t.mpr L⟩,⟨λ e=>absurd (G.z.mp e) (L 0),λ e=>(nomatch e)⟩,(λ _ c e=>(nomatch e)),λ _ c e=>(nomatch e)⟩
 | some c =>
  obtain⟨L1,L2⟩:=L
  refine⟨G.lo,G.hi,⟨λ e=>absurd L1 (G.t.mp e c),λ e=>nomatch e⟩,⟨λ e=>?_,λ e=>?_⟩,λ e d hd=>?_,λ e d hd=>?_⟩
  ·have:=L2 0 (G.z.mp e)
   have:=y c L1
   have:c=0:=by omega
   rw[this]
  ·cases e;exact G.z.mpr L1
  ·cases hd
   refine cE λ k=>?_
   have:=G.few c L1 (by omega)
   omega
  ·cases hd
   obtain⟨d,hd,C⟩:=G.one (by omega)
   have:=L2 d hd
   have:=y c L1
   have:c≠0:=λ z=>by subst z;have:=G.z.mpr L1;omega
   exact⟨by omega,by omega⟩
noncomputable def cc2:Ss:=(.cons (.asg (.tup [8,9]) (.call "long_signs" (.ex (.var 3) (.ex (.var 4) (.ex (.var 7) .nil))))) (.cons (.ite (.not (.call "_law_goes" (.ex (.var 5) (.ex (.var 8) (.ex (.var 7) (.ex (.var 9) .nil)))))) (.cons (.ret (.cst (.bl false))) .nil) .nil) .nil))
noncomputable def ci3:S:=(.for_ (.one 7) (.seq (.lst (.cons (.cst (.int 0)) (.cons (.bin .add (.cst (.int 1)) (.call "_law_draw" (.ex (.var 2) (.ex (.cst (.int 4)) .nil)))) (.cons (.var 6) .nil))))) cc2)
noncomputable def ch7:E:=(.bin .mul (.cst (.int 2)) (.bi .int (.cons (.and (.cmp .eq (.var 1) (.cst (.int 0))) (.cmp .lt (.ix (.var 3) (.cst (.int 1))) (.cst (.int 4)))) .nil)))
noncomputable def cc0:S:=(.ite (.cmp .eq (.call "_law_draw" (.ex (.var 2) (.ex (.cst (.int 8)) .nil))) (.cst (.int 3))) (.cons (.asg (.one 4) (.call "_law_tall" (.ex (.var 2) (.ex (.ix (.var 3) (.cst (.int 0))) (.ex (.cst (.int 60)) .nil))))) .nil) .nil)
noncomputable def cg8:S:=(.ite (.cmp .gt (.ix (.var 3) (.cst (.int 1))) (.cst (.int 3))) (.cons (.asg (.one 6) (.bin .mod (.var 6) (.cst (.int 100)))) .nil) .nil)
theorem bM8:ae1.body=(.cons (.for_ (.one 1) (.rng1 (.bin .add (.bi .min2 (.cons (.cst (.int 1)) (.cons (.bi .len (.cons (.var 0) .nil)) .nil))) (.cst (.int 1)))) (.cons (.asg (.one 2) (.call "_law_box" (.ex (.var 0) (.ex (.var 1) .nil)))) (.cons (.asg (.one 3) (.call "_law_machine" (.ex (.var 2) .nil))) (.cons (.asg (.one 4) (.call "_law_recipe" (.ex (.var 2) (.ex (.ix (.var 3) (.cst (.int 0))) (.ex (.cst (.int 10)) (.ex (.cst (.int 5)) .nil)))))) (.cons cc0 (.cons (.asg (.one 4) (.call "_law_tamed" (.ex (.var 4) (.ex ch7 .nil)))) (.cons (.asg (.one 5) (.call "long_table" (.ex (.var 3) (.ex (.var 4) .nil)))) (.cons (.asg (.one 6) (.call "_law_draw" (.ex (.var 2) (.ex (.bin .add (.bin .pow (.cst (.int 10)) (.cst (.int 30))) (.cst (.int 1))) .nil)))) (.cons cg8 (.cons ci3 .nil)))))))))) (.cons (.ret (.cst (.bl true))) .nil)):=rfl
section
variable {P:Pr} [Has P ad0] [Has P aa4] [HasL P aa2] [Has P ac0] [Has P aa8] [Has P ac7] [Has P ac8] [HasL P ab3] [HasC P "FREE" (.int 0)] [HasC P "SOME" (.int 1)] [HasC P "UNBOUND" (.int 2)] [HasC P "NONE" (.int 3)] [Has P ac3] [Has P ab7] [HasL P aa7] [Has P ac2] [HasC P "sign_product" (.fn "sign_product")] [Has P ab2] [Has P ab4]
 [Has P ae0] [Has P ae2] [HasL P ac6] [Has P ad2] [Has P ad6] [Has P ab1] [Has P ab5] [Has P aa5] [HasL P aa3] [Has P ad8] [HasL P ab0] [Has P ab8] [HasL P aa6] [Has P ae6] [HasC P "product" (.fn "product")] [HasC P "power" (.fn "power")] [Has P aa9] [Has P ac4] [Has P ad1] [Has P ad5] [HasL P ad4] [HasL P ad3] [HasC P "LETTER_WEIGHT" (.int 3)] [HasC P "signs_of_pair" (.fn "signs_of_pair")] [Has P ac5] [HasL P ac1] [Has P ac9]
 [Has P ap5] [Has P af0] [Has P ad9] [Has P aj0] [Has P af4] [Has P al0] [Has P ag2] [Has P ae1]
theorem bn0:Has P ae9:=inferInstanceAs (Has P aj0)
theorem ca1 (n:Nat){m:Mc}(h:m.Ok){l:List Rst}(hl:l.length<=90)(J:1<=l.length)(hk:af2 l)(z:Nat){s:Sto}(hs:s.all O.ncl=true)(y x1 B C G Z Y:Option D) :
  turn (aa1 P (n+10)) (.one 7) cc2 (.int (z:Int)) [y,x1,B,some m.d,some (.tup (l.map Rst.d)),some (tbD m (wd l (l.length - 1))),C,G,Z,Y] s=.ok (.next [y,x1,B,some m.d,some (.tup (l.map Rst.d)),some (tbD m (wd l (l.length - 1))),C,some (.int (z:Int)),some (gd m.R (sw m ((z+1)*m.R) l (l.length - 1)).1),some (.int (sw m ((z+1)*m.R) l (l.length - 1)).2)]) s:=by
 have e1:=ax5 (P:=P) n h hl J hk z hs
 have e2:=bS5 (P:=P) (n+9) (bW0 (cj0 h (n:=z) hk (l.length - 1) (by omega)) (az9 h (wd l (l.length - 1)))) s
 unfold turn cc2
 tbr_iter [e1,show ∀ ρ v,ae8 ρ (.tup [8,9]) (SD m.R v)=am2 ρ [8,9] [gd m.R v.1,.int v.2]from λ _ _=>rfl]
 rw[show tbD m (wd l (l.length - 1))=gdO m.R (tbO m (wd l (l.length - 1)))from rfl]
 tbr_iter [e2]
theorem bC6 (n:Nat){m:Mc}(hm:m.Ok){l:List Rst}(hl:l.length<=90)(h1:1<=l.length)(hk:af2 l)(y:Nat){ns:List Int}{r:Nat}{s:Sto}(h:Gx ns r s)(Y x1 G C J:Option D) :
  ∃(y7 y8 y9:Option D) (u:Sto),Gx ns r u/\ex (aa1 P (n+10)) ci3 [Y,x1,some (.ref r),some m.d,some (.tup (l.map Rst.d)),some (tbD m (wd l (l.length - 1))),some (.int (y:Int)),G,C,J] s=.ok (.next [Y,x1,some (.ref r),some m.d,some (.tup (l.map Rst.d)),some (tbD m (wd l (l.length - 1))),some (.int (y:Int)),y7,y8,y9]) u:=by
 obtain⟨q1,b1,_,e1⟩:=qN (P:=P) (n+9) h.box 4 (by decide) (by decide)
 have hG:=h.put b1
 generalize s.set r (z9 b1)=t at e1 hG
 have c1:((1:Int)+(q1:Int))=((q1+1:Nat):Int):=by omega
 let B:List D:=[.int ((0:Nat):Int),.int ((q1+1:Nat):Int),.int (y:Int)]
 have Z:Gx ns r (t++[O.lst B]):=hG.snoc rfl
 have a0:aK5 (.ref t.length) (t++[O.lst B])=.ok ⟨B,[t.length]⟩ (t++[O.lst B]):=by
  have:(t++[O.lst B])[t.length]?=some (.lst B):=bZ0
  simp only[aK5,this]
 have key:=qS (ok:=λ s1=>chk (t++[O.lst B]) s1 [t.length]) (g:=turn (aa1 P (n+10)) (.one 7) cc2) (λ _ ρ u=>u=t++[O.lst B]/\∃ G C J,ρ=[Y,x1,some (.ref r),some m.d,some (.tup (l.map Rst.d)),some (tbD m (wd l (l.length - 1))),some (.int (y:Int)),G,C,J]) B 0 [Y,x1,some (.ref r),some m.d,some (.tup (l.map Rst.d)),some (tbD m (wd l (l.length - 1))),some (.int (y:Int)),G,C,J] (t++[O.lst B]) ⟨rfl,G,C,J,rfl⟩ (λ _ _ u _ h=>by obtain⟨rfl,_⟩:=h;simp[chk]) (by
  rintro k d ρ u hk2 ⟨rfl,G,C,J,rfl⟩
  obtain⟨z,rfl⟩:∃ z:Nat,d=.int (z:Int):=by
   have hd:=aW hk2
   simp only[B,au,aP,or_false]at hd
   rcases hd with rfl|rfl|rfl<;>exact⟨_,rfl⟩
  exact⟨_,_,.inl (ca1 (P:=P) n hm hl h1 hk z Z.ncl Y x1 (some (.ref r)) (some (.int (y:Int))) G C J),rfl,_,_,_,rfl⟩)
 obtain⟨ρ',s',ek,rfl,y7,y8,y9,rfl⟩:=key
 refine⟨y7,y8,y9,_,Z,?_⟩
 unfold ci3
 tbr_iter [e1,c1]
 rw[show O.lst [D.int 0,D.int ((q1+1:Nat):Int),.int (y:Int)]=O.lst B from rfl,a0]
 simp only[R.bind_ok]
 exact ek
theorem bL0 (n:Nat){ns:List Int}{r:Nat}{u:Sto}(h:Gx ns r u){m:Mc}(Y:m.Ok){l:List Rst}(hl:l.length<=60)(h1:1<=l.length)(hk:af2 l)(x0 x1 Z x6 x7 x8 x9:Option D) :
  ∃(y:List Rst) (u':Sto),y.length<=60/\1<=y.length/\af2 y/\Gx ns r u'/\ex (aa1 P (n+2)) cc0 [x0,x1,some (.ref r),some m.d,some (.tup (l.map Rst.d)),Z,x6,x7,x8,x9] u=.ok (.next [x0,x1,some (.ref r),some m.d,some (.tup (y.map Rst.d)),Z,x6,x7,x8,x9]) u':=by
 obtain⟨q,b1,hq,e1⟩:=qN (P:=P) (n+1) h.box 8 (by decide) (by decide)
 have G:=h.put b1
 by_cases h3:(q:Int)=3
 ·obtain⟨y,b,B,J,C,e2⟩:=bn8 (P:=P) n G.box Y.L1 Y.L3 60 (by decide) (by decide)
  refine⟨y,_,C,J,B,G.put b,?_⟩
  rw[show((60:Nat):Int)=60 from rfl]at e2
  unfold cc0
  tbr_iter [e1,h3,ixL,e2]
 ·refine⟨l,_,hl,h1,hk,G,?_⟩
  unfold cc0
  tbr_iter [e1,h3]
theorem bG5 {F:Fns}{m:Mc}(j:Nat)(s:Sto)(B Z C G x6 J x8 x9:Option D):∃ z:Int,ev F ch7 [B,some (.int (j:Int)),Z,some m.d,C,G,x6,J,x8,x9] s=.ok (.int z) s:=by
 have y:mulOk 2 0=true:=by decide
 have Y:mulOk 2 1=true:=by decide
 unfold ch7
 by_cases h:(j:Int)=0
 ·by_cases g:(m.R:Int)<4
  ·exact⟨2*1,by tbr_iter [h,ixR,g,bi0,ae3 Y]⟩
  ·exact⟨2*0,by tbr_iter [h,ixR,g,bi0,ae3 y]⟩
 ·exact⟨2*0,by tbr_iter [h,bi0,ae3 y]⟩
theorem bH8 {F:Fns}{m:Mc}(h:Nat)(u:Sto)(Y x1 B C G x7 J x9:Option D):∃ g:Nat,ex F cg8 [Y,x1,B,some m.d,C,G,some (.int (h:Int)),x7,J,x9] u=.ok (.next [Y,x1,B,some m.d,C,G,some (.int (g:Int)),x7,J,x9]) u:=by
 have Z:∀ s,ixM m.d (.int 1) s=.ok (.int m.R) s:=λ s=>ixR m s
 have y:∀ u:Sto,qK .mod (.int (h:Int)) (.int 100) u=.ok (.int ((h % 100:Nat):Int)) u:=λ u=>by rw[qW (by decide)];rfl
 unfold cg8
 by_cases g:(3:Int)<(m.R:Int)
 ·exact⟨h % 100,by tbr_iter [Z,g,y]⟩
 ·exact⟨h,by tbr_iter [Z,g]⟩
theorem ch1 (n:Nat):cj7 P (n+11):=by
 intro ns hl
 haveI:Has P ae9:=bn0 (P:=P)
 have e0:(aa1 P (n+11)).call "law" [.ref 0] [.ro (ns.map D.int)]=_:=zn ae1 (n:=n+10) rfl
 rw[e0,bM8,show(bw some [D.ref 0]++am ae1.vs none)=[some (.ref 0),none,none,none,none,none,none,none,none,none]from rfl]
 have a0:([.ro (ns.map D.int)]:Sto)[0]?=some (.ro (ns.map D.int)):=rfl
 have hlen:bi .len [.ref 0] [.ro (ns.map D.int)]=.ok (.int ns.length) [.ro (ns.map D.int)]:=by rw[bt8 a0,aG]
 have hk:(if(ns.length:Int)<1 then(ns.length:Int)else 1)+1=((min ns.length 1+1:Nat):Int):=by omega
 tbr_iter [hlen,an0,hk]
 rw[qg (by unfold W62;omega) (by unfold W62;omega)]
 simp only[R.bind_ok]
 rw[R.bind_assoc]
 refine am8 (W:=Yes) (λ j ρ t=>t[0]?=some (.ro (ns.map D.int))/\t.all O.ncl=true/\∃ x1 x2 x3 x4 Y x6 C B G,ρ=[some (.ref 0),x1,x2,x3,x4,Y,x6,C,B,G]) ⟨rfl,by
   simp only[fK,kh,d4];exact bm9,_,_,_,_,_,_,_,_,_,rfl⟩ (λ _ _ _ _ _=>rfl) ?_ ?_
 ·rintro j d ρ t hj ⟨ht,hn,x1,x2,x3,x4,Y,x6,C,B,G,rfl⟩
  have hd:=(jx hj).2
  subst hd
  have a4:0<t.length:=(ae.mp ht).1
  obtain⟨N0,h⟩:=bW4 (P:=P) (n+9) ns j ht
  have G0:Gx ns t.length (t++[z9 N0]):=⟨ay8 ht,qA hn rfl,⟨_,bZ0⟩,by omega⟩
  generalize t++[z9 N0]=S at h G0
  generalize t.length=r at h G0
  obtain⟨m,b1,J,em⟩:=aF9 (P:=P) (n+8) G0.box
  have G1:=G0.put b1
  generalize S.set r (z9 b1)=S1 at em G1
  obtain⟨l,b2,a2,h1,h2,er⟩:=aR4 (P:=P) (n+8) G1.box J.L1 J.L3 10 (by decide) (by decide) 5
  have G2:=G1.put b2
  generalize S1.set r (z9 b2)=S3 at er G2
  obtain⟨l',u4,a3,a5,a1,G4,e4⟩:=bL0 (P:=P) (n+8) G2 J (l:=l) (by omega) h1 a2 (some (.ref 0)) (some (.int (j:Int))) Y x6 C B G
  obtain⟨z,ez⟩:=bG5 (F:=aa1 P (n+10)) (m:=m) j u4 (some (.ref 0)) (some (.ref r)) (some (.tup (l'.map Rst.d))) Y x6 C B G
  obtain⟨y,hk2,hl2,et⟩:=bl5 (P:=P) (n+9) (l:=l') (by omega) a1 z u4
  have el:=az3 (P:=P) (n+1) J (l:=y) (by omega) (by omega) hk2.b G4.ncl
  obtain⟨q5,b5,_,e5⟩:=qN (P:=P) (n+9) G4.box (10^30+1) (by decide) (by decide)
  have G5:=G4.put b5
  generalize u4.set r (z9 b5)=u5 at e5 G5
  obtain⟨g,eg⟩:=bH8 (F:=aa1 P (n+10)) (m:=m) q5 u5 (some (.ref 0)) (some (.int (j:Int))) (some (.ref r)) (some (.tup (y.map Rst.d))) (some (tbD m (wd y (y.length - 1)))) C B G
  obtain⟨y7,y8,y9,u7,G7,e7⟩:=bC6 (P:=P) n J (l:=y) (by omega) (by omega) hk2 g G5 (some (.ref 0)) (some (.int (j:Int))) C B G
  have Z:∀ s:Sto,qK .pow (.int 10) (.int 30) s=.ok (.int (10^30)) s:=λ s=>ax9 (by decide)
  refine bo5 (ρ:=[some (.ref 0),some (.int (j:Int)),some (.ref r),some m.d,some (.tup (y.map Rst.d)),some (tbD m (wd y (y.length - 1))),some (.int (g:Int)),y7,y8,y9]) (s:=u7) ?_ ⟨G7.scr,G7.ncl,_,_,_,_,_,_,_,_,_,rfl⟩
  rw[show((10:Nat):Int)=10 from rfl]at er
  unfold turn
  simp -implicitDefEqProofs only[zb,zG,zB,aE,za,zg,zS,ev_ix,qc,zL,zF,zd,ze,zl,R.bind_ok,h,em,zt,zh,zC,zD,ixL,er,e4,ez,et,el,qd,Z,add_int,e5,eg,e7]
 ·rintro ρ t ⟨ht,hn,x1,x2,x3,x4,Y,x6,C,B,G,rfl⟩
  tbr_iter []
  exact be0 _ _
end
end DV
end
local macro_rules | `(tactic| walk_at "sc") => `(tactic| exact ⟨rfl, rfl, rfl, by decide +kernel, rfl, by decide +kernel, by decide +kernel⟩)
local macro_rules | `(tactic| walk_at "df") => `(tactic| (dsimp only; exact ⟨_, _, _, _, _, _, _, _, _, _, by k_is, by k_is, by k_is, by k_is⟩))
noncomputable section
namespace My
open PySem L2
noncomputable def top (i:Nat):Stmt:=PySem.Challenge.pw_leasttolls_k42_whole_long_words_go_with.main.body.getD i (.Pass ⟨0,0,0,0⟩)
theorem bA5:aF7 ["i", "j"]:=λ params h _ _ _ _ _ _ _ _ us hl=>by
 obtain⟨args,rfl,ha⟩:=qY h
 revert us
 refine bd2 ?_
 intro y B
 rcases args with _|⟨⟨C,_,_⟩,_|⟨⟨a1,_,_⟩,_|⟨_,_⟩⟩⟩
 all_goals simp only[aH,cG,gE,and_true,and_false,reduceCtorEq]at ha
 obtain⟨rfl,rfl⟩:=ha
 exact⟨rfl,λ _ _=>rfl⟩
theorem cn0:aF7 ["letter"]:=λ params h _ _ _ _ _ _ _ _ us hl=>by
 obtain⟨args,rfl,ha⟩:=qY h
 revert us
 refine bd1 ?_
 intro y
 rcases args with _|⟨⟨B,_,_⟩,_|⟨_,_⟩⟩
 all_goals simp only[aH,cG,gE,and_true,and_false,reduceCtorEq]at ha
 obtain rfl:=ha
 exact⟨rfl,λ _ _=>rfl⟩
theorem cp8:aF7 ["one", "many"]:=λ params h _ _ _ _ _ _ _ _ us hl=>by
 obtain⟨args,rfl,ha⟩:=qY h
 revert us
 refine bd2 ?_
 intro y B
 rcases args with _|⟨⟨C,_,_⟩,_|⟨⟨a1,_,_⟩,_|⟨_,_⟩⟩⟩
 all_goals simp only[aH,cG,gE,and_true,and_false,reduceCtorEq]at ha
 obtain⟨rfl,rfl⟩:=ha
 exact⟨rfl,λ _ _=>rfl⟩
noncomputable def af3:List Str:=["plain", "product", "letter_table", "reading", "plain_signs", "sign_product", "sharpened", "long_signs", "last_table"]
noncomputable abbrev at6:Stmt:=top 1
noncomputable abbrev at2:Stmt:=top 2
noncomputable abbrev bw4:Stmt:=top 7
noncomputable abbrev aM8:Stmt:=top 8
noncomputable abbrev bg9:Stmt:=top 10
noncomputable abbrev bh8:Stmt:=top 11
noncomputable abbrev bf5:Stmt:=top 12
noncomputable abbrev an7:Stmt:=top 13
noncomputable abbrev aF6:Stmt:=top 14
noncomputable abbrev s_letter_table:Stmt:=top 15
noncomputable abbrev ak3:Stmt:=top 16
noncomputable abbrev aE8:Stmt:=top 22
noncomputable abbrev az8:Stmt:=top 23
noncomputable abbrev aj4:Stmt:=top 24
noncomputable abbrev af5:Stmt:=top 25
noncomputable abbrev al4:Stmt:=top 26
noncomputable abbrev ak8:Stmt:=top 27
noncomputable abbrev aq2:Stmt:=top 29
noncomputable abbrev au7:Stmt:=top 30
noncomputable abbrev ap0:Stmt:=top 31
noncomputable abbrev ah1:Stmt:=top 32
noncomputable abbrev aN5:Stmt:=top 35
noncomputable abbrev af1:Stmt:=top 37
noncomputable abbrev af9:Stmt:=top 38
noncomputable abbrev ak9:Stmt:=top 39
noncomputable abbrev al2:Stmt:=top 41
noncomputable abbrev ak5:Stmt:=top 43
noncomputable abbrev at8:Stmt:=top 45
noncomputable abbrev aq5:Stmt:=top 46
noncomputable abbrev ah0:Stmt:=top 47
noncomputable abbrev ai5:Stmt:=top 48
noncomputable abbrev aq3:Stmt:=top 49
noncomputable abbrev ak4:Stmt:=top 50
noncomputable abbrev ao7:Stmt:=top 51
noncomputable abbrev aB1:Stmt:=top 52
noncomputable def tb:List (String×lB×Stmt):=[("rooms_of",DV.ab1,at6),("doors_of",DV.ab5,at2),("grid",DV.ad0,bw4),("raised",DV.ac3,aM8),("least",DV.ad2,bg9),("added",DV.ad6,bh8),("plain",DV.ad8,bf5),("product",DV.ab8,an7),("power",DV.ae6,aF6),("letter_table",DV.aa5,s_letter_table),("word_table",DV.aa9,ak3),("sign_of",DV.ae0,aE8),("reading",DV.ae2,az8),("plain_signs",DV.ab7,aj4),("sign_product",DV.aa4,af5),("sign_power",DV.ac2,al4),("word_signs",DV.ac4,ak8),("is_steady",DV.ac0,aq2),("round_of",DV.ac7,au7),("sharpened",DV.ac8,ap0),("steady_power",DV.aa8,ah1),("folded",DV.ad1,aN5),("signs_of_pair",DV.ab2,af1),("signs_of_times",DV.ab4,af9),("long_signs",DV.ad5,ak9),("last_table",DV.ac5,al2),("long_table",DV.ac9,ak5),("_law_box",DV.ap5,at8),("_law_draw",DV.af0,aq5),("_law_machine",DV.ad9,ah0),("_law_recipe",DV.aj0,ai5),("_law_goes",DV.al0,aq3),("_law_tamed",DV.ag2,ak4),("_law_tall",DV.af4,ao7),("law",DV.ae1,aB1)]
noncomputable def ci0:List (String×kA):=[("FREE",.int (0)),("SOME",.int (1)),("UNBOUND",.int (2)),("NONE",.int (3)),("LETTER_WEIGHT",.int (3)),("product",.fn "product"),("power",.fn "power"),("sign_product",.fn "sign_product"),("signs_of_pair",.fn "signs_of_pair")]
noncomputable def cp6:List (String×lA):=[("plain.0",DV.ab0),("product.0",DV.aa6),("letter_table.least_fee",DV.aa3),("reading.0",DV.ac6),("plain_signs.0",DV.aa7),("sign_product.0",DV.aa2),("sharpened.0",DV.ab3),("long_signs.0",DV.ad4),("long_signs.1",DV.ad3),("last_table.0",DV.ac1)]
noncomputable def tbl:List (String×lB):=tb.map λ p=>(p.1,p.2.1)
noncomputable def P:kQ:=⟨λ f=>tbl.lookup f,λ f=>cp6.lookup f,λ x=>ci0.lookup x⟩
instance:DV.HasL P DV.ab0:=⟨rfl⟩
instance:DV.HasL P DV.aa6:=⟨rfl⟩
instance:DV.HasL P DV.aa3:=⟨rfl⟩
instance:DV.HasL P DV.ac6:=⟨rfl⟩
instance:DV.HasL P DV.aa7:=⟨rfl⟩
instance:DV.HasL P DV.aa2:=⟨rfl⟩
instance:DV.HasL P DV.ab3:=⟨rfl⟩
instance:DV.HasL P DV.ad4:=⟨rfl⟩
instance:DV.HasL P DV.ad3:=⟨rfl⟩
instance:DV.HasL P DV.ac1:=⟨rfl⟩
instance:DV.HasC P "FREE" (.int (0)):=⟨rfl⟩
instance:DV.HasC P "SOME" (.int (1)):=⟨rfl⟩
instance:DV.HasC P "UNBOUND" (.int (2)):=⟨rfl⟩
instance:DV.HasC P "NONE" (.int (3)):=⟨rfl⟩
instance:DV.HasC P "LETTER_WEIGHT" (.int (3)):=⟨rfl⟩
instance:DV.HasC P "product" (.fn "product"):=⟨rfl⟩
instance:DV.HasC P "power" (.fn "power"):=⟨rfl⟩
instance:DV.HasC P "sign_product" (.fn "sign_product"):=⟨rfl⟩
instance:DV.HasC P "signs_of_pair" (.fn "signs_of_pair"):=⟨rfl⟩
instance:DV.Has P DV.ab1:=⟨rfl⟩
instance:DV.Has P DV.ab5:=⟨rfl⟩
instance:DV.Has P DV.ad0:=⟨rfl⟩
instance:DV.Has P DV.ac3:=⟨rfl⟩
instance:DV.Has P DV.ad2:=⟨rfl⟩
instance:DV.Has P DV.ad6:=⟨rfl⟩
instance:DV.Has P DV.ad8:=⟨rfl⟩
instance:DV.Has P DV.ab8:=⟨rfl⟩
instance:DV.Has P DV.ae6:=⟨rfl⟩
instance:DV.Has P DV.aa5:=⟨rfl⟩
instance:DV.Has P DV.aa9:=⟨rfl⟩
instance:DV.Has P DV.ae0:=⟨rfl⟩
instance:DV.Has P DV.ae2:=⟨rfl⟩
instance:DV.Has P DV.ab7:=⟨rfl⟩
instance:DV.Has P DV.aa4:=⟨rfl⟩
instance:DV.Has P DV.ac2:=⟨rfl⟩
instance:DV.Has P DV.ac4:=⟨rfl⟩
instance:DV.Has P DV.ac0:=⟨rfl⟩
instance:DV.Has P DV.ac7:=⟨rfl⟩
instance:DV.Has P DV.ac8:=⟨rfl⟩
instance:DV.Has P DV.aa8:=⟨rfl⟩
instance:DV.Has P DV.ad1:=⟨rfl⟩
instance:DV.Has P DV.ab2:=⟨rfl⟩
instance:DV.Has P DV.ab4:=⟨rfl⟩
instance:DV.Has P DV.ad5:=⟨rfl⟩
instance:DV.Has P DV.ac5:=⟨rfl⟩
instance:DV.Has P DV.ac9:=⟨rfl⟩
instance:DV.Has P DV.ap5:=⟨rfl⟩
instance:DV.Has P DV.af0:=⟨rfl⟩
instance:DV.Has P DV.ad9:=⟨rfl⟩
instance:DV.Has P DV.aj0:=⟨rfl⟩
instance:DV.Has P DV.al0:=⟨rfl⟩
instance:DV.Has P DV.ag2:=⟨rfl⟩
instance:DV.Has P DV.af4:=⟨rfl⟩
instance:DV.Has P DV.ae1:=⟨rfl⟩
theorem aS5:DT af3 P "rooms_of" DV.ab1 at6:=⟨["machine"],["machine"],by walk_at "sc",rfl,rfl,λ _ _ _ _ _ _=>bd1 (λ _=>rfl),.inl (by decide +kernel)⟩
theorem aU2:DT af3 P "doors_of" DV.ab5 at2:=⟨["machine"],["machine"],by walk_at "sc",rfl,rfl,λ _ _ _ _ _ _=>bd1 (λ _=>rfl),.inl (by decide +kernel)⟩
theorem bY2:DT af3 P "grid" DV.ad0 bw4:=⟨["size", "entry", "rows", "i"],["size", "entry"],by walk_at "sc",rfl,rfl,λ _ _ _ _ _ _=>bd2 (λ _ _=>rfl),.inl (by decide +kernel)⟩
theorem bl9:DT af3 P "raised" DV.ac3 aM8:=⟨["one", "many", "plain_one", "times", "answer", "square", "left"],["one", "many", "plain_one", "times"],by walk_at "sc",rfl,rfl,λ _ _ _ _ _ _=>bd4 (λ _ _ _ _=>rfl),.inl (by decide +kernel)⟩
theorem by5:DT af3 P "least" DV.ad2 bg9:=⟨["prices"],["prices"],by walk_at "sc",rfl,rfl,λ _ _ _ _ _ _=>bd1 (λ _=>rfl),.inl (by decide +kernel)⟩
theorem bJ2:DT af3 P "added" DV.ad6 bh8:=⟨["one", "other"],["one", "other"],by walk_at "sc",rfl,rfl,λ _ _ _ _ _ _=>bd2 (λ _ _=>rfl),.inl (by decide +kernel)⟩
theorem bC2:DT af3 P "plain" DV.ad8 bf5:=⟨["n"],["n"],by walk_at "sc",rfl,rfl,λ _ _ _ _ _ _=>bd1 (λ _=>rfl),.inr ⟨by decide,[("plain.0",DV.ab0,["i", "j"],[])],by decide +kernel,by decide +kernel,λ p h=>by
 simp only[au,aP,or_false]at h
 rcases h with rfl
 ·exact⟨rfl,bA5⟩⟩⟩
theorem aX6:DT af3 P "product" DV.ab8 an7:=⟨["one", "other", "size"],["one", "other"],by walk_at "sc",rfl,rfl,λ _ _ _ _ _ _=>bd2 (λ _ _=>rfl),.inr ⟨by decide,[("product.0",DV.aa6,["i", "j"],["size", "one", "other"])],by decide +kernel,by decide +kernel,λ p h=>by
 simp only[au,aP,or_false]at h
 rcases h with rfl
 ·exact⟨rfl,bA5⟩⟩⟩
theorem bx9:DT af3 P "power" DV.ae6 aF6:=⟨["table", "many"],["table", "many"],by walk_at "sc",rfl,rfl,λ _ _ _ _ _ _=>bd2 (λ _ _=>rfl),.inl (by decide +kernel)⟩
theorem ar9:DT af3 P "letter_table" DV.aa5 s_letter_table:=⟨["machine", "letter", "least_fee"],["machine", "letter"],by walk_at "sc",rfl,rfl,λ _ _ _ _ _ _=>bd2 (λ _ _=>rfl),.inr ⟨by decide,[("letter_table.least_fee",DV.aa3,["i", "j"],["machine", "letter"])],by decide +kernel,by decide +kernel,λ p h=>by
 simp only[au,aP,or_false]at h
 rcases h with rfl
 ·exact⟨rfl,bA5⟩⟩⟩
theorem aA7:DT af3 P "word_table" DV.aa9 ak3:=⟨["machine", "word", "made", "table", "letter"],["machine", "word"],by walk_at "sc",rfl,rfl,λ _ _ _ _ _ _=>bd2 (λ _ _=>rfl),.inl (by decide +kernel)⟩
theorem bg0:DT af3 P "sign_of" DV.ae0 aE8:=⟨["price"],["price"],by walk_at "sc",rfl,rfl,λ _ _ _ _ _ _=>bd1 (λ _=>rfl),.inl (by decide +kernel)⟩
theorem aY8:DT af3 P "reading" DV.ae2 az8:=⟨["table"],["table"],by walk_at "sc",rfl,rfl,λ _ _ _ _ _ _=>bd1 (λ _=>rfl),.inr ⟨by decide,[("reading.0",DV.ac6,["i", "j"],["table"])],by decide +kernel,by decide +kernel,λ p h=>by
 simp only[au,aP,or_false]at h
 rcases h with rfl
 ·exact⟨rfl,bA5⟩⟩⟩
theorem ay0:DT af3 P "plain_signs" DV.ab7 aj4:=⟨["n"],["n"],by walk_at "sc",rfl,rfl,λ _ _ _ _ _ _=>bd1 (λ _=>rfl),.inr ⟨by decide,[("plain_signs.0",DV.aa7,["i", "j"],[])],by decide +kernel,by decide +kernel,λ p h=>by
 simp only[au,aP,or_false]at h
 rcases h with rfl
 ·exact⟨rfl,bA5⟩⟩⟩
theorem ar2:DT af3 P "sign_product" DV.aa4 af5:=⟨["one", "other", "size"],["one", "other"],by walk_at "sc",rfl,rfl,λ _ _ _ _ _ _=>bd2 (λ _ _=>rfl),.inr ⟨by decide,[("sign_product.0",DV.aa2,["i", "j"],["size", "one", "other"])],by decide +kernel,by decide +kernel,λ p h=>by
 simp only[au,aP,or_false]at h
 rcases h with rfl
 ·exact⟨rfl,bA5⟩⟩⟩
theorem aA4:DT af3 P "sign_power" DV.ac2 al4:=⟨["signs", "many"],["signs", "many"],by walk_at "sc",rfl,rfl,λ _ _ _ _ _ _=>bd2 (λ _ _=>rfl),.inl (by decide +kernel)⟩
theorem aA1:DT af3 P "word_signs" DV.ac4 ak8:=⟨["machine", "word"],["machine", "word"],by walk_at "sc",rfl,rfl,λ _ _ _ _ _ _=>bd2 (λ _ _=>rfl),.inl (by decide +kernel)⟩
theorem aJ2:DT af3 P "is_steady" DV.ac0 aq2:=⟨["signs"],["signs"],by walk_at "sc",rfl,rfl,λ _ _ _ _ _ _=>bd1 (λ _=>rfl),.inl (by decide +kernel)⟩
theorem aR9:DT af3 P "round_of" DV.ac7 au7:=⟨["sign"],["sign"],by walk_at "sc",rfl,rfl,λ _ _ _ _ _ _=>bd1 (λ _=>rfl),.inl (by decide +kernel)⟩
theorem aI1:DT af3 P "sharpened" DV.ac8 ap0:=⟨["signs", "size", "rounds"],["signs"],by walk_at "sc",rfl,rfl,λ _ _ _ _ _ _=>bd1 (λ _=>rfl),.inr ⟨by decide,[("sharpened.0",DV.ab3,["i", "j"],["size", "signs", "rounds"])],by decide +kernel,by decide +kernel,λ p h=>by
 simp only[au,aP,or_false]at h
 rcases h with rfl
 ·exact⟨rfl,bA5⟩⟩⟩
theorem as5:DT af3 P "steady_power" DV.aa8 ah1:=⟨["signs", "many", "power"],["signs"],by walk_at "sc",rfl,rfl,λ _ _ _ _ _ _=>bd1 (λ _=>rfl),.inl (by decide +kernel)⟩
theorem bp4:DT af3 P "folded" DV.ad1 aN5:=⟨["steps", "of_letter", "of_pair", "of_times", "values", "step"],["steps", "of_letter", "of_pair", "of_times"],by walk_at "sc",rfl,rfl,λ _ _ _ _ _ _=>bd4 (λ _ _ _ _=>rfl),.inl (by decide +kernel)⟩
theorem ap4:DT af3 P "signs_of_pair" DV.ab2 af1:=⟨["one", "other"],["one", "other"],by walk_at "sc",rfl,rfl,λ _ _ _ _ _ _=>bd2 (λ _ _=>rfl),.inl (by decide +kernel)⟩
theorem al7:DT af3 P "signs_of_times" DV.ab4 af9:=⟨["one", "many", "enough", "signs", "weight", "steady", "period", "rest"],["one", "many", "enough"],by walk_at "sc",rfl,rfl,λ _ _ _ _ _ _=>bd3 (λ _ _ _=>rfl),.inl (by decide +kernel)⟩
theorem aF4:DT af3 P "long_signs" DV.ad5 ak9:=⟨["machine", "recipe", "n", "enough"],["machine", "recipe", "n"],by walk_at "sc",rfl,rfl,λ _ _ _ _ _ _=>bd3 (λ _ _ _=>rfl),.inr ⟨by decide,[("long_signs.0",DV.ad4,["one", "many"],["enough"]),("long_signs.1",DV.ad3,["letter"],["machine"])],by decide +kernel,by decide +kernel,λ p h=>by
 simp only[au,aP,or_false]at h
 rcases h with rfl|rfl
 ·exact⟨rfl,cp8⟩
 ·exact⟨rfl,cn0⟩⟩⟩
theorem aD1:DT af3 P "last_table" DV.ac5 al2:=⟨["machine", "steps"],["machine", "steps"],by walk_at "sc",rfl,rfl,λ _ _ _ _ _ _=>bd2 (λ _ _=>rfl),.inr ⟨by decide,[("last_table.0",DV.ac1,["letter"],["machine"])],by decide +kernel,by decide +kernel,λ p h=>by
 simp only[au,aP,or_false]at h
 rcases h with rfl
 ·exact⟨rfl,cn0⟩⟩⟩
theorem aC5:DT af3 P "long_table" DV.ac9 ak5:=⟨["machine", "recipe"],["machine", "recipe"],by walk_at "sc",rfl,rfl,λ _ _ _ _ _ _=>bd2 (λ _ _=>rfl),.inl (by decide +kernel)⟩
theorem aR1:DT af3 P "_law_box" DV.ap5 at8:=⟨["_law_script", "_law_at", "_law_cell", "_law_number", "_law_j", "_law_part"],["_law_script", "_law_at"],by walk_at "sc",rfl,rfl,λ _ _ _ _ _ _=>bd2 (λ _ _=>rfl),.inl (by decide +kernel)⟩
theorem aH1:DT af3 P "_law_draw" DV.af0 aq5:=⟨["_law_box_here", "_law_many", "_law_found"],["_law_box_here", "_law_many"],by walk_at "sc",rfl,rfl,λ _ _ _ _ _ _=>bd2 (λ _ _=>rfl),.inl (by decide +kernel)⟩
theorem ar3:DT af3 P "_law_machine" DV.ad9 ah0:=⟨["_law_box_here", "_law_letters", "_law_rooms", "_law_many", "_law_high", "_law_doors", "_law_k", "_law_start", "_law_goal", "_law_letter", "_law_bits", "_law_begins", "_law_ends"],["_law_box_here"],by walk_at "sc",rfl,rfl,λ _ _ _ _ _ _=>bd1 (λ _=>rfl),.inl (by decide +kernel)⟩
theorem ay4:DT af3 P "_law_recipe" DV.aj0 ai5:=⟨["_law_box_here", "_law_letters", "_law_most", "_law_times", "_law_steps", "_law_k", "_law_way", "_law_one", "_law_other", "_law_many"],["_law_box_here", "_law_letters", "_law_most", "_law_times"],by walk_at "sc",rfl,rfl,λ _ _ _ _ _ _=>bd4 (λ _ _ _ _=>rfl),.inl (by decide +kernel)⟩
theorem aG3:DT af3 P "_law_goes" DV.al0 aq3:=⟨["_law_table", "_law_signs", "_law_n", "_law_weight", "_law_line", "_law_row", "_law_cost", "_law_sign"],["_law_table", "_law_signs", "_law_n", "_law_weight"],by walk_at "sc",rfl,rfl,λ _ _ _ _ _ _=>bd4 (λ _ _ _ _=>rfl),.inl (by decide +kernel)⟩
theorem aC8:DT af3 P "_law_tamed" DV.ag2 ak4:=⟨["_law_recipe_here", "_law_great", "_law_steps", "_law_step"],["_law_recipe_here", "_law_great"],by walk_at "sc",rfl,rfl,λ _ _ _ _ _ _=>bd2 (λ _ _=>rfl),.inl (by decide +kernel)⟩
theorem aJ7:DT af3 P "_law_tall" DV.af4 ao7:=⟨["_law_box_here", "_law_letters", "_law_most", "_law_steps", "_law_k"],["_law_box_here", "_law_letters", "_law_most"],by walk_at "sc",rfl,rfl,λ _ _ _ _ _ _=>bd3 (λ _ _ _=>rfl),.inl (by decide +kernel)⟩
theorem bs9:FnScope ["_law_script", "_law_k", "_law_box_here", "_law_machine_here", "_law_recipe_here", "_law_table", "_law_great", "_law_n", "_law_signs", "_law_weight"] ["_law_script"] (defScope aB1):=by walk_at "sc"
theorem ca3:mSs ⟨["_law_script", "_law_k", "_law_box_here", "_law_machine_here", "_law_recipe_here", "_law_table", "_law_great", "_law_n", "_law_signs", "_law_weight"],defScope aB1,λ _ _ _=>false⟩ DV.ae1.body (qa aB1)=true:=by decide +kernel
theorem bT7:co2 "law" aB1 ["_law_script"]:=λ _ _ _ _ _ _=>bd1 λ _=>rfl
theorem ce6:DT af3 P "law" DV.ae1 aB1:=⟨_,_,bs9,rfl,rfl,bT7,.inl ca3⟩
theorem cd0:∀ p∈tb,DT af3 P p.1 p.2.1 p.2.2:=by
 intro p h
 unfold tb at h
 simp only[au,aP,or_false]at h
 rcases h with rfl|rfl|rfl|rfl|rfl|rfl|rfl|rfl|rfl|rfl|rfl|rfl|rfl|rfl|rfl|rfl|rfl|rfl|rfl|rfl|rfl|rfl|rfl|rfl|rfl|rfl|rfl|rfl|rfl|rfl|rfl|rfl|rfl|rfl|rfl
 ·exact aS5
 ·exact aU2
 ·exact bY2
 ·exact bl9
 ·exact by5
 ·exact bJ2
 ·exact bC2
 ·exact aX6
 ·exact bx9
 ·exact ar9
 ·exact aA7
 ·exact bg0
 ·exact aY8
 ·exact ay0
 ·exact ar2
 ·exact aA4
 ·exact aA1
 ·exact aJ2
 ·exact aR9
 ·exact aI1
 ·exact as5
 ·exact bp4
 ·exact ap4
 ·exact al7
 ·exact aF4
 ·exact aD1
 ·exact aC5
 ·exact aR1
 ·exact aH1
 ·exact ar3
 ·exact ay4
 ·exact aG3
 ·exact aC8
 ·exact aJ7
 ·exact ce6
theorem bX9 {l:cT}{w:World}{K:ac}{h:Heap}{mg:Str->Option Value}{fa:Addr}(X:K.In h)(G:h.Ns aX mg)(a0:mg "law"=some (.ref fa))(hD:∀ p∈tb,cn3 K p.1 p.2.2)(hz:∀ x∈bNames,b9 K aX x=some none)
  {Y:Tok} (gc_FREE:b9 K aX "FREE"=some (some (.int (0) Y)))
  {Z:Tok} (gc_SOME:b9 K aX "SOME"=some (some (.int (1) Z)))
  {C:Tok} (gc_UNBOUND:b9 K aX "UNBOUND"=some (some (.int (2) C)))
  {J:Tok} (gc_NONE:b9 K aX "NONE"=some (some (.int (3) J)))
  {y:Tok} (gc_LETTER_WEIGHT:b9 K aX "LETTER_WEIGHT"=some (some (.int (3) y)))
  (hT:∀ x∈af3,(bj K x).isSome=true) (tnd:decide (((bI2 af3 K).map (·.1)).Nodup)=true)
  : ∃ fd:bE,(∀(s:af) (v:Value),jF s fd ⟨[v],[]⟩ [("_law_script",v)])/\∀ B:Heap,K.In B->B.Ns aX mg->BM mg B->bx7 K af3 B->FnOk l.prog w K mg B CX0 49 fa fd ["_law_script"] (spB af3 K):=by
 have hP:PrOk (bi8 af3 P K) (bM0 af3 K) P mg:=by
  refine⟨λ f d h=>aO2 (tbl:=tbl) (λ p hp=>?_) f d h,λ x d h=>be9 (tbl:=ci0) ?_ x d h,λ x hx=>PySem.W.mg_none_of X G (hz x hx),ch0 X G,cd5,of_decide_eq_true tnd⟩
  ·obtain⟨r,hr,rfl⟩:=ay.mp hp
   exact good_of X G hT (hD r hr) (cd0 r hr)
  ·intro p hp
   unfold ci0 at hp
   simp only[au,aP,or_false]at hp
   rcases hp with rfl|rfl|rfl|rfl|rfl|rfl|rfl|rfl|rfl
   ·exact ao5 (bV X G gc_FREE)
   ·exact ao5 (bV X G gc_SOME)
   ·exact ao5 (bV X G gc_UNBOUND)
   ·exact ao5 (bV X G gc_NONE)
   ·exact ao5 (bV X G gc_LETTER_WEIGHT)
   ·obtain⟨_,_,_,_,_,_,_,_,_,_,a,l,_⟩:=hD ("product",DV.ab8,an7) (by unfold tb;simp)
    exact aM5 X G a l
   ·obtain⟨_,_,_,_,_,_,_,_,_,_,a,l,_⟩:=hD ("power",DV.ae6,aF6) (by unfold tb;simp)
    exact aM5 X G a l
   ·obtain⟨_,_,_,_,_,_,_,_,_,_,a,l,_⟩:=hD ("sign_product",DV.aa4,af5) (by unfold tb;simp)
    exact aM5 X G a l
   ·obtain⟨_,_,_,_,_,_,_,_,_,_,a,l,_⟩:=hD ("signs_of_pair",DV.ab2,af1) (by unfold tb;simp)
    exact aM5 X G a l
 obtain⟨f,od,an,sl,oc,kV,dc,pm,cd,ct,a,l0,c,k⟩:=hD ("law",DV.ae1,aB1) (by unfold tb;simp)
 have e:=a0.symm.trans (bV X G a)
 cases e
 have F:=bs8 (st:=aB1) l0 c k
 refine⟨_,λ s v=>.of_eq rfl,λ B _ _ bm hk=>(bT5 hP (bv6 hT bm hk) 17 (aX8 hP (bv6 hT bm hk) 17) (d:=DV.ae1) (f := "law") rfl ⟨F,bV X G a,F.binds bT7⟩ bs9 rfl rfl ca3 bh7).imp (λ vs H Q E q=>bU1 (λ ns h=>DV.ch1 (P:=P) 7 ns h) vs H Q E (bl3 hT q))⟩
noncomputable def nmS:Stmt->Bool
 | .Assign [.Name x _] _ _=>decide (x=("__name__":Str))
 | _=>false
noncomputable def vq:aL:={ PySem.Challenge.pw_leasttolls_k42_whole_long_words_go_with with main:={ (PySem.Challenge.pw_leasttolls_k42_whole_long_words_go_with).main with body:=(PySem.Challenge.pw_leasttolls_k42_whole_long_words_go_with).main.body.filter λ s=>!nmS s } }
inductive IsL:cT->Prop|mk:IsL PySem.Challenge.rw_leasttolls_k42_whole_long_words_go_with
theorem bO4 {l:cT}(h:IsL l):PySem.Challenge.rw_leasttolls_k42_whole_long_words_go_with=l:=by cases h;rfl
noncomputable def lwp:{ l:cT // IsL l }:=by
 refine⟨?p,?h⟩
 case h =>
  have e:PySem.Challenge.rw_leasttolls_k42_whole_long_words_go_with=?p:=by
   conv=>lhs;reduce
  exact e▸IsL.mk
theorem ws1:fM lwp.1=true:=by k_qdec
theorem ws:fM PySem.Challenge.rw_leasttolls_k42_whole_long_words_go_with=true:=by
 rw[bO4 lwp.2];exact ws1
end My
end
open PySem PySem.W PyProof.Rows
local macro_rules | `(tactic| o_head $H) => `(tactic| refine L2.head_of (q := My.vq) (loose := []) (H := $H) (N := 4000) (λ w => by kernel_rfl) (by rfl) (by rfl) (by rfl) rfl (by assumption) (by decide +kernel) ⟨rfl, rfl, rfl, rfl, rfl, by decide +kernel⟩ ?_ ?_)
set_option maxRecDepth 100000 in
set_option maxHeartbeats 0 in
theorem PySem.Challenge.cw_leasttolls_k42_whole_long_words_go_with_holds : PySem.Challenge.rw_leasttolls_k42_whole_long_words_go_with.Holds := by
 w_on;refine holds_law My.ws λ said=>?_;k_head;(focus w_witness2)
 k_fill
 refine L2.aY7 (l:=PySem.Challenge.rw_leasttolls_k42_whole_long_words_go_with) (n:=63) (k:=49) (x := "_law_script") (sp:=L2.spB My.af3) My.af3 rfl (by decide) rfl ⟨rfl,by decide,by decide⟩ (λ w h Y=>⟨PySem.W.km_in_of Y,PySem.W.km_tabs_of Y⟩) (λ w=>?R) (λ w=>?NT) ?F (λ K H a ns hl hB hS hF=>L2.bY8 hl hB hS hF)
 case R=>kernel_rfl
 case NT=>kernel_rfl
 case F =>
  intro w mg fa h KX G hmg
  refine' My.bX9 KX G hmg ?hD ?hz ?gc_FREE ?gc_SOME ?gc_UNBOUND ?gc_NONE ?gc_LETTER_WEIGHT ?hT ?tnd
  case hD =>
   intro p hp
   unfold My.tb at hp
   simp only[au,aP,or_false]at hp
   rcases hp with rfl|rfl|rfl|rfl|rfl|rfl|rfl|rfl|rfl|rfl|rfl|rfl|rfl|rfl|rfl|rfl|rfl|rfl|rfl|rfl|rfl|rfl|rfl|rfl|rfl|rfl|rfl|rfl|rfl|rfl|rfl|rfl|rfl|rfl|rfl
   all_goals walk_at "df"
  case hz =>
   intro x hx
   unfold L2.bNames at hx
   simp only[au,aP,or_false]at hx
   rcases hx with rfl|rfl|rfl|rfl|rfl|rfl|rfl|rfl|rfl|rfl|rfl|rfl|rfl|rfl|rfl|rfl|rfl|rfl<;>k_is
  (case gc_FREE=>k_is)
  (case gc_SOME=>k_is)
  (case gc_UNBOUND=>k_is)
  (case gc_NONE=>k_is)
  (case gc_LETTER_WEIGHT=>k_is)
  case hT =>
   intro x hx
   simp only[My.af3,au,aP,or_false]at hx
   rcases hx with rfl|rfl|rfl|rfl|rfl|rfl|rfl|rfl|rfl<;>kernel_rfl
  (case tnd=>kernel_rfl)
