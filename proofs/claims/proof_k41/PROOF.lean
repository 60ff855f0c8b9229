import PyProof.Rows.All
import Wide.All
import OpenK.AllK
import Wide.FinOn
import PyProof.EqAt
import PyProof.EqKinds
import PyProof.TupleCall
import PyProof.MinMaxWalk
import PyProof.WalkInts
import PyProof.NeKinds
import PyProof.SliceStr2
import PyProof.StrBlockI
import PyProof.MaxThree
import PyProof.ZipIter
import PyProof.Draws
import PyProof.EnumMake
import PyProof.ListMulRoad
import PyProof.Rows.StrRev
import KE.IntBitsLaws
import PySem.Challenge.RW_leasttolls_k41_signs_of_long_words
set_option Elab.async false
set_option linter.all false
set_option maxRecDepth 100000
set_option maxHeartbeats 4000000
open List renaming getElem?_eq_some_iff->ab,range->ae,getElem?_eq_getElem->ag,getElem?_append_right->aj,replicate->ak,mem_cons_of_mem->au,mem_map->av,getElem?_map->ax,mem_cons->az,size_toArray->aA,mem_cons_self->aD,length_map->aF,getElem?_append_left->aG,map_cons->aI,all_eq_true->aM,getD_eq_getElem?_getD->aO,length_cons->aQ,mem_range->aR,mem_of_getElem?->aV,getElem?_set_self->aX,getElem?_range->aY,length_append->aZ,lookup_cons->a7,getElem?_set_ne->a9,not_mem_nil->bf,mem_map_of_mem->bn,map->bp,mem_append_right->bq,filterMap_cons->br,map_append->bu,length_set->bv,append_nil->bC,replicate_succ->bE,getElem?_eq_none->bJ,mem_singleton->bN,length_range->bT,range_succ->bU,set_append_right->bW,mem_filterMap->bX,mem_iff_getElem->b9,mem_append->cc,foldl_cons->cg,getElem?_toArray->cw,map_nil->cy,map_congr_left->cz,nodup_cons->cG,find?_cons->cI,length_singleton->cM,flatten_cons->cQ,map_map->cY,of_mem_zip->da,length_eq_zero_iff->dk,reverse_cons->dt,range_succ_eq_map->dC,length_take->dE,cons_append->dF,length_nil->dY,set_set->d8,filterMap_map->eI,drop_eq_getElem_cons->eK,mem_or_eq_of_mem_set->eM,append_assoc->eR,any_cons->fh,all_cons->fi,getElem?_replicate->fj,drop_eq_nil_of_le->fQ,mem_filter->fV,nil_append->fX,mem_append_left->gj,length->gu,forIn_nil->gy,getElem?_of_mem->gD,getElem?_take->ie,ext_getElem?->iA,foldl_append->iB,any_eq_true->iG,getElem_mem->iJ,take_length->iK,forIn_cons->iO,set_append->iT,foldl->i5,drop_zero->jN,take_zero->jQ,sum_cons->jW,all_nil->j8,lookup->kg
open PySem.W renaming Frag->ac,tabIn->bh,kia_one->bB,kla_fn->bK,CodeHd->bL,mg_of->bP,nsIn->b7,keepIn->b8,fnX->ci,kitOne->cr,fnOf->cC,envX->cD,OpenLaw->cF,tabObj->dz,codeIn->eB,methodObj->eN,cellsFrom_some->fF,instObj->fU,lookIn->gq,findIn->gr,kitx_tuple->hJ,callWith_K->hU,kitx_list->ir,kitx_dict->iu,plainGet->iD,codeHdIn->iH,TabsAt->jO,noTabs->jP,WalkO->jS
open PySem renaming Shared->af,wpAny_bind->ar,mem_of_lookup->aC,cellsFrom->aJ,Program->aK,sizeLine->aL,wpAny_pure->aS,Around->aU,mainGlobals->aW,Arguments->a8,bootBuiltins->be,starEach->bj,FuncData->bz,NameKind->bG,wpAny_truthy_bool->bQ,binaryOp->bV,wpAny_Call_Name_kw->bZ,wpAny_newObj_type->cb,wpAny_mono->cf,assignEach->cq,wpAny_passesOwn->cx,rawInt->cA,codeAmong->cB,pushCells_keeps->cH,compareOp->cJ,behindInMarks->cK,wpAny_pyIter_list->cN,foldedSetIterable->cO,sysModules->cR,argBest->cW,isTrue->dg,tupleKind_room_in1->di,backTo->dq,wpAny_seqItems->du,wpAny_tryCatch->dv,pushCells->dG,wpAny_holding->dI,relabel->dJ,sizeLine_eq->dN,bindArgs->dP,letOwnedTupleGo->dW,codeAny_mono->d5,storeName->d9,swapsWith->ee,newFunctionEnv->eC,wpAny_binaryOp_repeat_ref->eJ,codeAny->eP,InCallC->eQ,Paired->eZ,attributeBase->fc,wpAny_comprehension_free->fe,plainId_quiet->fg,noFill_tuple_add->fm,wpAny_callSpecial?_slot->fu,wpAny_call_entry->fv,builtinsNs->fC,assign->fD,name_of_addr->fG,typeIs_int->fJ,call_meets->fL,codeAny_compStart_list->fN,wpAny_execs_nil->fW,codeAny_builtin->fY,wpAny_updateSeq->fZ,wpAny_storeName_local->ga,wpAny_isTrue_Compare1->gb,codeAny_call_function->gf,wpAny_storeName_cell->gk,wpAny_loadName_local->gm,wpAny_letGo->gz,wpAny_field->gA,strIterType->gB,tupleKind->gF,callerA->gG,seqItems?->gH,TriplesOk->gI,valueAt->gJ,wpAny_loadName_cell->gK,wpAny_standAt->gT,swappedStores->gU,seq_tuple_add->gX,annotationsOf->gY,wpAny_pyIter_tuple->g9,holding->io,wpAny_assign_Name->iq,concat_meets->iw,seqIndex_neg->iy,notedBy->iz,pyNext->iC,seqSlot_of->iI,seqIndex_of->iL,BindsTo->iV,Keyword->iW,call->iY,wpAny_Name->iZ,Operator->i0,wpAny_call->i3,PlainAttrs->i4,wpAny_rule->i6,defaultsOf->i8,qualnameIn->i9,Within->j2,pyIter->j3
open Nat renaming le_refl->ah,lt_of_lt_of_le->am,le_trans->aw,ne_of_lt->ay,lt_irrefl->bo,zero_add->bA,add_sub_cancel_left->bF,zero_le->cS,le_succ->cT,le_of_lt->cU,ne_of_gt->cV,lt_trans->dw,lt_succ_self->dH,pow_le_pow_right->dU,not_lt_zero->dZ,le_of_succ_le->eT,lt_succ_of_lt->eU,lt_trichotomy->eW,add_comm->fM,lt_or_ge->fO,sub_self->fR,mod_lt->fT,strongRecOn->f8,mul_add->gC,le_of_not_lt->iE,mul_assoc->jX,succ_mul->j4,mul_comm->j5,mul_succ->j6,add_zero->kb
open PySem.Heap renaming get?_push_of_some->ai,lt_size->aE,get?_push_size->aN,get?_update_other->bH,size_push->bR,get?_update_self->cL,SameBut->dm,ExtBut->iM
open Option.some renaming inj->ao
open Bool renaming and_eq_true->aq,false_eq_true->aH,false_ne_true->aP,or_eq_true->bD,not_true->c9,eq_iff_iff->db,and_true->dL,true_and->dM,or_eq_false_iff->dR,not_eq_true'->eX,and_eq_true_iff->gi,not_false->gE,false_or->jU
open Option renaming map_some->aB,map_eq_some_iff->cE,isSome_some->eD,isSome_map->eV,isSome_iff_exists->e9,bind_some->fB,isSome_none->hZ
open False renaming elim->bw
open PySem.Builtin.SmallTypes renaming nextOf->bI
open Ne renaming symm->bM
open Int renaming le_refl->bO,le_trans->bS,toNat_natCast->dA,mul_le_mul_of_nonneg_left->dS,fdiv_eq_ediv_of_nonneg->eA,zero_add->fS,toNat_of_nonneg->gQ,emod_lt_of_pos->ij,lt_of_le_of_lt->ik,natCast_mul->iP,le_antisymm->iQ,emod_nonneg->iU,sub_zero->j9,le_total->ka
open PySem.F renaming plain_min_loop->cj,slot_tuple_iterator_next->cu,args_tuple_add_2->c7,slot_int_rmul->dh,entry_tuple_add->dj,slot_tuple_add->dr,slot_tuple_mul->dB,args_tuple_iterator_next_1->dX,entry_tuple_iterator_next->d7,entry_min_loop->fq,slot_tuple_rmul->fw,slot_list_index->fy,plainAttrs_list->fA,slot_list_append->gh,args_int_rmul_2->gx,slot_int_index->gN,entry_int_rmul->gO,fills_int_mul->hV
open PySem.Str renaming ofString->cX
open Array renaming toList_append->cZ,length_toList->gM,append_assoc->g8,toList->ip
open PySem.Builtin.List renaming listTooLong->c8
open PyProof.Rows renaming kindOf->dD,callWith_type1->d4,AllBare->eO,envOfC->e8,subscriptTail_builtinR->fH,Constant_none->gS,IntsAre->iX
open PySem.Around renaming under_plainId->dQ,frames_deeper->gv
open PySem.Builtin.Builtins renaming bindParams->d6
open PySem.Calls renaming Name_function_global->ef,callWith_builtin->fK
open PySem.Builtin.Tuple renaming tupleTooMany->eF,tupleItemsOf->jL,tupleIsExact->jM
open PySem.SeqAt renaming EqAt->eG,RcNeAt->j7,RcAt->km
open PySem.W.OpenLaw renaming wellSaid->eY
open Classical renaming propDecidable->fx
open PySem.Obj renaming mapSeq->fI,data_mapFields->ic
open PySem.SeqAt.EqAt renaming same->f7,int_str->g6,str_int->g7,of_refs->ig
open List.cons renaming injEq->f9
open PySem.Heap.SameBut renaming update->gP
open PySem.Paired renaming length->gR,snoc->ki
open Function renaming comp->gZ
open PySem.PassesOwn renaming never->iR
open PySem.Walks renaming list->i7
open PySem.Builtin.Str renaming tooLong->jR
open PySem.Value renaming isStrOf->jT,isInt->ke
open PySem.CmpOf renaming ints_lt->jV
open PySem.Builtin.Range renaming rangeSize->jY
open PyProof.Rows.IsTup renaming new->jZ
open PySem.StrLaws renaming found_one->j0
open PySem.W.OpenRow renaming toRowW->j1
open PySem.Heap.Ns renaming new->kh
open List.Pairwise renaming filter->kj
noncomputable section
namespace L2
open PySem PySem.Spec PyProof.Rows
theorem head_of {l:cF}{q:aK}{loose:List Str}{H:PySem.W.Hook}{N:Nat}{d:DefRec}{h:List (Str×Expr)}
  (left:PySem.W.LeftO l.row.prog q loose (λ s=>PySem.W.xlAt q [] s&&PySem.W.recOk (PySem.W.RowW.records (j1 l.row)) s) H.obs H.val N)
  (y:PySem.W.defOf q l.row.name=some (d,h)) (G:l.row.prog.theDef l.row.name=some (d.params,d.body,d.scope)) (hk:PySem.W.kwWritten? d.params.kwonlyargs d.params.kw_defaults=some h) (B:(!l.row.writes||l.row.records.isEmpty)=true)
  (C:l.row.wellSaid=true) (ok:(PySem.W.chainsOk q&&PySem.W.opensWell l.row.prog&&(PySem.W.frees l.row.toRowW&&l.row.within.isEmpty))=true) (hb:l.row.prog.bare) (hw:l.row.toRowW.promised)
  (call:jS q loose (PySem.W.XL q []) H.says l.row.toRowW d h λ f vs=>iY f vs):l.row.Holds :=
 PySem.W.holds_open left H.of H.keeps (λ s e=>PySem.W.xl_of s (gi.mp e).1) PySem.W.XL.keeps y G hk (λ s e=>PySem.W.recFacts_of (gi.mp e).2) B C ok hb hw call
end L2
end
noncomputable section
namespace My
open PySem L2
noncomputable def nmS:Stmt->Bool
 | .Assign [.Name x _] _ _=>decide (x=("__name__":Str))
 | _=>false
noncomputable def vq:aK:={ PySem.Challenge.pw_leasttolls_k41_signs_of_long_words with main:={ (PySem.Challenge.pw_leasttolls_k41_signs_of_long_words).main with body:=(PySem.Challenge.pw_leasttolls_k41_signs_of_long_words).main.body.filter λ s=>!nmS s } }
inductive IsL:cF->Prop|mk:IsL PySem.Challenge.rw_leasttolls_k41_signs_of_long_words
theorem bT9 {l:cF}(h:IsL l):PySem.Challenge.rw_leasttolls_k41_signs_of_long_words=l:=by cases h;rfl
noncomputable def lwp:{ l:cF // IsL l }:=by
 refine⟨?p,?h⟩
 case h =>
  have e:PySem.Challenge.rw_leasttolls_k41_signs_of_long_words=?p:=by
   conv=>lhs;reduce
  exact e▸IsL.mk
theorem ws1:eY lwp.1=true:=by k_qdec
theorem ws:eY PySem.Challenge.rw_leasttolls_k41_signs_of_long_words=true:=by
 rw[bT9 lwp.2];exact ws1
end My
end
section
open PySem PySem.W PyProof.Rows
local macro_rules | `(tactic| o_head $H) => `(tactic| refine L2.head_of (q := My.vq) (loose := []) (H := $H) (N := 4000) (λ w => by kernel_rfl) (by rfl) (by rfl) (by rfl) rfl (by assumption) (by decide +kernel) ⟨rfl, rfl, rfl, rfl, rfl, by decide +kernel⟩ ?_ ?_)
set_option maxRecDepth 100000 in
set_option maxHeartbeats 0 in
noncomputable def My.GT:{ G:Prop // G->PySem.Challenge.rw_leasttolls_k41_signs_of_long_words.Holds }:=by
 refine⟨?G,?h⟩
 case h =>
  intro g
  w_on;refine holds_law My.ws λ said=>?_;k_head;(focus w_witness2)
  exact g
end
noncomputable section
namespace L2
open PySem PySem.Spec PyProof.Rows
noncomputable abbrev Key:=Sum Int Str
noncomputable def aS8:Key->Value->Bool
 | .inl k,v=>ke k v
 | .inr x,v=>jT x v
noncomputable def cm8 (w:World):Key->Int
 | .inl k=>hashInt k
 | .inr x=>hashStr w x
theorem zV:∀ {k:Key} {v:Value},aS8 k v=true->(∃ i t,k=Sum.inl i/\v=Value.int i t)\/(∃ x t,k=Sum.inr x/\v=Value.str x t)
 | .inl i,v,h=>by
  obtain⟨t,e⟩:=Value.isInt_shape (k:=i) (v:=v) h
  exact .inl ⟨i,t,rfl,e⟩
 | .inr x,v,h=>by
  obtain⟨t,e⟩:=Value.isStrOf_shape (x:=x) (v:=v) h
  exact .inr ⟨x,t,rfl,e⟩
theorem aW4 (i:Int)(t:Tok):aS8 (.inl i) (.int i t)=true:=by simp[aS8,ke]
theorem bf6 (x:Str)(t:Tok):aS8 (.inr x) (.str x t)=true:=by simp[aS8,jT]
theorem bR6 (a b:Int):decide ((Sum.inl a:Key)=Sum.inl b)=(a==b):=by
 by_cases e:a=b
 ·subst e;simp
 ·have h:¬(Sum.inl a:Key)=Sum.inl b:=λ q=>e (Sum.inl.inj q)
  rw[decide_eq_false h]
  exact(beq_eq_false_iff_ne.mpr e).symm
theorem bQ0 (a b:Str):decide ((Sum.inr a:Key)=Sum.inr b)=decide (a=b):=by
 by_cases e:a=b
 ·subst e;simp
 ·have h:¬(Sum.inr a:Key)=Sum.inr b:=λ q=>e (Sum.inr.inj q)
  rw[decide_eq_false h,decide_eq_false e]
theorem bS0 (a:Int)(b:Str):decide ((Sum.inl a:Key)=Sum.inr b)=false:=decide_eq_false (λ q=>nomatch q)
theorem bR7 (a:Str)(b:Int):decide ((Sum.inr a:Key)=Sum.inl b)=false:=decide_eq_false (λ q=>nomatch q)
noncomputable def qb (prog:aK)(w:World):PySem.KeyKind prog w Key where
 is:=aS8
 hash:=cm8 w
 inj:=λ v a b ha hb=>by
  rcases zV ha with⟨i,t,rfl,rfl⟩|⟨x,t,rfl,rfl⟩
  ·rcases zV hb with⟨j,u,rfl,e⟩|⟨y,u,rfl,e⟩
   ·injection e with e1 _;rw[e1]
   ·exact nomatch e
  ·rcases zV hb with⟨j,u,rfl,e⟩|⟨y,u,rfl,e⟩
   ·exact nomatch e
   ·injection e with e1 _;rw[e1]
 byValue:=λ k v h=>by
  rcases zV h with⟨i,t,rfl,rfl⟩|⟨x,t,rfl,rfl⟩<;>rfl
 pyHash:=λ hv h=>by
  rcases zV hv with⟨i,t,rfl,rfl⟩|⟨x,t,rfl,rfl⟩
  ·exact wpAny_pyHash_int h
  ·exact wpAny_pyHash_str h
 eqBool:=λ hu hv h=>by
  rcases zV hu with⟨i,t,rfl,rfl⟩|⟨x,t,rfl,rfl⟩
  ·rcases zV hv with⟨j,u,rfl,rfl⟩|⟨y,u,rfl,rfl⟩
   ·rw[bR6]at h;exact wpAny_eqBool_int h
   ·rw[bS0]at h;exact g6 i t y u _ _ _ _ h
  ·rcases zV hv with⟨j,u,rfl,rfl⟩|⟨y,u,rfl,rfl⟩
   ·rw[bR7]at h;exact g7 x t j u _ _ _ _ h
   ·rw[bQ0]at h;exact wpAny_eqBool_str h
 «strs»:=λ k x t v h=>by
  rcases zV h with⟨i,u,rfl,e⟩|⟨y,u,rfl,e⟩
  ·exact nomatch e
  ·injection e with e1 _
   subst e1
   cases v<;>rfl
theorem aK7 (prog:aK)(w:World)(i:Int)(t:Tok):(qb prog w).is (.inl i) (.int i t)=true:=aW4 i t
theorem aI3 (prog:aK)(w:World)(x:Str)(t:Tok):(qb prog w).is (.inr x) (.str x t)=true:=bf6 x t
inductive V where
 | non|bl (b:Bool)|int (i:Int)|str (x:Str)|byt (b:Array UInt8)|flt (b:UInt64)|ref (a:Addr)|ty (n:String)
 deriving DecidableEq
noncomputable def RelV:V->Value->Prop
 | .non,u=>u=Value.none
 | .bl b,u=>u=Value.bool b
 | .int i,u=>∃ t,u=Value.int i t
 | .str x,u=>∃ t,u=Value.str x t
 | .byt b,u=>∃ t,u=Value.bytes b t
 | .flt b,u=>∃ t,u=Value.float b t
 | .ref a,u=>u=Value.ref a
 | .ty n,u=>u=Value.type n
abbrev Vals:List V->List Value->Prop:=eZ RelV
theorem Vals.length {h:List V}{us:List Value}(r:Vals h us):h.length=us.length:=gR r
theorem Vals.get:∀ {h:List V} {us:List Value} {i:Nat} {x:V},Vals h us->h[i]?=some x->∃ u,us[i]?=some u/\RelV x u
 | _,_,_,_,.nil,e=>by simp at e
 | _,_,0,_,.cons r _,e=>by simp at e;subst e;exact⟨_,rfl,r⟩
 | _,_,i+1,x,.cons _ t,e=>by
  obtain⟨u,B,y⟩:=Vals.get (i:=i) (x:=x) t (by simpa using e)
  exact⟨u,by simpa using B,y⟩
theorem Vals.set {x:V}{u:Value}(r:RelV x u):∀ {h:List V} {us:List Value} (i:Nat),Vals h us->Vals (h.set i x) (us.set i u)
 | _,_,_,.nil=>.nil
 | _,_,0,.cons _ t=>.cons r t
 | _,_,i+1,.cons q t=>.cons q (Vals.set r i t)
theorem Vals.append:∀ {h ys:List V} {us ws:List Value},Vals h us->Vals ys ws->Vals (h++ys) (us++ws)
 | _,_,_,_,.nil,s=>s
 | _,_,_,_,.cons r t,s=>.cons r (Vals.append t s)
theorem Vals.take:∀ {h:List V} {us:List Value} (n:Nat),Vals h us->Vals (h.take n) (us.take n)
 | _,_,0,_=>.nil
 | _,_,_+1,.nil=>.nil
 | _,_,n+1,.cons r t=>.cons r (Vals.take n t)
theorem Vals.drop:∀ {h:List V} {us:List Value} (n:Nat),Vals h us->Vals (h.drop n) (us.drop n)
 | _,_,0,r=>r
 | _,_,_+1,.nil=>.nil
 | _,_,n+1,.cons _ t=>Vals.drop n t
noncomputable def ba2:Option V->Option Value->Prop
 | some v,some u=>RelV v u
 | none,none=>True
 | _,_=>False
def KV {κ:Type}:List (κ×V)->List (κ×Value)->Prop:=eZ λ(p:κ×V) (q:κ×Value)=>p.1=q.1/\RelV p.2 q.2
noncomputable def kV:Key->V
 | .inl i=>.int i
 | .inr x=>.str x
inductive HO where
 | lst (xs:List V)
 | tup (xs:List V)
 | dK (kvs:List (Key×V))|dT (kvs:List (List Key×V))
 | set (S:Int->Bool) (n:Nat)
 | ins (C dx:Addr) (fs:List (Str×V))
 | own (x:Addr)
 | xd (fs:List (Str×V))
 | met (f x:Addr)
 | rng (lo hi:Int)
 | frz (o:Obj) (u:HO)
 | tbl (ps:Array Value)
 | ext (φ:Heap->Prop)
noncomputable abbrev Hp:=Addr->Option HO
noncomputable def upd (H:Hp)(a:Addr)(o:HO):Hp:=λ b=>if b=a then some o else H b
theorem zt {H:Hp}{a:Addr}{o:HO}:upd H a o a=some o:=by unfold upd;rw[if_pos rfl]
theorem zm {H:Hp}{a b:Addr}{o:HO}(h:b≠a):upd H a o b=H b:=by unfold upd;rw[if_neg h]
theorem cc4 {H:Hp}{a b:Addr}{o u:HO}(h:H a=some o)(h':H b=some u)(d:o≠u):a≠b:=by
 intro e;subst e;rw[h]at h';exact d (ao h')
theorem zK {H:Hp}{a b:Addr}{o:HO}(h:H a=some o)(h':H b=none):a≠b:=by
 intro e;subst e;rw[h]at h';cases h'
section
variable (P:aK) (w:World)
noncomputable def ae5 (H:Hp)(h:Heap)(a:Addr):HO->Prop
 | .lst xs=>xs.length<=aL/\∃(its:List Value) (n:Nat),Vals xs its/\h.get? a=some { cls:=.type "list",data:=.seq its.toArray n }
 | .tup xs=>xs.length<=aL/\∃ its:List Value,Vals xs its/\IsTup h a its.toArray
 | .dK kvs=>kvs.length<=aL/\(a==cR)=false/\∃ vs,KV kvs vs/\h.DictOf (qb P w) a vs
 | .dT kvs=>kvs.length<=aL/\(a==cR)=false/\∃ xs:List (List Key×Addr×Value),
   eZ (λ(p:List Key×V) (q:List Key×Addr×Value)=>p.1=q.1/\H q.2.1=some (.tup (p.1.map kV))/\RelV p.2 q.2.2) kvs xs /\
   ∃ o es ep,h.get? a=some o/\o.ExactDict/\o.data=.dict es ep/\es.toList=xs.map (entryOfKey (gF (qb P w)))/\(xs.map (·.1)).Nodup
 | .set S n=>h.SetOf (intKind P w) a S n
 | .ins C dx fs=>H dx=some (.own a)/\fs.length<=1000/\dx≠a/\h.get? a=some (fU C dx) /\
   ∃ mA,h.Ns1 dx mA/\(∀ f,ba2 (fs.lookup f) (mA f))/\j2 mA (fs.map (·.1))
 | .own _=>∃ o,h.get? a=some o
 | .xd fs=>∃ mA,h.Ns1 a mA/\∀ f,ba2 (fs.lookup f) (mA f)
 | .rng lo hi=>∃ t u v,h.get? a=some { cls:=.type "range",data:=.fields #[.int lo t,.int hi u,.int 1 v] }
 | .frz o u=>h.get? a=some o/\ae5 H h a u
 | .tbl ps=>h.get? a=some { cls:=.none,data:=.fields ps }
 | .met f x=>h.get? a=some (eN (.ref f) (.ref x))
 | .ext φ=>φ h/\(∃ o,h.get? a=some o)/\∀ h1 h2:Heap,φ h1->(∀ o,h1.get? a=some o->h2.get? a=some o)->φ h2
def HOk (H:Hp)(h:Heap):Prop:=∀ a o,H a=some o->ae5 P w H h a o
end
section
variable {P:aK} {w:World} {H H':Hp} {h h':Heap} {a:Addr} {o:HO}
theorem ae5.lt (x:ae5 P w H h a o):a<h.objs.size:=by
 cases o with
 | lst xs=>obtain⟨_,_,_,_,e⟩:=x;exact aE e
 | tup xs=>obtain⟨_,_,_,p⟩:=x;exact p.lt
 | dK kvs=>obtain⟨_,_,_,_,o,_,_,e,_⟩:=x;exact aE e
 | dT kvs=>obtain⟨_,_,_,_,o,_,_,e,_⟩:=x;exact aE e
 | set S n=>obtain⟨o,_,_,_,e,_⟩:=x;exact aE e
 | ins C dx fs=>obtain⟨_,_,_,e,_⟩:=x;exact aE e
 | own y=>obtain⟨_,e⟩:=x;exact aE e
 | xd fs=>obtain⟨_,⟨_,_,_,e,_⟩,_⟩:=x;exact aE e
 | rng lo hi=>obtain⟨_,_,_,e⟩:=x;exact aE e
 | frz ob u=>obtain⟨e,_⟩:=x;exact aE e
 | tbl ps=>exact aE (show h.get? a=some _ from x)
 | met f y=>exact aE (show h.get? a=some _ from x)
 | ext φ=>obtain⟨_,⟨_,e⟩,_⟩:=x;exact aE e
theorem eZ.mapP {α β:Type}{F G:α->β->Prop}:∀ {y:List α} {h:List β},eZ F y h->(∀ a b,F a b->G a b)->eZ G y h
 | _,_,.nil,_=>.nil
 | _,_,.cons r t,f=>.cons (f _ _ r) (eZ.mapP t f)
theorem ae5.stay (x:ae5 P w H h a o)(k:∀ b u,(b=a\/H b=some (.own a))->h.get? b=some u->h'.get? b=some u)
  (ho:∀ b,H b=some (.own a)->H' b=some (.own a)) (ht:∀ b G,H b=some (.tup G)->H' b=some (.tup G)):ae5 P w H' h' a o:=by
 induction o with
 | lst G=>obtain⟨z,its,n,r,e⟩:=x;exact⟨z,its,n,r,k _ _ (.inl rfl) e⟩
 | tup G=>obtain⟨z,its,r,ob,e,c⟩:=x;exact⟨z,its,r,ob,k _ _ (.inl rfl) e,c⟩
 | dK kvs=>obtain⟨z,y,vs,r,ob,es,B,e,c⟩:=x;exact⟨z,y,vs,r,ob,es,B,k _ _ (.inl rfl) e,c⟩
 | dT kvs =>
  obtain⟨z,y,G,r,ob,es,B,e,c⟩:=x
  exact⟨z,y,G,eZ.mapP r λ p q z=>⟨z.1,ht _ _ z.2.1,z.2.2⟩,ob,es,B,k _ _ (.inl rfl) e,c⟩
 | set S n=>obtain⟨ob,es,B,t,e,c⟩:=x;exact⟨ob,es,B,t,k _ _ (.inl rfl) e,c⟩
 | ins C dx fs =>
  obtain⟨d,z,ne,e,J,⟨od,es,B,e2,c⟩,r⟩:=x
  exact⟨ho _ d,z,ne,k _ _ (.inl rfl) e,J,⟨od,es,B,k _ _ (.inr d) e2,c⟩,r⟩
 | own y=>obtain⟨ob,e⟩:=x;exact⟨ob,k _ _ (.inl rfl) e⟩
 | xd fs=>obtain⟨J,⟨od,es,B,e,c⟩,r⟩:=x;exact⟨J,⟨od,es,B,k _ _ (.inl rfl) e,c⟩,r⟩
 | rng lo hi=>obtain⟨t,u,v,e⟩:=x;exact⟨t,u,v,k _ _ (.inl rfl) e⟩
 | frz ob u ih=>obtain⟨e,q⟩:=x;exact⟨k _ _ (.inl rfl) e,ih q⟩
 | tbl ps =>
  have e:h.get? a=some { cls:=.none,data:=.fields ps }:=x
  show h'.get? a=some { cls:=.none,data:=.fields ps }
  exact k a _ (.inl rfl) e
 | met f y =>
  have e:h.get? a=some (eN (.ref f) (.ref y)):=x
  show h'.get? a=some (eN (.ref f) (.ref y))
  exact k a _ (.inl rfl) e
 | ext φ=>obtain⟨p,⟨o,e⟩,st⟩:=x;exact⟨st _ _ p λ o q=>k _ _ (.inl rfl) q,⟨o,k _ _ (.inl rfl) e⟩,st⟩
theorem HOk.lt (x:HOk P w H h)(e:H a=some o):a<h.objs.size:=(x a o e).lt
theorem HOk.fresh (x:HOk P w H h)(e:h.objs.size<=a):H a=none:=by
 cases q:H a with
 | none=>rfl
 | some u=>exact absurd (am (x.lt q) e) (bo _)
theorem HOk.kept (x:HOk P w H h)(k:∀ b u,h.get? b=some u->h'.get? b=some u):HOk P w H h':=λ a o e =>
 (x a o e).stay (λ b u _ q=>k b u q) (λ _ q=>q) λ _ _ q=>q
theorem HOk.laid (x:HOk P w H h)(k:∀ b u,h.get? b=some u->h'.get? b=some u)(y:h.objs.size<=a)(new:ae5 P w (upd H a o) h' a o):HOk P w (upd H a o) h':=λ b u e=>by
 have hn:=x.fresh y
 by_cases hb:b=a
 ·subst hb;rw[zt]at e;cases e;exact new
 ·rw[zm hb]at e
  exact(x b u e).stay (λ c v _ q=>k c v q) (λ c q=>by rw[zm (zK q hn)];exact q) λ c B q=>by rw[zm (zK q hn)];exact q
end
def Rd (H:Hp)(a:Addr)(u:HO):Prop:=H a=some u\/∃ o,H a=some (.frz o u)
theorem Rd.ok {P:aK}{w:World}{H:Hp}{h:Heap}{a:Addr}{u:HO}(r:Rd H a u)(x:HOk P w H h):ae5 P w H h a u:=by
 rcases r with r|⟨o,r⟩
 ·exact x a u r
 ·obtain⟨_,q⟩:=x a _ r
  exact q
noncomputable def Mut:Option HO->Prop
 | some (.lst _)=>True
 | some (.dK _)=>True
 | some (.dT _)=>True
 | some (.set _ _)=>True
 | some (.ins _ _ _)=>True
 | some (.ext _)=>True
 | _=>False
section
variable {P:aK} {w:World} {H:Hp} {h h':Heap} {x e:Addr} {o':HO}
theorem HOk.write (ok:HOk P w H h)(mu:Mut (H x))(Y:e=x\/H e=some (.own x))(k:∀ b u,b≠e->h.get? b=some u->h'.get? b=some u)(J:∃ u,h'.get? e=some u)
  (new:ae5 P w (upd H x o') h' x o'):HOk P w (upd H x o') h':=λ b u q=>by
 have B:∀ c y,H c=some (.own y)->c≠x:=λ c y r z=>by subst z;rw[r]at mu;exact mu
 have C:∀ c G,H c=some (.tup G)->c≠x:=λ c G r z=>by subst z;rw[r]at mu;exact mu
 by_cases hb:b=x
 ·subst hb;rw[zt]at q;cases q;exact new
 ·rw[zm hb]at q
  by_cases hbe:b=e
  ·have Z:H b=some (.own x):=by
    rcases Y with z|z
    ·exact absurd (hbe.trans z) hb
    ·rw[hbe];exact z
   rw[q]at Z;cases Z
   obtain⟨v,hv⟩:=J
   exact⟨v,by rw[hbe];exact hv⟩
  ·refine(ok b u q).stay (λ c v hc r=>k c v ?_ r) (λ c r=>by rw[zm (B c b r)];exact r) λ c G r=>by rw[zm (C c G r)];exact r
   rcases hc with rfl|hc
   ·exact hbe
   ·rintro rfl
    rcases Y with z|z
    ·exact B c b hc z
    ·rw[hc]at z;cases z;exact hb rfl
end
structure Un (fs ex:List Addr)(H H':Hp)(h h':Heap):Prop where
 keep:∀ b o,h.get? b=some o->H b=none->b ∉ fs->b ∉ ex->h'.get? b=some o
 slot:∀ b o,h.get? b=some o->H b=none->b∈fs->b ∉ ex->∃ sl,h'.get? b=some { o with slots:=sl }
 free:∀ b o,h.get? b=some o->H b=none->b ∉ ex->H' b=none
 there:∀ b o,h.get? b=some o->b ∉ ex->∃ o',h'.get? b=some o'
 tups:∀ b xs,H b=some (.tup xs)->H' b=some (.tup xs)
 frzs:∀ b o u,H b=some (.frz o u)->H' b=some (.frz o u)
 tbls:∀ b ps,H b=some (.tbl ps)->∃ more,H' b=some (.tbl (ps++more))
section
variable {fs fs' ex ex':List Addr} {H H1 H2:Hp} {h h1 h2 h':Heap} {a x e:Addr} {o:HO}
theorem Un.any (u:Un fs ex H H1 h h1){b:Addr}{ob:Obj}(q:h.get? b=some ob)(n:H b=none)(hx:b ∉ ex):∃ sl,h1.get? b=some { ob with slots:=sl }:=by
 by_cases hb:b∈fs
 ·exact u.slot b ob q n hb hx
 ·exact⟨ob.slots,u.keep b ob q n hb hx⟩
theorem Un.kept (k:∀ b u,h.get? b=some u->h'.get? b=some u):Un fs ex H H h h' :=
 ⟨λ b ob q _ _ _=>k b ob q,λ b ob q _ _ _=>⟨ob.slots,k b ob q⟩,λ _ _ _ n _=>n,λ b ob q _=>⟨ob,k b ob q⟩,λ _ _ q=>q,λ _ _ _ q=>q,λ _ ps q=>⟨#[],by rw[q];simp⟩⟩
theorem Un.refl:Un fs ex H H h h:=Un.kept λ _ _ q=>q
theorem Un.laid (k:∀ b u,h.get? b=some u->h'.get? b=some u)(y:h.objs.size<=a)(hn:H a=none):Un fs ex H (upd H a o) h h' where
 keep:=λ b u q _ _ _=>k b u q
 slot:=λ b u q _ _ _=>⟨u.slots,k b u q⟩
 free:=λ b u q n _=>by rw[zm (ay (am (aE q) y))];exact n
 there:=λ b u q _=>⟨u,k b u q⟩
 tups:=λ b B q=>by rw[zm (zK q hn)];exact q
 frzs:=λ b u B q=>by rw[zm (zK q hn)];exact q
 tbls:=λ b ps q=>⟨#[],by rw[zm (zK q hn),q];simp⟩
theorem Un.write (mu:Mut (H x))(G:e=x\/H e=some (.own x))(k:∀ b u,b≠e->h.get? b=some u->h'.get? b=some u)(y:∃ u,h'.get? e=some u):Un fs ex H (upd H x o) h h':=by
 have hx:∀ b,H b=none->b≠x:=λ b n z=>by subst z;rw[n]at mu;exact mu
 have hb:∀ b,H b=none->b≠e:=λ b n z=>by
  subst z
  rcases G with r|r
  ·exact hx b n r
  ·rw[n]at r;cases r
 have B:∀ b u,H b=some u->¬ Mut (some u)->b≠x:=λ b u q C z=>by subst z;rw[q]at mu;exact C mu
 refine⟨λ b u q n _ _=>k b u (hb b n) q,λ b u q n _ _=>⟨u.slots,k b u (hb b n) q⟩,λ b u q n _=>by rw[zm (hx b n)];exact n,λ b u q _=>?_,
  λ b J q=>by rw[zm (B b _ q λ z=>z)];exact q,λ b u J q=>by rw[zm (B b _ q λ z=>z)];exact q,λ b ps q=>⟨#[],by rw[zm (B b _ q λ z=>z),q];simp⟩⟩
 by_cases hbe:b=e
 ·subst hbe;exact y
 ·exact⟨u,k b u hbe q⟩
end
noncomputable def trk (h:Heap)(H:Hp):List Addr:=(ae h.objs.size).filter λ a=>(H a).isSome
noncomputable def bi7 (h:Heap)(H:Hp):Heap:=PySem.W.hideAll h (trk h H)
theorem bf7 (h:Heap)(H:Hp):(bi7 h H).objs.size=h.objs.size:=PySem.W.hideAll_size _ _
theorem am4 {h:Heap}{H:Hp}{b:Addr}{o:Obj}(e:h.get? b=some o)(n:H b=none):(bi7 h H).get? b=some o :=
 PySem.W.hideAll_get _ e λ y=>by
  have q:(H b).isSome=true:=(fV.mp y).2
  rw[n]at q;simp at q
theorem bE1 {h:Heap}{H:Hp}{b:Addr}{o:Obj}(e:(bi7 h H).get? b=some o):h.get? b=some o/\H b=none:=by
 have e':h.get? b=some o:=PySem.W.of_hideAll (trk h H) e
 refine⟨e',?_⟩
 cases q:H b with
 | none=>rfl
 | some x =>
  have y:b∈trk h H:=fV.mpr ⟨aR.mpr (aE e'),by simp[q]⟩
  have z:(bi7 h H).get? b=none:=PySem.W.hideAll_none (trk h H) y
  rw[z]at e;cases e
noncomputable def bH4 (g h:Heap)(L:Addr):List (Addr×Obj):=(ae h.objs.size).filterMap λ a=>if a=L\/(g.get? a).isSome=true then none else(h.get? a).map λ o=>(a,o)
noncomputable def rest (g h:Heap)(L d:Addr):List (Addr×Obj):=(bH4 g h L).filter λ p=>decide (p.1≠d)
structure Mod (K:ac)(mg:Str->Option Value)(base:Heap):Prop where
 kin:K.In base
 glob:base.Ns aW mg
 blt:∃ mb,base.Ns fC mb/\∀ x:Str,x ≠ "__name__"->mb x=be x
 nolimit:base.NoLimit
structure Cx where
 prog:aK
 w:World
 K:ac
 mg:Str->Option Value
 base:Heap
 A:aU
 N:List Str
 s₀:af
 H₀:Hp
 env:Env
 outer:List Env
 stack:List Env
 ex:List Addr
 fn:Str->Bool
 calm:Bool
 pn:List (Addr×Obj)
 xe:Value->af->Prop
noncomputable def frs (l:List Env):List Addr:=l.filterMap (·.frame)
noncomputable abbrev Cx.fs (X:Cx):List Addr:=frs X.outer
def Vis (sc:Scope)(x:Str):Prop:=sc.names.lookup x=some .local\/sc.names.lookup x=some .cell\/sc.names.lookup x=some .free
def Loc (sc:Scope)(x:Str):Prop:=sc.names.lookup x=some .local\/sc.names.lookup x=some .cell
def Look (env:Env)(h:Heap)(m:Str->Option Value)(x:Str)(u:Value):Prop :=
 (env.kindOf x=some .local/\m x=some u)\/((env.kindOf x=some .cell\/env.kindOf x=some .free)/\∃ c,env.cells.lookup x=some c/\h.IsCell c (some u))
structure Cx.Ok (X:Cx):Prop where
 mod:Mod X.K X.mg X.base
 kind:X.env.scope.kind=.function
 glob:X.env.globals=aW
 blt:X.env.builtins=fC
 above:X.s₀.heap.objs.size<=X.env.locals
 inj:∀ x y c,X.env.cells.lookup x=some c->X.env.cells.lookup y=some c->x=y
 has:∀ x,(X.env.kindOf x=some .cell\/X.env.kindOf x=some .free)->∃ c,X.env.cells.lookup x=some c
 cab:∀ x c,X.fn x=true->X.env.cells.lookup x=some c->X.s₀.heap.objs.size<=c
 hd:X.calm=true->X.A.handled=none
 frames:X.A.frames=some X.stack
 stk:X.stack=X.outer\/(X.stack=X.env::X.outer/\X.env.frame=some X.env.locals)
 exf:∀ b∈X.ex,b≠X.env.locals/\∀ x c,X.env.cells.lookup x=some c->c≠b
 bs:∀ b o,X.base.get? b=some o->X.s₀.heap.get? b=some o/\X.H₀ b=none
 bsz:X.base.objs.size<=X.s₀.heap.objs.size
 noex:∀ b o,X.base.get? b=some o->b ∉ X.ex
 exfs:∀ b∈X.ex,b ∉ X.fs
 funs:X.s₀.heap.FunFrames X.base X.outer
 frf:∀ b∈X.fs,X.H₀ b=none
structure Inv (X:Cx)(pins:List (Addr×Obj))(σ:List (Option V))(H:Hp)(s:af):Prop where
 ok:X.Ok
 os:s.os=X.s₀.os
 bare:eO s.gens
 base:Un X.fs X.ex X.H₀ H X.s₀.heap s.heap
 loc:∃ m,s.heap.Ns X.env.locals m/\∀(i:Nat) (x:Str) (v:V),X.N[i]?=some x->σ[i]?=some (some v)->Vis X.env.scope x->∃ u,RelV v u/\Look X.env s.heap m x u
 cell:∀ x c,X.env.cells.lookup x=some c->∃ v,s.heap.IsCell c v
 free:H X.env.locals=none
 freeC:∀ x c,X.env.cells.lookup x=some c->H c=none
 pin:∀ p∈X.pn++pins,s.heap.get? p.1=some p.2/\H p.1=none/\p.1≠X.env.locals/\p.1 ∉ X.fs/\∀ v,p.2.data≠.cell v
 hok:HOk X.prog X.w H s.heap
 len:σ.length=X.N.length
section
variable {X:Cx} {pins:List (Addr×Obj)} {σ:List (Option V)} {H H':Hp} {s:af} {h':Heap}
theorem Cx.Ok.nofr (ok:X.Ok){b:Addr}{o:Obj}(e:X.base.get? b=some o):b ∉ X.fs:=λ hb=>by
 have:=(ok.funs.mem hb).1
 rw[e]at this;cases this
theorem Inv.bs (I:Inv X pins σ H s):∀ b o,X.base.get? b=some o->s.heap.get? b=some o/\H b=none:=λ b o e =>
 ⟨I.base.keep b o (I.ok.bs b o e).1 (I.ok.bs b o e).2 (I.ok.nofr e) (I.ok.noex b o e),I.base.free b o (I.ok.bs b o e).1 (I.ok.bs b o e).2 (I.ok.noex b o e)⟩
theorem Inv.bk (I:Inv X pins σ H s):∀ b o,X.base.get? b=some o->s.heap.get? b=some o:=λ b o e=>(I.bs b o e).1
theorem Inv.mod (I:Inv X pins σ H s):Mod X.K X.mg X.base:=I.ok.mod
theorem Inv.kIn (I:Inv X pins σ H s):X.K.In s.heap:=I.ok.mod.kin.keeps I.bk
theorem Inv.lt (I:Inv X pins σ H s):X.env.locals<s.heap.objs.size:=let⟨_,hn,_⟩:=I.loc;hn.lt
theorem Inv.sz (I:Inv X pins σ H s):X.s₀.heap.objs.size<=s.heap.objs.size:=aw I.ok.above (cU I.lt)
theorem Inv.nofs (I:Inv X pins σ H s){a:Addr}(h:s.heap.objs.size<=a):a ∉ X.fs:=λ hb=>by
 obtain⟨_,o,ho,_⟩:=I.ok.funs.mem hb
 exact absurd (am (aE ho) (aw I.sz h)) (bo _)
theorem Inv.cne (I:Inv X pins σ H s):∀ x c,X.env.cells.lookup x=some c->c≠X.env.locals:=λ x c e z=>by
 obtain⟨v,o,ho,hd⟩:=I.cell x c e
 obtain⟨m,⟨B,es,C,y,h,_⟩,_⟩:=I.loc
 rw[z,y]at ho;cases ho;rw[h]at hd;cases hd
theorem Inv.funs (I:Inv X pins σ H s):s.heap.FunFrames X.base X.outer:=by
 have all:∀(l:List Env),(∀ b∈frs l,b∈X.fs)->X.s₀.heap.FunFrames X.base l->s.heap.FunFrames X.base l:=by
  intro l
  induction l with
  | nil=>intro _ _;trivial
  | cons env r ih =>
   intro hs hl
   obtain⟨hk,⟨L,o,h,hn,ho,hd⟩,B⟩:=hl
   have y:L∈X.fs:=hs L (by unfold frs;rw[br,h];exact aD)
   obtain⟨sl,e⟩:=I.base.slot L o ho (I.ok.frf L y) y λ z=>I.ok.exfs L z y
   exact⟨hk,⟨L,_,h,hn,e,hd⟩,ih (λ b hb=>hs b (by unfold frs;rw[br,h];exact au _ hb)) B⟩
 exact all X.outer (λ _ hb=>hb) I.ok.funs
theorem Inv.stack (I:Inv X pins σ H s):s.heap.FunFrames X.base X.stack:=by
 rcases I.ok.stk with e|⟨e,h⟩
 ·rw[e];exact I.funs
 ·rw[e]
  obtain⟨m,hn,_⟩:=I.loc
  refine .cons (by rw[I.ok.kind];decide) h hn ?_ I.funs
  exact Heap.get?_none_of_le (aw I.ok.bsz I.ok.above)
theorem Inv.stkSub (I:Inv X pins σ H s):∀ b∈frs X.stack,b∈X.env.locals::X.fs:=λ b hb=>by
 rcases I.ok.stk with e|⟨e,h⟩
 ·rw[e]at hb;exact au _ hb
 ·rw[e]at hb
  unfold frs at hb
  rw[br,h]at hb
  exact hb
theorem Inv.stkFree (I:Inv X pins σ H s):∀ b∈frs X.stack,H b=none:=λ b hb=>by
 rcases az.mp (I.stkSub b hb)with e|hb
 ·rw[e];exact I.free
 ·obtain⟨_,o,ho,_⟩:=I.ok.funs.mem hb
  exact I.base.free b o ho (I.ok.frf b hb) λ z=>I.ok.exfs b z hb
theorem Inv.step {g':Array GenState}{t':Nat}{d':Drawn}{ch:List Addr}(I:Inv X pins σ H s)
  (y:∀ b∈ch,(b∈X.ex\/X.s₀.heap.objs.size<=b)/\b≠X.env.locals/\(∀ x c,X.env.cells.lookup x=some c->c≠b)/\∀ p∈X.pn++pins,p.1≠b)
  (keep:∀ b o,b≠X.env.locals->b ∉ X.fs->b ∉ ch->s.heap.get? b=some o->H b=none->h'.get? b=some o)
  (slot:∀ b o,b≠X.env.locals->b∈X.fs->b ∉ ch->s.heap.get? b=some o->H b=none->∃ sl,h'.get? b=some { o with slots:=sl }) (free:∀ b o,b ∉ ch->s.heap.get? b=some o->H b=none->H' b=none)
  (there:∀ b o,b ∉ ch->s.heap.get? b=some o->∃ Y,h'.get? b=some Y)
  (tups:∀ b G,H b=some (.tup G)->H' b=some (.tup G)) (frzs:∀ b o u,H b=some (.frz o u)->H' b=some (.frz o u)) (tbls:∀ b ps,H b=some (.tbl ps)->∃ Z,H' b=some (.tbl (ps++Z)))
  (ns:∀ m,s.heap.Ns X.env.locals m->h'.Ns X.env.locals m) (hok:HOk X.prog X.w H' h') (hg:eO g') :
  Inv X pins σ H' { s with heap:=h',gens:=g',drawn:=d',toks:=t' }:=by
 have J:∀ b o,X.s₀.heap.get? b=some o->b≠X.env.locals:=λ b o e=>ay (am (aE e) I.ok.above)
 have C:∀ b o,X.s₀.heap.get? b=some o->b ∉ X.ex->b ∉ ch:=λ b o e hx hb=>by
  rcases(y b hb).1 with z|z
  ·exact hx z
  ·exact absurd (am (aE e) z) (bo _)
 have h:∀ x c,X.env.cells.lookup x=some c->∀ v,s.heap.IsCell c v->h'.IsCell c v:=λ x c e v ⟨o,ho,hd⟩=>by
  have B:c ∉ ch:=λ z=>(y c z).2.2.1 x c e rfl
  by_cases hc:c∈X.fs
  ·obtain⟨sl,q⟩:=slot c o (I.cne x c e) hc B ho (I.freeC x c e)
   exact⟨_,q,hd⟩
  ·exact⟨o,keep c o (I.cne x c e) hc B ho (I.freeC x c e),hd⟩
 refine⟨I.ok,I.os,hg,⟨λ b o e n hb hx=>?_,λ b o e n hb hx=>?_,λ b o e n hx=>?_,λ b o e hx=>?_,λ b G e=>tups b G (I.base.tups b G e),λ b o G e=>frzs b o G (I.base.frzs b o G e),λ b ps e=>?_⟩,?_,λ x c e=>?_,?_,λ x c e=>?_,λ p hp=>?_,hok,I.len⟩
 ·exact keep b o (J b o e) hb (C b o e hx) (I.base.keep b o e n hb hx) (I.base.free b o e n hx)
 ·obtain⟨sl,e1⟩:=I.base.slot b o e n hb hx
  obtain⟨a0,e2⟩:=slot b _ (J b o e) hb (C b o e hx) e1 (I.base.free b o e n hx)
  exact⟨a0,e2⟩
 ·obtain⟨Y,e1⟩:=I.base.there b o e hx
  exact free b Y (C b o e hx) e1 (I.base.free b o e n hx)
 ·obtain⟨Y,e1⟩:=I.base.there b o e hx
  exact there b Y (C b o e hx) e1
 ·obtain⟨m1,e1⟩:=I.base.tbls b ps e
  obtain⟨m2,e2⟩:=tbls b _ e1
  exact⟨m1++m2,by rw[e2,g8]⟩
 ·obtain⟨m,hn,hl⟩:=I.loc
  refine⟨m,ns m hn,λ i x v e1 e2 e3=>?_⟩
  obtain⟨u,r,l⟩:=hl i x v e1 e2 e3
  refine⟨u,r,?_⟩
  rcases l with l|⟨k,c,e,z⟩
  ·exact .inl l
  ·exact .inr ⟨k,c,e,h x c e _ z⟩
 ·obtain⟨v,z⟩:=I.cell x c e
  exact⟨v,h x c e v z⟩
 ·obtain⟨m,⟨o,_,_,ho,_⟩,_⟩:=I.loc
  exact free _ o (λ z=>(y _ z).2.1 rfl) ho I.free
 ·obtain⟨v,o,ho,hd⟩:=I.cell x c e
  exact free c o (λ z=>(y c z).2.2.1 x c e rfl) ho (I.freeC x c e)
 ·obtain⟨e,n,ne,nf,d⟩:=I.pin p hp
  have B:p.1 ∉ ch:=λ z=>(y p.1 z).2.2.2 p hp rfl
  exact⟨keep p.1 p.2 ne nf B e n,free p.1 p.2 B e n,ne,nf,d⟩
theorem Inv.un {t':Nat}(I:Inv X pins σ H s)(u:Un X.fs [] H H' s.heap h')(hok:HOk X.prog X.w H' h'):Inv X pins σ H' { s with heap:=h',toks:=t' }:=by
 obtain⟨m,⟨o,es,Z,ho,r⟩,_⟩:=id I.loc
 obtain⟨sl,C⟩:=u.any ho I.free (by simp)
 exact I.step (g':=s.gens) (d':=s.drawn) (ch:=[]) (λ _ z=>nomatch z) (λ b o _ hb _ e n=>u.keep b o e n hb (by simp)) (λ b o _ hb _ e n=>u.slot b o e n hb (by simp)) (λ b o _ e n=>u.free b o e n (by simp)) (λ b o _ e=>u.there b o e (by simp)) u.tups u.frzs u.tbls (λ m' J=>by
  obtain⟨Y,B,y,h,G⟩:=J
  rw[ho]at h;cases h
  exact⟨_,B,y,C,G⟩) hok I.bare
theorem Inv.call {g':Array GenState}{t':Nat}{d':Drawn}{ch:List Addr}(I:Inv X pins σ H s)(u:Un (frs X.stack) ch H H' s.heap h')(hok:HOk X.prog X.w H' h')(J:eO g')
  (y:∀ b∈ch,(b∈X.ex\/X.s₀.heap.objs.size<=b)/\b≠X.env.locals/\(∀ x c,X.env.cells.lookup x=some c->c≠b)/\∀ p∈X.pn++pins,p.1≠b) :
  Inv X pins σ H' { s with heap:=h',gens:=g',drawn:=d',toks:=t' }:=by
 obtain⟨m,⟨o,es,ep,ho,r⟩,_⟩:=id I.loc
 obtain⟨sl,B⟩:=u.any ho I.free λ z=>(y _ z).2.1 rfl
 exact I.step (ch:=ch) y (λ b o B hb hc e n=>u.keep b o e n (λ z=>(az.mp (I.stkSub b z)).elim B hb) hc) (λ b o _ _ hc e n=>u.any e n hc) (λ b o hc e n=>u.free b o e n hc) (λ b o hc e=>u.there b o e hc) u.tups u.frzs u.tbls (λ m' Z=>by
  obtain⟨o',G,C,h,Y⟩:=Z
  rw[ho]at h;cases h
  exact⟨_,G,C,B,Y⟩) hok J
theorem Inv.turned {t':Nat}{h:Addr}(I:Inv X pins σ H s)(k:∀ b o,b≠h->s.heap.get? b=some o->h'.get? b=some o)(hn:H h=none)(B:h≠X.env.locals)
  (G:h∈X.ex\/X.s₀.heap.objs.size<=h) (C:∀ x c,X.env.cells.lookup x=some c->c≠h) (h3:∀ p∈X.pn++pins,p.1≠h):Inv X pins σ H { s with heap:=h',toks:=t' }:=by
 have y:∀ b u,H b=some u->b≠h:=λ b u e z=>by rw[z,hn]at e;cases e
 refine I.step (g':=s.gens) (d':=s.drawn) (ch:=[h]) (λ b hb=>?_) (λ b o _ _ hc e _=>k b o (λ z=>hc (by simp[z])) e) (λ b o _ _ hc e _=>⟨o.slots,k b o (λ z=>hc (by simp[z])) e⟩) (λ _ _ _ _ n=>n)
  (λ b o hc e=>⟨o,k b o (λ z=>hc (by simp[z])) e⟩) (λ _ _ e=>e) (λ _ _ _ e=>e) (λ b ps e=>⟨#[],by rw[e];simp⟩) (λ m J=>?_) (λ b u e=>?_) I.bare
 ·have e:b=h:=by simpa using hb
  subst e
  exact⟨G,B,C,h3⟩
 ·obtain⟨o,es,Y,ho,r⟩:=J
  exact⟨o,es,Y,k _ o (bM B) ho,r⟩
 ·refine(I.hok b u e).stay (λ c v hc q=>k c v ?_ q) (λ _ q=>q) λ _ _ q=>q
  rcases hc with z|z
  ·rw[z];exact y b u e
  ·exact y c _ z
theorem Inv.tok (I:Inv X pins σ H s)(t:Nat):Inv X pins σ H { s with toks:=t }:=I.un (h':=s.heap) (t':=t) Un.refl I.hok
theorem Inv.kept {t':Nat}(I:Inv X pins σ H s)(k:∀ b u,s.heap.get? b=some u->h'.get? b=some u):Inv X pins σ H { s with heap:=h',toks:=t' }:=I.un (Un.kept k) (I.hok.kept k)
theorem Inv.laid {a:Addr}{o:HO}{t':Nat}(I:Inv X pins σ H s)(k:∀ b u,s.heap.get? b=some u->h'.get? b=some u)(h:s.heap.objs.size<=a)(new:ae5 X.prog X.w (upd H a o) h' a o) :
  Inv X pins σ (upd H a o) { s with heap:=h',toks:=t' }:=I.un (Un.laid k h (I.hok.fresh h)) (I.hok.laid k h new)
theorem Inv.write {x e:Addr}{o:HO}{t':Nat}(I:Inv X pins σ H s)(mu:Mut (H x))(y:e=x\/H e=some (.own x))(k:∀ b u,b≠e->s.heap.get? b=some u->h'.get? b=some u)(h:∃ u,h'.get? e=some u)
  (new:ae5 X.prog X.w (upd H x o) h' x o):Inv X pins σ (upd H x o) { s with heap:=h',toks:=t' }:=I.un (Un.write mu y k h) (I.hok.write mu y k h new)
theorem Inv.pins_of {y:List (Addr×Obj)}(I:Inv X pins σ H s)(h:∀ p∈y,s.heap.get? p.1=some p.2/\H p.1=none/\p.1≠X.env.locals/\p.1 ∉ X.fs/\∀ v,p.2.data≠.cell v):Inv X y σ H s :=
 ⟨I.ok,I.os,I.bare,I.base,I.loc,I.cell,I.free,I.freeC,λ p B=>(cc.mp B).elim (λ z=>I.pin p (gj _ z)) (h p),I.hok,I.len⟩
theorem aL7 {N:List Str}(hN:N.Nodup){i j:Nat}{x:Str}(a:N[i]?=some x)(b:N[j]?=some x):i=j:=by
 obtain⟨y,e1⟩:=ab.mp a
 obtain⟨h,e2⟩:=ab.mp b
 exact(List.getElem_inj hN).mp (e1.trans e2.symm)
theorem aD8 {M:Model}{A:aU}{E:Value->af->Prop}{i:Nat}{x:Str}{v:V}{u:Value}{Q:Unit->af->Prop}(I:Inv X pins σ H s)(hN:X.N.Nodup)(Z:X.N[i]?=some x)(hx:Loc X.env.scope x)(r:RelV v u)
  (h:∀ s',Inv X pins (σ.set i (some v)) H s'->(∃ a,dm a s.heap s'.heap/\(a=X.env.locals\/X.env.cells.lookup x=some a))->Q () s') (hf:X.fn x=true\/X.env.scope.names.lookup x=some .local:=by first|exact .inl rfl|exact .inr rfl|assumption):wpAny M A (d9 X.env x u) Q E s:=by
 obtain⟨m,hn,hl⟩:=id I.loc
 have a0:(X.env.scope.kind==.class||(X.env.scope.kind==.module&&X.env.locals != X.env.globals))=false:=by rw[I.ok.kind];rfl
 have J:i < σ.length:=by rw[I.len];exact(ab.mp Z).1
 have cne:=I.cne
 have B:∀ {a:Addr} {h':Heap},(∃ o,s.heap.get? a=some o/\H a=none)->dm a s.heap h'->HOk X.prog X.w H h':=λ {a h'} ha hs b ob e=>by
  obtain⟨_,_,C⟩:=ha
  refine(I.hok b ob e).stay (λ c w' hc q=>(hs.2 c ?_).trans q) (λ _ q=>q) λ _ _ q=>q
  rintro rfl
  rcases hc with rfl|hc
  ·rw[C]at e;cases e
  ·rw[C]at hc;cases hc
 rcases hx with hk|hk
 ·refine ga hk hn (λ h' a4 hs=>?_) a0
  obtain⟨oL,_,_,a3,_⟩:=id hn
  refine h _ ⟨I.ok,I.os,I.bare,⟨λ b o e n hb hx=>?_,λ b o e n hb hx=>?_,I.base.free,λ b o e hx=>?_,I.base.tups,I.base.frzs,I.base.tbls⟩,⟨_,a4,λ j y v' e1 e2 e3=>?_⟩,λ y c e=>?_,I.free,I.freeC,λ p hp=>?_,B ⟨oL,a3,I.free⟩ hs,by simpa using I.len⟩ ⟨_,hs,.inl rfl⟩
  ·exact(hs.2 b (ay (am (aE e) I.ok.above))).trans (I.base.keep b o e n hb hx)
  ·obtain⟨sl,e1⟩:=I.base.slot b o e n hb hx
   exact⟨sl,(hs.2 b (ay (am (aE e) I.ok.above))).trans e1⟩
  ·obtain⟨o',e1⟩:=I.base.there b o e hx
   exact⟨o',(hs.2 b (ay (am (aE e) I.ok.above))).trans e1⟩
  ·by_cases hj:j=i
   ·subst hj
    rw[Z]at e1;cases e1
    rw[aX J]at e2
    cases e2
    exact⟨u,r,.inl ⟨hk,by simp⟩⟩
   ·rw[a9 (bM hj)]at e2
    obtain⟨u',r',q⟩:=hl j y v' e1 e2 e3
    refine⟨u',r',?_⟩
    rcases q with⟨k,e⟩|⟨k,c,e,z⟩
    ·refine .inl ⟨k,?_⟩
     have:y≠x:=λ e=>hj (aL7 hN e1 (e▸Z))
     simp[this,e]
    ·exact .inr ⟨k,c,e,z.sameBut hs (cne y c e)⟩
  ·obtain⟨w',z⟩:=I.cell y c e
   exact⟨w',z.sameBut hs (cne y c e)⟩
  ·obtain⟨e,n,ne,nf,d⟩:=I.pin p hp
   exact⟨(hs.2 p.1 ne).trans e,n,ne,nf,d⟩
 ·have G:X.fn x=true:=by
   rcases hf with z|z
   ·exact z
   ·rw[z]at hk;cases hk
  obtain⟨c,hc⟩:=I.ok.has x (.inl hk)
  obtain⟨w',z⟩:=I.cell x c hc
  refine gk I.ok.kind hk hc z (λ h' a1 hs=>?_)
  obtain⟨oc,Y,a2⟩:=id z
  refine h { s with heap:=h' } ⟨I.ok,I.os,I.bare,⟨λ b o e n hb hx=>?_,λ b o e n hb hx=>?_,I.base.free,λ b o e hx=>?_,I.base.tups,I.base.frzs,I.base.tbls⟩,⟨m,hn.sameBut hs (bM (cne x c hc)),λ j y v' e1 e2 e3=>?_⟩,λ y c' e=>?_,I.free,I.freeC,λ p hp=>?_,B ⟨oc,Y,I.freeC x c hc⟩ hs,by simpa using I.len⟩ ⟨c,hs,.inr hc⟩
  ·exact(hs.2 b (ay (am (aE e) (I.ok.cab x c G hc)))).trans (I.base.keep b o e n hb hx)
  ·obtain⟨sl,e1⟩:=I.base.slot b o e n hb hx
   exact⟨sl,(hs.2 b (ay (am (aE e) (I.ok.cab x c G hc)))).trans e1⟩
  ·obtain⟨o',e1⟩:=I.base.there b o e hx
   exact⟨o',(hs.2 b (ay (am (aE e) (I.ok.cab x c G hc)))).trans e1⟩
  ·by_cases hj:j=i
   ·subst hj
    rw[Z]at e1;cases e1
    rw[aX J]at e2
    cases e2
    exact⟨u,r,.inr ⟨.inl hk,c,hc,a1⟩⟩
   ·rw[a9 (bM hj)]at e2
    obtain⟨u',r',q⟩:=hl j y v' e1 e2 e3
    refine⟨u',r',?_⟩
    rcases q with q|⟨k,c',e,z'⟩
    ·exact .inl q
    ·refine .inr ⟨k,c',e,z'.sameBut hs ?_⟩
     rintro rfl
     exact hj (aL7 hN e1 (I.ok.inj _ _ _ e hc▸Z))
  ·by_cases hcc:c'=c
   ·subst hcc;exact⟨_,a1⟩
   ·obtain⟨w2,z2⟩:=I.cell y c' e
    exact⟨w2,z2.sameBut hs hcc⟩
  ·obtain⟨e,n,ne,nf,d⟩:=I.pin p hp
   refine⟨(hs.2 p.1 ?_).trans e,n,ne,nf,d⟩
   intro q
   rw[q,Y]at e
   have q':oc=p.2:=ao e
   exact d w' (by rw[<-q'];exact a2)
theorem am7 {M:Model}{A:aU}{E:Value->af->Prop}{i:Nat}{x:Str}{v:V}{u:Value}{Q:Unit->af->Prop}(I:Inv X pins σ H s)(hN:X.N.Nodup)(C:X.N[i]?=some x)(hx:Loc X.env.scope x)(r:RelV v u)
  (h:∀ s',Inv X pins (σ.set i (some v)) H s'->Q () s') (y:X.fn x=true\/X.env.scope.names.lookup x=some .local:=by first|exact .inl rfl|exact .inr rfl|assumption):wpAny M A (d9 X.env x u) Q E s :=
 aD8 I hN C hx r (λ s' B _=>h s' B) y
theorem Inv.call' {s':af}{ch:List Addr}(I:Inv X pins σ H s)(ho:s'.os=s.os)(u:Un (frs X.stack) ch H H' s.heap s'.heap)(hok:HOk X.prog X.w H' s'.heap)(y:eO s'.gens)
  (h:∀ b∈ch,(b∈X.ex\/X.s₀.heap.objs.size<=b)/\b≠X.env.locals/\(∀ x c,X.env.cells.lookup x=some c->c≠b)/\∀ p∈X.pn++pins,p.1≠b):Inv X pins σ H' s':=by
 obtain⟨h',g',d',t',B⟩:=s'
 have e:B=s.os:=ho
 subst e
 exact I.call (g':=g') (t':=t') (d':=d') u hok y h
end
abbrev XK:=Value->Option Addr->Hp->Prop
noncomputable abbrev St:=List (Option V)
abbrev VK:=V->Hp->Prop
abbrev TE:=St->Hp->VK->Prop
abbrev TT:=St->Hp->(Bool->Hp->Prop)->Prop
abbrev TA:=St->Hp->(List V->Hp->Prop)->Prop
structure Ends where
 nx:St->Hp->Prop
 rt:VK
 bk:St->Hp->Prop:=λ _ _=>False
 ct:St->Hp->Prop:=λ _ _=>False
abbrev TS:=Ends->St->Hp->Prop
def EP (X:Cx)(pins:List (Addr×Obj))(σ:St)(Q:VK)(u:Value)(s':af):Prop:=∃ v H',Inv X pins σ H' s'/\RelV v u/\Q v H'
def TP (X:Cx)(pins:List (Addr×Obj))(σ:St)(Q:Bool->Hp->Prop)(b:Bool)(s':af):Prop:=∃ H',Inv X pins σ H' s'/\Q b H'
def AP (X:Cx)(pins:List (Addr×Obj))(σ:St)(Q:List V->Hp->Prop)(us:List Value)(s':af):Prop:=∃ vs H',Inv X pins σ H' s'/\Vals vs us/\Q vs H'
def SP (X:Cx)(pins:List (Addr×Obj))(D:Ends)(f:Flow)(s':af):Prop :=
 match f with
 | .next=>∃ σ' H',Inv X pins σ' H' s'/\D.nx σ' H'
 | .brk=>∃ σ' H',Inv X pins σ' H' s'/\D.bk σ' H'
 | .cont=>∃ σ' H',Inv X pins σ' H' s'/\D.ct σ' H'
 | .ret u=>∃ v σ' H',Inv X pins σ' H' s'/\RelV v u/\D.rt v H'
def PE (X:Cx)(e:Expr)(t:TE):Prop :=
 ∀(pins:List (Addr×Obj)) (s:af) (σ:St) (H:Hp) (Q:VK),Inv X pins σ H s->t σ H Q->wpAny (model X.prog X.w) X.A (eval e X.env) (EP X pins σ Q) X.xe s
def PT (X:Cx)(e:Expr)(t:TT):Prop :=
 ∀(pins:List (Addr×Obj)) (s:af) (σ:St) (H:Hp) (Q:Bool->Hp->Prop),Inv X pins σ H s->t σ H Q->wpAny (model X.prog X.w) X.A (dg e X.env (eval e X.env)) (TP X pins σ Q) X.xe s
def PW (X:Cx)(e:Expr)(t:TT):Prop :=
 ∀(whole:Sem Value) (pins:List (Addr×Obj)) (s:af) (σ:St) (H:Hp) (Q:Bool->Hp->Prop),Inv X pins σ H s->t σ H Q->wpAny (model X.prog X.w) X.A (dg e X.env whole) (TP X pins σ Q) X.xe s
theorem PW.pt {X:Cx}{e:Expr}{t:TT}(h:PW X e t):PT X e t:=h _
def PA (X:Cx)(es:List Expr)(t:TA):Prop :=
 ∀(pos:Pos) (pins:List (Addr×Obj)) (s:af) (σ:St) (H:Hp) (Q:List V->Hp->Prop),Inv X pins σ H s->t σ H Q->wpAny (model X.prog X.w) X.A (spliced (dq pos (bj es X.env))) (AP X pins σ Q) X.xe s
def PS (X:Cx)(st:Stmt)(t:TS):Prop :=
 ∀(pins:List (Addr×Obj)) (s:af) (σ:St) (H:Hp) (D:Ends),Inv X pins σ H s->t D σ H->wpAny (model X.prog X.w) X.A (exec st X.env) (SP X pins D) X.xe s
def PSs (X:Cx)(st:List Stmt)(t:TS):Prop :=
 ∀(pins:List (Addr×Obj)) (s:af) (σ:St) (H:Hp) (D:Ends),Inv X pins σ H s->t D σ H->wpAny (model X.prog X.w) X.A (execs st X.env) (SP X pins D) X.xe s
theorem thn {α:Type}{t:Sem α}{Q y:α->af->Prop}{M:Model}{A:aU}{E:Value->af->Prop}{s:af}(h:wpAny M A t Q E s)(B:∀ a s,Q a s->y a s):wpAny M A t y E s:=cf h B λ _ _ x=>x
section
variable {X:Cx}
theorem bin {a b:Expr}{G tb:TE}(ha:PE X a G)(hb:PE X b tb){B:List (Addr×Obj)}{s:af}{σ:St}{H:Hp}{R:V->V->Hp->Prop}(I:Inv X B σ H s)(h:G σ H λ x C=>tb σ C λ y H2=>R x y H2)
  {α:Type} {Q:α->af->Prop} {f:Value->Value->Sem α}
  (Y:∀ v u s2 x y H2,Inv X B σ H2 s2->RelV x v->RelV y u->R x y H2->wpAny (model X.prog X.w) X.A (f v u) Q X.xe s2) :
  wpAny (model X.prog X.w) X.A (eval a X.env) (λ v s₁=>wpAny (model X.prog X.w) X.A (eval b X.env) (λ u s₂=>wpAny (model X.prog X.w) X.A (f v u) Q X.xe s₂) X.xe s₁) X.xe s:=by
 refine thn (ha B s σ H _ I h) λ v s1 ⟨x,C,J,r1,q1⟩=>?_
 refine thn (hb B s1 σ C _ J q1) λ u s2 ⟨y,H2,I2,Z,q2⟩=>?_
 exact Y v u s2 x y H2 I2 r1 Z q2
def bw1 (i:Nat):TE:=λ σ H Q=>∃ v,σ[i]?=some (some v)/\Q v H
def tC (v:V):TE:=λ _ H Q=>Q v H
theorem bh9 {i:Nat}{x:Str}{pos:Pos}(hN:X.N[i]?=some x)(hv:Vis X.env.scope x)(hd:(x==("__debug__":Str))=false:=by decide)(B:(x==("__classdict__":Str))=false:=by decide):PE X (.Name x pos) (bw1 i):=by
 intro y s σ H Q I h
 obtain⟨v,e,h⟩:=h
 obtain⟨m,hn,hl⟩:=I.loc
 obtain⟨u,r,l⟩:=hl i x v hN e hv
 have fin:EP X y σ Q u s:=⟨v,H,I,r,h⟩
 rcases l with⟨hk,C⟩|⟨hk,c,hc,hcell⟩
 ·exact iZ (gm I.ok.kind hk hn C fin) hd
 ·rcases hk with hk|hk
  ·exact iZ (gK I.ok.kind hk hc hcell fin) hd
  ·exact iZ (wpAny_loadName_free I.ok.kind hk hc hcell fin B) hd
theorem bU6 {i j pos}:PE X (.Constant (.int i) j pos) (tC (.int i)):=λ _ _ _ H _ I h=>wpAny_Constant_int ⟨.int i,H,I.tok _,⟨_,rfl⟩,h⟩
theorem cg2 {b j pos}:PE X (.Constant (.bool b) j pos) (tC (.bl b)):=λ _ _ _ H _ I h=>Constant_bool ⟨.bl b,H,I,rfl,h⟩
theorem bW2 {j pos}:PE X (.Constant .none j pos) (tC .non):=λ _ _ _ H _ I h=>gS ⟨.non,H,I,rfl,h⟩
theorem bM5 {x j pos}:PE X (.Constant (.str x) j pos) (tC (.str x)):=λ _ _ _ H _ I h=>Calls.Constant_str ⟨.str x,H,I.tok _,⟨_,rfl⟩,h⟩
def Gl (X:Cx)(x:Str):Prop:=X.env.kindOf x=some .globalImplicit
theorem av9 {E:Value->af->Prop}{y:List (Addr×Obj)}{s:af}{σ:St}{H:Hp}{x:Str}{u:Value}{pos:Pos}{Q:Value->af->Prop}(I:Inv X y σ H s)(B:Gl X x)(C:X.mg x=some u)(h:Q u s)
  (hd:(x==("__debug__":Str))=false:=by decide):wpAny (model X.prog X.w) X.A (eval (.Name x pos) X.env) Q E s :=
 ef I.ok.kind B (Calls.loadGlobal_global (by rw[I.ok.glob];exact I.mod.glob.keeps I.bk) C h) hd
theorem aA6 {E:Value->af->Prop}{y:List (Addr×Obj)}{s:af}{σ:St}{H:Hp}{x:Str}{u:Value}{pos:Pos}{Q:Value->af->Prop}(I:Inv X y σ H s)(C:Gl X x)(J:X.mg x=none)(hv:be x=some u)(h:Q u s)
  (hn:x ≠ "__name__":=by decide) (hd:(x==("__debug__":Str))=false:=by decide):wpAny (model X.prog X.w) X.A (eval (.Name x pos) X.env) Q E s:=by
 obtain⟨Y,G,B⟩:=I.mod.blt
 exact ef I.ok.kind C (Calls.loadGlobal_builtin (by rw[I.ok.glob];exact I.mod.glob.keeps I.bk) J (by rw[I.ok.blt];exact G.keeps I.bk) ((B x hn).trans hv) h) hd
theorem bE7 {x:Str}{v:V}{u:Value}{pos:Pos}(y:Gl X x)(B:X.mg x=some u)(r:RelV v u)(hd:(x==("__debug__":Str))=false:=by decide):PE X (.Name x pos) (tC v) :=
 λ _ _ _ H _ I h=>av9 I y B ⟨v,H,I,r,h⟩ hd
theorem bH0 {x:Str}{v:V}{u:Value}{pos:Pos}(y:Gl X x)(B:X.mg x=none)(hv:be x=some u)(r:RelV v u)(hn:x ≠ "__name__":=by decide)(hd:(x==("__debug__":Str))=false:=by decide):PE X (.Name x pos) (tC v) :=
 λ _ _ _ H _ I h=>aA6 I y B hv ⟨v,H,I,r,h⟩ hn hd
variable {a b:Expr} {ta tb:TE} {pos:Pos}
def PC (X:Cx)(op:CmpOp)(a b:Expr)(t:TE):Prop :=
 ∀(pins:List (Addr×Obj)) (s:af) (σ:St) (H:Hp) (Q:VK),Inv X pins σ H s->t σ H Q ->
  wpAny (model X.prog X.w) X.A (eval a X.env) (λ v s₁=>wpAny (model X.prog X.w) X.A (eval b X.env) (λ u s₂=>wpAny (model X.prog X.w) X.A (cJ op v u) (EP X pins σ Q) X.xe s₂) X.xe s₁) X.xe s
theorem aO4 (b:Expr){op:CmpOp}(h:op≠.In)(y:op≠.NotIn):cK op b=false:=by
 have e1:(op==CmpOp.In)=false:=by cases op<;>first|rfl|exact absurd rfl h
 have e2:(op==CmpOp.NotIn)=false:=by cases op<;>first|rfl|exact absurd rfl y
 cases b<;>simp[cK,e1,e2]
def cj4 (ta:TE):TE:=λ σ H Q=>ta σ H λ x H1=>Q (.bl (decide (x=.non))) H1
def bT5 (ta:TE):TE:=λ σ H Q=>ta σ H λ x H1=>Q (.bl (!decide (x=.non))) H1
theorem RelV.none_iff {x:V}{v:Value}(r:RelV x v):(v==Value.none)=decide (x=.non):=by
 cases x with
 | non=>cases r;rfl
 | bl _=>cases r;rfl
 | int _=>obtain⟨t,rfl⟩:=r;rfl
 | str _=>obtain⟨t,rfl⟩:=r;rfl
 | byt _=>obtain⟨t,rfl⟩:=r;rfl
 | flt _=>obtain⟨t,rfl⟩:=r;rfl
 | ref _=>cases r;rfl
 | ty _=>cases r;rfl
theorem bs9 {j pos'}(ha:PE X a ta):PC X .Is a (.Constant .none j pos') (cj4 ta):=by
 intro y s σ H Q I h
 refine thn (ha y s σ H _ I h) λ v s1 ⟨x,G,B,r1,C⟩=>?_
 exact gS (is_none_gen ⟨.bl _,G,B,by rw[r1.none_iff];rfl,C⟩)
theorem be4 {j pos'}(ha:PE X a ta):PC X .IsNot a (.Constant .none j pos') (bT5 ta):=by
 intro y s σ H Q I h
 refine thn (ha y s σ H _ I h) λ v s1 ⟨x,G,B,r1,C⟩=>?_
 exact gS (isnot_none_gen ⟨.bl _,G,B,by rw[r1.none_iff];rfl,C⟩)
def tB (t:TE):TT:=λ σ H Q=>t σ H λ x H1=>∃ c,x=.bl c/\Q c H1
theorem bs7 {op:CmpOp}{t:TE}(h:PC X op a b t)(B:cK op b=false:=by first|exact aO4 _ (by decide) (by decide)|rfl):PE X (.Compare a [op] [b] pos) t:=λ y s σ H Q I hw=>wpAny_Compare1 (h y s σ H Q I hw) B
theorem bt3 {op:CmpOp}{t:TE}(h:PC X op a b t)(B:cK op b=false:=by first|exact aO4 _ (by decide) (by decide)|rfl):PT X (.Compare a [op] [b] pos) (tB t):=by
 intro y s σ H Q I hw
 refine gb (thn (h y s σ H _ I hw) λ v s1 B=>thn B λ u s2 C=>thn C λ c s3 ⟨x,Y,G,r1,J⟩=>?_) B
 obtain⟨d,rfl,q⟩:=J
 cases r1
 exact bQ ⟨Y,G,q⟩
theorem bW7 {e:Expr}{t:TE}(h:PE X e t)(G:∀ y,dg e X.env y=(do let v <- y;standAt e.pos;io [v] (truthy v)):=by intro _;rfl):PT X e (tB t):=by
 intro B s σ H Q I hw
 refine isTrue_plain (thn (h B s σ H _ I hw) λ v s1 ⟨x,Y,C,r1,J⟩=>?_) (G _)
 obtain⟨d,rfl,q⟩:=J
 cases r1
 exact bQ ⟨Y,C,q⟩
variable {tA tB':TT} {rest:List Expr}
def cj7 (t u:TT):TT:=λ σ H Q=>t σ H λ c H1=>if c=true then u σ H1 Q else Q false H1
def tOr (t u:TT):TT:=λ σ H Q=>t σ H λ c H1=>if c=true then Q true H1 else u σ H1 Q
def cj8 (t:TT):TT:=λ σ H Q=>t σ H λ c H1=>Q (!c) H1
theorem bF7 (ha:PT X a tA):PW X (.BoolOp .And [a] pos) tA:=by
 intro B y s σ H Q I h
 refine isTrue_and (thn (ha y s σ H Q I h) λ c s1 e=>?_)
 cases c with
 | true=>exact isTrue_and_nil e
 | false=>exact e
theorem bV8 (ha:PT X a tA):PW X (.BoolOp .Or [a] pos) tA:=by
 intro B y s σ H Q I h
 refine isTrue_or (thn (ha y s σ H Q I h) λ c s1 e=>?_)
 cases c with
 | false=>exact isTrue_or_nil e
 | true=>exact e
theorem bs8 (ha:PT X a tA)(hb:PW X (.BoolOp .And (b::rest) pos) tB'):PW X (.BoolOp .And (a::b::rest) pos) (cj7 tA tB'):=by
 intro J y s σ H Q I h
 refine isTrue_and (thn (ha y s σ H _ I h) λ c s1 ⟨G,B,C⟩=>?_)
 cases c with
 | true=>exact hb J y s1 σ G Q B C
 | false=>exact⟨G,B,C⟩
theorem bV2 (ha:PT X a tA)(hb:PW X (.BoolOp .Or (b::rest) pos) tB'):PW X (.BoolOp .Or (a::b::rest) pos) (tOr tA tB'):=by
 intro J y s σ H Q I h
 refine isTrue_or (thn (ha y s σ H _ I h) λ c s1 ⟨G,B,C⟩=>?_)
 cases c with
 | true=>exact⟨G,B,C⟩
 | false=>exact hb J y s1 σ G Q B C
theorem bW1 (ha:PT X a tA):PT X (.UnaryOp .Not a pos) (cj8 tA):=by
 intro y s σ H Q I h
 exact isTrue_not (ha y s σ H (λ c B=>Q (!c) B) I h)
def bX5 (ta tb:TE):TE:=λ σ H Q=>ta σ H λ x H1=>∃ c,x=.bl c/\if c=true then tb σ H1 Q else Q (.bl false) H1
def cj2 (ta tb:TE):TE:=λ σ H Q=>ta σ H λ x H1=>∃ c,x=.bl c/\if c=true then Q (.bl true) H1 else tb σ H1 Q
def bO1 (ta:TE):TE:=λ σ H Q=>ta σ H λ x H1=>∃ c,x=.bl c/\Q (.bl (!c)) H1
theorem bu4 {op}{t:TE}(h:PE X a t):PE X (.BoolOp op [a] pos) t:=λ y s σ H Q I hw=>BoolOp_one (h y s σ H Q I hw)
theorem br9 (ha:PE X a ta)(hb:PE X (.BoolOp .And (b::rest) pos) tb):PE X (.BoolOp .And (a::b::rest) pos) (bX5 ta tb):=by
 intro y s σ H Q I h
 refine BoolOp_and (thn (ha y s σ H _ I h) λ v s1 ⟨x,G,C,r1,B⟩=>?_)
 obtain⟨c,rfl,B⟩:=B
 cases r1
 refine bQ ?_
 cases c with
 | true=>exact hb y s1 σ G Q C B
 | false=>exact⟨.bl false,G,C,rfl,B⟩
theorem bX6 (ha:PE X a ta)(hb:PE X (.BoolOp .Or (b::rest) pos) tb):PE X (.BoolOp .Or (a::b::rest) pos) (cj2 ta tb):=by
 intro y s σ H Q I h
 refine BoolOp_or (thn (ha y s σ H _ I h) λ v s1 ⟨x,G,C,r1,B⟩=>?_)
 obtain⟨c,rfl,B⟩:=B
 cases r1
 refine bQ ?_
 cases c with
 | false=>exact hb y s1 σ G Q C B
 | true=>exact⟨.bl true,G,C,rfl,B⟩
theorem bM0 (ha:PE X a ta):PE X (.UnaryOp .Not a pos) (bO1 ta):=by
 intro y s σ H Q I h
 refine UnaryOp_ (thn (ha y s σ H _ I h) λ v s1 ⟨x,G,C,r1,B⟩=>?_)
 obtain⟨c,rfl,B⟩:=B
 cases r1
 exact not_of (bQ ⟨.bl (!c),G,C,rfl,B⟩)
def tIf (t:TT)(ta tb:TE):TE:=λ σ H Q=>t σ H λ c H1=>if c=true then ta σ H1 Q else tb σ H1 Q
theorem bp3 {c:Expr}(hc:PT X c tA)(ha:PE X a ta)(hb:PE X b tb):PE X (.IfExp c a b pos) (tIf tA ta tb):=by
 intro y s σ H Q I h
 refine wpAny_IfExp (thn (hc y s σ H _ I h) λ d s1 ⟨G,B,C⟩=>?_)
 cases d with
 | true=>exact ha y s1 σ G Q B C
 | false=>exact hb y s1 σ G Q B C
end
def SqL (K:ac)(H:Hp)(a:Addr)(xs:List V):Prop :=
 Rd H a (.lst xs) \/
  ∃(o:Obj) (its:Array Value) (n:Nat),K.lookup a=some o/\o.cls=.type "list"/\o.dict=none/\o.data=.seq its n/\its.size<=aL/\Vals xs its.toList
def SqT (K:ac)(H:Hp)(a:Addr)(xs:List V):Prop :=
 Rd H a (.tup xs) \/
  ∃(o:Obj) (its:Array Value) (n:Nat),K.lookup a=some o/\o.cls=.type "tuple"/\o.data=.seq its n/\its.size<=aL/\Vals xs its.toList
noncomputable def cm5:Value->Option V
 | .none=>some .non
 | .bool b=>some (.bl b)
 | .int i _=>some (.int i)
 | .str x _=>some (.str x)
 | .bytes b _=>some (.byt b)
 | .float b _=>some (.flt b)
 | .ref a=>some (.ref a)
 | .type n=>some (.ty n)
 | _=>none
theorem RelV.abs {x:V}{u:Value}(r:RelV x u):cm5 u=some x:=by
 cases x with
 | non=>cases r;rfl
 | bl _=>cases r;rfl
 | int _=>obtain⟨t,rfl⟩:=r;rfl
 | str _=>obtain⟨t,rfl⟩:=r;rfl
 | byt _=>obtain⟨t,rfl⟩:=r;rfl
 | flt _=>obtain⟨t,rfl⟩:=r;rfl
 | ref _=>cases r;rfl
 | ty _=>cases r;rfl
theorem RelV.inj {x y:V}{u:Value}(r:RelV x u)(q:RelV y u):x=y:=ao (r.abs.symm.trans q.abs)
theorem Vals.inj:∀ {h ys:List V} {us:List Value},Vals h us->Vals ys us->h=ys
 | _,_,_,.nil,.nil=>rfl
 | _,_,_,.cons r t,.cons r' t'=>by rw[r.inj r',Vals.inj t t']
section
variable {X:Cx} {pins:List (Addr×Obj)} {σ:St} {H:Hp} {s:af} {a:Addr} {xs ys:List V}
theorem SqL.of {K:ac}(h:H a=some (.lst xs)):SqL K H a xs:=.inl (.inl h)
theorem SqT.of {K:ac}(h:H a=some (.tup xs)):SqT K H a xs:=.inl (.inl h)
theorem Inv.list (I:Inv X pins σ H s)(h:SqL X.K H a xs):∃ its:List Value,Vals xs its/\PlainL s.heap a its.toArray/\xs.length<=aL:=by
 rcases h with h|⟨o,its,n,hk,hc,hd,hs,hz,r⟩
 ·obtain⟨z,its,n,r,e⟩:=h.ok I.hok
  exact⟨its,r,⟨_,n,e,rfl,rfl,rfl⟩,z⟩
 ·refine⟨its.toList,r,⟨o,n,I.kIn a o hk,hc,hd,by simpa using hs⟩,?_⟩
  have e:=r.length
  simp only[gM]at e
  omega
theorem Inv.tuple (I:Inv X pins σ H s)(h:SqT X.K H a xs):∃ its:List Value,Vals xs its/\IsTup s.heap a its.toArray/\xs.length<=aL:=by
 rcases h with h|⟨o,its,n,hk,hc,hs,hz,r⟩
 ·obtain⟨z,its,r,p⟩:=h.ok I.hok
  exact⟨its,r,p,z⟩
 ·refine⟨its.toList,r,⟨o,I.kIn a o hk,hc,n,by simpa using hs⟩,?_⟩
  have e:=r.length
  simp only[gM]at e
  omega
theorem Inv.list_inj (I:Inv X pins σ H s)(h:SqL X.K H a xs)(h':SqL X.K H a ys):xs=ys:=by
 obtain⟨its,r,⟨o,n,e,_,_,d⟩,_⟩:=I.list h
 obtain⟨its',y,⟨C,B,e',_,_,d'⟩,_⟩:=I.list h'
 rw[e]at e';cases e'
 rw[d]at d'
 injection d' with d1 _
 have:its=its':=by simpa using congrArg ip d1
 subst this
 exact r.inj y
theorem Inv.tuple_inj (I:Inv X pins σ H s)(h:SqT X.K H a xs)(h':SqT X.K H a ys):xs=ys:=by
 obtain⟨its,r,⟨o,e,_,n,d⟩,_⟩:=I.tuple h
 obtain⟨its',y,⟨C,e',_,B,d'⟩,_⟩:=I.tuple h'
 rw[e]at e';cases e'
 rw[d]at d'
 injection d' with d1 _
 have:its=its':=by simpa using congrArg ip d1
 subst this
 exact r.inj y
end
noncomputable abbrev Cx.wish (X:Cx)(E:Value->af->Prop):Cx:={ X with xe:=E }
noncomputable abbrev Cx.nox (X:Cx):Cx:=X.wish λ _ _=>False
theorem Cx.Ok.wish {X:Cx}(ok:X.Ok)(E:Value->af->Prop):(X.wish E).Ok :=
 ⟨ok.mod,ok.kind,ok.glob,ok.blt,ok.above,ok.inj,ok.has,ok.cab,ok.hd,ok.frames,ok.stk,ok.exf,ok.bs,ok.bsz,ok.noex,ok.exfs,ok.funs,ok.frf⟩
theorem Cx.Ok.unwish {X:Cx}{E:Value->af->Prop}(ok:(X.wish E).Ok):X.Ok :=
 ⟨ok.mod,ok.kind,ok.glob,ok.blt,ok.above,ok.inj,ok.has,ok.cab,ok.hd,ok.frames,ok.stk,ok.exf,ok.bs,ok.bsz,ok.noex,ok.exfs,ok.funs,ok.frf⟩
section
variable {X:Cx} {pins:List (Addr×Obj)} {σ:St} {H:Hp} {s:af} {E:Value->af->Prop}
theorem Inv.wish (I:Inv X pins σ H s)(E:Value->af->Prop):Inv (X.wish E) pins σ H s:=⟨I.ok.wish E,I.os,I.bare,I.base,I.loc,I.cell,I.free,I.freeC,I.pin,I.hok,I.len⟩
theorem Inv.unwish (I:Inv (X.wish E) pins σ H s):Inv X pins σ H s:=⟨I.ok.unwish,I.os,I.bare,I.base,I.loc,I.cell,I.free,I.freeC,I.pin,I.hok,I.len⟩
theorem SP.unwish {D:Ends}{f:Flow}{s':af}(h:SP (X.wish E) pins D f s'):SP X pins D f s':=by
 cases f with
 | next=>obtain⟨σ',H',I,q⟩:=h;exact⟨σ',H',I.unwish,q⟩
 | brk=>obtain⟨σ',H',I,q⟩:=h;exact⟨σ',H',I.unwish,q⟩
 | cont=>obtain⟨σ',H',I,q⟩:=h;exact⟨σ',H',I.unwish,q⟩
 | ret u=>obtain⟨v,σ',H',I,r,q⟩:=h;exact⟨v,σ',H',I.unwish,r,q⟩
theorem PSs.nox {st:List Stmt}{t:TS}(h:PSs X.nox st t):PSs X st t:=λ y s σ H D I hw =>
 cf (h y s σ H D (I.wish _) hw) (λ _ _ q=>q.unwish) λ _ _ z=>bw z
end
section
variable {X:Cx} {st:Stmt} {rest:List Stmt} {t u:TS} {e:Expr} {te:TE} {pos:Pos}
def bV0:TS:=λ D σ H=>D.nx σ H
noncomputable def ci5 (t u:TS):TS:=λ D σ H=>t { D with nx:=u D } σ H
theorem aJ1:PSs X [] bV0:=λ _ _ σ H _ I h=>fW ⟨σ,H,I,h⟩
theorem am9 (G:PS X st t)(B:PSs X rest u):PSs X (st::rest) (ci5 t u):=by
 intro y s σ H D I h
 refine wpAny_execs_cons (thn (G y s σ H { D with nx:=u D } I h) λ f s1 q=>?_)
 cases f with
 | next =>
  obtain⟨σ',H',C,q⟩:=q
  exact B y s1 σ' H' D C q
 | ret v=>exact q
 | brk=>exact q
 | cont=>exact q
theorem Inv.quiet {h:List (Addr×Obj)}{σ:St}{H:Hp}{s:af}(I:Inv X h σ H s):interactive X.env=false:=by simp[interactive,I.ok.kind]
def bL9 (te:TE):TS:=λ D σ H=>te σ H λ _ H1=>D.nx σ H1
theorem bE9 (C:PE X e te)(hs:ee e none pos.line X.env=pure false:=by rfl):PS X (.Expr e pos) (bL9 te):=by
 intro y s σ H D I h
 exact wpAny_Expr_any (thn (C y s σ H _ I h) λ v s1 ⟨x,J,B,r1,G⟩=>⟨σ,J,B,G⟩) I.quiet hs
def cl6 (te:TE):TS:=λ D σ H=>te σ H D.rt
theorem bc1 (C:PE X e te):PS X (.Return (some e) pos) (cl6 te):=by
 intro y s σ H D I h
 exact wpAny_Return_some (thn (C y s σ H _ I h) λ v s1 ⟨x,J,B,r1,G⟩=>⟨x,σ,J,B,r1,G⟩)
def ck1 (c:TT)(t u:TS):TS:=λ D σ H=>c σ H λ b H1=>if b=true then t D σ H1 else u D σ H1
theorem cb3 {c:Expr}{a b:List Stmt}{C:TT}(hc:PT X c C)(ha:PSs X a t)(hb:PSs X b u):PS X (.If c a b pos) (ck1 C t u):=by
 intro y s σ H D I h
 refine wpAny_If (thn (hc y s σ H _ I h) λ d s1 ⟨J,B,G⟩=>?_)
 cases d with
 | true=>exact ha y s1 σ J D B G
 | false=>exact hb y s1 σ J D B G
def bW4:TS:=λ _ _ _=>False
theorem bj2:PS X st bW4:=λ _ _ _ _ _ _ h=>h.elim
end
abbrev TG:=V->St->Hp->(St->Hp->Prop)->Prop
abbrev TGs:=List V->St->Hp->(St->Hp->Prop)->Prop
def PG (X:Cx)(target:Expr)(t:TG):Prop :=
 ∀(pins:List (Addr×Obj)) (s:af) (σ:St) (H:Hp) (v:V) (u:Value) (Q:St->Hp->Prop),Inv X pins σ H s->RelV v u->t v σ H Q ->
  wpAny (model X.prog X.w) X.A (fD target X.env u) (λ _ s'=>∃ σ' H',Inv X pins σ' H' s'/\Q σ' H') X.xe s
def PGs (X:Cx)(ts:List Expr)(t:TGs):Prop :=
 ∀(pins:List (Addr×Obj)) (s:af) (σ:St) (H:Hp) (vs:List V) (us:List Value) (Q:St->Hp->Prop),Inv X pins σ H s->Vals vs us->t vs σ H Q ->
  wpAny (model X.prog X.w) X.A (assignInOrder ((cq ts X.env).map (·.2)) us) (λ _ s'=>∃ σ' H',Inv X pins σ' H' s'/\Q σ' H') X.xe s
abbrev bZ4:=V->V->V->Hp->(Hp->Prop)->Prop
def ca5 (X:Cx)(t:bZ4):Prop :=
 ∀(pins:List (Addr×Obj)) (s:af) (σ:St) (H:Hp) (o i v:V) (ov iv u:Value) (Q:Hp->Prop),Inv X pins σ H s->RelV o ov->RelV i iv->RelV v u->t o i v H Q ->
  wpAny (model X.prog X.w) X.A (setItem ov iv u) (λ _ s'=>∃ H',Inv X pins σ H' s'/\Q H') X.xe s
abbrev TIp:=V->V->Hp->VK->Prop
def PIp (X:Cx)(op:i0)(t:TIp):Prop :=
 ∀(pins:List (Addr×Obj)) (s:af) (σ:St) (H:Hp) (x y:V) (v u:Value) (Q:VK),Inv X pins σ H s->RelV x v->RelV y u->t x y H Q ->
  wpAny (model X.prog X.w) X.A (inplaceOp op v u) (EP X pins σ Q) X.xe s
section
variable {X:Cx} {pos:Pos}
def aE4 (i:Nat):TG:=λ v σ H Q=>Q (σ.set i (some v)) H
theorem aW9 {i:Nat}{x:Str}(hN:X.N.Nodup)(G:X.N[i]?=some x)(hx:Loc X.env.scope x)(B:X.fn x=true\/X.env.scope.names.lookup x=some .local:=by first|exact .inl rfl|exact .inr rfl|assumption):PG X (.Name x pos) (aE4 i):=by
 intro y s σ H v u Q I r h
 exact iq (am7 I hN G hx r (λ s' C=>⟨_,H,C,h⟩) B)
def ci3:TGs:=λ vs σ H Q=>vs=[]/\Q σ H
def bX9 (t:TG)(u:TGs):TGs:=λ vs σ H Q=>∃ v r,vs=v::r/\t v σ H λ σ' H'=>u r σ' H' Q
theorem bB0:PGs X [] ci3:=by
 intro y s σ H vs us Q I r h
 obtain⟨e,h⟩:=h
 subst e
 cases r
 exact assignInOrder_nil ⟨σ,H,I,h⟩
theorem bm3 {e:Expr}{es:List Expr}{t:TG}{u:TGs}(J:PG X e t)(B:PGs X es u)
  (hs:(cq (e::es) X.env).map (·.2)=fD e X.env::(cq es X.env).map (·.2):=by rfl):PGs X (e::es) (bX9 t u):=by
 intro y s σ H vs us Q I r h
 obtain⟨v,Z,e1,h⟩:=h
 subst e1
 cases r with
 | cons r rr =>
  rw[hs]
  refine assignInOrder_cons (thn (J y s σ H _ _ _ I r h) λ _ s1 ⟨σ1,G,C,Y⟩=>?_)
  exact B y s1 σ1 G _ _ Q C rr Y
def ci0 (K:ac)(n:Nat)(t:TGs):TG:=λ v σ H Q=>∃ a xs,v=.ref a/\SqT K H a xs/\xs.length=n/\t xs σ H Q
theorem bY6 {es:List Expr}{k:Nat}{t:TGs}{n:Nat}(hc:X.calm=true)(h:PGs X es t)
  (hn:(cq es X.env).length=n:=by rfl) (B:(cq es X.env).findIdx? (·.1)=none:=by rfl):PG X (.Tuple es k pos) (ci0 X.K n t):=by
 intro y s σ H v u Q I r hw
 obtain⟨a,J,e1,hq,hl,hw⟩:=hw
 subst e1
 cases r
 obtain⟨its,C,ht,hz⟩:=I.tuple hq
 refine assign_Tuple_tuple (I.ok.hd hc) ht (by simp[hn,<-hl,C.length]) B λ h' hx=>?_
 have G:Inv X y σ H { s with heap:=h' }:=I.kept (t':=s.toks) λ b o e=>hx b o (ay (aE e)) e
 exact h y _ σ H J _ Q G (by simpa using C) hw
def ck6 (to ti:TE)(t:bZ4):TG:=λ v σ H Q=>to σ H λ o H1=>ti σ H1 λ i H2=>t o i v H2 λ H3=>Q σ H3
theorem bT4 {o i:Expr}{Y J:TE}{t:bZ4}(ho:PE X o Y)(hi:PE X i J)(hs:ca5 X t)
  (ha:∀ v,fD (.Subscript o i pos) X.env v=(do
   let C <- io [v] (eval o X.env)
   let G <- io [v,C] (eval i X.env)
   standAt pos
   io [v,C,G] (setItem C G v)
   release [v,C,G] []):=by intro _;rfl):PG X (.Subscript o i pos) (ck6 Y J t):=by
 intro B s σ H v u Q I r h
 rw[ha]
 refine ar (dI (thn (ho B s σ H _ I h) λ C s1 ⟨x,H1,Z,r1,q1⟩=>?_))
 refine ar (dI (thn (hi B s1 σ H1 _ Z q1) λ G s2 ⟨y,H2,I2,r2,q2⟩=>?_))
 refine ar (gT (ar (dI (thn (hs B s2 σ H2 x y v C G u _ I2 r1 r2 r q2) λ _ s3 ⟨H3,I3,q3⟩=>?_))))
 exact wpAny_release ⟨σ,H3,I3,q3⟩
def bm0 (te:TE)(g:TG):TS:=λ D σ H=>te σ H λ x H1=>g x σ H1 D.nx
theorem bu5 {tg e:Expr}{B:TE}{g:TG}(G:PE X e B)(J:PG X tg g)(hs:swapsWithSole [tg] e pos.line X.env=pure false:=by rfl)(hw:gU [tg] e X.env=pure none:=by rfl)
  (h1:(cq [tg] X.env).map (·.2)=[fD tg X.env]:=by rfl):PS X (.Assign [tg] e pos) (bm0 B g):=by
 intro y s σ H D I h
 refine wpAny_Assign_stores (thn (G y s σ H _ I h) λ v s1 ⟨x,Z,C,r1,Y⟩=>?_) hs hw
 rw[h1]
 exact thn (J y s1 σ Z x v _ C r1 Y) λ _ s2 q=>q
theorem bs1 {i:Nat}{x:Str}{e:Expr}{G:TE}{B:Pos}(hN:X.N.Nodup)(Z:X.N[i]?=some x)(hx:Loc X.env.scope x)(he:PE X e G)(hs:ee e (some (.Name x B)) pos.line X.env=pure false:=by rfl)(hf:X.fn x=true\/X.env.scope.names.lookup x=some .local:=by first|exact .inl rfl|exact .inr rfl|assumption) :
  PS X (.Assign [.Name x B] e pos) (bm0 G (aE4 i)):=by
 intro C s σ H D I h
 refine wpAny_Assign_Name (thn (he C s σ H _ I h) λ v s1 ⟨y,Y,J,r1,q1⟩=>?_) hs
 exact am7 J hN Z hx r1 (λ s2 I2=>⟨_,Y,I2,q1⟩) hf
def ck2 (i:Nat)(te:TE)(ti:TIp):TS:=λ D σ H=>∃ x,σ[i]?=some (some x)/\te σ H λ y H1=>ti x y H1 λ z H2=>D.nx (σ.set i (some z)) H2
theorem bO2 {i:Nat}{x:Str}{e:Expr}{Y:TE}{op:i0}{G:TIp}{C:Pos}(hN:X.N.Nodup)(J:X.N[i]?=some x)(hx:Loc X.env.scope x)(he:PE X e Y)(ho:PIp X op G)(hf:X.fn x=true\/X.env.scope.names.lookup x=some .local:=by first|exact .inl rfl|exact .inr rfl|assumption) :
  PS X (.AugAssign (.Name x C) op e pos) (ck2 i Y G):=by
 intro B s σ H D I h
 obtain⟨v,e1,h⟩:=h
 obtain⟨m,hn,hl⟩:=I.loc
 have vis:Vis X.env.scope x:=by rcases hx with k|k;exact .inl k;exact .inr (.inl k)
 obtain⟨u,r,l⟩:=hl i x v J e1 vis
 refine wpAny_AugAssign_Name ?_
 have go:wpAny (model X.prog X.w) X.A (eval e X.env) (λ w s₂=>wpAny (model X.prog X.w) X.A (inplaceOp op u w) (λ r s₃=>wpAny (model X.prog X.w) X.A (d9 X.env x r) (λ _=>SP X B D .next) X.xe s₃) X.xe s₂) X.xe s:=by
  refine thn (he B s σ H _ I h) λ w s1 ⟨y,H1,Z,r1,q1⟩=>?_
  refine thn (ho B s1 σ H1 v y u w _ Z r r1 q1) λ z s2 ⟨zv,H2,I2,r2,q2⟩=>?_
  exact am7 I2 hN J hx r2 (λ s3 I3=>⟨_,H2,I3,q2⟩) hf
 rcases l with⟨hk,hm⟩|⟨hk,c,hc,hcell⟩
 ·exact gm I.ok.kind hk hn hm go
 ·rcases hk with hk|hk
  ·exact gK I.ok.kind hk hc hcell go
  ·rcases hx with k|k
   ·have:X.env.scope.names.lookup x=some .free:=hk
    rw[k]at this;cases this
   ·have:X.env.scope.names.lookup x=some .free:=hk
    rw[k]at this;cases this
def ipI (f:Int->Int->Int):TIp:=λ x y H Q=>∃ i j,x=.int i/\y=.int j/\Q (.int (f i j)) H
theorem bY4:PIp X .Add (ipI λ i j=>i+j):=by
 intro B s σ H x y v u Q I r1 C h
 obtain⟨i,j,e1,e2,q⟩:=h
 subst e1;subst e2
 obtain⟨t,rfl⟩:=r1
 obtain⟨t',rfl⟩:=C
 exact iadd_int ⟨.int _,H,I.tok _,⟨_,rfl⟩,q⟩
end
section
variable {X:Cx} {pos:Pos}
def bt8 (c:TT)(tb:TS):TS:=λ D σ H=>∃ W:Nat->St->Hp->Prop,(∃ m,W m σ H)/\∀ m σ H,W m σ H ->
 c σ H λ b H1=>if b=true then ∃ N:St->Hp->Prop,(∀ σ' H',N σ' H'->∃ m',m'<m/\W m' σ' H')/\tb { D with nx:=N,ct:=N,bk:=D.nx } σ H1 else D.nx σ H1
theorem bp0 {c:Expr}{body:List Stmt}{Z:TT}{tb:TS}(hp:PassesOwn (model X.prog X.w) X.A X.env X.xe)(hc:PT X c Z)(hb:PSs X body tb):PS X (.While c body [] pos) (bt8 Z tb):=by
 intro y s σ H D I h
 obtain⟨W,⟨m0,w0⟩,turn⟩:=h
 refine wpAny_While (codeAny_whileLoop (λ n s'=>∃ σ' H',Inv X y σ' H' s'/\W n σ' H') ?_ m0 ⟨σ,H,I,w0⟩)
 rintro n s1 ⟨σ1,H1,I1,w1⟩
 refine cx hp (thn (hc y s1 σ1 H1 _ I1 (turn n σ1 H1 w1)) λ b s2 ⟨H2,I2,q2⟩=>?_)
 cases b with
 | true =>
  obtain⟨N,hN,q2⟩:=q2
  rw[if_pos rfl]
  refine cx hp (thn (hb y s2 σ1 H2 _ I2 q2) λ f s3 q3=>?_)
  cases f with
  | next =>
   obtain⟨σ3,B,Y,C⟩:=q3
   obtain⟨m',J,G⟩:=hN σ3 B C
   exact⟨m',J,σ3,B,Y,G⟩
  | cont =>
   obtain⟨σ3,B,Y,C⟩:=q3
   obtain⟨m',J,G⟩:=hN σ3 B C
   exact⟨m',J,σ3,B,Y,G⟩
  | brk=>exact q3
  | ret v=>exact q3
 | false =>
  rw[if_neg aP]
  exact fW ⟨σ1,H2,I2,q2⟩
end
structure It where
 go:Nat->Hp->Prop
 yld:Nat->Hp->V->Hp->Prop
 stop:Nat->Hp->Prop
def FpOk (X:Cx)(pins:List (Addr×Obj))(H:Hp)(b:Addr):Prop :=
 H b=none/\b≠X.env.locals/\b ∉ X.fs/\(b∈X.ex\/X.s₀.heap.objs.size<=b)/\(∀ x c,X.env.cells.lookup x=some c->c≠b)/\∀ p∈X.pn++pins,p.1≠b
theorem Inv.fpOk {X:Cx}{h:List (Addr×Obj)}{σ:St}{H H':Hp}{s:af}{b:Addr}(I:Inv X h σ H s)(hb:s.heap.objs.size<=b)(hn:H' b=none):FpOk X h H' b:=by
 refine⟨hn,cV (am I.lt hb),I.nofs hb,.inr (aw I.sz hb),λ x c e z=>?_,λ p y z=>?_⟩
 ·obtain⟨v,q⟩:=I.cell x c e
  exact absurd (am q.lt (by rw[z];exact hb)) (bo _)
 ·exact absurd (am (aE (I.pin p y).1) (by rw[z];exact hb)) (bo _)
structure Turn (P:aK)(w:World)(K:ac)(tg:Expr)(J:It)(fp:List Addr)(it:Addr)(tn:Nat->Heap->Prop):Prop where
 mem:it∈fp
 obj:∀ i h,tn i h->∀ b∈fp,∃ o,h.get? b=some o/\∀ v,o.data≠.cell v
 keep:∀ i h h',tn i h->(∀ b∈fp,∀ o,h.get? b=some o->h'.get? b=some o)->tn i h'
 item:∀(X:Cx),X.prog=P->X.w=w->X.K=K->X.calm=true->∀(i:Nat) (pins:List (Addr×Obj)) (s:af) (σ:St) (H:Hp) (E:Value->af->Prop),Inv X pins σ H s->(∀ b∈fp,FpOk X pins H b)->tn i s.heap->J.go i H ->
  wpAny (model P w) X.A (iC (.ref it)) (λ r s1=>∃ u,r=some u /\
   wpAny (model P w) X.A (dW tg (.ref it) u) (λ _ s2=>∃ x H',Inv X pins σ H' s2/\RelV x u/\J.yld i H x H'/\tn (i+1) s2.heap/\∀ b∈fp,H' b=none) E s1) E s
 done:∀(X:Cx),X.prog=P->X.w=w->X.K=K->X.calm=true->∀(i:Nat) (pins:List (Addr×Obj)) (s:af) (σ:St) (H:Hp) (E:Value->af->Prop),Inv X pins σ H s->(∀ b∈fp,FpOk X pins H b)->tn i s.heap->J.stop i H ->
  wpAny (model P w) X.A (iC (.ref it)) (λ r s1=>r=none/\Inv X pins σ H s1) E s
 self:∀(A:aU) (i:Nat) (s:af) (Q:Value->af->Prop) (E:Value->af->Prop),tn i s.heap->Q (.ref it) s->wpAny (model P w) A (j3 (.ref it)) Q E s
abbrev TI:=St->Hp->(It->Hp->Prop)->Prop
def PIE (X:Cx)(pins:List (Addr×Obj))(σ:St)(tg:Expr)(R:It->Hp->Prop)(itv:Value)(s2:af):Prop :=
 ∃(it:Addr) (fp:List Addr) (tn:Nat->Heap->Prop) (J:It) (H':Hp),itv=.ref it/\Inv X pins σ H' s2/\Turn X.prog X.w X.K tg J fp it tn/\tn 0 s2.heap/\(∀ b∈fp,FpOk X pins H' b)/\R J H'
def PI (X:Cx)(tg iter:Expr)(wi:TI):Prop :=
 ∀(pins:List (Addr×Obj)) (s:af) (σ:St) (H:Hp) (R:It->Hp->Prop),Inv X pins σ H s->wi σ H R ->
  wpAny (model X.prog X.w) X.A (eval iter X.env) (λ v s1=>wpAny (model X.prog X.w) X.A (j3 v) (PIE X pins σ tg R) X.xe s1) X.xe s
theorem bl6 {M : Model} {A : Around} {E : Value -> Shared -> Prop} {s : Shared} {tg : Expr} {it : Addr} {u : Value} {o : Obj} {n : String} {vs : Array Value} {Q : Unit -> Shared -> Prop} (ho : s.heap.get? it = some o) (hc : o.cls = .type n) (hd : o.data = .fields vs)
    (hn : ["enumerate", "zip", "dict_itemiterator", "dict_reverseitemiterator", "odict_iterator", "itertools.zip_longest", "itertools.pairwise"].contains n = false) (hQ : Q () s) : wpAny M A (dW tg (.ref it) u) Q E s := by
  unfold dW
  cases tg <;> first
    | exact aS hQ
    | (cases u <;> first
        | exact aS hQ
        | (refine ar (wpAny_load ho ?_)
           rw[hc, hd]
           show wpAny M A (if(["enumerate", "zip", "dict_itemiterator", "dict_reverseitemiterator", "odict_iterator", "itertools.zip_longest", "itertools.pairwise"].contains n && vs[0]? == some (cA _)) = true then _ else _) Q E s
           rw[if_neg (by intro h; rw[hn, Bool.false_and]at h; cases h)]
           exact aS hQ))
noncomputable def Itl (K:ac)(a:Addr):It :=
 ⟨λ i H=>∃ xs x,SqL K H a xs/\xs[i]?=some x,λ i H x H'=>H'=H/\∀ xs,SqL K H a xs->xs[i]?=some x,λ i H=>∃ xs,SqL K H a xs/\xs.length<=i⟩
noncomputable def Itt (K:ac)(a:Addr):It :=
 ⟨λ i H=>∃ xs x,SqT K H a xs/\xs[i]?=some x,λ i H x H'=>H'=H/\∀ xs,SqT K H a xs->xs[i]?=some x,λ i H=>∃ xs,SqT K H a xs/\xs.length<=i⟩
noncomputable def Itr (lo:Int)(n:Nat):It:=⟨λ i _=>i<n,λ i H x H'=>H'=H/\x=.int (lo+i),λ i _=>n<=i⟩
theorem bf4 {P:aK}{w:World}{K:ac}{tg:Expr}(a B:Addr):Turn P w K tg (Itl K a) [B] B (λ i h=>h.IsListIter B a i) where
 mem:=by simp
 obj:=λ i h st b hb=>by
  have e:b=B:=by simpa using hb
  subst e
  obtain⟨o,e,c,d⟩:=st
  exact⟨o,e,λ v z=>by rw[d]at z;cases z⟩
 keep:=λ i h h' st k=>st.at λ o e=>k B (by simp) o e
 item:=by
  intro X hP hw Y hc i y s σ H E I G st Z
  subst hP hw Y
  obtain⟨xs,x,hq,hx⟩:=Z
  obtain⟨its,rv,p,hz⟩:=I.list hq
  obtain⟨u,hu,ru⟩:=rv.get hx
  obtain⟨f0,f1,f2,f3,f4,J⟩:=G B (by simp)
  refine wpAny_pyNext_list_item st p.isList (x:=u) (by simpa using hu) λ h' C sb=>?_
  have I1:Inv X y σ H { s with heap:=h' }:=I.turned (t':=s.toks) (λ b o hb e=>(sb.2 b hb).trans e) f0 f1 f3 f4 J
  obtain⟨o,e,c,d⟩:=id C
  exact⟨u,rfl,bl6 (s:={ s with heap:=h' }) e c d (by decide) ⟨x,H,I1,ru,⟨rfl,λ ys hy=>by rw[I.list_inj hy hq];exact hx⟩,C,λ b hb=>(G b hb).1⟩⟩
 done:=by
  intro X hP hw Y hc i y s σ H E I G st Z
  subst hP hw Y
  obtain⟨xs,hq,hx⟩:=Z
  obtain⟨its,rv,p,hz⟩:=I.list hq
  obtain⟨f0,f1,f2,f3,f4,J⟩:=G B (by simp)
  have hl:=rv.length
  exact wpAny_pyNext_list_end (I.ok.hd hc) st p.isList (by simp;omega) λ h' eb=>⟨rfl,I.turned (t':=s.toks) (λ b o hb e=>eb b o hb e) f0 f1 f3 f4 J⟩
 self:=λ _ _ _ _ _ st h=>wpAny_pyIter_listiter st h
theorem aT6 {P:aK}{w:World}{K:ac}{tg:Expr}(a B:Addr):Turn P w K tg (Itt K a) [B] B (λ i h=>h.IsTupleIter B a i) where
 mem:=by simp
 obj:=λ i h st b hb=>by
  have e:b=B:=by simpa using hb
  subst e
  obtain⟨o,e,c,d⟩:=st
  exact⟨o,e,λ v z=>by rw[d]at z;cases z⟩
 keep:=λ i h h' st k=>st.at λ o e=>k B (by simp) o e
 item:=by
  intro X hP hw Y hc i y s σ H E I G st Z
  subst hP hw Y
  obtain⟨xs,x,hq,hx⟩:=Z
  obtain⟨its,rv,p,hz⟩:=I.tuple hq
  obtain⟨u,hu,ru⟩:=rv.get hx
  obtain⟨f0,f1,f2,f3,f4,J⟩:=G B (by simp)
  refine wpAny_pyNext_tuple_item st (show s.heap.IsTuple a its.toArray from p) (x:=u) (by simpa using hu) λ h' C sb=>?_
  have I1:Inv X y σ H { s with heap:=h' }:=I.turned (t':=s.toks) (λ b o hb e=>(sb.2 b hb).trans e) f0 f1 f3 f4 J
  obtain⟨o,e,c,d⟩:=id C
  exact⟨u,rfl,bl6 (s:={ s with heap:=h' }) e c d (by decide) ⟨x,H,I1,ru,⟨rfl,λ ys hy=>by rw[I.tuple_inj hy hq];exact hx⟩,C,λ b hb=>(G b hb).1⟩⟩
 done:=by
  intro X hP hw Y hc i y s σ H E I G st Z
  subst hP hw Y
  obtain⟨xs,hq,hx⟩:=Z
  obtain⟨its,rv,p,hz⟩:=I.tuple hq
  obtain⟨f0,f1,f2,f3,f4,J⟩:=G B (by simp)
  have hl:=rv.length
  exact wpAny_pyNext_tuple_end (I.ok.hd hc) st (show s.heap.IsTuple a its.toArray from p) (by simp;omega) λ h' eb=>⟨rfl,I.turned (t':=s.toks) (λ b o hb e=>eb b o hb e) f0 f1 f3 f4 J⟩
 self:=λ _ _ _ _ _ st h=>wpAny_pyIter_tupleiter st h
theorem aU1 {P:aK}{w:World}{K:ac}{tg:Expr}(y:Addr)(G:Int)(n:Nat):Turn P w K tg (Itr G n) [y] y (λ i h=>IsRangeIter h y (G+(i:Nat)*1) ((n:Int) - (i:Nat)) 1) where
 mem:=by simp
 obj:=λ i h st b hb=>by
  have e:b=y:=by simpa using hb
  subst e
  exact⟨_,st,λ v z=>by
   have z':Data.fields _=Data.cell v:=z
   cases z'⟩
 keep:=λ i h h' st k=>k y (by simp) _ st
 item:=by
  intro X hP hw Z hc i B s σ H E I J st hg
  subst hP hw Z
  obtain⟨f0,f1,f2,f3,f4,Y⟩:=J y (by simp)
  have W:=Walks.range (prog:=X.prog) (w:=X.w) (I.ok.hd hc) y G 1 n
  refine W.item i s _ _ hg st λ v h' tk hv C kk=>?_
  obtain⟨t,rfl⟩:=hv
  have I1:Inv X B σ H { s with heap:=h',toks:=tk }:=I.turned (λ b o hb e=>kk b o (by simpa using hb) e) f0 f1 f3 f4 Y
  refine⟨_,rfl,bl6 (s:={ s with heap:=h',toks:=tk }) (n := "range_iterator") C rfl rfl (by decide) ⟨.int (G+i),H,I1,⟨t,?_⟩,⟨rfl,rfl⟩,C,λ b hb=>(J b hb).1⟩⟩
  rw[Int.mul_one]
 done:=by
  intro X hP hw Z hc i B s σ H E I J st hg
  subst hP hw Z
  obtain⟨f0,f1,f2,f3,f4,Y⟩:=J y (by simp)
  exact wpAny_pyNext_range_end (I.ok.hd hc) st (by have:n<=i:=hg;omega) λ h' eb=>⟨rfl,I.turned (t':=s.toks) (λ b o hb e=>eb b o hb e) f0 f1 f3 f4 Y⟩
 self:=λ _ _ _ _ _ st h=>wpAny_pyIter_rangeiter st h
section
variable {X:Cx} {tg:Expr}
def bz5 (K:ac)(tl:TE):TI:=λ σ H R=>tl σ H λ x H1=>∃ a,x=.ref a/\(∃ xs,SqL K H1 a xs)/\R (Itl K a) H1
def ca6 (K:ac)(tl:TE):TI:=λ σ H R=>tl σ H λ x H1=>∃ a,x=.ref a/\(∃ xs,SqT K H1 a xs)/\R (Itt K a) H1
theorem bw6 {l:Expr}{C:TE}(hl:PE X l C):PI X tg l (bz5 X.K C):=by
 intro y s σ H R I h
 refine thn (hl y s σ H _ I h) λ v s1 ⟨x,G,B,r1,J⟩=>?_
 obtain⟨a,e,⟨Z,hq⟩,q⟩:=J
 subst e
 cases r1
 obtain⟨its,Y,p,hz⟩:=B.list hq
 refine cN p.isList ?_
 refine⟨s1.heap.objs.size,[s1.heap.objs.size],_,_,G,rfl,B.kept (t':=s1.toks) λ b o e=>ai _ e,bf4 a _,⟨_,aN _ rfl,rfl,rfl⟩,λ b hb=>?_,q⟩
 have e:b=s1.heap.objs.size:=by simpa using hb
 subst e
 exact B.fpOk (ah _) (B.hok.fresh (ah _))
theorem bK9 {l:Expr}{C:TE}(hl:PE X l C):PI X tg l (ca6 X.K C):=by
 intro y s σ H R I h
 refine thn (hl y s σ H _ I h) λ v s1 ⟨x,G,B,r1,J⟩=>?_
 obtain⟨a,e,⟨Z,hq⟩,q⟩:=J
 subst e
 cases r1
 obtain⟨its,Y,p,hz⟩:=B.tuple hq
 refine g9 (show s1.heap.IsTuple a its.toArray from p) ?_
 refine⟨s1.heap.objs.size,[s1.heap.objs.size],_,_,G,rfl,B.kept (t':=s1.toks) λ b o e=>ai _ e,aT6 a _,⟨_,aN _ rfl,rfl,rfl⟩,λ b hb=>?_,q⟩
 have e:b=s1.heap.objs.size:=by simpa using hb
 subst e
 exact B.fpOk (ah _) (B.hok.fresh (ah _))
theorem bo6 {B:List (Addr×Obj)}{σ:St}{H:Hp}{s:af}{R:It->Hp->Prop}{E:Value->af->Prop}{h y:Int}{t u v:Tok}{tk:Nat}(I:Inv X B σ H s)(J:-(2^62)<=h)(G:h<2^62)(h3:-(2^62)<=y)(Y:y<2^62)
  (q:R (Itr h (y - h).toNat) H):wpAny (model X.prog X.w) X.A (j3 (.ref s.heap.objs.size)) (PIE X B σ tg R) E { s with heap:=s.heap.push { cls:=.type "range",data:=.fields #[.int h t,.int y u,.int 1 v] },toks:=tk }:=by
 refine wpAny_pyIter_range (IsRange.new ..) (small_one J G h3 Y) ?_
 have C:Inv X B σ H { s with heap:=s.heap.push { cls:=.type "range",data:=.fields #[.int h t,.int y u,.int 1 v] },toks:=tk }:=I.kept λ b o e=>ai _ e
 refine⟨(s.heap.push { cls:=.type "range",data:=.fields #[.int h t,.int y u,.int 1 v] }).objs.size,[(s.heap.push { cls:=.type "range",data:=.fields #[.int h t,.int y u,.int 1 v] }).objs.size],_,_,H,rfl,
  C.kept (t':=tk) λ b o e=>ai _ e,aU1 _ h (y - h).toNat,?_,λ b hb=>?_,q⟩
 ·have e1:h+((0:Nat):Int)*1=h:=by simp
  have e2:(((y - h).toNat:Nat):Int) - ((0:Nat):Int)=jY h y 1:=by rw[rangeSize_one];split<;>omega
  show IsRangeIter _ _ (h+((0:Nat):Int)*1) ((((y - h).toNat:Nat):Int) - ((0:Nat):Int)) 1
  rw[e1,e2]
  exact aN _ rfl
 ·have e:b=(s.heap.push { cls:=.type "range",data:=.fields #[.int h t,.int y u,.int 1 v] }).objs.size:=by simpa using hb
  subst e
  exact C.fpOk (ah _) (C.hok.fresh (ah _))
def bS5 (ta:TA):TI:=λ σ H R=>ta σ H λ vs H1=>∃ j:Int,vs=[.int j]/\-(2^62)<=j/\j<2^62/\R (Itr 0 j.toNat) H1
theorem bh0 {a:Expr}{C:TA}{p pos:Pos}(J:Gl X "range")(Y:X.mg "range"=none)(ha:PA X [a] C)(hs:bj [a] X.env=[(false,eval a X.env)]:=by rfl):PI X tg (.Call (.Name "range" p) [a] [] pos) (bS5 C):=by
 intro y s σ H R I h
 refine Call_ (aA6 I J Y boot_range (d4 (thn (ha pos y s σ H _ I h) λ us s1 ⟨vs,Z,G,r1,B⟩=>?_) hs rfl))
 obtain⟨j,e,B,q2,q⟩:=B
 subst e
 cases r1 with
 | cons r rr =>
  cases rr
  obtain⟨t,rfl⟩:=r
  exact call_range_1 (bo6 G (by omega) (by omega) B q2 (by simpa using q))
def ci4 (wi:TI)(g:TG)(tb:TS):TS:=λ D σ H=>wi σ H λ J H1=>∃ W:Nat->Nat->St->Hp->Prop,(∃ m,W 0 m σ H1)/\∀ i m σ H,W i m σ H ->
 (J.stop i H/\D.nx σ H)\/(J.go i H/\∃ N:St->Hp->Prop,(∀ σ' H',N σ' H'->∃ m',m'<m/\W (i+1) m' σ' H')/\∀ x H',J.yld i H x H'->g x σ H' λ σ2 H2=>tb { D with nx:=N,ct:=N,bk:=D.nx } σ2 H2)
noncomputable def aB0 (fp:List Addr)(h:Heap):List (Addr×Obj):=fp.filterMap λ b=>(h.get? b).map λ o=>(b,o)
theorem jx {y:List Addr}{h:Heap}{b:Addr}{o:Obj}(hb:b∈y)(e:h.get? b=some o):(b,o)∈aB0 y h:=bX.mpr ⟨b,hb,by rw[e];rfl⟩
theorem bg3 {y:List Addr}{h:Heap}{p:Addr×Obj}(B:p∈aB0 y h):p.1∈y/\h.get? p.1=some p.2:=by
 obtain⟨b,hb,e⟩:=bX.mp B
 cases q:h.get? b with
 | none=>rw[q]at e;cases e
 | some o =>
  rw[q]at e
  have e':(b,o)=p:=ao e
  subst e'
  exact⟨hb,q⟩
theorem Inv.pinned {h:List (Addr×Obj)}{σ:St}{H:Hp}{s:af}{y:List Addr}(I:Inv X h σ H s)(B:∀ b∈y,FpOk X h H b)(ho:∀ b∈y,∃ o,s.heap.get? b=some o/\∀ v,o.data≠.cell v):Inv X (h++aB0 y s.heap) σ H s :=
 I.pins_of λ p J=>(cc.mp J).elim (λ z=>I.pin p (bq _ z)) λ z=>by
  obtain⟨hb,e⟩:=bg3 z
  obtain⟨C,G,Y,_⟩:=B p.1 hb
  obtain⟨o,e',d⟩:=ho p.1 hb
  rw[e]at e';cases e'
  exact⟨e,C,G,Y,d⟩
theorem Inv.unpinned {h B:List (Addr×Obj)}{σ:St}{H:Hp}{s:af}(I:Inv X (h++B) σ H s):Inv X h σ H s:=I.pins_of λ p y=>I.pin p (bq _ (gj _ y))
theorem bT1 {iter:Expr}{body:List Stmt}{wi:TI}{g:TG}{tb:TS}{pos:Pos}(hp:PassesOwn (model X.prog X.w) X.A X.env X.xe)(hc:X.calm=true)(hi:PI X tg iter wi)(hg:PG X tg g)(hb:PSs X body tb)
  (hs:∀ x,cO iter X.env x=pure x:=by intro _;rfl):PS X (.For tg iter body [] pos) (ci4 wi g tb):=by
 intro y s σ H D I h
 refine wpAny_For (thn (hi y s σ H _ I h) λ v s1 h1=>thn h1 λ a6 s2 h2=>?_) hs
 obtain⟨it,fp,tn,J,H2,e,I2,T,a4,f2,W,⟨m0,w0⟩,turn⟩:=h2
 subst e
 have B:∀ {H':Hp},(∀ b∈fp,H' b=none)->∀ b∈fp,FpOk X y H' b:=λ hn b hb=>⟨hn b hb,(f2 b hb).2⟩
 refine codeAny_forLoop_any (λ n s'=>∃ i σ' H',Inv X y σ' H' s'/\tn i s'.heap/\(∀ b∈fp,H' b=none)/\W i n σ' H') ?_ m0 ⟨0,σ,H2,I2,a4,λ b hb=>(f2 b hb).1,w0⟩
 rintro n s3 ⟨i,σ3,H3,I3,a2,a1,w3⟩
 rcases turn i n σ3 H3 w3 with⟨stop,qn⟩|⟨go,N,hN,step⟩
 ·refine cx hp (thn (T.done X rfl rfl rfl hc i y s3 σ3 H3 X.xe I3 (B a1) a2 stop) λ r s4 ⟨hr,I4⟩=>?_)
  subst hr
  exact fW ⟨σ3,H3,I4,qn⟩
 ·refine cx hp (thn (T.item X rfl rfl rfl hc i y s3 σ3 H3 X.xe I3 (B a1) a2 go) λ r s4 ⟨u,hr,h4⟩=>?_)
  subst hr
  refine cx hp (thn h4 λ _ s5 ⟨x,H5,I5,r5,y5,a0,a3⟩=>?_)
  have a5:=I5.pinned (B a3) (T.obj _ _ a0)
  refine cx hp (thn (hg _ s5 σ3 H5 x u _ a5 r5 (step x H5 y5)) λ _ s6 ⟨σ6,H6,I6,q6⟩=>?_)
  refine cx hp (thn (hb _ s6 σ6 H6 _ I6 q6) λ f s7 Z=>?_)
  have C:∀ {σ7:St} {Y:Hp},Inv X (y++aB0 fp s5.heap) σ7 Y s7->N σ7 Y->∃ m,m<n/\∃ i σ' H',Inv X y σ' H' s7/\tn i s7.heap/\(∀ b∈fp,H' b=none)/\W i m σ' H':=λ {σ7 Y} G n7=>by
   obtain⟨m',hm,w7⟩:=hN σ7 Y n7
   refine⟨m',hm,i+1,σ7,Y,G.unpinned,T.keep _ _ _ a0 λ b hb o e=>(G.pin (b,o) (bq _ (bq _ (jx hb e)))).1,λ b hb=>?_,w7⟩
   obtain⟨o,e,d⟩:=T.obj _ _ a0 b hb
   exact(G.pin (b,o) (bq _ (bq _ (jx hb e)))).2.1
  cases f with
  | next=>obtain⟨σ7,Y,G,n7⟩:=Z;exact C G n7
  | cont=>obtain⟨σ7,Y,G,n7⟩:=Z;exact C G n7
  | brk=>obtain⟨σ7,Y,G,Z⟩:=Z;exact⟨σ7,Y,G.unpinned,Z⟩
  | ret v=>obtain⟨x7,σ7,Y,G,r7,Z⟩:=Z;exact⟨x7,σ7,Y,G.unpinned,r7,Z⟩
end
abbrev R2:=V->V->Hp->VK->Prop
def OpR (X:Cx)(f:Value->Value->Sem Value)(r:R2):Prop :=
 ∀(pins:List (Addr×Obj)) (s:af) (σ:St) (H:Hp) (x y:V) (v u:Value) (Q:VK),Inv X pins σ H s->RelV x v->RelV y u->r x y H Q ->
  wpAny (model X.prog X.w) X.A (f v u) (EP X pins σ Q) X.xe s
def UnR (X:Cx)(f:Value->Sem Value)(r:V->Hp->VK->Prop):Prop :=
 ∀(pins:List (Addr×Obj)) (s:af) (σ:St) (H:Hp) (x:V) (v:Value) (Q:VK),Inv X pins σ H s->RelV x v->r x H Q ->
  wpAny (model X.prog X.w) X.A (f v) (EP X pins σ Q) X.xe s
def ae7 (X:Cx)(f:Value)(r:List V->Hp->VK->Prop):Prop :=
 ∀(pins:List (Addr×Obj)) (s:af) (σ:St) (H:Hp) (xs:List V) (us:List Value) (Q:VK),Inv X pins σ H s->Vals xs us->r xs H Q ->
  wpAny (model X.prog X.w) X.A (call f us) (EP X pins σ Q) X.xe s
def tOp (r:R2)(ta tb:TE):TE:=λ σ H Q=>ta σ H λ x H1=>tb σ H1 λ y H2=>r x y H2 Q
def tUn (r:V->Hp->VK->Prop)(ta:TE):TE:=λ σ H Q=>ta σ H λ x H1=>r x H1 Q
def rI (C:Int->Int->Prop)(g:Int->Int->V):R2:=λ x y H Q=>∃ i j,x=.int i/\y=.int j/\C i j/\Q (g i j) H
def rI0 (g:Int->Int->V):R2:=λ x y H Q=>∃ i j,x=.int i/\y=.int j/\Q (g i j) H
def rU (g:Int->V):V->Hp->VK->Prop:=λ x H Q=>∃ i,x=.int i/\Q (g i) H
section
variable {X:Cx} {a b c:Expr} {ta tb tc:TE} {pos:Pos}
theorem cf0 (ha:PE X a ta)(hb:PE X b tb){B:List (Addr×Obj)}{s:af}{σ:St}{H:Hp}{R:V->V->Hp->Prop}(I:Inv X B σ H s)
  (h:ta σ H λ x C=>tb σ C λ y H2=>R x y H2) {Q:Value->af->Prop} {f:Value->Value->Sem Value}
  (J:∀ v u s2 x y H2,Inv X B σ H2 s2->RelV x v->RelV y u->R x y H2->wpAny (model X.prog X.w) X.A (f v u) Q X.xe s2) :
  wpAny (model X.prog X.w) X.A (eval a X.env) (λ v s₁=>wpAny (model X.prog X.w) X.A (eval b X.env) (λ u Z=>wpAny (model X.prog X.w) X.A (f v u) Q X.xe Z) X.xe s₁) X.xe s:=by
 refine thn (ha B s σ H _ I h) λ v s1 ⟨x,C,G,r1,q1⟩=>?_
 refine thn (hb B s1 σ C _ G q1) λ u s2 ⟨y,H2,I2,Y,q2⟩=>?_
 exact J v u s2 x y H2 I2 r1 Y q2
theorem cf7 {op:i0}{r:R2}(ho:OpR X (bV op) r)(ha:PE X a ta)(hb:PE X b tb):PE X (.BinOp a op b pos) (tOp r ta tb):=by
 intro B s σ H Q I h
 exact wpAny_BinOp (cf0 ha hb I h λ v u s2 x y H2 I2 C G q=>ho B s2 σ H2 x y v u Q I2 C G q)
theorem cc6 {op:UnaryOp}{r:V->Hp->VK->Prop}(ho:UnR X (unaryOp op) r)(ha:PE X a ta):PE X (.UnaryOp op a pos) (tUn r ta):=by
 intro y s σ H Q I h
 exact UnaryOp_ (thn (ha y s σ H _ I h) λ v s1 ⟨x,G,B,r1,C⟩=>ho y s1 σ G x v Q B r1 C)
theorem opI {f:Value->Value->Sem Value}{C:Int->Int->Prop}{g:Int->Int->Int}
  (rule:∀(i j:Int) (t u:Tok) (s:af) (Q:Value->af->Prop) (E:Value->af->Prop),C i j->Q (.int (g i j) s.toks) { s with toks:=s.toks+1 }->wpAny (model X.prog X.w) X.A (f (.int i t) (.int j u)) Q E s) :
  OpR X f (rI C λ i j=>.int (g i j)):=by
 intro B s σ H x y v u Q I G J h
 obtain⟨i,j,rfl,rfl,hc,q⟩:=h
 obtain⟨t,rfl⟩:=G
 obtain⟨t',rfl⟩:=J
 exact rule i j t t' s _ _ hc ⟨.int (g i j),H,I.tok _,⟨_,rfl⟩,q⟩
theorem cj9 {f:Value->Value->Sem Value}{g:Int->Int->Int}
  (rule:∀(i j:Int) (t u:Tok) (s:af) (Q:Value->af->Prop) (E:Value->af->Prop),Q (.int (g i j) s.toks) { s with toks:=s.toks+1 }->wpAny (model X.prog X.w) X.A (f (.int i t) (.int j u)) Q E s) :
  OpR X f (rI0 λ i j=>.int (g i j)):=by
 intro B s σ H x y v u Q I C G h
 obtain⟨i,j,rfl,rfl,q⟩:=h
 obtain⟨t,rfl⟩:=C
 obtain⟨t',rfl⟩:=G
 exact rule i j t t' s _ _ ⟨.int (g i j),H,I.tok _,⟨_,rfl⟩,q⟩
theorem bY9 {f:Value->Value->Sem Value}{g:Int->Int->Bool}
  (rule:∀(i j:Int) (t u:Tok) (s:af) (Q:Value->af->Prop) (E:Value->af->Prop),Q (.bool (g i j)) s->wpAny (model X.prog X.w) X.A (f (.int i t) (.int j u)) Q E s) :
  OpR X f (rI0 λ i j=>.bl (g i j)):=by
 intro B s σ H x y v u Q I C G h
 obtain⟨i,j,rfl,rfl,q⟩:=h
 obtain⟨t,rfl⟩:=C
 obtain⟨t',rfl⟩:=G
 exact rule i j t t' s _ _ ⟨.bl (g i j),H,I,rfl,q⟩
def cl7 (i j:Int):Prop:=0<=j/\j<=1000000/\i.natAbs<2^64
def bZ9 (i j:Int):Prop:=(-(2^64)<i/\i<2^64)\/(-(2^64)<j/\j<2^64)
theorem bZ9.ok {i j:Int}(h:bZ9 i j):IntMulOk i j:=by
 rcases h with⟨y,B⟩|⟨y,B⟩
 ·exact .of_left (intBits_le_64 y B)
 ·exact .of_right (intBits_le_64 y B)
theorem aT9 (k:Nat):(0:Int)<=2^k:=by
 rw[two_pow_cast]
 exact Int.natCast_nonneg _
theorem bU9:OpR X (bV .Add) (rI0 λ i j=>.int (i+j)):=cj9 λ _ _ _ _ _ _ _ q=>add_int q
theorem bR3:OpR X (bV .Sub) (rI0 λ i j=>.int (i - j)):=cj9 λ _ _ _ _ _ _ _ q=>sub_int q
theorem bX2:OpR X (bV .Mod) (rI (λ _ j=>0<j) λ i j=>.int (i % j)):=opI λ i j _ _ _ _ _ hc q=>by
 have h:(0:Int)<j:=hc
 exact mod_int' (by omega) (by rw[Int.fmod_eq_emod_of_nonneg i (by omega)];exact q)
theorem bN1:OpR X (bV .Pow) (rI cl7 λ i j=>.int (i^j.toNat)):=opI λ _ _ _ _ _ _ _ hc q=>pow_int_small hc.1 hc.2.1 hc.2.2 q
theorem bL3:OpR X (bV .LShift) (rI cl7 λ i j=>.int (i*2^j.toNat)):=opI λ _ _ _ _ _ _ _ hc q=>lshift_int_small hc.1 hc.2.1 hc.2.2 q
theorem bO7:OpR X (bV .RShift) (rI (λ _ j=>0<=j) λ i j=>.int (i / 2^j.toNat)):=opI λ i j _ _ _ _ _ hc q =>
 rshift_int hc (by rw[eA i (aT9 _)];exact q)
theorem unI {f:Value->Sem Value}{g:Int->Int}
  (rule:∀(i:Int) (t:Tok) (s:af) (Q:Value->af->Prop) (E:Value->af->Prop),Q (.int (g i) s.toks) { s with toks:=s.toks+1 }->wpAny (model X.prog X.w) X.A (f (.int i t)) Q E s) :
  UnR X f (rU λ i=>.int (g i)):=by
 intro y s σ H x v Q I B h
 obtain⟨i,rfl,q⟩:=h
 obtain⟨t,rfl⟩:=B
 exact rule i t s _ _ ⟨.int (g i),H,I.tok _,⟨_,rfl⟩,q⟩
theorem bU8:UnR X (unaryOp .USub) (rU λ i=>.int (-i)):=unI λ _ _ _ _ _ q=>neg_int q
end
section
variable {X:Cx} {a b c:Expr} {ta tb tc:TE} {pos:Pos}
theorem cb5:OpR X (cJ .Lt) (rI0 λ i j=>.bl (decide (i<j))):=bY9 λ _ _ _ _ _ _ _ q=>lt_int q
theorem cg3:OpR X (cJ .LtE) (rI0 λ i j=>.bl (decide (i<=j))):=bY9 λ _ _ _ _ _ _ _ q=>le_int q
theorem ce4:OpR X (cJ .Gt) (rI0 λ i j=>.bl (decide (j<i))):=bY9 λ _ _ _ _ _ _ _ q=>gt_int q
theorem ch7:OpR X (cJ .GtE) (rI0 λ i j=>.bl (decide (j<=i))):=bY9 λ _ _ _ _ _ _ _ q=>ge_int q
theorem bJ7 {op:CmpOp}{r:R2}(ho:OpR X (cJ op) r)(ha:PE X a ta)(hb:PE X b tb)(J:cK op b=false):PE X (.Compare a [op] [b] pos) (tOp r ta tb):=by
 intro B s σ H Q I h
 exact wpAny_Compare1 (cf0 ha hb I h λ v u s2 x y H2 I2 C G q=>ho B s2 σ H2 x y v u Q I2 C G q) J
def bN9 (t:TE):TT:=λ σ H Q=>t σ H λ x H'=>∃ k,x=.bl k/\Q k H'
theorem bz1 {op:CmpOp}{r:R2}(ho:OpR X (cJ op) r)(ha:PE X a ta)(hb:PE X b tb)(hm:cK op b=false):PT X (.Compare a [op] [b] pos) (bN9 (tOp r ta tb)):=by
 intro B s σ H Q I h
 refine gb (thn (ha B s σ H _ I h) λ v s1 ⟨x,G,C,r1,q1⟩=>thn (hb B s1 σ G _ C q1) λ u s2 ⟨y,H2,I2,Y,q2⟩ =>
  thn (ho B s2 σ H2 x y v u _ I2 r1 Y q2) λ c s3 ⟨z,Z,I3,J,k,e,q3⟩=>?_) hm
 subst e
 cases J
 exact bQ ⟨Z,I3,q3⟩
theorem ao7:(aL:Nat)<2^63:=by rw[dN];decide
theorem aU5:OpR X (bV .Add) (λ x y H Q=>∃ i j,x=.str i/\y=.str j/\i.length+j.length<=aL/\Q (.str (i++j)) H):=by
 intro B s σ H x y v u Q I C G h
 obtain⟨i,j,rfl,rfl,hz,q⟩:=h
 obtain⟨t,rfl⟩:=C
 obtain⟨t',rfl⟩:=G
 exact add_str (λ t' tk=>⟨.str (i++j),H,I.tok _,⟨_,rfl⟩,q⟩) hz
theorem am0 {x:V}{us:List Value}(r:Vals [x] us):∃ u,us=[u]/\RelV x u:=by
 cases r with
 | cons r1 r2=>cases r2;exact⟨_,rfl,r1⟩
theorem by5 {x y:V}{us:List Value}(r:Vals [x,y] us):∃ u h,us=[u,h]/\RelV x u/\RelV y h:=by
 cases r with
 | cons r1 r2 =>
  cases r2 with
  | cons r3 r4=>cases r4;exact⟨_,_,rfl,r1,r3⟩
theorem bq8:ae7 X (.builtin "abs") (λ B H Q=>∃ i,B=[.int i]/\Q (.int (if i<0 then -i else i)) H):=by
 intro y s σ H B us Q I r h
 obtain⟨i,rfl,q⟩:=h
 obtain⟨u,rfl,t,rfl⟩:=am0 r
 exact call_abs_int λ u tk=>⟨.int (if i<0 then -i else i),H,I.tok _,⟨_,rfl⟩,q⟩
theorem bg1 (hc:X.calm=true):ae7 X (.builtin "max") (λ B H Q=>∃ i j,B=[.int i,.int j]/\Q (.int (if j > i then j else i)) H):=by
 intro y s σ H B us Q I r h
 obtain⟨i,j,rfl,q⟩:=h
 obtain⟨u,C,rfl,⟨t,rfl⟩,⟨t',rfl⟩⟩:=by5 r
 refine max_two_ints (I.ok.hd hc) λ h' tk k=>⟨_,H,I.kept k,?_,q⟩
 by_cases hj:j > i
 ·rw[if_pos hj,if_pos hj];exact⟨_,rfl⟩
 ·rw[if_neg hj,if_neg hj];exact⟨_,rfl⟩
theorem aW1 (hc:X.calm=true):ae7 X (.builtin "min") (λ B H Q=>∃ i j,B=[.int i,.int j]/\Q (.int (if j<i then j else i)) H):=by
 intro y s σ H B us Q I r h
 obtain⟨i,j,rfl,q⟩:=h
 obtain⟨u,C,rfl,⟨t,rfl⟩,⟨t',rfl⟩⟩:=by5 r
 refine min_two_ints (I.ok.hd hc) λ h' tk k=>⟨_,H,I.kept k,?_,q⟩
 by_cases hj:j<i
 ·rw[if_pos hj,if_pos hj];exact⟨_,rfl⟩
 ·rw[if_neg hj,if_neg hj];exact⟨_,rfl⟩
theorem bi3:ae7 X (.type "int") (λ y H Q=>(∃ i,y=[.int i]/\Q (.int i) H)\/∃ k,y=[.bl k]/\Q (.int (if k then 1 else 0)) H):=by
 intro B s σ H y us Q I r h
 rcases h with⟨i,rfl,q⟩|⟨k,rfl,q⟩
 ·obtain⟨u,rfl,t,rfl⟩:=am0 r
  exact call_int_int ⟨.int i,H,I,⟨_,rfl⟩,q⟩
 ·obtain⟨u,rfl,r1⟩:=am0 r
  cases r1
  exact call_int_bool ⟨.int (if k then 1 else 0),H,I.tok _,⟨_,rfl⟩,q⟩
end
structure ObjM (h:Heap)(x dx C:Addr)(mA:Str->Option Value):Prop where
 obj:h.get? x=some (fU C dx)
 ns:h.Ns1 dx mA
 ne:dx≠x
theorem aV1 {h:Heap}{C:Addr}{G:Str->Option Value}(n:h.Ns1 C G):∃ od,h.get? C=some od/\∀ name,gq name od=some (G name):=by
 obtain⟨o,es,Z,ho,hd,hk,_,Y⟩:=n
 refine⟨o,ho,λ name=>?_⟩
 have e:=Y name
 unfold nsFind findBy at e
 rw[<-Array.find?_toList]at e
 unfold gq
 rw[hd]
 dsimp only
 split
 ·rename_i y q
  rw[q]at e
  exact congrArg some e
 ·rename_i q
  rw[q]at e
  have a:es.toList.any (·.refKey)=false:=by
   rw[List.any_eq_false]
   intro y hy
   obtain⟨z,t,B⟩:=hk y (Array.mem_toList_iff.mp hy)
   simp[DictEntry.refKey,B]
  have J:¬ es.toList.any (·.refKey)=true:=by rw[a];exact aP
  rw[if_neg J]
  exact congrArg some e
theorem ObjM.look {h:Heap}{x y C:Addr}{B:Str->Option Value}(I:ObjM h x y C B):∃ od,PySem.W.InstAt h x (fU C y) C (some od)/\∀ name,gq name od=some (B name) :=
 let⟨od,ho,hl⟩:=aV1 I.ns
 ⟨od,⟨I.obj,rfl,rfl,ho⟩,hl⟩
section
variable {prog:aK} {w:World} {A:aU} {E:Value->af->Prop} {s:af} {K:ac} {x dx C f:Addr} {mA:Str->Option Value} {name:Str} {v:Value}
end
theorem ba2.some_of {v:V}{o:Option Value}(r:ba2 (some v) o):∃ u,o=some u/\RelV v u:=by
 cases o with
 | none=>exact(show False from r).elim
 | some u=>exact⟨u,rfl,r⟩
section
variable {P:aK} {w:World} {H H':Hp} {h h':Heap} {a C dx:Addr} {fs fs':List (Str×V)}
theorem bB3 (hok:HOk P w H h)(e:H a=some (.ins C dx fs)):∃ y,ObjM h a dx C y/\(∀ f,ba2 (fs.lookup f) (y f))/\j2 y (fs.map (·.1))/\fs.length<=1000/\H dx=some (.own a):=by
 obtain⟨d,z,ne,ob,y,n,r,q⟩:=(show ae5 P w H h a (.ins C dx fs)from hok a _ e)
 exact⟨y,⟨ob,n,ne⟩,r,q,z,d⟩
end
structure Cls (K:ac)(C:Addr):Prop where
 pg:iD K C Str.empty=true
 hd:PySem.W.hasDictIn K C=true
 po:PySem.W.plainOver K C=true
 sa:gr K (.ref C) "__setattr__"=some (some (.builtin "object.__setattr__"))
theorem Cls.get {K:ac}{C:Addr}(c:Cls K C)(f:Str):iD K C f=true:=c.pg
section
variable {X:Cx} {pins:List (Addr×Obj)} {σ:St} {H:Hp} {s:af} {a C dx:Addr} {fs:List (Str×V)} {f:Str} {v:V} {A:aU} {E:Value->af->Prop}
end
section
variable {X:Cx} {o e value:Expr} {f:Str} {pos pos' tpos:Pos} {ta tv:TE}
end
section
variable {X:Cx} {pins:List (Addr×Obj)} {σ:St} {H:Hp} {s:af} {A:aU} {E:Value->af->Prop} {Q:Value->af->Prop} {c:Value} {b:Bool}
inductive TyOf (K:ac)(H:Hp):V->Value->Prop where
 | non:TyOf K H .non (.type "NoneType")
 | bl (x:Bool):TyOf K H (.bl x) (.type "bool")
 | int (i:Int):TyOf K H (.int i) (.type "int")
 | str (x:Str):TyOf K H (.str x) (.type "str")
 | flt (x:UInt64):TyOf K H (.flt x) (.type "float")
 | lst {a:Addr} {xs:List V} (e:H a=some (.lst xs)):TyOf K H (.ref a) (.type "list")
 | frz {a:Addr} {o:Obj} {xs:List V} (e:H a=some (.frz o (.lst xs))):TyOf K H (.ref a) (.type "list")
 | tup {a:Addr} {xs:List V} (e:H a=some (.tup xs)):TyOf K H (.ref a) (.type "tuple")
 | dK {a:Addr} {kvs:List (Key×V)} (e:H a=some (.dK kvs)):TyOf K H (.ref a) (.type "dict")
 | dT {a:Addr} {kvs:List (List Key×V)} (e:H a=some (.dT kvs)):TyOf K H (.ref a) (.type "dict")
 | ins {a C dx:Addr} {fs:List (Str×V)} (e:H a=some (.ins C dx fs)) (cl:Cls K C) (ha:gr K (.ref C) "__class__"=some (some (.builtin "object.__class__")))
   (hn:PySem.W.specialIn K (.builtin "object.__class__") "__get__"=some (some (.builtin "getset_descriptor.__get__"))) (htk:PySem.W.takesIn K (.builtin "object.__class__")=some true)
   (hm:PySem.W.mroIn K C (.type "object")=some true):TyOf K H (.ref a) (.ref C)
theorem jk {x:V}{u t:Value}(I:Inv X pins σ H s)(B:RelV x u)(ty:TyOf X.K H x t)(e:cr X.K t c=some b)(h:∀ tk,Q (.bool b) { s with toks:=tk }) :
  wpAny (model X.prog X.w) A (call (.builtin "isinstance") [u,c]) Q E s:=by
 cases ty with
 | non=>cases(show u=Value.none from B);exact bB PySem.W.kitx_none I.kIn True.intro e (λ z=>nomatch z) h
 | bl y=>cases(show u=Value.bool y from B);exact bB PySem.W.kitx_bool I.kIn True.intro e (λ z=>nomatch z) h
 | int i=>obtain⟨t,q⟩:=(show ∃ t,u=Value.int i t from B);cases q;exact bB PySem.W.kitx_int I.kIn True.intro e (λ z=>nomatch z) h
 | str y=>obtain⟨t,q⟩:=(show ∃ t,u=Value.str y t from B);cases q;exact bB PySem.W.kitx_str I.kIn True.intro e (λ z=>nomatch z) h
 | flt y=>obtain⟨t,q⟩:=(show ∃ t,u=Value.float y t from B);cases q;exact bB PySem.W.kitx_float I.kIn True.intro e (λ z=>nomatch z) h
 | @lst a Y ea =>
  cases(show u=Value.ref a from B)
  obtain⟨_,_,n,_,G⟩:=(show ae5 X.prog X.w H s.heap a (.lst Y)from I.hok a _ ea)
  exact bB ir I.kIn ⟨_,G,rfl⟩ e (λ z=>nomatch z) h
 | @frz a ob Y ea =>
  cases(show u=Value.ref a from B)
  obtain⟨_,_,_,n,_,G⟩:=(show ae5 X.prog X.w H s.heap a (.frz ob (.lst Y))from I.hok a _ ea)
  exact bB ir I.kIn ⟨_,G,rfl⟩ e (λ z=>nomatch z) h
 | @tup a Y ea =>
  cases(show u=Value.ref a from B)
  obtain⟨_,_,_,p⟩:=(show ae5 X.prog X.w H s.heap a (.tup Y)from I.hok a _ ea)
  obtain⟨o,G,Z,_⟩:=p
  exact bB hJ I.kIn ⟨o,G,Z⟩ e (λ z=>nomatch z) h
 | @dK a kvs ea =>
  cases(show u=Value.ref a from B)
  obtain⟨_,_,vs,_,p⟩:=(show ae5 X.prog X.w H s.heap a (.dK kvs)from I.hok a _ ea)
  obtain⟨o,es,ep,G,Z,_⟩:=p
  exact bB iu I.kIn ⟨o,G,Z.1⟩ e (λ z=>nomatch z) h
 | @dT a kvs ea =>
  cases(show u=Value.ref a from B)
  obtain⟨_,_,Y,_,o,es,ep,G,Z,_⟩:=(show ae5 X.prog X.w H s.heap a (.dT kvs)from I.hok a _ ea)
  exact bB iu I.kIn ⟨o,G,Z.1⟩ e (λ z=>nomatch z) h
 | @ins a C dx fs ea cl ha hn htk hm =>
  cases(show u=Value.ref a from B)
  obtain⟨mA,O,_⟩:=bB3 I.hok ea
  obtain⟨od,J,_⟩:=O.look
  exact bB (PySem.W.kitx_own (cl.get _) cl.hd ha hn htk hm) I.kIn J e (λ z=>nomatch z) h
end
structure Room (k:Nat)(A:aU):Prop where
 hd:A.handled=none
 dp:A.depth+3*k+5<recursionLimit
 un:A.units+16*k+200<cLine
theorem Room.mono {j k:Nat}{A:aU}(r:Room k A)(h:j<=k):Room j A:=⟨r.hd,by have:=r.dp;omega,by have:=r.un;omega⟩
theorem Room.deeper {k:Nat}{A:aU}(r:Room (k+1) A)(env:Env):Room k (A.deeper env) :=
 ⟨r.hd,by have:=r.dp;show A.depth+1+3*k+5<_;omega,by have:=r.un;show A.units+3+16*k+200<_;omega⟩
theorem Room.in1 {k:Nat}{A:aU}(r:Room (k+1) A):Room k A.in1 :=
 ⟨r.hd,by have:=r.dp;show A.depth+3*k+5<_;omega,by have:=r.un;show A.units+1+16*k+200<_;omega⟩
theorem Room.depth {k:Nat}{A:aU}(r:Room k A):A.depth<recursionLimit:=by have:=r.dp;omega
theorem Room.units {k:Nat}{A:aU}(r:Room k A):A.units+64<cLine:=by have:=r.un;omega
theorem Room.units0 {k:Nat}{A:aU}(r:Room k A):A.units<cLine:=by have:=r.un;omega
def bm7:TA:=λ _ H Q=>Q [] H
def az9 (ta:TE)(tr:TA):TA:=λ σ H Q=>ta σ H λ x H1=>tr σ H1 λ xs H2=>Q (x::xs) H2
section
variable {X:Cx} {e:Expr} {es:List Expr} {te:TE} {t:TA} {pos:Pos}
theorem ag9:PA X [] bm7:=λ _ _ _ _ H Q I h=>Calls.spliced_nil ⟨[],H,I,.nil,h⟩
theorem qu (ha:PE X e te)(G:PA X es t)(hs:bj (e::es) X.env=(false,eval e X.env)::bj es X.env:=by rfl):PA X (e::es) (az9 te t):=by
 intro pos y s σ H Q I h
 rw[hs]
 show wpAny _ _ (spliced ((false,eval e X.env)::dq pos (bj es X.env))) _ _ s
 refine Calls.spliced_cons (thn (ha y s σ H _ I h) λ u s1 ⟨x,Y,B,r1,J⟩=>?_)
 exact thn (G pos y s1 σ Y _ B J) λ us s2 ⟨Z,H2,I2,C,q2⟩=>⟨x::Z,H2,I2,.cons r1 C,q2⟩
def ck7 (t:TA):TE:=λ σ H Q=>t σ H λ xs H1=>xs.length<=aL/\∀ p,H1 p=none->Q (.ref p) (upd H1 p (.tup xs))
def cn4 (t:TA):TE:=λ σ H Q=>t σ H λ xs H1=>xs.length<=aL/\∀ p,H1 p=none->Q (.ref p) (upd H1 p (.lst xs))
theorem bL4 {x1}(h:PA X es t):PE X (.Tuple es x1 pos) (ck7 t):=by
 intro y s σ H Q I hq
 refine wpAny_Tuple_spliced (thn (h pos y s σ H _ I hq) λ us s1 ⟨J,C,B,r,z,q⟩=>⟨by rw[<-r.length];exact z,?_⟩)
 have G:C s1.heap.objs.size=none:=B.hok.fresh (ah _)
 refine⟨.ref s1.heap.objs.size,upd C s1.heap.objs.size (.tup J),B.laid (t':=s1.toks) (λ b u e=>ai _ e) (ah _) ?_,rfl,q _ G⟩
 exact⟨z,us,r,⟨_,aN _ rfl,rfl,_,rfl⟩⟩
theorem bu7 (h:PA X es t):PE X (.List es pos) (cn4 t):=by
 intro y s σ H Q I hq
 refine wpAny_List_spliced (thn (h pos y s σ H _ I hq) λ us s1 ⟨J,C,B,r,z,q⟩=>⟨by rw[<-r.length];exact z,?_⟩)
 have G:C s1.heap.objs.size=none:=B.hok.fresh (ah _)
 refine⟨.ref s1.heap.objs.size,upd C s1.heap.objs.size (.lst J),B.laid (t':=s1.toks) (λ b u e=>ai _ e) (ah _) ?_,rfl,q _ G⟩
 exact⟨z,us,0,r,aN _ rfl⟩
end
abbrev Sp:=List V->Hp->VK->XK->Prop
abbrev CXT:=List Env->Hp->af->XK->Value->af->Prop
structure Env0 (P:aK)(w:World)(K:ac)(mg:Str->Option Value)(base:Heap)(A:aU)(outer:List Env)(s:af)(H:Hp):Prop where
 frames:A.frames=some outer
 mod:Mod K mg base
 bs:∀ b o,base.get? b=some o->s.heap.get? b=some o/\H b=none
 bsz:base.objs.size<=s.heap.objs.size
 funs:s.heap.FunFrames base outer
 frf:∀ b∈frs outer,H b=none
 hok:HOk P w H s.heap
 bare:eO s.gens
def CE (outer:List Env)(P:aK)(w:World)(H:Hp)(s:af)(Q:VK)(u:Value)(s':af):Prop :=
 ∃ v H',s'.os=s.os/\eO s'.gens/\Un (frs outer) [] H H' s.heap s'.heap/\HOk P w H' s'.heap/\RelV v u/\Q v H'
def CR (CX:CXT)(outer:List Env)(P:aK)(w:World)(H:Hp)(s:af)(Q:VK)(E:XK)(r:Result)(s':af):Prop :=
 match r with
 | .ok (.ret u)=>CE outer P w H s Q u s'
 | .ok _=>False
 | .error e=>CX outer H s E e s'
structure FnOk (P:aK)(w:World)(K:ac)(mg:Str->Option Value)(base:Heap)(CX:CXT)(k:Nat)(f:Addr)(fd:bz)(ps:List Str)(sp:Sp):Prop where
 len:∀ vs H Q E,sp vs H Q E->vs.length=ps.length
 run:∀(A:aU) (outer:List Env) (s:af) (H:Hp) (args:Args) (us:List Value) (vs:List V) (Q:VK) (E:XK),Room k A->Env0 P w K mg base A outer s H->iV s fd args (ps.zip us)->Vals vs us->sp vs H Q E ->
  eP (model P w) A (.call (.ref f) args) (CR CX outer P w H s Q E) s
theorem FnOk.imp {P:aK}{w:World}{K:ac}{mg:Str->Option Value}{y:Heap}{C:CXT}{k:Nat}{f:Addr}{G:bz}{ps:List Str}{sp B:Sp}(F:FnOk P w K mg y C k f G ps sp)
  (h:∀ vs H Q E,B vs H Q E->sp vs H Q E):FnOk P w K mg y C k f G ps B :=
 ⟨λ vs H Q E q=>F.len vs H Q E (h _ _ _ _ q),λ A outer s H args us vs Q E J Y hb hv hs=>F.run A outer s H args us vs Q E J Y hb hv (h _ _ _ _ hs)⟩
section
variable {X:Cx} {pins:List (Addr×Obj)} {σ:St} {H:Hp} {s s':af}
theorem Inv.env0 (I:Inv X pins σ H s):Env0 X.prog X.w X.K X.mg X.base X.A X.stack s H :=
 ⟨I.ok.frames,I.ok.mod,I.bs,aw I.ok.bsz I.sz,I.stack,I.stkFree,I.hok,I.bare⟩
theorem Inv.after {Q:VK}{u:Value}(I:Inv X pins σ H s)(h:CE X.stack X.prog X.w H s Q u s'):EP X pins σ Q u s':=by
 obtain⟨v,H',os,bare,un,hok,r,q⟩:=h
 obtain⟨B,g,d,t,y⟩:=s'
 obtain rfl:y=s.os:=os
 exact⟨v,H',I.call (h':=B) (g':=g) (d':=d) (t':=t) (ch:=[]) un hok bare (λ b z=>absurd z (by simp)),r,q⟩
end
def aT1 (sp:Sp)(dvs:List V)(E:XK)(t:TA):TE:=λ σ H Q=>t σ H λ vs H1=>sp (vs++dvs) H1 Q E
def Binds (K:ac)(fd:bz)(ps:List Str)(ds:List Value):Prop :=
 ∀(s:af) (us:List Value),K.In s.heap->(us++ds).length=ps.length->iV s fd ⟨us,[]⟩ (ps.zip (us++ds))
theorem Binds.all {K:ac}{y:bz}{ps:List Str}(h:∀ us:List Value,us.length=ps.length->dP y ⟨us,[]⟩=pure (ps.zip us)):Binds K y ps []:=λ s us _ hl=>by
 rw[bC]at hl ⊢
 exact .of_eq (h us hl)
def aM3 (CX:CXT)(X:Cx)(E:XK):Prop:=∀(pins:List (Addr×Obj)) (σ:St) (H:Hp) (s:af) (e:Value) (s':af),Inv X pins σ H s->CX X.stack H s E e s'->X.xe e s'
section
variable {X:Cx} {CX:CXT} {k:Nat} {f C:Addr} {fd:bz} {ps:List Str} {sp:Sp} {dvs:List V} {ds:List Value} {E:XK} {x m:Str} {p pos apos:Pos} {e o:Expr} {es:List Expr} {ta:TE} {t:TA}
theorem bs6 {y:List (Addr×Obj)}{σ:St}{H:Hp}{s:af}{Q:VK}{us:List Value}{vs:List V}(F:FnOk X.prog X.w X.K X.mg X.base CX k f fd ps sp)(C:Room k X.A)(hb:Binds X.K fd ps ds)(hd:Vals dvs ds)(hx:aM3 CX X E)
  (I:Inv X y σ H s) (r:Vals vs us) (h:sp (vs++dvs) H Q E):wpAny (model X.prog X.w) X.A (call (.ref f) us) (EP X y σ Q) X.xe s:=by
 have B:Vals (vs++dvs) (us++ds):=r.append hd
 have hl:(us++ds).length=ps.length:=by rw[<-B.length];exact F.len _ _ _ _ h
 refine i3 (d5 (F.run X.A X.stack s H ⟨us,[]⟩ (us++ds) (vs++dvs) Q E C I.env0 (hb s us I.kIn hl) B h) λ r s' hq=>?_)
 cases r with
 | error e=>exact hx y σ H s e s' I hq
 | ok fl =>
  cases fl with
  | ret u=>exact I.after hq
  | next=>exact bw hq
  | brk=>exact bw hq
  | cont=>exact bw hq
theorem bw8 (F:FnOk X.prog X.w X.K X.mg X.base CX k f fd ps sp)(Y:Room k X.A)(Z:Gl X x)(hm:X.mg x=some (.ref f))(hk:b8 X.K (.ref f)=true)(hb:Binds X.K fd ps ds)(hd:Vals dvs ds)(hx:aM3 CX X E)
  (ha:PA X (e::es) t) (B:(x==("__debug__":Str))=false:=by decide) (J:bj (e::es) X.env=(false,eval e X.env)::bj es X.env:=by rfl) (C:(dq pos (bj es X.env)).any (·.1)=false:=by rfl) :
  PE X (.Call (.Name x p) (e::es) [] pos) (aT1 sp dvs E t):=by
 intro y s σ H Q I h
 refine bZ (av9 I Z hm ?_ B)
 refine hU (h₀:=X.base) I.ok.mod.kin hk (thn (ha pos y s σ H _ I h) λ us s1 ⟨vs,H1,G,r,q⟩=>⟨G.kIn,?_⟩) J C
 exact bs6 F Y hb hd hx G r q
theorem bn9 (F:FnOk X.prog X.w X.K X.mg X.base CX k f fd ps sp)(C:Room k X.A)(G:Gl X x)(J:X.mg x=some (.ref f))(hk:b8 X.K (.ref f)=true)(hb:Binds X.K fd ps ds)(hd:Vals dvs ds)(hx:aM3 CX X E)
  (y:(x==("__debug__":Str))=false:=by decide):PE X (.Call (.Name x p) [] [] pos) (aT1 sp dvs E bm7):=by
 intro B s σ H Q I h
 refine bZ (av9 I G J ?_ y)
 exact PySem.W.callWith_K0 I.kIn hk (bs6 (us:=[]) F C hb hd hx I .nil h)
structure Mk (K:ac)(C f:Addr):Prop where
 makes:PySem.W.makesIn K C=true
 init:gr K (.ref C) "__init__"=some (some (.ref f))
 fn:PySem.W.isFn K (.ref f)=true
 kp:b8 K (.ref C)=true
end
section
variable {X:Cx} {CX:CXT} {k:Nat} {f C:Addr} {fd:bz} {ps ks:List Str} {sp:Sp} {E:XK} {x m:Str} {p pos apos kpos:Pos} {e o:Expr} {es:List Expr} {kws:List iW} {te ta:TE} {t tk:TA} {nm:Option Str}
variable {g:List Value->List Value->List Value} {gV:List V->List V->List V}
end
structure FnScope (N P:List Str)(sc:Scope):Prop where
 kind:sc.kind=.function
 co:sc.isCoroutine=false
 gen:sc.isGenerator=false
 nd:N.Nodup
 pre:N.take P.length=P
 par:∀ x∈P,sc.names.lookup x=some .local\/sc.names.lookup x=some .cell
 nofree:∀ y∈sc.names,y.2≠.free
theorem aF6 {dD:Str->Option bG}{x:Str}:∀ {binds:List (Str×Value)} {m:Str->Option Value},(∀ v,(x,v) ∉ binds)->bindL dD binds m x=m x
 | [],_,_=>rfl
 | (n,v)::r,m,h=>by
  unfold bindL
  rw[aF6 λ w hw=>h w (au _ hw)]
  split
  ·have:x≠n:=by rintro rfl;exact h v aD
   simp[this]
  ·rfl
theorem aF7 {dD:Str->Option bG}{x:Str}:∀ {binds:List (Str×Value)} {m:Str->Option Value},(∀ v,(x,v) ∉ binds)->bindC dD binds m x=m x
 | [],_,_=>rfl
 | (n,v)::r,m,h=>by
  unfold bindC
  rw[aF7 λ w hw=>h w (au _ hw)]
  split
  ·rfl
  ·have:x≠n:=by rintro rfl;exact h v aD
   simp[this]
theorem aq8 {dD:Str->Option bG}{x:Str}{v:Value}:∀ {P:List Str} {vs:List Value} {i:Nat} {m:Str->Option Value},P.Nodup->P[i]?=some x->vs[i]?=some v->dD x=some .local ->
  bindL dD (P.zip vs) m x=some v
 | [],_,_,_,_,h,_,_=>by simp at h
 | _::_,[],_,_,_,_,h,_=>by simp at h
 | p::P,w::vs,0,m,nd,h1,h2,hk=>by
  simp at h1 h2;subst h1;subst h2
  show bindL dD ((p,w)::P.zip vs) m p=_
  unfold bindL
  rw[aF6 λ v hv=>(cG.mp nd).1 (da hv).1,if_pos hk]
  simp
 | p::P,w::vs,i+1,m,nd,h1,h2,hk=>by
  show bindL dD ((p,w)::P.zip vs) m x=_
  unfold bindL
  exact aq8 (i:=i) (cG.mp nd).2 (by simpa using h1) (by simpa using h2) hk
theorem ap4 {dD:Str->Option bG}{x:Str}{v:Value}:∀ {P:List Str} {vs:List Value} {i:Nat} {m:Str->Option Value},P.Nodup->P[i]?=some x->vs[i]?=some v->dD x≠some .local ->
  bindC dD (P.zip vs) m x=some v
 | [],_,_,_,_,h,_,_=>by simp at h
 | _::_,[],_,_,_,_,h,_=>by simp at h
 | p::P,w::vs,0,m,nd,h1,h2,hk=>by
  simp at h1 h2;subst h1;subst h2
  show bindC dD ((p,w)::P.zip vs) m p=_
  unfold bindC
  rw[aF7 λ v hv=>(cG.mp nd).1 (da hv).1,if_neg hk]
  simp
 | p::P,w::vs,i+1,m,nd,h1,h2,hk=>by
  show bindC dD ((p,w)::P.zip vs) m x=_
  unfold bindC
  exact ap4 (i:=i) (cG.mp nd).2 (by simpa using h1) (by simpa using h2) hk
noncomputable def aj9 (N:List Str)(vs:List V):St:=vs.map some++ak (N.length - vs.length) none
noncomputable def bq0 (CX:CXT)(P:aK)(w:World)(K:ac)(mg:Str->Option Value)(base:Heap)(N:List Str)(qual:Str)(scope:Scope)(f:Addr)(cd:Value)(A:aU)(outer:List Env)(s:af)(H:Hp)(E:XK):Cx where
 prog:=P
 w:=w
 K:=K
 mg:=mg
 base:=base
 A:=A.deeper (e8 qual scope s.heap.objs.size f cd)
 N:=N
 s₀:=s
 H₀:=H
 env:=e8 qual scope s.heap.objs.size f cd
 outer:=outer
 stack:=e8 qual scope s.heap.objs.size f cd::outer
 ex:=[]
 calm:=true
 fn:=λ _=>true
 pn:=[]
 xe:=λ e s'=>wpAny (model P w) (A.deeper (e8 qual scope s.heap.objs.size f cd)) (leaving (e8 qual scope s.heap.objs.size f cd) e) (λ _ s''=>CX outer H s E e s'') (λ e' s''=>CX outer H s E e' s'') s'
theorem qr {sc:Scope}{n:Nat}{x:Str}(h:sc.names.lookup x=some .cell):∃ c,(aJ n sc.names []).lookup x=some c:=by
 have q:=fF sc.names n [] (.inl h)
 exact e9.mp q
theorem aY6 {CX:CXT}{P:aK}{w:World}{K:ac}{mg:Str->Option Value}{C:Heap}{N ps:List Str}{qual:Str}{scope:Scope}{f:Addr}{cd:Value}{A:aU}{outer:List Env}{s s1:af}{H:Hp}{E:XK}{us:List Value}{vs:List V}
  (S:FnScope N ps scope) (hd:A.handled=none) (G:Env0 P w K mg C A outer s H) (hl:vs.length=ps.length) (r:Vals vs us)
  (x:eQ s s.heap.objs.size (bindL (e8 qual scope s.heap.objs.size f cd).kindOf (ps.zip us) λ _=>none) (aJ (s.heap.objs.size+1) scope.names []) (bindC (e8 qual scope s.heap.objs.size f cd).kindOf (ps.zip us) λ _=>none) s1) :
  Inv (bq0 CX P w K mg C N qual scope f cd A outer s H E) [] (aj9 N vs) H s1:=by
 have a0:ps.length<=N.length:=by have:=congrArg gu S.pre;rw[dE]at this;omega
 obtain⟨h1,tk,rfl,hk⟩:=x.done
 have J:∀ b:Addr,b ∉ (bq0 CX P w K mg C N qual scope f cd A outer s H E).ex:=λ b z=>absurd (show b∈([]:List Addr)from z) (by simp)
 refine⟨⟨G.mod,S.kind,rfl,rfl,ah _,λ y z c h1 B=>?_,λ y hy=>?_,λ y c _ h=>?_,λ _=>hd,gv G.frames,.inr ⟨rfl,rfl⟩,λ b z=>absurd z (J b),G.bs,G.bsz,λ b _ _=>J b,λ b z=>absurd z (J b),G.funs,G.frf⟩,
  rfl,G.bare,Un.kept hk,⟨_,x.toInCall.ns,λ i y v h1 B h3=>?_⟩,λ y c h=>⟨_,x.cell y c h⟩,G.hok.fresh (ah _),λ y c h=>?_,λ p Z=>absurd (show p∈([]:List (Addr×Obj))from Z) (by simp),G.hok.kept hk,?_⟩
 ·exact fG x.apart (aC h1) (aC B)
 ·have hy:scope.names.lookup y=some .cell\/scope.names.lookup y=some .free:=hy
  rcases hy with hy|hy
  ·exact qr hy
  ·exact absurd rfl (S.nofree _ (aC hy))
 ·exact cU (x.above y c (aC h))
 ·have hi:i<vs.length:=by
   unfold aj9 at B
   by_cases hi:i<vs.length
   ·exact hi
   ·rw[aj (by simpa using hi)]at B
    rw[fj]at B
    split at B<;>cases B
  have ha:vs[i]?=some v:=by
   unfold aj9 at B
   rw[aG (by simpa using hi),ax]at B
   cases e:vs[i]? with
   | none=>rw[e]at B;cases B
   | some a=>rw[e]at B;cases B;rfl
  obtain⟨u,hu,rv⟩:=r.get ha
  have Z:ps[i]?=some y:=by
   rw[<-S.pre,List.getElem?_take_of_lt (by omega)];exact h1
  have Y:ps.Nodup:=by rw[<-S.pre];exact S.nd.sublist (List.take_sublist _ _)
  refine⟨u,rv,?_⟩
  rcases S.par y (aV Z)with k|k
  ·exact .inl ⟨k,aq8 Y Z hu k⟩
  ·obtain⟨c,e⟩:=qr (n:=s.heap.objs.size+1) k
   refine .inr ⟨.inl k,c,e,?_⟩
   have q:=x.cell y c e
   rw[ap4 Y Z hu (by show scope.names.lookup y≠_;rw[k];decide)]at q
   exact q
 ·exact G.hok.fresh (cU (x.above y c (aC h)))
 ·unfold aj9
  show _=N.length
  rw[aZ,aF,List.length_replicate]
  omega
theorem bS4 {CX:CXT}{P:aK}{w:World}{K:ac}{mg:Str->Option Value}{base:Heap}{k:Nat}{f:Addr}{name qual:Str}{params:a8}{body:List Stmt}{scope:Scope}{dV kV Z pm h ct oc:Value}{an od:Option Addr}
  {a1:Array (Option Value)} {N ps:List Str} {sp:Sp} (lk:K.lookup f=some ⟨oc,od,.func (cC name qual params body scope dV kV Z pm an h ct),a1⟩) (a0:eB K h qual=true) (S:FnScope N ps scope)
  (len:∀ vs H Q E,sp vs H Q E->vs.length=ps.length)
  (C:∀(A:aU) (outer:List Env) (s:af) (H:Hp) (vs:List V) (Q:VK) (E:XK),Room k (A.deeper (e8 qual scope s.heap.objs.size f h))->sp vs H Q E ->
   ∃ t,PSs (bq0 CX P w K mg base N qual scope f h A outer s H E) body t/\t { nx:=λ _ H'=>Q .non H',rt:=Q } (aj9 N vs) H) :
  FnOk P w K mg base CX (k+1) f (cC name qual params body scope dV kV Z pm an h ct) ps sp:=by
 refine⟨len,λ A outer s H args us vs Q E hr G hb r Y=>?_⟩
 have hl:=len _ _ _ _ Y
 have KX:K.In s.heap:=G.mod.kin.keeps λ b o e=>(G.bs b o e).1
 have a2:s.heap.NoLimit:=G.mod.nolimit.keeps λ b o e=>(G.bs b o e).1
 have B:∀ y∈ps.zip us,scope.names.lookup y.1=some .local\/(scope.names.lookup y.1=some .cell/\((aJ (s.heap.objs.size+1) scope.names []).lookup y.1).isSome=true):=λ⟨n,v⟩ hy=>by
  rcases S.par n (da hy).1 with q|q
  ·exact .inl q
  ·exact .inr ⟨q,fF _ _ _ (.inl q)⟩
 refine gf hr.depth (KX _ _ lk) rfl S.co S.gen rfl (PySem.W.codeRec_of KX a0) (hb _ _ _ _ ?_)
 refine wpAny_newFunctionEnv_cells S.kind B λ env he s1 x=>?_
 subst he
 refine⟨a2.keeps x.toInCall.keep,codeAny_func ?_⟩
 obtain⟨t,ht,hq⟩:=C A outer s H vs Q E (hr.deeper _) Y
 have I:Inv (bq0 CX P w K mg base N qual scope f h A outer s H E) [] (aj9 N vs) H s1:=aY6 S hr.hd G hl r x
 refine cf (ht [] s1 (aj9 N vs) H _ I hq) (λ fl s' hs=>?_) λ e s' hs=>hs
 have fin:∀ {σ':St} {H':Hp} {v:V} {u:Value},Inv (bq0 CX P w K mg base N qual scope f h A outer s H E) [] σ' H' s'->RelV v u->Q v H'->CE outer P w H s Q u s' :=
  λ {σ' H' v u} J rv q=>⟨v,H',J.os,J.bare,J.base,J.hok,rv,q⟩
 cases fl with
 | ret u =>
  obtain⟨v,σ',H',J,rv,q⟩:=hs
  exact fin J rv q
 | next =>
  obtain⟨σ',H',J,q⟩:=hs
  exact fin (v:=V.non) (u:=Value.none) J rfl q
 | brk =>
  obtain⟨_,_,_,q⟩:=hs
  exact bw q
 | cont =>
  obtain⟨_,_,_,q⟩:=hs
  exact bw q
section
variable {X:Cx} {x:Str} {p pos:Pos} {e:Expr} {es:List Expr} {t:TA} {id T:String} {r:List V->Hp->VK->Prop}
def tCB (r:List V->Hp->VK->Prop)(t:TA):TE:=λ σ H Q=>t σ H λ vs H1=>r vs H1 Q
theorem av3 (hc:ae7 X (.builtin id) r)(Y:Gl X x)(hm:X.mg x=none)(hv:be x=some (.builtin id))(ha:PA X (e::es) t)(hn:x ≠ "__name__":=by decide)(B:(x==("__debug__":Str))=false:=by decide)
  (J:bj (e::es) X.env=(false,eval e X.env)::bj es X.env:=by rfl) (C:(dq pos (bj es X.env)).any (·.1)=false:=by rfl):PE X (.Call (.Name x p) (e::es) [] pos) (tCB r t):=by
 intro y s σ H Q I h
 refine bZ (aA6 I Y hm hv ?_ hn B)
 exact PyProof.Rows.callWith_builtin1 (thn (ha pos y s σ H _ I h) λ us s1 ⟨vs,H1,G,r1,Z⟩=>hc y s1 σ H1 vs us Q G r1 Z) J C
theorem aq0 (hc:ae7 X (.type T) r)(Y:Gl X x)(hm:X.mg x=none)(hv:be x=some (.type T))(ha:PA X (e::es) t)(hn:x ≠ "__name__":=by decide)(B:(x==("__debug__":Str))=false:=by decide)
  (J:bj (e::es) X.env=(false,eval e X.env)::bj es X.env:=by rfl) (C:(dq pos (bj es X.env)).any (·.1)=false:=by rfl):PE X (.Call (.Name x p) (e::es) [] pos) (tCB r t):=by
 intro y s σ H Q I h
 refine bZ (aA6 I Y hm hv ?_ hn B)
 exact d4 (thn (ha pos y s σ H _ I h) λ us s1 ⟨vs,H1,G,r1,Z⟩=>hc y s1 σ H1 vs us Q G r1 Z) J C
end
end L2
end
noncomputable section
namespace HT
open PySem PyProof.Rows
section
open PySem.SeqAt
open PySem.AutoSeq1 (wpAny_loadPart')
open PySem.MeetsSeq PySem.MeetsSeq2 PySem.MeetsSeq3
end
section
variable {prog:aK} {w:World} {A:aU} {E:Value->af->Prop} {s:af}
theorem cat_tup {t b:Addr}{vs ws:List Value}{Q:Value->af->Prop}(ht:IsTup s.heap t vs.toArray)(hb:IsTup s.heap b ws.toArray)(hv:vs≠[])
  (h1:ws=[]->Q (.ref t) s) (Z:ws≠[]->Q (.ref s.heap.objs.size) { s with heap:=s.heap.push { cls:=.type "tuple",data:=.seq (vs++ws).toArray } })
  (hsz:vs.length+ws.length<=aL):wpAny (model prog w) A (bV .Add (.ref t) (.ref b)) Q E s:=by
 obtain⟨⟨cls,dd,data,sl⟩,ho,hc,n,hd⟩:=id ht
 obtain⟨⟨Y,y,J,G⟩,h,B,n2,C⟩:=id hb
 simp only at hc hd B C
 subst hc hd B C
 have e:vs.toArray++ws.toArray=(vs++ws).toArray:=by simp
 by_cases hw:ws=[]
 ·exact iw ⟨_,ho,rfl⟩ ⟨_,h,rfl⟩ fm gX dr dj (c7 _ _)
   (tuple_addW1 t b vs.toArray ws.toArray n n2 dd y sl G (by simpa using hv) (by simp[hw])) ⟨ho,h,h1 hw⟩
 ·refine iw ⟨_,ho,rfl⟩ ⟨_,h,rfl⟩ fm gX dr dj (c7 _ _)
   (tuple_addW2 t b vs.toArray ws.toArray n n2 dd y sl G (by simpa using hv) (by simpa using hw) (by rw[aA,aA];exact hsz)) ⟨ho,h,?_⟩
  rw[e]
  exact Z hw
end
end HT
noncomputable section
namespace L2
open PySem PySem.Spec PyProof.Rows
abbrev TO:=St->Hp->(Option Int->Hp->Prop)->Prop
section
variable {X:Cx} {e:Expr} {te:TE} {lo hi:Option Expr} {tl th:TO} {pos p2:Pos}
def cc9 (K:ac):R2:=λ x y H Q=>∃ a b xs ys,x=.ref a/\y=.ref b/\SqT K H a xs/\SqT K H b ys/\xs≠[]/\xs.length+ys.length<=aL /\
 (ys=[]->Q (.ref a) H)/\(ys≠[]->∀ p,H p=none->Q (.ref p) (upd H p (.tup (xs++ys))))
theorem Vals.nil_iff {h:List V}{us:List Value}(r:Vals h us):us=[]↔h=[]:=by
 cases r with
 | nil=>simp
 | cons _ _=>simp
theorem bC5:OpR X (bV .Add) (cc9 X.K):=by
 intro C s σ H x y v u Q I rx ry h
 obtain⟨a,b,Z,ys,rfl,rfl,ha,hb,hx,hz,q1,q2⟩:=h
 cases rx
 cases ry
 obtain⟨its,r1,J,_⟩:=I.tuple ha
 obtain⟨G,B,Y,_⟩:=I.tuple hb
 refine HT.cat_tup J Y (λ z=>hx (r1.nil_iff.mp z)) (λ z=>⟨.ref a,H,I,rfl,q1 (B.nil_iff.mp z)⟩) (λ z=>?_) (by rw[<-r1.length,<-B.length];exact hz)
 refine⟨.ref s.heap.objs.size,_,I.laid (t':=s.toks) (o:=.tup (Z++ys)) (λ b ob q=>ai _ q) (ah _) ?_,rfl,q2 (λ w=>z (B.nil_iff.mpr w)) _ (I.hok.fresh (ah _))⟩
 exact⟨by rw[aZ];exact hz,_,r1.append B,jZ _ _⟩
end
noncomputable def ixN (n:Nat)(i:Int):Option Nat:=if 0<=i then(if i<n then some i.toNat else none)else if -(n:Int)<=i then some (i+n).toNat else none
noncomputable def atI {α:Type}(xs:List α)(i:Int):Option α:=(ixN xs.length i).bind λ j=>xs[j]?
theorem aU7 {n:Nat}{i:Int}{j:Nat}(h:ixN n i=some j):seqIndex? i n=some j/\j<n/\-(n:Int)<=i/\i<n:=by
 unfold ixN at h
 by_cases h0:0<=i
 ·rw[if_pos h0]at h
  by_cases h1:i<n
  ·rw[if_pos h1]at h
   have e:i.toNat=j:=ao h
   exact⟨by rw[iL h0 h1,e],by omega,by omega,h1⟩
  ·rw[if_neg h1]at h;cases h
 ·rw[if_neg h0]at h
  by_cases h1:-(n:Int)<=i
  ·rw[if_pos h1]at h
   have e:(i+n).toNat=j:=ao h
   exact⟨by rw[iy (by omega) h1,e],by omega,h1,by omega⟩
  ·rw[if_neg h1]at h;cases h
theorem aJ7 {α:Type}{y:List α}{i:Int}{v:α}(h:atI y i=some v):∃ j,seqIndex? i y.length=some j/\y[j]?=some v/\j<y.length/\-(y.length:Int)<=i/\i<y.length:=by
 unfold atI at h
 cases e:ixN y.length i with
 | none=>rw[e]at h;cases h
 | some j =>
  rw[e]at h
  obtain⟨G,B,h3,C⟩:=aU7 e
  exact⟨j,G,h,B,h3,C⟩
def bh8 (b:Expr):Prop:=∀ o i,subscripted b false o i=operate [o,i] (getItem o i)
def IxR (X:Cx)(r:R2):Prop :=
 ∀(value slice:Expr) (pins:List (Addr×Obj)) (s:af) (σ:St) (H:Hp) (x y:V) (v u:Value) (Q:VK),Inv X pins σ H s->RelV x v->RelV y u->r x y H Q ->
  subscripted slice false v u=operate [v,u] (getItem v u)->wpAny (model X.prog X.w) X.A (subscriptTail value slice v u) (EP X pins σ Q) X.xe s
def MtR (X:Cx)(id:String)(r:V->List V->Hp->VK->Prop):Prop :=
 ∀(pins:List (Addr×Obj)) (s:af) (σ:St) (H:Hp) (x:V) (xs:List V) (v:Value) (us:List Value) (Q:VK),Inv X pins σ H s->RelV x v->Vals xs us->r x xs H Q ->
  wpAny (model X.prog X.w) X.A (call (.builtin id) (v::us)) (EP X pins σ Q) X.xe s
section
variable {X:Cx} {a b:Expr} {ta tb:TE} {pos:Pos}
theorem cf9 {r:R2}(C:IxR X r)(ha:PE X a ta)(hb:PE X b tb)(hs:bh8 b):PE X (.Subscript a b pos) (tOp r ta tb):=by
 intro B s σ H Q I h
 exact Subscript_ (cf0 ha hb I h λ v u s2 x y H2 I2 G J q=>C a b B s2 σ H2 x y v u Q I2 G J q (hs _ _))
def cl5 (K:ac):R2:=λ x y H Q=>∃ p xs i v,x=.ref p/\y=.int i/\SqL K H p xs/\atI xs i=some v/\Q v H
def ck4 (K:ac):R2:=λ x y H Q=>∃ p xs i v,x=.ref p/\y=.int i/\SqT K H p xs/\atI xs i=some v/\Q v H
def cn1:R2:=λ x y H Q=>∃ z i c,x=.str z/\y=.int i/\z.length<=aL/\atI z.cps.toList i=some c/\Q (.str ⟨#[c]⟩) H
theorem bI5:IxR X (cl5 X.K):=by
 intro J G B s σ H x y v u Q I rx ry h hs
 obtain⟨p,xs,i,z,rfl,rfl,hq,he,q⟩:=h
 cases rx
 obtain⟨t,rfl⟩:=ry
 obtain⟨its,r,Z,hz⟩:=I.list hq
 obtain⟨j,C,h2,h3,h4,h5⟩:=aJ7 he
 obtain⟨w,ew,Y⟩:=r.get h2
 have hl:=r.length
 have hn:=ao7
 have fin:EP X B σ Q w s:=⟨z,H,I,Y,q⟩
 by_cases h0:0<=i
 ·have hj:i.toNat=j:=by
   rw[iL h0 h5]at C
   exact ao C
  exact item_listR Z.isList h0 (by omega) (by rw[hj];simpa using ew) fin hs
 ·have hj:(i+(its.toArray.size:Int)).toNat=j:=by
   rw[iy (by omega) h4]at C
   rw[aA,<-hl]
   exact ao C
  exact fH (x:=w) Z.isList.typeIs slot_list_getitem.lookup
   (wpAny_getItem_list_neg (Q:=λ r s'=>r=w/\EP X B σ Q r s') Z.isList (by omega) (by rw[aA]<;>omega) (by omega) (by rw[hj];simpa using ew) ⟨rfl,fin⟩) hs
theorem ix_tup:IxR X (ck4 X.K):=by
 intro G C B s σ H x y v u Q I rx ry h hs
 obtain⟨p,xs,i,z,rfl,rfl,hq,he,q⟩:=h
 cases rx
 obtain⟨t,rfl⟩:=ry
 obtain⟨its,r,Y,hz⟩:=I.tuple hq
 obtain⟨j,h1,Z,h3,h4,h5⟩:=aJ7 he
 obtain⟨w,ew,J⟩:=r.get Z
 have hl:=r.length
 have hn:=ao7
 have fin:EP X B σ Q w s:=⟨z,H,I,J,q⟩
 exact fH (x:=w) Y.typeIs slot_tuple_getitem.lookup
  (getItem_tuple (j:=j) (Q:=λ r s'=>r=w/\EP X B σ Q r s') Y (by omega) (by omega) (by rw[aA,<-hl];exact h1) (by simpa using ew) ⟨rfl,fin⟩) hs
theorem ix_str:IxR X cn1:=by
 intro C B J s σ H x y v u Q I rx ry h hs
 obtain⟨z,i,c,rfl,rfl,hz,he,q⟩:=h
 obtain⟨t,rfl⟩:=rx
 obtain⟨t',rfl⟩:=ry
 obtain⟨j,G,Y,h3,h4,Z⟩:=aJ7 he
 have hl:z.cps.toList.length=z.length:=by simp[Str.length]
 rw[hl]at G h4 Z
 have hn:=ao7
 exact tail_any (typeIs_str s z t) slot_str_getitem.lookup (getItem_str (c:=c) (by
  have e1:decide (i < -(2^63:Int))=false:=decide_eq_false (by omega)
  have e2:decide (i ≥ 2^63)=false:=decide_eq_false (by omega)
  rw[e1,e2,Bool.or_false]) (by rw[G];simpa using Y) ⟨.str ⟨#[c]⟩,H,I.tok _,⟨_,rfl⟩,q⟩) hs
theorem aS2 (its:List Value)(n j:Nat)(u:Value):fI (·.setIfInBounds j u) { cls:=.type "list",data:=.seq its.toArray n }={ cls:=.type "list",data:=.seq (its.set j u).toArray n }:=by
 simp[fI]
theorem Inv.lst {y:List (Addr×Obj)}{σ:St}{H:Hp}{s:af}{p:Addr}{B:List V}(I:Inv X y σ H s)(h:H p=some (.lst B)) :
  ∃(its:List Value) (n:Nat),Vals B its/\s.heap.get? p=some { cls:=.type "list",data:=.seq its.toArray n }/\B.length<=aL:=by
 obtain⟨z,its,n,r,e⟩:=I.hok p _ h
 exact⟨its,n,r,e,z⟩
theorem Inv.lstUpd {y:List (Addr×Obj)}{σ:St}{H:Hp}{s:af}{p:Addr}{G ys:List V}{its its':List Value}{n B:Nat}{f:Obj->Obj}(I:Inv X y σ H s)(h:H p=some (.lst G))
  (ho:s.heap.get? p=some { cls:=.type "list",data:=.seq its.toArray n }) (C:f { cls:=.type "list",data:=.seq its.toArray n }={ cls:=.type "list",data:=.seq its'.toArray B }) (r:Vals ys its') (hz:ys.length<=aL) (t:Nat) :
  Inv X y σ (upd H p (.lst ys)) { s with heap:=s.heap.update p f,toks:=t }:=by
 have e:(s.heap.update p f).get? p=some { cls:=.type "list",data:=.seq its'.toArray B }:=by
  rw[cL f ho (by rw[C]<;>rfl),C]
 refine I.write (x:=p) (e:=p) (by rw[h];trivial) (.inl rfl) (λ b u hb q=>(bH _ _ (bM hb)).trans q) ⟨_,e⟩ ?_
 exact⟨hz,its',B,r,e⟩
def cf2:V->V->V->Hp->(Hp->Prop)->Prop:=λ o i v H Q=>∃ p xs k j,o=.ref p/\i=.int k/\H p=some (.lst xs)/\ixN xs.length k=some j/\Q (upd H p (.lst (xs.set j v)))
theorem bm9:ca5 X cf2:=by
 intro y s σ H o i v ov iv u Q I Z ri Y h
 obtain⟨p,xs,k,j,rfl,rfl,J,hj,q⟩:=h
 cases Z
 obtain⟨t,rfl⟩:=ri
 obtain⟨its,n,r,ho,hz⟩:=I.lst J
 obtain⟨B,h2,h3,G⟩:=aU7 hj
 have hl:=r.length
 have hn:=ao7
 have C:Inv X y σ (upd H p (.lst (xs.set j v))) { s with heap:=s.heap.update p (fI (·.setIfInBounds j u)) } :=
  I.lstUpd J ho (aS2 its n j u) (r.set Y j) (by rw[bv];exact hz) s.toks
 by_cases h0:0<=k
 ·have hk:k.toNat=j:=by
   rw[iL h0 G]at B
   exact ao B
  exact PySem.W.ki_setAt ho h0 (by omega) (by rw[aA,<-hl];exact G) (by rw[hk];exact⟨_,C,q⟩)
 ·have hk:(k+(its.toArray.size:Int)).toNat=j:=by
   rw[iy (by omega) h3]at B
   rw[aA,<-hl]
   exact ao B
  exact PySem.W.ki_setBack ho (by omega) (by rw[aA,<-hl];exact h3) (by omega) (by rw[hk];exact⟨_,C,q⟩)
theorem aF9:ae7 X (.builtin "len") (λ J H Q=>∃ p ys,J=[.ref p]/\(SqL X.K H p ys\/SqT X.K H p ys)/\Q (.int ys.length) H):=by
 intro G s σ H J us Q I r h
 obtain⟨p,ys,rfl,hq,q⟩:=h
 obtain⟨u,rfl,Y⟩:=am0 r
 cases Y
 have hn:=ao7
 rcases hq with hq|hq
 ·obtain⟨its,B,C,hz⟩:=I.list hq
  have y:=B.length
  exact Calls.call_len_list C.isList (by simp only[aA]<;>omega) ⟨.int ys.length,H,I.tok _,⟨s.toks+1,by rw[aA,y]⟩,q⟩
 ·obtain⟨its,B,C,hz⟩:=I.tuple hq
  have y:=B.length
  exact len_tuple C (by simp only[aA]<;>omega) ⟨.int ys.length,H,I.tok _,⟨s.toks+1,by rw[aA,y]⟩,q⟩
theorem aC6:ae7 X (.builtin "len") (λ B H Q=>∃ z,B=[.str z]/\z.length<=aL/\Q (.int z.length) H):=by
 intro y s σ H B us Q I r h
 obtain⟨z,rfl,hz,q⟩:=h
 obtain⟨u,rfl,t,rfl⟩:=am0 r
 have hn:=ao7
 exact len_str (by omega) ⟨.int z.length,H,I.tok _,⟨_,rfl⟩,q⟩
theorem ae7.or {f:Value}{r G:List V->Hp->VK->Prop}(h:ae7 X f r)(h':ae7 X f G):ae7 X f (λ B H Q=>r B H Q\/G B H Q):=by
 intro y s σ H B us Q I C q
 rcases q with q|q
 ·exact h y s σ H B us Q I C q
 ·exact h' y s σ H B us Q I C q
theorem aF1:ae7 X (.type "list") (λ Z H Q=>∃ p ys,Z=[.ref p]/\(SqL X.K H p ys\/SqT X.K H p ys)/\∀ l,H l=none->Q (.ref l) (upd H l (.lst ys))):=by
 intro C s σ H Z us Q I r h
 obtain⟨p,ys,rfl,hq,q⟩:=h
 obtain⟨u,rfl,rx⟩:=am0 r
 cases rx
 have fin:∀(its:List Value),Vals ys its->ys.length<=aL->∀(h':Heap) (B:Nat),(∀ b Y,s.heap.get? b=some Y->h'.get? b=some Y) ->
   h'.get? s.heap.objs.size=some { cls:=.type "list",dict:=none,data:=.seq its.toArray B,slots:=#[] }->EP X C σ Q (.ref s.heap.objs.size) { s with heap:=h' }:=λ its y hz h' B kp e =>
  ⟨.ref s.heap.objs.size,_,I.laid (t':=s.toks) kp (ah _) (show ae5 X.prog X.w _ h' _ (.lst ys)from⟨hz,its,B,y,e⟩),rfl,q _ (I.hok.fresh (ah _))⟩
 rcases hq with hq|hq
 ·obtain⟨its,y,J,hz⟩:=I.list hq
  have G:=y.length
  obtain⟨o,ho,hc,n,hd⟩:=J.isList
  exact call_list_seq p (.inl rfl) ho hc hd (λ h' B kp e=>fin its y hz h' B kp e) (by simp only[aA]<;>omega)
 ·obtain⟨its,y,J,hz⟩:=I.tuple hq
  have G:=y.length
  obtain⟨o,ho,hc,n,hd⟩:=J
  exact call_list_seq p (.inr rfl) ho hc hd (λ h' B kp e=>fin its y hz h' B kp e) (by simp only[aA]<;>omega)
theorem av5:ae7 X (.type "tuple") (λ J H Q=>∃ p ys,J=[.ref p]/\((SqL X.K H p ys/\∀ l,H l=none->Q (.ref l) (upd H l (.tup ys)))\/(SqT X.K H p ys/\Q (.ref p) H))):=by
 intro y s σ H J us Q I r h
 obtain⟨p,ys,rfl,h⟩:=h
 obtain⟨u,rfl,Z⟩:=am0 r
 cases Z
 rcases h with⟨hq,q⟩|⟨hq,q⟩
 ·obtain⟨its,B,C,hz⟩:=I.list hq
  have Y:=B.length
  refine call_tuple_list C.isList (λ h' kp=>?_) (by simp only[aA]<;>omega)
  have G:Inv X y σ H { s with heap:=h' }:=I.kept (t':=s.toks) kp
  have I2:Inv X y σ (upd H h'.objs.size (.tup ys)) { s with heap:=h'.push { cls:=.type "tuple",data:=.seq its.toArray } } :=
   G.laid (t':=s.toks) (λ b o e=>ai _ e) (ah _) (show ae5 X.prog X.w _ _ _ (.tup ys)from⟨hz,its,B,jZ _ _⟩)
  exact⟨.ref h'.objs.size,_,I2,rfl,q _ (G.hok.fresh (ah _))⟩
 ·obtain⟨its,B,C,hz⟩:=I.tuple hq
  exact call_tuple_same C ⟨.ref p,H,I,rfl,q⟩
def tyV (K:ac)(T:String)(x:V)(H:Hp):Prop:=match x with
 | .str _=>T = "str"
 | .int _=>T = "int"
 | .ref p=>(T = "list"/\∃ xs,SqL K H p xs)\/(T = "tuple"/\∃ o,K.lookup p=some o/\o.cls=.type "tuple"/\o.dict=none) \/
   (T = "dict"/\((∃ kvs,H p=some (.dK kvs))\/∃ kvs,H p=some (.dT kvs)))\/(T = "set"/\∃ S n,H p=some (.set S n))
 | _=>False
theorem bw0 {h:List (Addr×Obj)}{σ:St}{H:Hp}{s:af}{T:String}{x:V}{v:Value}(I:Inv X h σ H s)(r:RelV x v)(y:tyV X.K T x H) :
  s.TypeIs v T/\∀ a,v=.ref a->∃ ob,s.heap.get? a=some ob/\ob.dict=none:=by
 cases x with
 | str z =>
  obtain⟨t,rfl⟩:=r
  cases(show T = "str" from y)
  exact⟨typeIs_str s z t,λ _ e=>nomatch e⟩
 | int i =>
  obtain⟨t,rfl⟩:=r
  cases(show T = "int" from y)
  exact⟨fJ s i t,λ _ e=>nomatch e⟩
 | ref p =>
  cases r
  rcases y with⟨rfl,G,hq⟩|⟨rfl,o,hk,hc,hd⟩|⟨rfl,hk⟩|⟨rfl,S,n,hk⟩
  ·obtain⟨its,_,C,_⟩:=I.list hq
   refine⟨C.isList.typeIs,λ a e=>?_⟩
   cases e
   obtain⟨o,n,e,c,hd,_⟩:=C
   exact⟨o,e,hd⟩
  ·refine⟨⟨o,I.kIn p o hk,hc⟩,λ a e=>?_⟩
   cases e
   exact⟨o,I.kIn _ o hk,hd⟩
  ·have z:∃ o,s.heap.get? p=some o/\o.ExactDict:=by
    rcases hk with⟨B,hk⟩|⟨B,hk⟩
    ·obtain⟨_,_,_,_,o,_,_,e,ex,_⟩:=I.hok p _ hk
     exact⟨o,e,ex⟩
    ·obtain⟨_,_,_,_,o,_,_,e,ex,_⟩:=I.hok p _ hk
     exact⟨o,e,ex⟩
   obtain⟨o,e,ex⟩:=z
   refine⟨⟨o,e,ex.1⟩,λ a e2=>?_⟩
   cases e2
   exact⟨o,e,ex.2.1⟩
  ·obtain⟨o,_,_,_,e,ex,_⟩:=I.hok p _ hk
   refine⟨⟨o,e,ex.1⟩,λ a e2=>?_⟩
   cases e2
   exact⟨o,e,ex.2.1⟩
 | _=>exact bw y
def cj0 (K:ac)(T:String)(r:V->List V->Hp->VK->Prop)(to:TE):TE:=λ σ H Q=>to σ H λ x H1=>tyV K T x H1/\r x [] H1 Q
def tBM (K:ac)(T:String)(r:V->List V->Hp->VK->Prop)(to:TE)(t:TA):TE:=λ σ H Q=>to σ H λ x H1=>tyV K T x H1/\t σ H1 λ xs H2=>r x xs H2 Q
variable {o e:Expr} {es:List Expr} {to:TE} {t:TA} {name:Str} {apos cpos:Pos} {T id:String} {r:V->List V->Hp->VK->Prop}
theorem bW5 (pa:i4 T)(slot:Slot T name id)(G:typeOf (.builtin id)=pure (.type "method_descriptor"))(hm:MtR X id r)(ho:PE X o to)
  (B:fc o name X.env (eval o X.env)=eval o X.env:=by rfl) (C:(apos.endLine==cpos.line)=true:=by rfl):PE X (.Call (.Attribute o name apos) [] [] cpos) (cj0 X.K T r to):=by
 intro y s σ H Q I h
 refine wpAny_Call_method0_late B C (thn (ho y s σ H _ I h) λ v s1 ⟨x,Z,J,r1,ty,q1⟩=>?_)
 obtain⟨h1,Y⟩:=bw0 J r1 ty
 exact⟨T,id,pa,slot,G,h1,Y,fK rfl (PySem.evalArgs_none (hm y s1 σ Z x [] v [] Q J r1 .nil q1))⟩
theorem ci1 (pa:i4 T)(slot:Slot T name id)(Y:typeOf (.builtin id)=pure (.type "method_descriptor"))(hm:MtR X id r)(ho:PE X o to)(ha:PA X (e::es) t)
  (C:fc o name X.env (eval o X.env)=eval o X.env:=by rfl)
  (J:((dq cpos (bj (e::es) X.env)).all (λ x=>!x.1)&&(backToKw cpos (keywordEach [] X.env)).all (λ x=>x.1.isSome)
   && decide ((e::es).length+([]:List iW).length+(if([]:List iW).isEmpty then 0 else 1)<30))=true:=by rfl)
  (G:(apos.endLine==cpos.line)=true:=by rfl) (hs:bj (e::es) X.env=(false,eval e X.env)::bj es X.env:=by rfl) (B:(dq cpos (bj es X.env)).any (·.1)=false:=by rfl) :
  PE X (.Call (.Attribute o name apos) (e::es) [] cpos) (tBM X.K T r to t):=by
 intro y s σ H Q I h
 refine wpAny_Call_method_late C J G rfl (thn (ho y s σ H _ I h) λ v s1 ⟨x,H1,Z,r1,ty,q1⟩=>?_)
 obtain⟨h1,h2⟩:=bw0 Z r1 ty
 refine⟨T,id,pa,slot,Y,h1,h2,?_⟩
 have hA:=ha cpos y s1 σ H1 _ Z q1
 rw[hs]at hA ⊢
 refine fK (by show(false||(dq cpos (bj es X.env)).any (·.1))=false;rw[B]<;>rfl) (Calls.evalArgs_plain ?_)
 exact thn hA λ us s2 ⟨vs,H2,I2,r2,q2⟩=>hm y s2 σ H2 x vs v us Q I2 r1 r2 q2
end
def MtM (X:Cx)(id:String)(r:V->List V->Hp->VK->Prop):Prop :=
 ∀(pins:List (Addr×Obj)) (s:af) (σ:St) (H:Hp) (x:V) (xs:List V) (v:Value) (us:List Value) (Q:VK),Inv X pins σ H s->RelV x v->Vals xs us->r x xs H Q ->
  wpAny (model X.prog X.w) X.A (call (.builtin id) (v::us)) (EP X pins σ Q) X.xe s
theorem Vals.one:∀ {x:V} {us:List Value},Vals [x] us->∃ u,us=[u]/\RelV x u
 | _,_,.cons r .nil=>⟨_,rfl,r⟩
theorem Vals.zero:∀ {us:List Value},Vals [] us->us=[]
 | _,.nil=>rfl
theorem Vals.dropLast {y:List V}{us:List Value}(h:Vals y us):Vals y.dropLast us.dropLast:=by
 induction h with
 | nil=>exact .nil
 | cons r t ih =>
  cases t with
  | nil=>exact .nil
  | cons q t'=>exact .cons r ih
theorem Vals.reverse {y:List V}{us:List Value}(h:Vals y us):Vals y.reverse us.reverse:=by
 induction h with
 | nil=>exact .nil
 | cons r t ih=>rw[dt,dt];exact Vals.append ih (.cons r .nil)
theorem Vals.rep {y:List V}{us:List Value}(h:Vals y us):∀ k:Nat,Vals (ak k y).flatten (ak k us).flatten
 | 0=>.nil
 | k+1=>by
  rw[bE,bE,cQ,cQ]
  exact Vals.append h (Vals.rep h k)
theorem aE2 (its:List Value):∀(k:Nat) (h:List Value),
  i5 (λ x1 y=>x1++y) h.toArray (ak k its.toArray)=(h++(ak k its).flatten).toArray
 | 0,h=>by simp
 | k+1,h=>by
  have e:h.toArray++its.toArray=(h++its).toArray:=by simp
  have e2:(h++its)++(ak k its).flatten=h++(ak (k+1) its).flatten:=by
   rw[bE,cQ,eR]
  rw[<-e2,<-aE2 its k (h++its),<-e,bE,cg]
section
variable {X:Cx} {pins:List (Addr×Obj)} {σ:St} {H:Hp} {s:af} {l b:Addr} {xs ys zs:List V}
theorem Inv.lset {its its':List Value}{n:Nat}{f:Array Value->Array Value}{t':Nat}(I:Inv X pins σ H s)(B:H l=some (.lst xs))
  (e:s.heap.get? l=some { cls:=.type "list",data:=.seq its.toArray n }) (h:f its.toArray=its'.toArray) (hv:Vals ys its') (hz:ys.length<=aL) :
  Inv X pins σ (upd H l (.lst ys)) { s with heap:=s.heap.update l (fI f),toks:=t' }:=by
 have q:=PySem.IsL.update e f
 rw[h]at q
 refine I.write (x:=l) (e:=l) (by rw[B];exact trivial) (.inl rfl) (λ C u hb y=>(bH s.heap (fI f) (bM hb)).trans y) ⟨_,q⟩ ?_
 exact⟨hz,its',_,hv,q⟩
theorem Inv.lnew {its:List Value}{t':Nat}(I:Inv X pins σ H s)(hv:Vals ys its)(hz:ys.length<=aL) :
  Inv X pins σ (upd H s.heap.objs.size (.lst ys)) { s with heap:=s.heap.push { cls:=.type "list",data:=.seq its.toArray },toks:=t' } :=
 I.laid (λ _ _ q=>ai _ q) (ah _) ⟨hz,its,0,hv,aN _ rfl⟩
theorem Inv.fresh (I:Inv X pins σ H s):H s.heap.objs.size=none:=I.hok.fresh (ah _)
theorem Inv.lstM (I:Inv X pins σ H s)(h:H l=some (.lst xs)):xs.length<=aL/\∃(its:List Value) (n:Nat),Vals xs its/\xs.length=its.length/\s.heap.get? l=some { cls:=.type "list",data:=.seq its.toArray n }:=by
 obtain⟨z,its,n,r,e⟩:=I.hok l _ h
 exact⟨z,its,n,r,r.length,e⟩
theorem bm6 {n:Nat}(h:n<=aL):c8 n=false:=by
 unfold c8
 exact decide_eq_false (by omega)
end
section
variable {X:Cx}
def bH3:V->List V->Hp->VK->Prop:=λ x vs H Q=>∃ l xs y,x=.ref l/\vs=[y]/\H l=some (.lst xs)/\xs.length<aL/\Q .non (upd H l (.lst (xs++[y])))
theorem aB7:MtM X "list.append" bH3:=by
 intro C s σ H x vs v us Q I Y G h
 obtain⟨l,Z,y,rfl,rfl,B,hz,q⟩:=h
 cases Y
 obtain⟨u,rfl,J⟩:=G.one
 obtain⟨z,its,n,r,hl,e⟩:=I.lstM B
 refine fL gh ⟨_,e,rfl⟩ F.entry_list_append (F.args_list_append_2 _ _) (PySem.list_append l its.toArray n u (by rw[aA];omega)) ⟨e,?_⟩
 refine⟨.non,_,I.lset (its':=its++[u]) B e (by simp) (r.append (.cons J .nil)) ?_,rfl,q⟩
 rw[aZ,cM]
 omega
def cm9:R2:=λ x y H Q=>∃ l b xs zs,x=.ref l/\y=.ref b/\H l=some (.lst xs)/\H b=some (.lst zs)/\xs.length+zs.length<=aL/\∀ p,H p=none->Q (.ref p) (upd H p (.lst (xs++zs)))
theorem bO5:OpR X (bV .Add) cm9:=by
 intro C s σ H x y v u Q I Z ry h
 obtain⟨l,b,xs,zs,rfl,rfl,Y,hB,hz,q⟩:=h
 cases Z
 cases ry
 obtain⟨z,its,n,r,hl,e⟩:=I.lstM Y
 obtain⟨z2,B,n2,J,hl2,e2⟩:=I.lstM hB
 refine PySem.P.add_list e e2 ?_ (by rw[aA,aA];omega)
 have G:its.toArray++B.toArray=(its++B).toArray:=by simp
 rw[G]
 exact⟨.ref _,_,I.lnew (t':=s.toks) (r.append J) (by rw[aZ];omega),rfl,q _ I.fresh⟩
def cm6:R2:=λ x y H Q=>∃ l k xs,x=.ref l/\y=.int k/\H l=some (.lst xs)/\-(2^63)<=k/\k<2^63/\xs.length*k.toNat<=aL /\
 ∀ p,H p=none->Q (.ref p) (upd H p (.lst (ak k.toNat xs).flatten))
theorem bH8 {α:Type}(h:List α)(k:Nat):(ak k h).flatten.length=k*h.length:=by
 induction k with
 | zero=>simp
 | succ k ih=>rw[bE,cQ,aZ,ih,j4,fM]
theorem bQ7:OpR X (bV .Mult) cm6:=by
 intro a0 s σ H x y v u Q I rx ry h
 obtain⟨l,k,xs,rfl,rfl,hH,h1,h2,hz,q⟩:=h
 cases rx
 obtain⟨t,rfl⟩:=ry
 obtain⟨z,its,n,r,hl,e⟩:=I.lstM hH
 have Y:its.toArray.size*k.toNat<=aL:=by rw[aA,<-hl];exact hz
 have C:¬ its.toArray.size*k.toNat > (2^63 - 1) / 8:=by
  have:(aL:Nat)<=(2^63 - 1) / 8:=by decide
  omega
 have G:¬(!Builtin.List.listFitsIndex k)=true:=by
  rw[fitsIndex_both h1 h2]
  exact aP
 have B:¬ c8 (its.toArray.size*k.toNat)=true:=by
  rw[bm6 Y]
  exact aP
 have J:i5 (λ x1 Z=>x1++Z) #[] (ak (if its.toArray.isEmpty=true then 0 else k.toNat) its.toArray)=(ak k.toNat its).flatten.toArray:=by
  have f0:∀ m:Nat,i5 (λ x1 Z=>x1++Z) #[] (ak m its.toArray)=(ak m its).flatten.toArray:=λ m=>by
   have:=aE2 its m []
   rw[fX]at this
   exact this
  rw[f0]
  cases its with
  | nil=>simp
  | cons a r'=>rw[if_neg (by simp)]
 refine eJ (T := "list") (U := "int") (by decide) ⟨_,e,rfl⟩ (λ s'=>fJ s' k t) noFill_list_mul hV dh repeat_list gN.lookup
  (fL dh (fJ s k t) gO (gx _ _) (int___rmul___int_list k t l its.toArray n)
   ⟨e,rfl,⟨_,e,rfl⟩,fL F.slot_list_mul ⟨_,e,rfl⟩ F.entry_list_mul (F.args_list_mul_2 _ _) (AutoListH.list___mul___list_int_3 l its.toArray n k t G C B) ⟨e,?_⟩⟩)
 rw[J]
 exact⟨.ref _,_,I.lnew (t':=s.toks) (r.rep k.toNat) (by rw[bH8,j5];exact hz),rfl,q _ I.fresh⟩
end
section
variable {prog:aK} {w:World} {A:aU} {E:Value->af->Prop} {s:af}
end
section
variable {X:Cx}
end
end L2
end
noncomputable section
namespace Att
open PySem PySem.W PySem.Calls PyProof.Rows
theorem ints_of_wellAll {P:Params}{h:Heap}:∀(ns:List Int) (vs:List Value),WellAll P h vs (ns.map WData.int)->iX vs ns:=by
 intro ns
 induction ns with
 | nil =>
  intro vs w
  rw[cy]at w
  cases w
  exact .nil
 | cons n ns ih =>
  intro vs w
  rw[aI]at w
  cases w with
  | cons a b =>
   cases a
   exact .cons _ _ (ih _ b)
theorem script_of {l:OpenLaw}{n:Nat}(hn:l.most=some n){P:Params}{h:Heap}{args:List WData}{y:List Value}
  (B:l.row.toRowW.claim.pre args=true) (Y:WellAll P h y args) :
  ∃ a vs ns,y=[Value.ref a]/\args=[WData.list (ns.map WData.int)]/\h.get? a=some { cls:=.type "list",data:=.seq vs.toArray }/\iX vs ns/\ns.length<=n:=by
 have Z:WShape.hasAll [] args [.list .int]=true:=(pre_splitW B).1
 have hc:l.pre.holds [] { args:=args }=true:=(pre_splitW B).2
 obtain⟨d,r,rfl,h1,h2⟩:=hasAllW_cons Z
 obtain rfl:=hasAllW_nil h2
 obtain⟨xs,rfl,h3⟩:=hasW_list h1
 obtain⟨ns,rfl⟩:=items_int h3
 have C:ns.length<=n:=by
  unfold OpenLaw.pre at hc
  have J:(WTm.not (.lt (.lit (.int (n:Int))) (.len (.arg 0)))).holds [] { args:=[.list (ns.map .int)] }=true:=by
   have J:=(holds_andW hc).1
   rw[hn]at J
   exact J
  have G:=condW_of J (w_not (w_lt w_lit (w_len_list (w_arg rfl))))
  rw[aF]at G
  refine iE λ q=>?_
  have q':(n:Int)<((ns.length:Nat):Int):=by omega
  first
   | (rw[decide_eq_true q']at G;exact absurd G (by decide))
   | (simp at G;omega)
 cases Y with
 | cons w1 w2 =>
  cases w2
  cases w1 with
  | list ho hall=>exact⟨_,_,ns,rfl,rfl,ho,ints_of_wellAll ns _ hall,C⟩
theorem post_true (l:OpenLaw)(args:List WData):l.row.toRowW.claim.post args (.bool true) args=true :=
 postW_of (r:=l.row.toRowW) (X:=(true==true))
  (show WShape.has [] (.bool true) .bool=true by first|rfl|decide|simp[WShape.has,WShape.arms,WShape.armsAll])
  (show(WTm.eq .res (.lit (.bool true))).value [] { args:=args,res:=some (.bool true),after:=args }=some (.bool (true==true))from w_eq_bool (w_res rfl) w_lit) rfl
theorem attach_call {l:OpenLaw}{n:Nat}{q:aK}{loose:List Str}{XP:(Str->Option Value)->Heap->Prop}{YP:World->Heap->Prop}{d:DefRec}
  (hn:l.most=some n) (a0:d.params.defaults=[])
  (call:∀(w:World) (s₀ h:af) (mg mb:Str->Option Value) (fa:Addr) (o:Obj) (pm cd B:Value) (a:Addr) (vs:List Value) (ns:List Int),
   Ground q loose [] XP w s₀ mg mb h.heap->YP w h.heap ->
   h.heap.get? fa=some o->o.data=.func (docDef d.name d.params d.body d.scope pm cd B)->h.heap.CodeRec cd d.name->mg d.name=some (.ref fa) ->
   h.heap.get? a=some { cls:=.type "list",data:=.seq vs.toArray }->iX vs ns->ns.length<=n->h.gens=#[] ->
   eP (model l.prog w) gG (.call (.ref fa) ⟨[.ref a],[]⟩) (λ r s'=>r=.ok (.ret (.bool true))/\OldK h.heap s'.heap/\s'.os=h.os/\eO s'.gens) h) :
  WalkO q loose XP YP l.row.toRowW d [] (λ f vs=>iY f vs):=by
 intro w s₀ h mg mb G Y fa o pm cd B dV kV ho hd a3 hD a1 hg args a4 as Z a5 b0 a2 a6
 obtain rfl:dV=.none:=Dflts.none hD a0
 obtain rfl:kV=.none:=Dflts.noKw hD
 obtain⟨a,vs,ns,rfl,rfl,C,y,J⟩:=script_of hn Z a2
 refine enter_call (d5 (call w s₀ h mg mb fa o pm cd B a vs ns G Y ho (fd_plain hd) a3 a1 C y J hg) λ r s' hq=>?_)
 obtain⟨rfl,h2,h3,h4⟩:=hq
 exact⟨.inl ⟨.bool true,.bool true,[],rfl,λ _=>rfl,.bool true,post_true l _,λ _=>⟨List.Pairwise.nil,λ _ hm=>(nomatch hm)⟩⟩,h2,h3,h4⟩
section
variable {prog:aK} {w:World} {A:aU} {E:Value->af->Prop} {s:af} {K:Frag}
end
end Att
noncomputable section
namespace L2
open PySem PySem.Spec PyProof.Rows
theorem aC4:∀ {vs:List Value} {ns:List Int},iX vs ns->Vals (ns.map V.int) vs
 | _,_,.nil=>.nil
 | _,_,.cons n t h=>.cons ⟨t,rfl⟩ (aC4 h)
noncomputable def defArgs (s:Stmt):a8:=match s with
 | .FunctionDef _ a _ _ _ _ _ _ _ _=>a
 | _=>{ posonlyargs:=[],args:=[],vararg:=none,kwonlyargs:=[],kw_defaults:=[],kwarg:=none,defaults:=[] }
noncomputable def qc (s:Stmt):List Stmt:=match s with
 | .FunctionDef _ _ b _ _ _ _ _ _ _=>b
 | _=>[]
noncomputable def defScope (s:Stmt):Scope:=match s with
 | .FunctionDef _ _ _ _ _ _ sc _ _ _=>sc
 | _=>{ kind:=.function,names:=[],isGenerator:=false,isCoroutine:=false }
noncomputable abbrev CX0:CXT:=λ _ _ _ _ _ _=>False
abbrev E0:XK:=λ _ _ _=>False
theorem bT3 {X:Cx}:aM3 CX0 X E0:=λ _ _ _ _ _ _ _ h=>h.elim
structure Fun (K:ac)(x qual:Str)(st:Stmt)(f:Addr)(fd:bz):Prop where
 ex:∃(oc:Value) (od:Option Addr) (kV doc pm:Value) (an:Option Addr) (cdv ct:Value) (osl:Array (Option Value)),
  fd=cC x qual (defArgs st) (qc st) (defScope st) .none kV doc pm an cdv ct/\K.lookup f=some ⟨oc,od,.func fd,osl⟩/\eB K cdv qual=true
 kp:b8 K (.ref f)=true
section
variable {P:aK} {w:World} {K:ac} {mg:Str->Option Value} {base:Heap}
theorem Fun.ok {x qual:Str}{st:Stmt}{f:Addr}{J:bz}{N ps:List Str}{k:Nat}{sp:Sp}(F:Fun K x qual st f J)(S:FnScope N ps (defScope st))(len:∀ vs H Q E,sp vs H Q E->vs.length=ps.length)
  (B:∀(y:Value) (A:aU) (outer:List Env) (s:af) (H:Hp) (vs:List V) (Q:VK) (E:XK),Room k (A.deeper (e8 qual (defScope st) s.heap.objs.size f y))->sp vs H Q E ->
   ∃ t,PSs (bq0 CX0 P w K mg base N qual (defScope st) f y A outer s H E).nox (qc st) t/\t { nx:=λ _ H'=>Q .non H',rt:=Q } (aj9 N vs) H):FnOk P w K mg base CX0 (k+1) f J ps sp:=by
 obtain⟨oc,od,kV,a0,pm,an,y,ct,Z,rfl,lk,G⟩:=F.ex
 refine bS4 lk G S len λ A outer s H vs Q E Y C=>?_
 obtain⟨t,h,q⟩:=B y A outer s H vs Q E Y C
 exact⟨t,h.nox,q⟩
theorem Fun.binds {x qual:Str}{st:Stmt}{f:Addr}{J:bz}{ps:List Str}(F:Fun K x qual st f J)
  (h:∀(kV B G:Value) (C:Option Addr) (y ct:Value) (us:List Value),us.length=ps.length->dP (cC x qual (defArgs st) (qc st) (defScope st) .none kV B G C y ct) ⟨us,[]⟩=pure (ps.zip us)):Binds K J ps []:=by
 obtain⟨oc,od,kV,B,G,C,y,ct,Z,rfl,lk,Y⟩:=F.ex
 exact .all (h kV B G C y ct)
theorem br5 {x qual:Str}{st:Stmt}{f:Addr}{oc:Value}{od C:Option Addr}{B:Array (Option Value)}{kV y G h ct:Value}(l:K.lookup f=some ⟨oc,od,.func (cC x qual (defArgs st) (qc st) (defScope st) .none kV y G C h ct),B⟩)
  (c:eB K h qual=true) (k:b8 K (.ref f)=true):Fun K x qual st f (cC x qual (defArgs st) (qc st) (defScope st) .none kV y G C h ct):=⟨⟨oc,od,kV,y,G,C,h,ct,B,rfl,l,c⟩,k⟩
end
theorem bm5 {A:aU}{k:Nat}(h:Room k A):A.units+1<cLine:=Nat.lt_of_le_of_lt (Nat.add_le_add_left (by decide:1<=64) _) h.units
section
variable {X:Cx}
theorem pv (i:Nat){x:Str}{pos:Pos}(hN:X.N[i]?=some x:=by rfl)(hv:Vis X.env.scope x:=by first|exact Or.inl rfl|exact Or.inr (Or.inl rfl)|exact Or.inr (Or.inr rfl))(hd:(x==("__debug__":Str))=false:=by decide)
  (h:(x==("__classdict__":Str))=false:=by decide):PE X (.Name x pos) (bw1 i):=bh9 hN hv hd h
end
theorem cm1 {A B:Prop}(h:B):if false=true then A else B:=by
 rw[if_neg aP]
 exact h
theorem cn0 {A B:Prop}(h:A):if true=true then A else B:=by
 rw[if_pos rfl]
 exact h
def ai5 (H H':Hp):Prop:=∀ b o,H b=some o->H' b=some o
theorem ai5.refl (H:Hp):ai5 H H:=λ _ _ h=>h
theorem aX7 {prog:aK}{w:World}{A:aU}{R:Result->af->Prop}{s:af}{G y iter:Expr}{B:List Expr}{scope:Scope}{pos:Pos}{Y C:Value}{env:Env}(I:Nat->af->Prop)
  (turn:∀ n s,I n s->wpAny (model prog w) A (iC Y) (λ r s₁=>match r with
   | none=>R (.ok .next) s₁
   | some v=>wpAny (model prog w) A (dW y Y v) (λ _ J=>wpAny (model prog w) A (fD y env v) (λ _ s₂ =>
     wpAny (model prog w) A (forIn B true λ c r=>if r=true then do let ok <- dg c env (eval c env);pure (ForInStep.yield ok)else pure (ForInStep.yield r)) (λ ok s₃ =>
      if ok=true then wpAny (model prog w) A (eval G env) (λ x s₄ =>
       wpAny (model prog w) A (call (.builtin "list.append") [C,x]) (λ _ s₅=>∃ m,m<n/\I m s₅) (iz (model prog w) A env λ e s'=>R (.error e) s') s₄) (iz (model prog w) A env λ e s'=>R (.error e) s') s₃
      else ∃ m,m<n/\I m s₃) (iz (model prog w) A env λ e s'=>R (.error e) s') s₂) (iz (model prog w) A env λ e s'=>R (.error e) s') J) (iz (model prog w) A env λ e s'=>R (.error e) s') s₁) (iz (model prog w) A env λ e s'=>R (.error e) s') s)
  (n:Nat) (h:I n s) :
  eP (model prog w) A (.compLoop (.ListComp G [⟨y,iter,B,0⟩] scope pos) 0 Y C env) R s:=by
 refine codeAny_loop rfl I (λ n s hI=>?_) n h
 show wpAny _ A ((compTurn (.ListComp G [⟨y,iter,B,0⟩] scope pos) 0 Y C env).onRaise (λ x=>do noteFrame x env;theTreesLotGoes x)) _ _ s
 refine wpAny_noted ?_
 rw[compTurn_list]
 refine ar (gT (ar (cf (turn n s hI) (λ r s₁ h₁=>?_) λ _ _ h'=>h')))
 cases r with
 | none=>exact aS h₁
 | some v =>
  refine ar (cf h₁ (λ _ J Z=>?_) λ _ _ h'=>h')
  refine ar (cf Z (λ _ s₂ h₂=>ar (cf h₂ (λ ok s₃ h₃=>?_) λ _ _ h'=>h')) λ _ _ h'=>h')
  cases ok with
  | false=>exact aS ⟨rfl,h₃⟩
  | true =>
   exact ar (ar (cf h₃ (λ x s₄ h₄=>ar (cf h₄ (λ _ s₅ h₅=>aS (aS ⟨rfl,h₅⟩)) λ _ _ h'=>h')) λ _ _ h'=>h'))
noncomputable def af9 (cells:List (Str×Addr)):List (Str×bG)->List (Str×Addr)->List (Str×Addr)
 | [],acc=>acc
 | (n,k)::r,acc=>af9 cells r (if k==.free then(match cells.lookup n with|some c=>(n,c)::acc|none=>acc)else acc)
theorem aj5 {env:Env}:∀(names:List (Str×bG)) (B:List (Str×Addr)),(∀ y∈names,y.2=.free->∃ c,env.cells.lookup y.1=some c) ->
  (forIn names B λ(x:Str×bG) (cs:List (Str×Addr))=>(if x.2==.free then do let c <- cellOf env x.1;pure (ForInStep.yield ((x.1,c)::cs))else pure (ForInStep.yield cs):Sem (ForInStep (List (Str×Addr)))))=pure (af9 env.cells names B)
 | [],B,_=>by rw[gy];rfl
 | (n,k)::r,B,h=>by
  have C:=λ a=>aj5 r a λ y hy=>h y (au _ hy)
  rw[iO]
  unfold af9
  cases e:(k==NameKind.free)with
  | false =>
   simp only[aH,if_false]
   exact C B
  | true =>
   have hk:k=.free:=by simpa using e
   obtain⟨c,hc⟩:=h (n,k) aD hk
   have e1:cellOf env n=pure c:=by unfold cellOf;rw[hc]
   simp only[if_true,e1,hc]
   exact C _
theorem qD {scope:Scope}{env:Env}(h:∀ y∈scope.names,y.2=.free->∃ c,env.cells.lookup y.1=some c):closureFor scope env=pure (af9 env.cells scope.names []):=by
 have:=aj5 (env:=env) scope.names [] h
 show(forIn scope.names [] (λ(x:Str×bG) (cs:List (Str×Addr))=>(if x.2==.free then do let c <- cellOf env x.1;pure (ForInStep.yield ((x.1,c)::cs))else pure (ForInStep.yield cs):Sem (ForInStep (List (Str×Addr))))) >>= λ cs=>pure cs)=_
 rw[this]
 rfl
theorem clOf_mem {cells:List (Str×Addr)}{n:Str}{c:Addr}:∀ {names:List (Str×bG)} {B:List (Str×Addr)},(n,c)∈af9 cells names B->cells.lookup n=some c\/(n,c)∈B
 | [],_,h=>.inr h
 | (m,k)::r,B,h=>by
  unfold af9 at h
  rcases clOf_mem h with z|z
  ·exact .inl z
  ·cases e:(k==NameKind.free)with
   | false=>simp only[e,aH,if_false]at z;exact .inr z
   | true =>
    simp only[e,if_true]at z
    cases q:cells.lookup m with
    | none=>rw[q]at z;exact .inr z
    | some d =>
     rw[q]at z
     rcases az.mp z with y|y
     ·cases y;exact .inl q
     ·exact .inr y
theorem aP1 {cells:List (Str×Addr)}{n:Str}{c:Addr}(hc:cells.lookup n=some c):∀ {names:List (Str×bG)} {y:List (Str×Addr)},((n,NameKind.free)∈names\/(n,c)∈y)->(n,c)∈af9 cells names y
 | [],_,h=>by rcases h with h|h;(exact absurd h (by simp));exact h
 | (m,k)::r,y,h=>by
  unfold af9
  refine aP1 hc ?_
  rcases h with h|h
  ·rcases az.mp h with e|h
   ·cases e
    right
    simp[hc]
   ·exact .inl h
  ·right
   cases e:(k==NameKind.free)with
   | false=>simpa using h
   | true =>
    simp only[if_true]
    cases q:cells.lookup m with
    | none=>exact h
    | some d=>exact au _ h
theorem aj7 {α:Type}{n:Str}{c:α}:∀ {l:List (Str×α)},(n,c)∈l->(∀ d,(n,d)∈l->d=c)->l.lookup n=some c
 | (m,d)::r,h,u=>by
  rw[a7]
  cases e:n==m with
  | true =>
   have e':=beq_iff_eq.mp e
   subst e'
   rw[u d aD]
  | false =>
   rcases az.mp h with z|z
   ·cases z;simp at e
   ·exact aj7 z λ d' h'=>u d' (au _ h')
theorem qG {cells:List (Str×Addr)}{n:Str}{c:Addr}{names:List (Str×bG)}(hc:cells.lookup n=some c)(h:(n,NameKind.free)∈names):(af9 cells names []).lookup n=some c:=by
 refine aj7 (aP1 hc (.inl h)) λ d hd=>?_
 rcases clOf_mem hd with z|z
 ·rw[hc]at z;exact(ao z).symm
 ·exact absurd z (by simp)
theorem zA:∀(names:List (Str×bG)) (n:Nat) (h:List (Str×Addr)),aJ n names h=aJ n names []++h
 | [],_,h=>by simp[aJ]
 | (x,k)::r,n,h=>by
  unfold aJ
  split
  ·rw[zA r (n+1) ((x,n)::h),zA r (n+1) [(x,n)]]
   simp
  ·exact zA r n h
theorem zZ:∀ {names:List (Str×bG)} {n:Nat} {B:List (Str×Addr)} {x:Str} {c:Addr},(x,c)∈aJ n names B->(x,NameKind.cell)∈names\/(x,c)∈B
 | [],_,_,_,_,h=>.inr h
 | (y,k)::r,n,B,x,c,h=>by
  unfold aJ at h
  split at h
  ·rename_i hk
   rcases zZ h with z|z
   ·exact .inl (au _ z)
   ·rcases az.mp z with e|z
    ·cases e
     have:k=.cell:=by simpa using hk
     subst this
     exact .inl aD
    ·exact .inr z
  ·rcases zZ h with z|z
   ·exact .inl (au _ z)
   ·exact .inr z
theorem z5 {α:Type}(x:Str):∀(l r:List (Str×α)),(l++r).lookup x=(l.lookup x).or (r.lookup x)
 | [],r=>by simp
 | (y,v)::l,r=>by
  rw[dF,a7,a7]
  cases x==y with
  | true=>rfl
  | false=>exact z5 x l r
noncomputable def qt (N':List Str)(src:List (Option Nat))(scope:Scope)(XN:List Str)(xs:Scope):Bool :=
 (scope.kind==.function) &&
 (scope.names.all λ y=>!(y.2==.free)||(xs.names.lookup y.1==some .cell||xs.names.lookup y.1==some .free)) &&
 (scope.names.all λ y=>!(y.2==.local)||scope.names.lookup y.1==some .local) &&
 (scope.names.all λ y=>!(y.2==.cell)||(scope.names.all λ z=>!(z.1==y.1)||z.2==.cell)) &&
 (src.length==N'.length) &&
 ((N'.zip src).all λ y=>match y.2 with|none=>true|some j=>XN[j]?==some y.1&&scope.names.lookup y.1==some .free)
structure CompCk (N':List Str)(src:List (Option Nat))(scope:Scope)(XN:List Str)(xs:Scope):Prop where
 kind:scope.kind=.function
 fr:∀ y∈scope.names,y.2=.free->xs.names.lookup y.1=some .cell\/xs.names.lookup y.1=some .free
 loc:∀ y∈scope.names,y.2=.local->scope.names.lookup y.1=some .local
 cel:∀ y∈scope.names,y.2=.cell->∀ z∈scope.names,z.1=y.1->z.2=.cell
 len:src.length=N'.length
 sr:∀(i j:Nat) (x:Str),src[i]?=some (some j)->N'[i]?=some x->XN[j]?=some x/\scope.names.lookup x=some .free
theorem bu6 {B:List Str}{src:List (Option Nat)}{scope:Scope}{C:List Str}{G:Scope}(h:qt B src scope C G=true):CompCk B src scope C G:=by
 unfold qt at h
 simp only[aq]at h
 obtain⟨⟨⟨⟨⟨h1,Y⟩,h3⟩,Z⟩,h5⟩,J⟩:=h
 refine⟨by simpa using h1,λ y hy e=>?_,λ y hy e=>?_,λ y hy e z hz ez=>?_,by simpa using h5,λ i j x e1 e2=>?_⟩
 ·have:=aM.mp Y y hy
  simpa [e]using this
 ·have:=aM.mp h3 y hy
  simpa [e]using this
 ·have:=aM.mp Z y hy
  simp only[e,beq_self_eq_true,c9,jU]at this
  have:=aM.mp this z hz
  simpa [ez]using this
 ·have hm:(x,some j)∈B.zip src:=by
   refine aV (i:=i) ?_
   rw[List.getElem?_zip_eq_some]
   exact⟨e2,e1⟩
  have:=aM.mp J _ hm
  simpa using this
noncomputable abbrev z8 (X:Cx)(N':List Str)(scope:Scope)(C:Addr)(cells:List (Str×Addr))(s:af)(H:Hp)(ex:List Addr):Cx where
 prog:=X.prog
 w:=X.w
 K:=X.K
 mg:=X.mg
 base:=X.base
 A:=X.A
 N:=N'
 s₀:=s
 H₀:=H
 env:={ scope:=dJ scope X.env,locals:=C,globals:=X.env.globals,cells:=cells,qual:=X.env.qual,func:=none,code:=X.env.code,frame:=X.env.frame,builtins:=X.env.builtins }
 outer:=X.stack
 stack:=X.stack
 ex:=ex
 fn:=λ x=>scope.names.lookup x==some .cell
 calm:=X.calm
 pn:=[]
 xe:=λ _ _=>False
def PIf (X:Cx)(ifs:List Expr)(t:TT):Prop :=
 ∀(pins:List (Addr×Obj)) (s:af) (σ:St) (H:Hp) (Q:Bool->Hp->Prop),Inv X pins σ H s->t σ H Q ->
  wpAny (model X.prog X.w) X.A (forIn ifs true λ c r=>if r=true then do let ok <- dg c X.env (eval c X.env);pure (ForInStep.yield ok)else pure (ForInStep.yield r)) (TP X pins σ Q) X.xe s
def cm3:TT:=λ _ H Q=>Q true H
theorem bz4 {X:Cx}:PIf X [] cm3:=λ _ _ _ H _ I h=>wpAny_tests_nil ⟨H,I,h⟩
theorem bx9 {X:Cx}{c:Expr}{t:TT}(h:PT X c t):PIf X [c] t:=λ y s σ H Q I hw=>wpAny_tests_one (h y s σ H Q I hw)
noncomputable def aC5 (src:List (Option Nat))(σ:St):St:=src.map λ o=>match o with|none=>none|some j=>(σ[j]?).join
def tComp (src:List (Option Nat))(wi:TI)(g:TG)(tc:TT)(te:TE):TE:=λ σ H Q=>wi σ H λ J H1=>∀ D,H1 D=none ->
 ∃ W:Nat->Nat->St->Hp->Prop,(∃ m,W 0 m (aC5 src σ) (upd H1 D (.lst [])))/\∀ i m σ' H',W i m σ' H' ->
  (J.stop i H'/\Q (.ref D) H')\/(J.go i H'/\∃ N:St->Hp->Prop,(∀ σ2 H2,N σ2 H2->∃ m',m'<m/\W (i+1) m' σ2 H2) /\
   ∀ x H2,J.yld i H' x H2->g x σ' H2 λ σ3 H3=>tc σ3 H3 λ b H4=>if b=true then te σ3 H4 λ v H5=>∃ ys,H5 D=some (.lst ys)/\ys.length<aL/\N σ3 (upd H5 D (.lst (ys++[v])))else N σ3 H4)
theorem qQ {env:Env}:∀ {names:List (Str×bG)} {x:Str} {k:bG},names.lookup x=some k ->
  (names.map λ(n,k)=>if(k==NameKind.free&&env.scope.kind==.function&&env.kindOf n==some .cell)then(n,NameKind.cell)else(n,k)).lookup x =
   some (if(k==NameKind.free&&env.scope.kind==.function&&env.kindOf x==some .cell)then NameKind.cell else k)
 | [],_,_,h=>by simp at h
 | (n,k)::r,x,k',h=>by
  have y:=@qQ env r x k'
  show kg x ((if(k==NameKind.free&&env.scope.kind==.function&&env.kindOf n==some .cell)=true then(n,NameKind.cell)else(n,k))::_)=_
  cases hx:x==n with
  | true =>
   have e:=beq_iff_eq.mp hx
   subst e
   simp only[a7,hx]at h
   cases h
   by_cases hc:(k==NameKind.free&&env.scope.kind==.function&&env.kindOf x==some .cell)=true
   ·rw[if_pos hc,if_pos hc];simp only[a7,hx]
   ·rw[if_neg hc,if_neg hc];simp only[a7,hx]
  | false =>
   simp only[a7,hx]at h
   by_cases hc:(k==NameKind.free&&env.scope.kind==.function&&env.kindOf n==some .cell)=true
   ·rw[if_pos hc];simp only[a7,hx];exact y h
   ·rw[if_neg hc];simp only[a7,hx];exact y h
theorem qH {env:Env}:∀ {names:List (Str×bG)} {x:Str},names.lookup x=none ->
  (names.map λ(n,k)=>if(k==NameKind.free&&env.scope.kind==.function&&env.kindOf n==some .cell)then(n,NameKind.cell)else(n,k)).lookup x=none
 | [],_,_=>rfl
 | (n,k)::r,x,h=>by
  have y:=@qH env r x
  show kg x ((if(k==NameKind.free&&env.scope.kind==.function&&env.kindOf n==some .cell)=true then(n,NameKind.cell)else(n,k))::_)=_
  cases hx:x==n with
  | true=>simp only[a7,hx]at h;cases h
  | false =>
   simp only[a7,hx]at h
   by_cases hc:(k==NameKind.free&&env.scope.kind==.function&&env.kindOf n==some .cell)=true
   ·rw[if_pos hc];simp only[a7,hx];exact y h
   ·rw[if_neg hc];simp only[a7,hx];exact y h
theorem au3 {X:Cx}{N':List Str}{src:List (Option Nat)}{scope:Scope}{a4:List (Addr×Obj)}{σ:St}{H:Hp}{s s4:af}{fp:List Addr}
  (B:CompCk N' src scope X.N X.env.scope) (I:Inv X a4 σ H s) (hf:∀ b∈fp,FpOk X a4 H b) (b3:∀ b∈fp,b<s.heap.objs.size)
  (e4:∃ tk,s4={ s with heap:=dG (s.heap.push { cls:=.type "dict",data:=.dict #[] }) scope.names,toks:=tk }) :
  Inv (z8 X N' scope s.heap.objs.size (aJ (s.heap.objs.size+1) scope.names (af9 X.env.cells scope.names [])) s H fp) [] (aC5 src σ) H s4:=by
 obtain⟨tk,rfl⟩:=e4
 have hk:∀ b o,s.heap.get? b=some o->(dG (s.heap.push { cls:=.type "dict",data:=.dict #[] }) scope.names).get? b=some o:=λ b o e=>cH _ _ b o (ai _ e)
 have ok:=cellsFrom_ok scope.names (s.heap.push { cls:=.type "dict",data:=.dict #[] }) (s.heap.objs.size+1) [] ⟨λ _ _ hm=>(nomatch hm),List.Pairwise.nil⟩ (by rw[bR];exact ah _)
 rw[bR]at ok
 have Z:=zA scope.names (s.heap.objs.size+1) (af9 X.env.cells scope.names [])
 have lk:∀ x c,(aJ (s.heap.objs.size+1) scope.names (af9 X.env.cells scope.names [])).lookup x=some c ->
   ((x,c)∈aJ (s.heap.objs.size+1) scope.names []/\(x,NameKind.cell)∈scope.names)\/(X.env.cells.lookup x=some c/\(aJ (s.heap.objs.size+1) scope.names []).lookup x=none):=λ x c e=>by
  rw[Z,z5]at e
  cases q:(aJ (s.heap.objs.size+1) scope.names []).lookup x with
  | some d =>
   rw[q]at e
   have e':d=c:=ao e
   subst e'
   have hm:=aC q
   refine .inl ⟨hm,?_⟩
   rcases zZ hm with z|z
   ·exact z
   ·exact absurd z (by simp)
  | none =>
   rw[q]at e
   have e':(af9 X.env.cells scope.names []).lookup x=some c:=e
   rcases clOf_mem (aC e')with z|z
   ·exact .inr ⟨z,rfl⟩
   ·exact absurd z (by simp)
 have up:∀ x c,(x,c)∈aJ (s.heap.objs.size+1) scope.names []->s.heap.objs.size+1<=c:=λ x c h=>(ok.empty x c h).2
 have b0:∀ x c,X.env.cells.lookup x=some c->c<s.heap.objs.size:=λ x c h=>by
  obtain⟨v,q⟩:=I.cell x c h
  exact q.lt
 have a0:∀ b,b<s.heap.objs.size->b≠s.heap.objs.size:=λ b h=>ay h
 have a6:∀ b∈fp,H b=none/\b≠X.env.locals/\b ∉ X.fs:=λ b hb=>⟨(hf b hb).1,(hf b hb).2.1,(hf b hb).2.2.1⟩
 have b4:(dG (s.heap.push { cls:=.type "dict",data:=.dict #[] }) scope.names).Ns s.heap.objs.size (λ _=>none):=(kh s.heap (.type "dict")).keeps (cH _ _)
 have Y:∀ x k,scope.names.lookup x=some k->(dJ scope X.env).names.lookup x=some (if(k==NameKind.free&&X.env.scope.kind==.function&&X.env.kindOf x==some .cell)then NameKind.cell else k):=λ x k e=>qQ (env:=X.env) e
 have a3:∀ x,scope.names.lookup x=none->(dJ scope X.env).names.lookup x=none:=λ x e=>qH (env:=X.env) e
 have b1:∀ x c,(x,NameKind.free)∈scope.names->X.env.cells.lookup x=some c->(aJ (s.heap.objs.size+1) scope.names (af9 X.env.cells scope.names [])).lookup x=some c:=λ x c hx hc=>by
  rw[Z,z5]
  cases q:(aJ (s.heap.objs.size+1) scope.names []).lookup x with
  | some d =>
   rcases zZ (aC q)with z|z
   ·have:=B.cel _ z rfl _ hx rfl
    cases this
   ·exact absurd z (by simp)
  | none=>exact qG hc hx
 have a5:∀ x,(x,NameKind.free)∈scope.names->∃ c,X.env.cells.lookup x=some c:=λ x hx=>I.ok.has x (B.fr _ hx rfl)
 refine⟨⟨I.ok.mod,B.kind,I.ok.glob,I.ok.blt,ah _,λ x y c e1 e2=>?_,λ x hx=>?_,λ x c hx e=>?_,I.ok.hd,I.ok.frames,.inl rfl,λ b hb=>⟨a0 b (b3 b hb),λ x c e z=>?_⟩,I.bs,aw I.ok.bsz I.sz,λ b o e hb=>?_,λ b hb z=>?_,I.stack,I.stkFree⟩,
  rfl,I.bare,Un.kept hk,⟨_,b4,λ i x v e1 e2 e3=>?_⟩,λ x c e=>?_,I.hok.fresh (ah _),λ x c e=>?_,λ p hp=>absurd (show p∈([]:List (Addr×Obj))from hp) (by simp),I.hok.kept hk,by unfold aC5;rw[aF];exact B.len⟩
 ·rcases lk x c e1 with⟨a1,_⟩|⟨a1,_⟩<;>rcases lk y c e2 with⟨a2,_⟩|⟨a2,_⟩
  ·exact fG ok.apart a1 a2
  ·exact absurd (am (b0 _ _ a2) (eT (up _ _ a1))) (bo _)
  ·exact absurd (am (b0 _ _ a1) (eT (up _ _ a2))) (bo _)
  ·exact I.ok.inj x y c a1 a2
 ·cases q:scope.names.lookup x with
  | none =>
   have C:(dJ scope X.env).names.lookup x=some .cell\/(dJ scope X.env).names.lookup x=some .free:=hx
   rw[a3 x q]at C
   rcases C with z|z<;>cases z
  | some k =>
   have C:(dJ scope X.env).names.lookup x=some .cell\/(dJ scope X.env).names.lookup x=some .free:=hx
   rw[Y x k q]at C
   cases k with
   | free =>
    obtain⟨c,hc⟩:=a5 x (aC q)
    exact⟨c,b1 x c (aC q) hc⟩
   | cell =>
    obtain⟨c,hc⟩:=qr (n:=s.heap.objs.size+1) q
    exact⟨c,by show(aJ _ _ _).lookup x=_;rw[Z,z5,hc];rfl⟩
   | _=>rcases C with z|z<;>cases z
 ·have C:(scope.names.lookup x==some .cell)=true:=hx
  have q:scope.names.lookup x=some .cell:=by simpa using C
  rcases lk x c e with⟨a,_⟩|⟨a,b⟩
  ·have:=up _ _ a;show s.heap.objs.size<=c;omega
  ·obtain⟨d,hd⟩:=qr (n:=s.heap.objs.size+1) q
   rw[hd]at b;cases b
 ·subst z
  rcases lk x c e with⟨a,_⟩|⟨a,_⟩
  ·exact absurd (am (b3 c hb) (eT (up _ _ a))) (bo _)
  ·exact(hf c hb).2.2.2.2.1 x c a rfl
 ·rcases(hf b hb).2.2.2.1 with z|z
  ·exact I.ok.noex b o e z
  ·exact absurd (am (aE e) (aw I.ok.bsz z)) (bo _)
 ·rcases az.mp (I.stkSub b z)with y|y
  ·exact(a6 b hb).2.1 y
  ·exact(a6 b hb).2.2 y
 ·have G:(aC5 src σ)[i]?=some (some v):=e2
  unfold aC5 at G
  rw[ax]at G
  cases q:src[i]? with
  | none=>rw[q]at G;cases G
  | some o =>
   rw[q]at G
   cases o with
   | none=>cases G
   | some j =>
    have J:(σ[j]?).join=some v:=ao G
    have ej:σ[j]?=some (some v):=by
     cases q2:σ[j]? with
     | none=>rw[q2]at J;cases J
     | some o2=>rw[q2]at J;exact congrArg some J
    obtain⟨h1,h2⟩:=B.sr i j x q e1
    have hm:=aC h2
    obtain⟨mX,b6,b5⟩:=I.loc
    have b2:Vis X.env.scope x:=by
     rcases B.fr _ hm rfl with z|z
     ·exact .inr (.inl z)
     ·exact .inr (.inr z)
    obtain⟨u,ru,look⟩:=b5 j x v h1 ej b2
    refine⟨u,ru,.inr ?_⟩
    have hcell:∃ c,X.env.cells.lookup x=some c/\s.heap.IsCell c (some u):=by
     rcases look with⟨z,_⟩|⟨_,c,z1,z2⟩
     ·have z':X.env.scope.names.lookup x=some .local:=z
      rcases B.fr _ hm rfl with y|y<;>(rw[z']at y;cases y)
     ·exact⟨c,z1,z2⟩
    obtain⟨c,c1,c2⟩:=hcell
    refine⟨?_,c,b1 x c hm c1,c2.keeps hk⟩
    show(dJ scope X.env).names.lookup x=some .cell\/(dJ scope X.env).names.lookup x=some .free
    rw[Y x _ h2]
    by_cases hc:(NameKind.free==NameKind.free&&X.env.scope.kind==.function&&X.env.kindOf x==some .cell)=true
    ·rw[if_pos hc];exact .inl rfl
    ·rw[if_neg hc];exact .inr rfl
 ·rcases lk x c e with⟨a,_⟩|⟨a,_⟩
  ·exact⟨_,(ok.empty x c a).1⟩
  ·obtain⟨v,q⟩:=I.cell x c a
   exact⟨v,q.keeps hk⟩
 ·rcases lk x c e with⟨a,_⟩|⟨a,_⟩
  ·exact I.hok.fresh (by have:=up _ _ a;omega)
  ·exact I.freeC x c a
theorem aP7 {X:Cx}{Z:List Str}{scope:Scope}{h:List (Addr×Obj)}{σ σ':St}{H G:Hp}{s s5:af}{C:List Addr}{cells:List (Str×Addr)}{h':Heap}
  (I:Inv X h σ H s) (B:∀ b∈C,FpOk X h H b) (J:Inv (z8 X Z scope s.heap.objs.size cells s H C) [] σ' G s5) (hs:dm s.heap.objs.size s5.heap h') :
  Inv X h σ G { s5 with heap:=h' }:=by
 have y:∀ b o,s.heap.get? b=some o->b≠s.heap.objs.size:=λ b o e=>ay (aE e)
 have u:Un (frs X.stack) C H G s.heap s5.heap:=J.base
 refine I.call' (s':={ s5 with heap:=h' }) (ch:=C) J.os ⟨λ b o e n hb hx=>?_,λ b o e n hb hx=>?_,λ b o e n hx=>u.free b o e n hx,λ b o e hx=>?_,u.tups,u.frzs,u.tbls⟩ (λ b o e=>?_) J.bare λ b hb=>⟨(B b hb).2.2.2.1,(B b hb).2.1,(B b hb).2.2.2.2.1,(B b hb).2.2.2.2.2⟩
 ·exact(hs.2 b (y b o e)).trans (u.keep b o e n hb hx)
 ·obtain⟨sl,q⟩:=u.slot b o e n hb hx
  exact⟨sl,(hs.2 b (y b o e)).trans q⟩
 ·obtain⟨Y,q⟩:=u.there b o e hx
  exact⟨Y,(hs.2 b (y b o e)).trans q⟩
 ·have fr:G s.heap.objs.size=none:=J.free
  refine(J.hok b o e).stay (λ c w' hc q=>(hs.2 c ?_).trans q) (λ _ q=>q) λ _ _ q=>q
  rintro rfl
  rcases hc with z|hc
  ·rw[<-z,fr]at e;cases e
  ·rw[fr]at hc;cases hc
theorem ai0 {M:Model}{A:aU}{E:Value->af->Prop}{s:af}{scope:Scope}{globals:Addr}{y:List (Str×Addr)}{qual:Str}{outer:Env}{Q:Env->af->Prop}
  (h:Q { scope:=scope,locals:=s.heap.objs.size,globals:=globals,cells:=aJ (s.heap.objs.size+1) scope.names y,qual:=qual,func:=none,code:=outer.code,frame:=outer.frame,builtins:=outer.builtins }
   { s with heap:=dG (s.heap.push { cls:=.type "dict",data:=.dict #[] }) scope.names }) :
  wpAny M A (eC scope globals y [] qual none .none (some outer)) Q E s:=by
 simp only[eC,eD,if_true]
 refine ar (wpAny_alloc ?_)
 refine ar (wpAny_layCells _ (λ name kind cells=>by cases hkc:kind==NameKind.cell<;>simp[hkc]) _ _ _ _ ?_)
 rw[show({ s with heap:=s.heap.push { cls:=.type "dict",data:=.dict #[] } }:af).heap.objs.size=s.heap.objs.size+1 from bR ..]
 refine ar ?_
 rw[gy]
 exact aS (aS h)
theorem aE1 {X':Cx}{R:Result->af->Prop}{a3 tg iter:Expr}{a4:List Expr}{scope:Scope}{pos:Pos}{g:TG}{tc:TT}{te:TE}{J:It}{Z:List Addr}{it D:Addr}{tn:Nat->Heap->Prop}{W:Nat->Nat->St->Hp->Prop}
  {QD:Hp->Prop} {σ0:St} {H0:Hp} {s4:af} {m0:Nat} (hx:X'.xe=λ _ _=>False) (B:X'.calm=true) (I4:Inv X' [] σ0 H0 s4) (T:Turn X'.prog X'.w X'.K tg J Z it tn) (a6:tn 0 s4.heap)
  (C:∀ H':Hp,(∀ b∈Z,H' b=none)->∀ b∈Z,FpOk X' [] H' b) (b1:∀ b∈Z,H0 b=none) (w0:W 0 m0 σ0 H0)
  (turn:∀ i m σ' H',W i m σ' H'->(J.stop i H'/\QD H')\/(J.go i H'/\∃ N:St->Hp->Prop,(∀ σ2 H2,N σ2 H2->∃ m',m'<m/\W (i+1) m' σ2 H2) /\
   ∀ x H2,J.yld i H' x H2->g x σ' H2 λ σ3 Y=>tc σ3 Y λ b H4=>if b=true then te σ3 H4 λ v H5=>∃ ys,H5 D=some (.lst ys)/\ys.length<aL/\N σ3 (upd H5 D (.lst (ys++[v])))else N σ3 H4))
  (hg:PG X' tg g) (hif:PIf X' a4 tc) (he:PE X' a3 te) (a5:∀ σ' H' s',Inv X' [] σ' H' s'->QD H'->R (.ok .next) s') :
  eP (model X'.prog X'.w) X'.A (.compLoop (.ListComp a3 [⟨tg,iter,a4,0⟩] scope pos) 0 (.ref it) (.ref D) X'.env) R s4:=by
 have nox:∀ {α:Type} {t:Sem α} {Q Q':α->af->Prop} {E:Value->af->Prop} {s:af},wpAny (model X'.prog X'.w) X'.A t Q X'.xe s->(∀ a s,Q a s->Q' a s)->wpAny (model X'.prog X'.w) X'.A t Q' E s :=
  λ h hQ=>cf h hQ λ _ _ z=>by rw[hx]at z;exact z.elim
 refine aX7 (λ n s'=>∃ i σ' H',Inv X' [] σ' H' s'/\tn i s'.heap/\(∀ b∈Z,H' b=none)/\W i n σ' H') ?_ m0 ⟨0,σ0,H0,I4,a6,b1,w0⟩
 rintro n s3 ⟨i,σ3,Y,I3,a2,a1,w3⟩
 rcases turn i n σ3 Y w3 with⟨stop,qn⟩|⟨go,N,hN,step⟩
 ·refine nox (T.done X' rfl rfl rfl B i [] s3 σ3 Y X'.xe I3 (C Y a1) a2 stop) λ r s4 ⟨hr,I4⟩=>?_
  subst hr
  exact a5 σ3 Y s4 I4 qn
 ·refine nox (T.item X' rfl rfl rfl B i [] s3 σ3 Y X'.xe I3 (C Y a1) a2 go) λ r s4 ⟨u,hr,h4⟩=>?_
  subst hr
  refine nox h4 λ _ s5 ⟨x,H5,I5,r5,y5,a0,b0⟩=>?_
  have b2:=I5.pinned (C H5 b0) (T.obj _ _ a0)
  refine nox (hg _ s5 σ3 H5 x u _ b2 r5 (step x H5 y5)) λ _ s6 ⟨σ6,H6,I6,q6⟩=>?_
  have G:∀ {σ7:St} {H7:Hp} {s7:af},Inv X' ([]++aB0 Z s5.heap) σ7 H7 s7->N σ7 H7->∃ m,m<n/\∃ i σ' H',Inv X' [] σ' H' s7/\tn i s7.heap/\(∀ b∈Z,H' b=none)/\W i m σ' H':=λ {σ7 H7 s7} I7 n7=>by
   obtain⟨m',hm,w7⟩:=hN σ7 H7 n7
   refine⟨m',hm,i+1,σ7,H7,I7.unpinned,T.keep _ _ _ a0 λ b hb o e=>(I7.pin (b,o) (bq _ (bq _ (jx hb e)))).1,λ b hb=>?_,w7⟩
   obtain⟨o,e,d⟩:=T.obj _ _ a0 b hb
   exact(I7.pin (b,o) (bq _ (bq _ (jx hb e)))).2.1
  refine nox (hif _ s6 σ6 H6 _ I6 q6) λ b s7 ⟨H7,I7,q7⟩=>?_
  cases b with
  | false =>
   rw[if_neg aP]at q7 ⊢
   exact G I7 q7
  | true =>
   rw[if_pos rfl]at q7 ⊢
   refine nox (he _ s7 σ6 H7 _ I7 q7) λ v s8 ⟨y,H8,I8,r8,ys,hy,hz,q8⟩=>?_
   refine nox (aB7 _ s8 σ6 H8 (.ref D) [y] (.ref D) [v] (λ _ H9=>N σ6 H9) I8 rfl (.cons r8 .nil) ⟨D,ys,y,rfl,rfl,hy,hz,q8⟩) λ v9 s9 ⟨_,H9,I9,_,q9⟩=>?_
   exact G I9 q9
theorem aZ2 {X:Cx}{a5 tg iter:Expr}{a3:List Expr}{scope:Scope}{pos:Pos}{wi:TI}{g:TG}{tc:TT}{te:TE}(N':List Str)(src:List (Option Nat))
  (b1:qt N' src scope X.N X.env.scope=true) (hi:PI X tg iter wi) (Z:X.calm=true)
  (b2:∀(C:Addr) (cells:List (Str×Addr)) (s:af) (H:Hp) (ex:List Addr),PG (z8 X N' scope C cells s H ex) tg g/\PIf (z8 X N' scope C cells s H ex) a3 tc/\PE (z8 X N' scope C cells s H ex) a5 te)
  (hs:∀ x,cO iter X.env x=pure x:=by intro _;rfl):PE X (.ListComp a5 [⟨tg,iter,a3,0⟩] scope pos) (tComp src wi g tc te):=by
 intro B s σ H Q I h
 have ck:=bu6 b1
 rw[eval_ListComp]
 have a6:=qD (scope:=scope) (env:=X.env) λ y hy e=>I.ok.has y.1 (ck.fr y hy e)
 refine fe (use:=none) rfl hs a6 ck.kind ck.loc (thn (hi B s σ H _ I h) λ v s1 h1=>thn h1 λ b6 s2 h2=>?_)
 obtain⟨it,G,tn,J,H2,e,I2,T,a1,f2,W⟩:=h2
 subst e
 have hD:=I2.fresh
 obtain⟨W,⟨m0,w0⟩,turn⟩:=W _ hD
 have I3:=I2.lnew (its:=[]) (ys:=[]) (t':=s2.toks) .nil (cS _)
 have a2:∀ b∈G,b<s2.heap.objs.size:=λ b hb=>by obtain⟨o,q,_⟩:=T.obj _ _ a1 b hb;exact aE q
 have f3:∀ b∈G,FpOk X B (upd H2 s2.heap.objs.size (.lst [])) b:=λ b hb=>⟨by rw[zm (ay (a2 b hb))];exact(f2 b hb).1,(f2 b hb).2⟩
 refine cb (ai0 ?_)
 generalize Y:({ s2 with heap:=s2.heap.push { cls:=.type "list",data:=.seq ([]:List Value).toArray },toks:=s2.toks }:af)=s3 at I3
 have b5:({ s2 with heap:=s2.heap.push { cls:=.type "list",data:=.seq ([]:List Value).toArray } }:af)=s3:=Y
 have b3:∀ b∈G,b<s3.heap.objs.size:=λ b hb=>by
  rw[<-Y]
  show b<(s2.heap.push _).objs.size
  rw[bR]
  exact eU (a2 b hb)
 have I4:=au3 (s4:={ s3 with heap:=dG (s3.heap.push { cls:=.type "dict",data:=.dict #[] }) scope.names }) ck I3 f3 b3 ⟨_,rfl⟩
 have a4:tn 0 (dG (s3.heap.push { cls:=.type "dict",data:=.dict #[] }) scope.names):=T.keep _ _ _ a1 λ b hb o e=>cH _ _ b o (ai _ (by rw[<-Y];exact ai _ e))
 obtain⟨hg,hif,he⟩:=b2 s3.heap.objs.size (aJ (s3.heap.objs.size+1) scope.names (af9 X.env.cells scope.names [])) s3 (upd H2 s2.heap.objs.size (.lst [])) G
 have a0:∀ H':Hp,(∀ b∈G,H' b=none)->∀ b∈G,FpOk (z8 X N' scope s3.heap.objs.size (aJ (s3.heap.objs.size+1) scope.names (af9 X.env.cells scope.names [])) s3 (upd H2 s2.heap.objs.size (.lst [])) G) [] H' b:=λ H' hn b hb =>
  ⟨hn b hb,(I4.ok.exf b hb).1,I4.ok.exfs b hb,.inl hb,λ x c e=>(I4.ok.exf b hb).2 x c e,λ p hp=>absurd (show p∈([]:List (Addr×Obj))from hp) (by simp)⟩
 have T':Turn X.prog X.w X.K tg J G it tn:=T
 have b4:∀ b∈G,upd H2 s2.heap.objs.size (.lst []) b=none:=λ b hb=>(f3 b hb).1
 have L:=aE1 (X':=z8 X N' scope s3.heap.objs.size (aJ (s3.heap.objs.size+1) scope.names (af9 X.env.cells scope.names [])) s3 (upd H2 s2.heap.objs.size (.lst [])) G) (R:=compPost (model X.prog X.w) X.A X.xe none (EP X B σ Q) (Value.ref s2.heap.objs.size) s3.heap.objs.size) (iter:=iter) (scope:=scope) (pos:=pos) (QD:=λ H'=>Q (.ref s2.heap.objs.size) H') rfl Z I4 T' a4 a0 b4 w0 turn hg hif he
  (λ σ' H' s' J' q=>by
   obtain⟨mm,hn,_⟩:=J'.loc
   exact⟨mm,hn,λ h' b0=>⟨.ref s2.heap.objs.size,H',aP7 I3 f3 J' b0,rfl,q⟩⟩)
 exact fN L (T.self _ _ _ _ _ a4 L)
section
variable {X:Cx}
theorem cf5:be "abs"=some (.builtin "abs"):=by decide +kernel
theorem ca8:be "len"=some (.builtin "len"):=by decide +kernel
theorem bH7:be "min"=some (.builtin "min"):=by decide +kernel
theorem bT2:be "max"=some (.builtin "max"):=by decide +kernel
theorem cc7:be "all"=some (.builtin "all"):=by decide +kernel
theorem aD1:be "isinstance"=some (.builtin "isinstance"):=by decide +kernel
theorem bN6:be "int"=some (.type "int"):=by decide +kernel
theorem bM2:be "bool"=some (.type "bool"):=by decide +kernel
theorem cd2:be "str"=some (.type "str"):=by decide +kernel
theorem aZ1:be "tuple"=some (.type "tuple"):=by decide +kernel
theorem bu9:be "list"=some (.type "list"):=by decide +kernel
def cd1 (i j:Int):Prop:=0<j/\j<2^4096
theorem aU3 {y:Int}(h0:0<y)(h:y<2^4096):y.natAbs.log2<9000:=by
 have hn:y.natAbs<2^4096:=by
  have:(y.natAbs:Int)=y:=by omega
  have B:(y.natAbs:Int)<((2^4096:Nat):Int):=by rw[this];simpa using h
  exact Int.ofNat_lt.mp B
 have:=(Nat.log2_lt (by omega)).mpr hn
 omega
theorem bl4:OpR X (bV .FloorDiv) (rI cd1 λ i j=>.int (i / j)):=opI λ i j _ _ _ _ _ hc q=>by
 refine floordiv_int (by have:=hc.1;omega) ?_ (.inl (PyProof.noPylong_of_log2 (aU3 hc.1 hc.2)))
 rw[eA i (by have:=hc.1;omega)]
 exact q
theorem aM2 {K:ac}(h:X.K=K):IxR X (cl5 K):=by subst h;exact bI5
theorem bH6 {K:ac}(h:X.K=K):IxR X (ck4 K):=by subst h;exact ix_tup
theorem aq5 {K:ac}(h:X.K=K):ae7 X (.builtin "len") (λ y H Q=>∃ p ys,y=[.ref p]/\(SqL K H p ys\/SqT K H p ys)/\Q (.int ys.length) H):=by subst h;exact aF9
theorem aJ3 {K:ac}(h:X.K=K):ae7 X (.type "tuple") (λ y H Q=>∃ p ys,y=[.ref p]/\((SqL K H p ys/\∀ l,H l=none->Q (.ref l) (upd H l (.tup ys)))\/(SqT K H p ys/\Q (.ref p) H))):=by subst h;exact av5
theorem aQ8 {K:ac}(h:X.K=K):ae7 X (.type "list") (λ y H Q=>∃ p ys,y=[.ref p]/\(SqL K H p ys\/SqT K H p ys)/\∀ l,H l=none->Q (.ref l) (upd H l (.lst ys))):=by subst h;exact aF1
theorem bm2 {K:ac}{tg l:Expr}{h:TE}(y:X.K=K)(hl:PE X l h):PI X tg l (bz5 K h):=by subst y;exact bw6 hl
theorem bK0 {K:ac}{tg l:Expr}{h:TE}(y:X.K=K)(hl:PE X l h):PI X tg l (ca6 K h):=by subst y;exact bK9 hl
theorem bD1 {K:ac}{pos:Pos}{es:List Expr}{k:Nat}{t:TGs}{n:Nat}(B:X.K=K)(hc:X.calm=true)(h:PGs X es t)
  (hn:(cq es X.env).length=n:=by rfl) (y:(cq es X.env).findIdx? (·.1)=none:=by rfl):PG X (.Tuple es k pos) (ci0 K n t):=by subst B;exact bY6 hc h hn y
end
structure DefAt (K:ac)(mg:Str->Option Value)(x:Str)(st:Stmt)(ps:List Str)(f:Addr)(fd:bz):Prop where
 fn:Fun K x x st f fd
 mg:mg x=some (.ref f)
 bi:Binds K fd ps []
@[irreducible] noncomputable def co1 (p:Prop):Prop:=p
theorem ai5.new {p:Addr}{H y:Hp}{o:HO}(h:ai5 H y)(B:y p=none):ai5 H (L2.upd y p o):=λ x o e=>by
 have e1:=h x o e
 rw[zm (zK e1 B)]
 exact e1
section
variable {prog:aK} {w:World} {A:aU} {R:Result->af->Prop} {I:Addr} {fp wr:List Addr} {n:Nat} {P:Nat->Value->Prop} {St:Nat->Heap->Prop} {kw:List (Str×Value)}
theorem aX1 (W:Walks prog w A.in1 I fp wr n P St)(bt:Nat->Nat->Bool)(b1:CmpOf prog w A.in1 .Lt P bt)(S:Addr)(a6:S ∉ fp) :
  ∀(k j:Nat) (s:af) (vb:Value) (c:Nat),n - (j+1)=k->j+1<=n->St (j+1) s.heap->P (cW bt j) vb ->
  s.heap.get? S=some { cls:=.type "list",dict:=none,data:=.seq #[vb,vb] c,slots:=#[] } ->
  (∀ v h' tk,P (cW bt (n - 1)) v->(∀ b o,b ∉ wr->b≠S->s.heap.get? b=some o->h'.get? b=some o)->R (.ok (.ret v)) { s with heap:=h',toks:=tk }) ->
  eP (model prog w) A (.builtin "min.loop" ⟨[.ref I,.none,.ref S],kw⟩) R s:=by
 have a5:S ∉ wr:=λ h=>a6 (W.sub _ h)
 have Z:(toString "min"++toString ".loop":String) = "min.loop":=by decide
 intro k
 induction k with
 | zero =>
  intro j s vb c hk hj a4 a0 hS hR
  have b0:j+1=n:=by omega
  refine fY fq ?_
  rw[dQ cj _]
  show wpAny _ A.in1 (gH (.ref S) >>= _) _ _ s
  refine ar (du hS rfl ?_)
  show wpAny _ A.in1 (tryCatch (iC (.ref I)) _ >>= _) _ _ s
  refine ar (dv (W.done s _ _ (b0▸a4) λ h' tk C=>?_))
  have J:=C S _ a5 hS
  show wpAny _ A.in1 (updateSeq S (λ _=>#[]) >>= _) _ _ _
  refine ar ?_
  refine fZ J rfl (ar (gz (aS ?_)))
  refine hR vb _ tk (by rw[<-b0];exact a0) λ b o y B e=>(bH _ _ (bM B)).trans (C b o y e)
 | succ k ih =>
  intro j s vb c hk hj a4 a0 hS hR
  have hlt:j+1<n:=by omega
  refine fY fq ?_
  rw[dQ cj _]
  show wpAny _ A.in1 (gH (.ref S) >>= _) _ _ s
  refine ar (du hS rfl ?_)
  show wpAny _ A.in1 (tryCatch (iC (.ref I)) _ >>= _) _ _ s
  refine ar (dv (W.item (j+1) s _ _ hlt a4 λ v h' tk hP a1 C=>?_))
  have J:=C S _ a5 hS
  show wpAny _ A.in1 (tryCatch (io [v,v] (richCompare .Lt v vb >>= _)) _ >>= _) _ _ _
  refine ar (dv (dI (ar (b1 (j+1) (cW bt j) v vb _ _ _ hP a0 ?_))))
  refine ar (dI (bQ ?_))
  refine ar (gz (aS ?_))
  cases hb:bt (j+1) (cW bt j)with
  | true =>
   simp only[if_true]
   refine ar ?_
   refine fZ J rfl (ar (gz ?_))
   rw[Z]
   refine aS ⟨fg cj _,ih (j+1) _ v _ (by omega) hlt (W.frame _ _ _ a1 λ b b2 o e=>?_) (by simp only[cW,hb,if_true];exact hP) (cL _ J rfl)
    λ v' a3 G a2 Y=>?_⟩
   ·exact(bH _ _ (λ h:S=b=>a6 (by rw[h];exact b2))).trans e
   ·exact hR v' a3 G a2 λ b o y B e=>Y b o y B ((bH _ _ (bM B)).trans (C b o y e))
  | false =>
   simp only[aH,if_false]
   refine ar (gz ?_)
   rw[Z]
   refine aS ⟨fg cj _,ih (j+1) _ vb c (by omega) hlt a1 (by simp only[cW,hb,aH,if_false];exact a0) J λ v' a3 G a2 Y=>?_⟩
   exact hR v' a3 G a2 λ b o y B e=>Y b o y B (C b o y e)
theorem aS1 (W:Walks prog w A.in1 I fp wr n P St)(bt:Nat->Nat->Bool)(a3:CmpOf prog w A.in1 .Lt P bt)(S:Addr)(C:S ∉ fp){s:af}{c:Nat}{d:Value}(a0:St 0 s.heap)
  (hS:s.heap.get? S=some { cls:=.type "list",dict:=none,data:=.seq #[] c,slots:=#[] })
  (h0:n=0->∀ h' tk,(∀ b o,b ∉ wr->b≠S->s.heap.get? b=some o->h'.get? b=some o)->R (.ok (.ret d)) { s with heap:=h',toks:=tk })
  (hR:0<n->∀ v h' tk,P (cW bt (n - 1)) v->(∀ b o,b ∉ wr->b≠S->s.heap.get? b=some o->h'.get? b=some o)->R (.ok (.ret v)) { s with heap:=h',toks:=tk }) :
  eP (model prog w) A (.builtin "min.loop" ⟨[.ref I,.none,.ref S],[(cX "default",d)]⟩) R s:=by
 have a4:S ∉ wr:=λ h=>C (W.sub _ h)
 have G:(toString "min"++toString ".loop":String) = "min.loop":=by decide
 refine fY fq ?_
 rw[dQ cj _]
 show wpAny _ A.in1 (gH (.ref S) >>= _) _ _ s
 refine ar (du hS rfl ?_)
 show wpAny _ A.in1 (tryCatch (iC (.ref I)) _ >>= _) _ _ s
 rcases Nat.eq_zero_or_pos n with hn|hn
 ·refine ar (dv (W.done s _ _ (hn▸a0) λ h' tk B=>?_))
  show wpAny _ A.in1 (rule _ >>= _) _ _ _
  refine ar (i6 (aS ?_))
  exact h0 hn h' tk λ b o y _ e=>B b o y e
 ·refine ar (dv (W.item 0 s _ _ hn a0 λ v h' tk hP a1 B=>?_))
  have Y:=B S _ a4 hS
  show wpAny _ A.in1 (updateSeq S (λ _=>#[v,v]) >>= _) _ _ _
  refine ar ?_
  refine fZ Y rfl ?_
  rw[G]
  refine aS ⟨fg cj _,aX1 W bt a3 S C _ 0 _ v _ rfl hn (W.frame _ _ _ a1 λ b b0 o e=>?_) hP (cL _ Y rfl) λ v' a6 J a5 Z=>?_⟩
  ·exact(bH _ _ (λ h:S=b=>C (by rw[h];exact b0))).trans e
  ·exact hR hn v' a6 J a5 λ b o y a2 e=>Z b o y a2 ((bH _ _ (bM a2)).trans (B b o y e))
end
theorem be1 (a d:Value):argsOk "min" ⟨[a],[(cX "default",d)]⟩:=by unfold argsOk;kernel_rfl
theorem jF (val : Nat -> Int) : ∀ k j, j <= k -> val (cW (λ i j => decide (val i < val j)) k) <= val j
  | 0, j, h => by have : j = 0 := by omega
                  subst this; exact bO _
  | k + 1, j, h => by
    have ih := jF val k
    unfold cW
    by_cases hb : val (k + 1) < val (cW (λ i j => decide (val i < val j)) k)
    · rw[if_pos (by simpa using hb)]
      by_cases hj : j = k + 1
      · subst hj; exact bO _
      · have := ih j (by omega); omega
    · rw[if_neg (by simpa using hb)]
      by_cases hj : j = k + 1
      · subst hj; omega
      · exact ih j (by omega)
def bH5 (K:ac):V->V->Hp->VK->Prop:=λ x d H Q=>∃ a ns,x=.ref a/\SqL K H a (ns.map V.int)/\(ns=[]->Q d H)/\∀ m∈ns,(∀ y∈ns,m<=y)->Q (.int m) H
theorem aw6 {ns:List Int}{its:List Value}(r:Vals (ns.map V.int) its){i:Nat}{v:Value}(h:its[i]?=some v):∃ z t,ns[i]?=some z/\v=Value.int z t:=by
 have hl:=r.length
 rw[aF]at hl
 have y:i<its.length:=(ab.mp h).1
 obtain⟨u,e1,q⟩:=r.get (i:=i) (x:=.int ns[i]) (by rw[ax,ag (by omega)];rfl)
 rw[h]at e1;cases e1
 obtain⟨t,rfl⟩:=q
 exact⟨_,t,ag (by omega),rfl⟩
theorem bo1 {X:Cx}{B:List (Addr×Obj)}{σ:St}{H:Hp}{s:af}{x d:V}{u Y:Value}{Q:VK}(hc:X.calm=true)(I:Inv X B σ H s)(rx:RelV x u)(rd:RelV d Y)(h:bH5 X.K x d H Q) :
  wpAny (model X.prog X.w) X.A (call (.builtin "min") [u] [(cX "default",Y)]) (EP X B σ Q) X.xe s:=by
 obtain⟨a,ns,rfl,hS,q0,qm⟩:=h
 cases rx
 obtain⟨its,rv,pl,hz⟩:=I.list hS
 have hl:=rv.length
 rw[aF]at hl
 have J:(toString "min"++toString ".loop":String) = "min.loop":=by decide
 refine kmb_tree F.kind_min F.plain_min F.entry_min (be1 _ _) ?_
 show wpAny _ X.A.in1 (d6 "min" ["key", "default"] 0 ⟨[],[(cX "default",Y)]⟩ >>= _) _ _ s
 refine ar (wpAny_of_eq (show d6 "min" ["key", "default"] 0 ⟨[],[(cX "default",Y)]⟩=pure [none,some Y]from rfl) ?_)
 refine ar (aS ?_)
 refine ar (cN pl.isList ?_)
 have a0:a<s.heap.objs.size:=by obtain⟨o,_,e,_⟩:=pl;exact aE e
 have W:=i7 (prog:=X.prog) (w:=X.w) (A:=X.A.in1) (I.ok.hd hc) s.heap.objs.size a (ay a0) its.toArray
 refine ar (cb ?_)
 generalize G:s.heap.push _=h2
 have C:h2.objs.size=s.heap.objs.size+1:=by rw[<-G,bR]
 have hk2:∀ b o,s.heap.get? b=some o->h2.get? b=some o:=λ b o e=>by rw[<-G];exact ai _ e
 have a2:h2.objs.size ∉ [s.heap.objs.size,a]:=by
  rw[C]
  intro z
  rcases az.mp z with z|z
  ·exact absurd z (Nat.succ_ne_self _)
  ·have z':s.heap.objs.size+1=a:=by simpa using z
   exact absurd (am a0 (by rw[<-z'];exact cT _)) (bo _)
 have a1:(h2.push { cls:=.type "list",data:=.seq ([]:List Value).toArray }).IsListIter s.heap.objs.size a 0/\(h2.push { cls:=.type "list",data:=.seq ([]:List Value).toArray }).IsList a its.toArray:=by
  refine⟨⟨_,ai _ (by rw[<-G];exact aN _ rfl),rfl,rfl⟩,?_⟩
  obtain⟨o,e,r⟩:=pl.isList
  exact⟨o,ai _ (hk2 _ _ e),r⟩
 let val:Nat->Int:=λ i=>ns.getD i 0
 have Z:∀ i v,its.toArray[i]?=some v->∃ t,v=Value.int (val i) t:=λ i v e=>by
  obtain⟨z,t,e1,e2⟩:=aw6 rv (i:=i) (v:=v) (by rw[cw]at e;exact e)
  refine⟨t,?_⟩
  rw[e2]
  show Value.int z t=Value.int (ns.getD i 0) t
  rw[aO,e1]
  rfl
 rw[J]
 have nx:∀(h':Heap) (tk:Nat),(∀ b o,b ∉ [s.heap.objs.size]->b≠h2.objs.size->(h2.push { cls:=.type "list",data:=.seq ([]:List Value).toArray }).get? b=some o->h'.get? b=some o)->Inv X B σ H { s with heap:=h',toks:=tk }:=λ h' tk k=>I.kept λ b o e=>by
  refine k b o ?_ ?_ (ai _ (hk2 b o e))
  ·intro z
   have z':b=s.heap.objs.size:=by simpa using z
   exact absurd (aE e) (by rw[z'];exact bo _)
  ·intro z
   exact absurd (aE e) (by rw[z,C];exact Nat.not_lt.mpr (cT _))
 refine aS ⟨fg cj _,aS1 (d:=Y) W _ (jV val Z) h2.objs.size a2 a1 (aN _ rfl) (λ hn h' tk k=>?_) λ hn v h' tk hP k=>?_⟩
 ·have e:ns=[]:=by
   have:its.toArray.size=0:=hn
   have:its.length=0:=by simpa using this
   exact dk.mp (by omega)
  exact⟨d,H,nx h' tk k,rd,q0 e⟩
 ·obtain⟨z,t,e1,e2⟩:=aw6 rv (i:=cW (λ i j=>decide (val i<val j)) (its.toArray.size - 1)) (v:=v) (by rw[cw]at hP;exact hP)
  subst e2
  have hv:val (cW (λ i j=>decide (val i<val j)) (its.toArray.size - 1))=z:=by
   show ns.getD _ 0=z
   rw[aO,e1]
   rfl
  refine⟨.int z,H,nx h' tk k,⟨t,rfl⟩,qm z (aV e1) λ y hy=>?_⟩
  obtain⟨j,hj,e3⟩:=b9.mp hy
  have:=jF val (its.toArray.size - 1) j (by simp only[aA];omega)
  rw[hv]at this
  have e4:val j=y:=by
   show ns.getD j 0=y
   rw[aO,ag hj]
   exact e3
  omega
def ce9 (K:ac)(ta td:TE):TE:=λ σ H Q=>ta σ H λ x H1=>td σ H1 λ d H2=>bH5 K x d H2 Q
theorem bw5 {X:Cx}{K:ac}{e Y:Expr}{G C:TE}{p pos kp:Pos}(hK:X.K=K)(hc:X.calm=true)(hg:Gl X "min")(hm:X.mg "min"=none)(ha:PE X e G)(hd:PE X Y C)
  (hs:bj [e] X.env=[(false,eval e X.env)]:=by rfl) :
  PE X (.Call (.Name "min" p) [e] [⟨some "default",Y,kp⟩] pos) (ce9 K G C):=by
 subst hK
 intro y s σ H Q I h
 refine bZ (aA6 I hg hm bH7 ?_)
 have h':az9 G bm7 σ H (λ vs B=>match vs with|[x]=>C σ B λ d H2=>bH5 X.K x d H2 Q|_=>False):=h
 refine callWith_kw (env:=X.env) (thn ((qu ha ag9 hs) pos y s σ H _ I h') λ us s1 ⟨vs,B,Z,r1,J⟩=>?_) (by rw[hs];rfl) (by rw[hs];rfl)
 match vs,J,r1 with
 | [x],J,r1 =>
  obtain⟨u,rfl,ru⟩:=am0 r1
  refine kws_cons (thn (hd y s1 σ B _ Z J) λ v s2 ⟨d,H2,I2,rd,q2⟩=>kws_nil ?_)
  exact bo1 hc I2 ru rd q2
inductive D where
 | non|bl (b:Bool)|int (i:Int)|str (x:Str)|tup (l:List D)|lst (l:List D)
mutual
noncomputable def D.deep:D->Nat
 | .tup l=>D.deepL l+1
 | .lst l=>D.deepL l+1
 | _=>0
noncomputable def D.deepL:List D->Nat
 | []=>0
 | d::l=>max (D.deep d) (D.deepL l)
end
section
variable {X:Cx}
end
section
variable {X:Cx}
def cd5 (K:ac):R2:=λ x y H Q=>∃ a b xs ys,x=.ref a/\y=.ref b/\SqT K H a xs/\SqT K H b ys/\xs.length+ys.length<=aL/\∀ p H',ai5 H H'->SqT K H' p (xs++ys)->Q (.ref p) H'
theorem bC1 {prog:aK}{w:World}{A:aU}{E:Value->af->Prop}{s:af}{t b:Addr}{ws:List Value}{Q:Value->af->Prop}(ht:IsTup s.heap t ([]:List Value).toArray)(hb:IsTup s.heap b ws.toArray)(Z:Q (.ref b) s) :
  wpAny (model prog w) A (bV .Add (.ref t) (.ref b)) Q E s:=by
 obtain⟨⟨cls,dd,data,sl⟩,ho,hc,n,hd⟩:=id ht
 obtain⟨⟨Y,C,G,J⟩,y,h,n2,B⟩:=id hb
 simp only at hc hd h B
 subst hc hd h B
 exact iw ⟨_,ho,rfl⟩ ⟨_,y,rfl⟩ fm gX dr dj (c7 _ _)
   (tuple_addW0 t b _ ws.toArray n n2 dd C sl J rfl) ⟨ho,y,Z⟩
theorem bD5 {K:ac}(hK:X.K=K):OpR X (bV .Add) (cd5 K):=by
 subst hK
 intro B s σ H x y v u Q I G Y h
 obtain⟨a,b,C,ys,e1,e2,ha,hb,hz,q⟩:=h
 by_cases hx:C=[]
 ·subst e1;subst e2;subst hx
  cases G;cases Y
  obtain⟨its,r1,Z,_⟩:=I.tuple ha
  obtain⟨J,r2,p2,_⟩:=I.tuple hb
  obtain rfl:its=[]:=r1.nil_iff.mpr rfl
  exact bC1 Z p2 ⟨.ref b,H,I,rfl,q b H (ai5.refl H) hb⟩
 ·refine bC5 B s σ H x y v u Q I G Y ⟨a,b,C,ys,e1,e2,ha,hb,hx,hz,λ z=>?_,λ z p hp=>?_⟩
  ·subst z
   exact q a H (ai5.refl H) (by rw[bC];exact ha)
  ·exact q p _ ((ai5.refl H).new hp) (SqT.of zt)
end
noncomputable def Its (x:Str):It:=⟨λ i _=>i<x.cps.size,λ i H v H'=>H'=H/\∃ c,x.cps[i]?=some c/\v=.str ⟨#[c]⟩,λ i _=>x.cps.size<=i⟩
theorem aN0 {P:aK}{w:World}{K:ac}{tg:Expr}{G:String}{x:Str}{t:Tok}(y:Addr)(hn:["enumerate", "zip", "dict_itemiterator", "dict_reverseitemiterator", "odict_iterator", "itertools.zip_longest", "itertools.pairwise"].contains G=false)
  (W:∀ A:aU,A.handled=none->Walks P w A y [y] [y] x.cps.size (SignAt x) (λ i h=>h.IsStrIter y G x t i))
  (J:∀(A:aU) (s:af) (i:Nat) (Q:Option Value->af->Prop) (E:Value->af->Prop),A.handled=none->s.heap.IsStrIter y G x t i->x.cps[i]?=none->(∀ h',iM y s.heap h'->Q none { s with heap:=h' })->wpAny (model P w) A (iC (.ref y)) Q E s)
  (C:∀(A:aU) (i:Nat) (s:af) (Q:Value->af->Prop) (E:Value->af->Prop),s.heap.IsStrIter y G x t i->Q (.ref y) s->wpAny (model P w) A (j3 (.ref y)) Q E s):Turn P w K tg (Its x) [y] y (λ i h=>h.IsStrIter y G x t i) where
 mem:=by simp
 obj:=λ i h st b hb=>by
  have e:b=y:=by simpa using hb
  subst e
  obtain⟨o,ho,hc,hd⟩:=st
  exact⟨o,ho,λ v z=>by rw[hd]at z;cases z⟩
 keep:=λ i h h' st k=>by
  obtain⟨o,ho,r⟩:=st
  exact⟨o,k y (by simp) _ ho,r⟩
 item:=by
  intro X hP hw hK hc i B s σ H E I Z st hg
  subst hP hw hK
  obtain⟨f0,f1,f2,f3,f4,f5⟩:=Z y (by simp)
  refine(W X.A (I.ok.hd hc)).item i s _ _ hg st λ v h' tk hv Y kk=>?_
  obtain⟨c,u,a1,rfl⟩:=hv
  have I1:Inv X B σ H { s with heap:=h',toks:=tk }:=I.turned (λ b o hb e=>kk b o (by simpa using hb) e) f0 f1 f3 f4 f5
  obtain⟨o,ho,a0,hd⟩:=id Y
  exact⟨_,rfl,bl6 (s:={ s with heap:=h',toks:=tk }) (n:=G) ho a0 hd hn ⟨.str ⟨#[c]⟩,H,I1,⟨u,rfl⟩,⟨rfl,c,a1,rfl⟩,Y,λ b hb=>(Z b hb).1⟩⟩
 done:=by
  intro X hP hw hK hc i B s σ H E I Z st hg
  subst hP hw hK
  obtain⟨f0,f1,f2,f3,f4,f5⟩:=Z y (by simp)
  have a2:x.cps.size<=i:=hg
  exact J X.A s i _ E (I.ok.hd hc) st (by simp;omega) λ h' eb=>⟨rfl,I.turned (t':=s.toks) (λ b o hb e=>eb b o hb e) f0 f1 f3 f4 f5⟩
 self:=λ A i s Q E st h=>C A i s Q E st h
def ci7 (tl:TE):TI:=λ σ H R=>tl σ H λ v H1=>∃ x,v=.str x/\R (Its x) H1
theorem bS7 {X:Cx}{tg l:Expr}{J:TE}(hl:PE X l J):PI X tg l (ci7 J):=by
 intro y s σ H R I h
 refine thn (hl y s σ H _ I h) λ v s1 ⟨v0,Y,B,r1,q1⟩=>?_
 obtain⟨x,e,q⟩:=q1
 subst e
 obtain⟨t,rfl⟩:=r1
 have fin:∀(G:String) (o:Obj),o={ cls:=.type G,data:=.fields #[.str x t,.int 0 0] }->Turn X.prog X.w X.K tg (Its x) [s1.heap.objs.size] s1.heap.objs.size (λ i h=>h.IsStrIter s1.heap.objs.size G x t i)->PIE X y σ tg R (.ref s1.heap.objs.size) { s1 with heap:=s1.heap.push o }:=λ G o Z T=>by
  subst Z
  refine⟨s1.heap.objs.size,[s1.heap.objs.size],_,_,Y,rfl,B.kept (t':=s1.toks) λ b o e=>ai _ e,T,⟨_,aN _ rfl,rfl,rfl⟩,λ b hb=>?_,q⟩
  have e:b=s1.heap.objs.size:=by simpa using hb
  subst e
  exact B.fpOk (ah _) (B.hok.fresh (ah _))
 cases ha:x.cps.all (·<128)
 ·exact wpAny_pyIter_wide ha (fin "str_iterator" _ rfl (aN0 _ (by decide) (λ A hA=>Walks.strWide hA _ x t) (λ A s i Q E hA st hx C=>wpAny_pyNext_wide_end hA st hx C) λ A i s Q E st h=>wpAny_pyIter_striter_wide st h))
 ·exact wpAny_pyIter_ascii ha (fin "str_ascii_iterator" _ rfl (aN0 _ (by decide) (λ A hA=>Walks.strAscii hA _ x t) (λ A s i Q E hA st hx C=>wpAny_pyNext_ascii_end hA st hx C) λ A i s Q E st h=>wpAny_pyIter_striter_ascii st h))
section
variable {X:Cx} {K:ac} {T id:String} {name:Str} {o e:Expr} {es:List Expr} {to:TE} {t:TA} {r:V->List V->Hp->VK->Prop} {apos cpos:Pos}
theorem bQ8 (Y:X.K=K)(Z:i4 T)(slot:Slot T name id)(G:typeOf (.builtin id)=pure (.type "method_descriptor"))(J:MtR X id r)(ho:PE X o to)(ha:PA X (e::es) t)
  (y:fc o name X.env (eval o X.env)=eval o X.env:=by rfl)
  (C:((dq cpos (bj (e::es) X.env)).all (λ x=>!x.1)&&(backToKw cpos (keywordEach [] X.env)).all (λ x=>x.1.isSome)
   && decide ((e::es).length+([]:List iW).length+(if([]:List iW).isEmpty then 0 else 1)<30))=true:=by rfl)
  (B:(apos.endLine==cpos.line)=true:=by rfl) (hs:bj (e::es) X.env=(false,eval e X.env)::bj es X.env:=by rfl) (h:(dq cpos (bj es X.env)).any (·.1)=false:=by rfl) :
  PE X (.Call (.Attribute o name apos) (e::es) [] cpos) (tBM K T r to t):=by
 subst Y
 exact ci1 Z slot G J ho ha y C B hs h
end
structure Mach where
 letters:Int
 rooms:Int
 begins:List Int
 ends:List Int
 doors:List (Int×Str×Int×Int)
noncomputable def cd0 (q:Int×Str×Int×Int):D:=.tup [.int q.1,.str q.2.1,.int q.2.2.1,.int q.2.2.2]
noncomputable def Mach.D (M:Mach):D:=.tup [.int M.letters,.int M.rooms,.tup (M.begins.map .int),.tup (M.ends.map .int),.tup (M.doors.map cd0)]
noncomputable def ltr (i:Nat):Str:=⟨#[97+i]⟩
structure DoorOk (letters rooms:Int)(q:Int×Str×Int×Int):Prop where
 s0:0<=q.1
 s1:q.1<rooms
 l:∃ i:Nat,(i:Int)<letters/\q.2.1=ltr i
 g0:0<=q.2.2.1
 g1:q.2.2.1<rooms
 t0:0<=q.2.2.2
 t1:q.2.2.2<=3
structure RoomsOk (rooms:Int)(l:List Int):Prop where
 mem:∀ r∈l,0<=r/\r<rooms
 up:l.Pairwise (· < ·)
structure Mach.Ok (most:Nat)(M:Mach):Prop where
 l0:1<=M.letters
 l1:M.letters<=3
 r0:1<=M.rooms
 r1:M.rooms<=5
 b:RoomsOk M.rooms M.begins
 e:RoomsOk M.rooms M.ends
 d:∀ q∈M.doors,DoorOk M.letters M.rooms q
 m:M.doors.length<=most
mutual
noncomputable def D.tups:D->Bool
 | .lst _=>false
 | .tup l=>D.tupsL l
 | _=>true
noncomputable def D.tupsL:List D->Bool
 | []=>true
 | d::l=>D.tups d&&D.tupsL l
end
end L2
end
noncomputable section
namespace L2
end L2
end
noncomputable section
namespace L2
open PySem PySem.Spec PyProof.Rows
noncomputable def cn9:Option Int->D
 | none=>.non
 | some i=>.int i
noncomputable def addO:Option Int->Option Int->Option Int
 | some a,some b=>some (a+b)
 | _,_=>none
noncomputable def minO:List Int->Option Int
 | []=>none
 | a::l=>some (match minO l with|none=>a|some b=>if b<a then b else a)
theorem al4:∀ {l:List Int},minO l=none↔l=[]
 | []=>by simp[minO]
 | a::l=>by simp[minO]
theorem aD2:∀ {l:List Int} {m:Int},minO l=some m->m∈l/\∀ y∈l,m<=y
 | [],m,h=>by cases h
 | a::l,m,h=>by
  unfold minO at h
  have h':=ao h
  cases e:minO l with
  | none =>
   rw[e]at h'
   have:l=[]:=al4.mp e
   subst this
   have:a=m:=h'
   subst this
   exact⟨aD,λ y hy=>by(have h0:y=a:=(by simpa using hy));omega⟩
  | some b =>
   rw[e]at h'
   obtain⟨G,C⟩:=aD2 e
   have B:(if b<a then b else a)=m:=h'
   split at B
   ·subst B
    exact⟨au _ G,λ y hy=>by
     rcases az.mp hy with z|z
     ·omega
     ·exact C y z⟩
   ·subst B
    exact⟨aD,λ y hy=>by
     rcases az.mp hy with z|z
     ·omega
     ·have:=C y z;omega⟩
theorem aQ5 {X:Cx}{Y tg iter:Expr}{Z:List Expr}{scope:Scope}{pos a0 py:Pos}{y:Str}{i:Nat}{wi:TI}{g:TG}{tc:TT}{te:TE}(N':List Str)(src:List (Option Nat))
  (hN:X.N.Nodup) (c0:X.N[i]?=some y) (a3:X.env.scope.names.lookup y=some .local)
  (c1:qt N' src scope X.N X.env.scope=true) (hi:PI X tg iter wi) (a2:X.calm=true)
  (b5:∀(C:Addr) (cells:List (Str×Addr)) (s:af) (H:Hp) (ex:List Addr),PG (z8 X N' scope C cells s H ex) tg g/\PIf (z8 X N' scope C cells s H ex) Z tc/\PE (z8 X N' scope C cells s H ex) Y te)
  (hs:∀ x,cO iter X.env x=pure x:=by intro _;rfl)
  (b2:ee (.ListComp Y [⟨tg,iter,Z,0⟩] scope pos) (some (.Name y py)) a0.line X.env=pure true:=by rfl) :
  PS X (.Assign [.Name y py] (.ListComp Y [⟨tg,iter,Z,0⟩] scope pos) a0) (bm0 (tComp src wi g tc te) (aE4 i)):=by
 intro B s σ H D0 I h
 have ck:=bu6 c1
 rw[exec_Assign_Name_used _ _ _ _ b2]
 refine ar (gT (ar ?_))
 show wpAny _ X.A (do let _ <- comprehension (.ListComp Y [⟨tg,iter,Z,0⟩] scope pos) scope X.env _ (newList []) false (eval iter X.env) (some (fD (.Name y py) X.env))) _ _ s
 have b1:=qD (scope:=scope) (env:=X.env) λ y hy e=>I.ok.has y.1 (ck.fr y hy e)
 refine ar (cf (fe (use:=some (fD (.Name y py) X.env)) (Q:=λ _ s'=>SP X B D0 .next s') rfl hs b1 ck.kind ck.loc (thn (hi B s σ H _ I h) λ v s1 h1=>thn h1 λ c3 s2 h2=>?_)) (λ _ s' hq=>aS (aS hq)) λ _ _ e=>e)
 obtain⟨it,G,tn,J,H2,e,I2,T,b0,f2,W⟩:=h2
 subst e
 have hD:=I2.fresh
 obtain⟨W,⟨m0,w0⟩,turn⟩:=W _ hD
 have I3:=I2.lnew (its:=[]) (ys:=[]) (t':=s2.toks) .nil (cS _)
 have a6:∀ b∈G,b<s2.heap.objs.size:=λ b hb=>by obtain⟨o,q,_⟩:=T.obj _ _ b0 b hb;exact aE q
 have f3:∀ b∈G,FpOk X B (upd H2 s2.heap.objs.size (.lst [])) b:=λ b hb=>⟨by rw[zm (ay (a6 b hb))];exact(f2 b hb).1,(f2 b hb).2⟩
 refine cb (ai0 ?_)
 generalize a1:({ s2 with heap:=s2.heap.push { cls:=.type "list",data:=.seq ([]:List Value).toArray },toks:=s2.toks }:af)=s3 at I3
 have c2:({ s2 with heap:=s2.heap.push { cls:=.type "list",data:=.seq ([]:List Value).toArray } }:af)=s3:=a1
 have b4:∀ b∈G,b<s3.heap.objs.size:=λ b hb=>by
  rw[<-a1]
  show b<(s2.heap.push _).objs.size
  rw[bR]
  exact eU (a6 b hb)
 have I4:=au3 (s4:={ s3 with heap:=dG (s3.heap.push { cls:=.type "dict",data:=.dict #[] }) scope.names }) ck I3 f3 b4 ⟨_,rfl⟩
 have a4:tn 0 (dG (s3.heap.push { cls:=.type "dict",data:=.dict #[] }) scope.names):=T.keep _ _ _ b0 λ b hb o e=>cH _ _ b o (ai _ (by rw[<-a1];exact ai _ e))
 obtain⟨hg,hif,he⟩:=b5 s3.heap.objs.size (aJ (s3.heap.objs.size+1) scope.names (af9 X.env.cells scope.names [])) s3 (upd H2 s2.heap.objs.size (.lst [])) G
 have a5:∀ H':Hp,(∀ b∈G,H' b=none)->∀ b∈G,FpOk (z8 X N' scope s3.heap.objs.size (aJ (s3.heap.objs.size+1) scope.names (af9 X.env.cells scope.names [])) s3 (upd H2 s2.heap.objs.size (.lst [])) G) [] H' b:=λ H' hn b hb =>
  ⟨hn b hb,(I4.ok.exf b hb).1,I4.ok.exfs b hb,.inl hb,λ x c e=>(I4.ok.exf b hb).2 x c e,λ p hp=>absurd (show p∈([]:List (Addr×Obj))from hp) (by simp)⟩
 have T':Turn X.prog X.w X.K tg J G it tn:=T
 have b6:∀ b∈G,upd H2 s2.heap.objs.size (.lst []) b=none:=λ b hb=>(f3 b hb).1
 have L:=aE1 (X':=z8 X N' scope s3.heap.objs.size (aJ (s3.heap.objs.size+1) scope.names (af9 X.env.cells scope.names [])) s3 (upd H2 s2.heap.objs.size (.lst [])) G) (R:=compPost (model X.prog X.w) X.A X.xe (some (fD (.Name y py) X.env)) (λ _ s'=>SP X B D0 .next s') (Value.ref s2.heap.objs.size) s3.heap.objs.size) (iter:=iter) (scope:=scope) (pos:=pos) (QD:=λ H'=>D0.nx (σ.set i (some (.ref s2.heap.objs.size))) H') rfl a2 I4 T' a4 a5 b6 w0 turn hg hif he
  (λ σ' H' s' J' q=>by
   have J2:=aP7 I3 f3 J' (Heap.SameBut.refl _ _)
   obtain⟨mm,hn,_⟩:=J'.loc
   have nL:s3.heap.objs.size≠X.env.locals:=cV I3.lt
   have nC:∀ x c,X.env.cells.lookup x=some c->c≠s3.heap.objs.size:=λ x c e=>by
    obtain⟨v,z⟩:=I3.cell x c e
    exact ay z.lt
   show wpAny _ X.A (fD (.Name y py) X.env (.ref s2.heap.objs.size)) _ _ _
   refine iq (aD8 (v:=.ref s2.heap.objs.size) J2 hN c0 (.inl a3) rfl (λ s5 I5 sb=>?_) (.inr a3))
   obtain⟨aa,sb,ha⟩:=sb
   have na:s3.heap.objs.size≠aa:=by
    rcases ha with z|z
    ·rw[z];exact nL
    ·exact λ e=>nC _ _ z e.symm
   refine⟨mm,hn.sameBut sb na,λ h' b3=>⟨_,H',I5.turned (t':=s5.toks) (λ b o hb e=>(b3.2 b hb).trans e) J'.free nL (.inr I3.sz) nC λ p hp z=>?_,q⟩⟩
   exact absurd (aE (I3.pin p hp).1) (by rw[z];exact bo _))
 exact fN L (T.self _ _ _ _ _ a4 L)
section
variable {M:Model} {A:aU} {E:Value->af->Prop} {s₀ s:af} {m cm:Str->Option Value} {env:Env} {cs:List (Str×Addr)}
theorem bz8 {n:Str}{v:Value}{Q:Unit->af->Prop}(z:eQ s₀ env.locals m cs cm s)(C:env.scope.kind=.function)(kl:env.kindOf n=some .local)
  (go:∀ s',eQ s₀ env.locals (λ y=>if y=n then some v else m y) cs cm s'->Q () s'):wpAny M A (d9 env n v) Q E s:=by
 refine ga kl z.toInCall.ns (λ g B h=>go _ ⟨⟨?a,B,λ b o e=>?b,z.toInCall.fresh⟩,λ k c e=>?c,z.apart,z.above⟩) (by rw[C];rfl)
 case a=>obtain⟨G,tk,e⟩:=z.toInCall.same;subst e;exact⟨g,_,rfl⟩
 case b=>exact h.extBut b o (ay (am (aE e) z.toInCall.fresh)) (z.toInCall.keep b o e)
 case c=>exact(z.cell k c e).sameBut h (cV (z.above k c (aC e)))
theorem bD2 {n:Str}{c:Addr}{v:Value}{Q:Unit->af->Prop}(z:eQ s₀ env.locals m cs cm s)(J:env.scope.kind=.function)(C:env.kindOf n=some .cell)
  (e1:env.cells.lookup n=some c) (e2:cs.lookup n=some c) (go:∀ s',eQ s₀ env.locals m cs (λ y=>if y=n then some v else cm y) s'->Q () s'):wpAny M A (d9 env n v) Q E s:=by
 have up:=z.above n c (aC e2)
 refine gk J C e1 (z.cell n c e2) λ g B h=>go _ ⟨⟨?a,z.toInCall.ns.sameBut h (ay up),λ b o e=>?b,z.toInCall.fresh⟩,λ k G e=>?c,z.apart,z.above⟩
 case a=>obtain⟨Y,tk,e⟩:=z.toInCall.same;subst e;exact⟨g,_,rfl⟩
 case b=>exact h.extBut b o (ay (dw (am (aE e) z.toInCall.fresh) up)) (z.toInCall.keep b o e)
 case c =>
  by_cases q:k=n
  ·subst q
   rw[e2]at e;cases e
   simpa using B
  ·rw[if_neg q]
   exact(z.cell k G e).sameBut h λ y=>q (fG z.apart (aC e) (y▸aC e2))
theorem aI9 (f:Str×Value->PUnit->Sem (ForInStep PUnit))(Y:∀ n v u,f (n,v) u=(do d9 env n v;pure (.yield ⟨⟩)))(G:env.scope.kind=.function)(sub:∀ n c,cs.lookup n=some c->env.cells.lookup n=some c) :
  ∀(bs:List (Str×Value)) (m C:Str->Option Value) (s:af) (Q:PUnit->af->Prop),eQ s₀ env.locals m cs C s ->
   (∀ y∈bs,env.kindOf y.1=some .local\/(env.kindOf y.1=some .cell/\∃ c,cs.lookup y.1=some c)) ->
   (∀ s',eQ s₀ env.locals (bindL env.kindOf bs m) cs (bindC env.kindOf bs C) s'->Q ⟨⟩ s')->wpAny M A (forIn bs ⟨⟩ f) Q E s
 | [],m,C,s,Q,z,_,go=>by rw[gy];exact aS (go s z)
 | (n,v)::r,m,C,s,Q,z,hy,go=>by
  rw[iO,Y]
  have Z:=λ y (q:y∈r)=>hy y (au _ q)
  rcases hy (n,v) aD with kl|⟨kc,c,e2⟩
  ·refine ar (ar (bz8 z G kl λ s' J=>aS (aI9 f Y G sub r _ _ s' Q J Z λ h B=>go h ?_)))
   unfold bindL bindC;rw[if_pos kl,if_pos kl];exact B
  ·have nl:¬ env.kindOf n=some .local:=by rw[kc];decide
   refine ar (ar (bD2 z G kc (sub n c e2) e2 λ s' J=>aS (aI9 f Y G sub r _ _ s' Q J Z λ h B=>go h ?_)))
   unfold bindL bindC;rw[if_neg nl,if_neg nl];exact B
end
theorem at9 {M:Model}{A:aU}{E:Value->af->Prop}{s:af}{scope:Scope}{globals:Addr}{h:List (Str×Addr)}{binds:List (Str×Value)}{qual:Str}{func:Option Addr}{code:Value}{builtins:Addr}{Q:Env->af->Prop}
  (G:scope.kind=.function) (hy:∀ y∈binds,scope.names.lookup y.1=some .local\/(scope.names.lookup y.1=some .cell/\∃ c,(aJ (s.heap.objs.size+1) scope.names []).lookup y.1=some c))
  (go:∀ env,env=newEnv scope s.heap.objs.size globals (aJ (s.heap.objs.size+1) scope.names h) qual func code none builtins ->
   ∀ s',eQ s env.locals (bindL env.kindOf binds λ _=>none) (aJ (s.heap.objs.size+1) scope.names []) (bindC env.kindOf binds λ _=>none) s'->Q env s') :
  wpAny M A (eC scope globals h binds qual func code none builtins) Q E s:=by
 simp only[eC,hZ,aH,if_false]
 refine ar (wpAny_alloc (ar (wpAny_layCells _ (λ J kd Y=>by cases q:kd==NameKind.cell<;>simp[q]) _ _ _ _ ?_)))
 have ok:=cellsFrom_ok scope.names (s.heap.push { cls:=.type "frame",data:=.dict #[] }) (s.heap.objs.size+1) [] ⟨λ _ _ C=>(nomatch C),List.Pairwise.nil⟩ (by rw[bR];exact ah _)
 have B:({ s with heap:=s.heap.push { cls:=.type "frame",data:=.dict #[] } }:af).heap.objs.size=s.heap.objs.size+1:=bR ..
 rw[bR]at ok
 rw[B]
 refine ar (aI9 (s₀:=s) (cs:=aJ (s.heap.objs.size+1) scope.names []) (env:=newEnv scope s.heap.objs.size globals (aJ (s.heap.objs.size+1) scope.names h) qual func code none builtins)
  _ (λ _ _ _=>rfl) G (λ n c e=>?sub) binds (λ _=>none) (λ _=>none) _ _ ⟨⟨⟨_,_,rfl⟩,?ns,λ b o e=>?k,ah _⟩,λ n c e=>(ok.empty n c (aC e)).1,ok.apart,λ n c e=>(ok.empty n c e).2⟩ hy λ s' x=>aS (go _ rfl s' x))
 case sub =>
  show(aJ _ _ _).lookup n=some c
  rw[zA,z5,e];rfl
 case ns=>exact(kh s.heap (.type "frame")).keeps (cH _ _)
 case k=>exact cH _ _ b o (ai _ e)
noncomputable def qK (c:Addr)(qual:Str):HO:=.ext λ h=>h.CodeRec (.ref c) qual
noncomputable def ax1 (f:Addr)(fd:bz):HO:=.ext λ h=>h.get? f=some { cls:=.type "function",data:=.func fd }
theorem aM1 {P:aK}{w:World}{H:Hp}{h:Heap}{c:Addr}{q:Str}(r:h.CodeRec (.ref c) q):ae5 P w H h c (qK c q):=by
 refine⟨r,?_,λ C B z k=>?_⟩
 ·obtain⟨y,o,vs,t,e,g,_⟩:=r
  cases e
  exact⟨o,g⟩
 ·obtain⟨y,o,vs,t,e,g,d⟩:=z
  cases e
  exact⟨c,o,vs,t,rfl,k o g,d⟩
theorem aA7 {P:aK}{w:World}{H:Hp}{h:Heap}{c:Addr}{q:Str}(x:HOk P w H h)(e:H c=some (qK c q)):h.CodeRec (.ref c) q:=(x c _ e).1
theorem au9 {P:aK}{w:World}{H:Hp}{h:Heap}{f:Addr}{y:bz}(r:h.get? f=some { cls:=.type "function",data:=.func y }):ae5 P w H h f (ax1 f y) :=
 ⟨r,⟨_,r⟩,λ _ _ z k=>k _ z⟩
theorem ay1 {P:aK}{w:World}{H:Hp}{h:Heap}{f:Addr}{y:bz}(x:HOk P w H h)(e:H f=some (ax1 f y)):h.get? f=some { cls:=.type "function",data:=.func y }:=(x f _ e).1
noncomputable def isC (cells:List (Str×Addr))(b:Addr):Bool:=cells.any λ p=>cells.lookup p.1==some b
theorem ag4 {cells:List (Str×Addr)}{b:Addr}:isC cells b=true↔∃ x,cells.lookup x=some b:=by
 unfold isC
 rw[iG]
 constructor
 ·rintro⟨p,_,e⟩;exact⟨p.1,by simpa using e⟩
 ·rintro⟨x,e⟩;exact⟨(x,b),aC e,by simpa using e⟩
noncomputable def ad7 (cells:List (Str×Addr))(H:Hp):Hp:=λ b=>if isC cells b=true then none else H b
noncomputable def Put (cells:List (Str×Addr))(H H':Hp):Hp:=λ b=>if isC cells b=true then H b else H' b
theorem ad7.cell {cells:List (Str×Addr)}{H:Hp}{b:Addr}(h:isC cells b=true):ad7 cells H b=none:=if_pos h
theorem ad7.ne {cells:List (Str×Addr)}{H:Hp}{b:Addr}(h:isC cells b≠true):ad7 cells H b=H b:=if_neg h
theorem ad7.some {cells:List (Str×Addr)}{H:Hp}{b:Addr}{o:HO}(h:ad7 cells H b=some o):isC cells b≠true/\H b=some o:=by
 unfold ad7 at h
 split at h
 ·cases h
 ·rename_i z;exact⟨z,h⟩
theorem ad7.none {cells:List (Str×Addr)}{H:Hp}{b:Addr}(h:H b=none):ad7 cells H b=none:=by
 unfold ad7
 split
 ·rfl
 ·exact h
theorem Put.cell {cells:List (Str×Addr)}{H H':Hp}{b:Addr}(h:isC cells b=true):Put cells H H' b=H b:=if_pos h
theorem Put.ne {cells:List (Str×Addr)}{H H':Hp}{b:Addr}(h:isC cells b≠true):Put cells H H' b=H' b:=if_neg h
def Cells (clos:List (Str×Addr))(H:Hp):Prop:=∀ x c,clos.lookup x=some c->∃ o v,H c=some (.frz o (.own c))/\o.data=.cell v
theorem Cells.at {y:List (Str×Addr)}{H:Hp}(z:Cells y H){b:Addr}(h:isC y b=true):∃ o v,H b=some (.frz o (.own b))/\o.data=.cell v:=by
 obtain⟨x,e⟩:=ag4.mp h
 exact z x b e
def Cap (clos:List (Str×Addr))(H:Hp)(fr:List Str)(cap:List V):Prop:=∀(i:Nat) (x:Str) (v:V),fr[i]?=some x->cap[i]?=some v->∃ c o u,clos.lookup x=some c/\H c=some (.frz o (.own c))/\o.data=.cell (some u)/\RelV v u
structure LamScope (N ps fr:List Str)(sc:Scope):Prop where
 kind:sc.kind=.function
 co:sc.isCoroutine=false
 gen:sc.isGenerator=false
 nd:N.Nodup
 app:N=ps++fr
 par:∀ x∈ps,sc.names.lookup x=some .local\/sc.names.lookup x=some .cell
 frs:∀ x∈fr,sc.names.lookup x=some .free
 cel:∀ y∈sc.names,y.2=.cell->sc.names.lookup y.1=some .cell
noncomputable def aK0 (P:aK)(w:World)(K:ac)(mg:Str->Option Value)(base:Heap)(N:List Str)(qual:Str)(scope:Scope)(f:Addr)(cd:Value)(clos:List (Str×Addr))(A:aU)(outer:List Env)(s:af)(H:Hp):Cx where
 prog:=P
 w:=w
 K:=K
 mg:=mg
 base:=base
 A:=A.deeper (cD qual scope s.heap.objs.size f cd (aJ (s.heap.objs.size+1) scope.names clos))
 N:=N
 s₀:=s
 H₀:=ad7 clos H
 env:=cD qual scope s.heap.objs.size f cd (aJ (s.heap.objs.size+1) scope.names clos)
 outer:=outer
 stack:=cD qual scope s.heap.objs.size f cd (aJ (s.heap.objs.size+1) scope.names clos)::outer
 ex:=[]
 fn:=λ x=>scope.names.lookup x==some .cell
 calm:=true
 pn:=[]
 xe:=λ _ _=>False
theorem HOk.drop {P:aK}{w:World}{H:Hp}{h:Heap}{B:List (Str×Addr)}(x:HOk P w H h)(z:Cells B H):HOk P w (ad7 B H) h:=λ b o e=>by
 obtain⟨_,e'⟩:=ad7.some e
 have C:∀ c u,H c=some u->(∀ o v,u≠.frz o v)->isC B c≠true:=λ c u q d y=>by
  obtain⟨o,v,G,_⟩:=z.at y
  rw[q]at G;cases G
  exact d _ _ rfl
 exact(x b o e').stay (λ _ _ _ q=>q) (λ c q=>by rw[ad7.ne (C c _ q λ _ _=>by nofun)];exact q) λ c J q=>by rw[ad7.ne (C c _ q λ _ _=>by nofun)];exact q
theorem bg6 {P:aK}{w:World}{K:ac}{mg:Str->Option Value}{G:Heap}{N ps fr:List Str}{qual:Str}{scope:Scope}{f:Addr}{cd:Value}{h:List (Str×Addr)}{A:aU}{outer:List Env}{s s1:af}{H:Hp}{us:List Value}{vs cap:List V}
  (S:LamScope N ps fr scope) (hd:A.handled=none) (B:Env0 P w K mg G A outer s H) (hl:vs.length=ps.length) (a2:cap.length=fr.length) (r:Vals vs us)
  (hc:Cells h H) (inj:∀ x y c,h.lookup x=some c->h.lookup y=some c->x=y) (a1:∀ x,scope.names.lookup x=some .free->∃ c,h.lookup x=some c) (a0:Cap h H fr cap)
  (x:eQ s s.heap.objs.size (bindL (cD qual scope s.heap.objs.size f cd (aJ (s.heap.objs.size+1) scope.names h)).kindOf (ps.zip us) λ _=>none) (aJ (s.heap.objs.size+1) scope.names [])
   (bindC (cD qual scope s.heap.objs.size f cd (aJ (s.heap.objs.size+1) scope.names h)).kindOf (ps.zip us) λ _=>none) s1) :
  Inv (aK0 P w K mg G N qual scope f cd h A outer s H) [] (vs.map some++cap.map some) (ad7 h H) s1:=by
 obtain⟨h1,tk,rfl,hk⟩:=x.done
 have J:∀ b:Addr,b ∉ (aK0 P w K mg G N qual scope f cd h A outer s H).ex:=λ b z=>absurd (show b∈([]:List Addr)from z) (by simp)
 have lk:∀ y c,(aJ (s.heap.objs.size+1) scope.names h).lookup y=some c->(aJ (s.heap.objs.size+1) scope.names []).lookup y=some c\/((aJ (s.heap.objs.size+1) scope.names []).lookup y=none/\h.lookup y=some c):=λ y c e=>by
  rw[zA,z5]at e
  cases q:(aJ (s.heap.objs.size+1) scope.names []).lookup y with
  | some d=>rw[q]at e;left;simpa using e
  | none=>rw[q]at e;right;exact⟨rfl,by simpa using e⟩
 have own:∀ y c,(aJ (s.heap.objs.size+1) scope.names []).lookup y=some c->s.heap.objs.size<c:=λ y c e=>x.above y c (aC e)
 have Z:∀ y c,h.lookup y=some c->c<s.heap.objs.size:=λ y c e=>by
  obtain⟨o,v,q,_⟩:=hc y c e
  exact B.hok.lt q
 have hx:∀ y c,h.lookup y=some c->scope.names.lookup y=some .free->(aJ (s.heap.objs.size+1) scope.names h).lookup y=some c:=λ y c e k=>by
  rw[zA,z5]
  cases q:(aJ (s.heap.objs.size+1) scope.names []).lookup y with
  | none=>exact e
  | some d =>
   rcases zZ (aC q)with z|z
   ·rw[S.cel _ z rfl]at k;cases k
   ·exact absurd z (by simp)
 have dn:∀ b,H b=none->ad7 h H b=none:=λ b e=>ad7.none e
 refine⟨⟨B.mod,S.kind,rfl,rfl,ah _,λ y z c a b=>?inj,λ y hy=>?has,λ y c hy e=>?cab,λ _=>hd,gv B.frames,.inr ⟨rfl,rfl⟩,λ b z=>absurd z (J b),λ b o e=>⟨(B.bs b o e).1,dn b (B.bs b o e).2⟩,B.bsz,λ b _ _=>J b,λ b z=>absurd z (J b),B.funs,λ b hb=>dn b (B.frf b hb)⟩,
  rfl,B.bare,Un.kept hk,⟨_,x.toInCall.ns,λ i y v q1 q2 q3=>?loc⟩,λ y c e=>?cell,dn _ (B.hok.fresh (ah _)),λ y c e=>?freeC,λ p hp=>absurd (show p∈([]:List (Addr×Obj))from hp) (by simp),(B.hok.drop hc).kept hk,?len⟩
 case inj =>
  rcases lk y c a with a|⟨_,a⟩<;>rcases lk z c b with b|⟨_,b⟩
  ·exact fG x.apart (aC a) (aC b)
  ·exact absurd (dw (own _ _ a) (Z _ _ b)) (bo _)
  ·exact absurd (dw (own _ _ b) (Z _ _ a)) (bo _)
  ·exact inj y z c a b
 case has =>
  have hy:scope.names.lookup y=some .cell\/scope.names.lookup y=some .free:=hy
  rcases hy with hy|hy
  ·obtain⟨c,e⟩:=qr (n:=s.heap.objs.size+1) hy
   refine⟨c,?_⟩
   show(aJ (s.heap.objs.size+1) scope.names h).lookup y=some c
   rw[zA,z5,e];rfl
  ·obtain⟨c,e⟩:=a1 y hy
   exact⟨c,hx y c e hy⟩
 case cab =>
  have hy:(scope.names.lookup y==some .cell)=true:=hy
  have a3:scope.names.lookup y=some .cell:=by simpa using hy
  rcases lk y c e with a|⟨a,_⟩
  ·exact cU (own y c a)
  ·obtain⟨d,q⟩:=qr (n:=s.heap.objs.size+1) a3
   rw[q]at a;cases a
 case loc =>
  have Y:ps.Nodup:=by have:=S.nd;rw[S.app]at this;exact(List.nodup_append.mp this).1
  by_cases hi:i<vs.length
  ·have ha:vs[i]?=some v:=by
    rw[aG (by simpa using hi),ax]at q2
    cases e:vs[i]? with
    | none=>rw[e]at q2;cases q2
    | some a=>rw[e]at q2;cases q2;rfl
   obtain⟨u,hu,rv⟩:=r.get ha
   have hp:ps[i]?=some y:=by
    have C:N[i]?=some y:=q1
    rw[S.app,aG (by omega)]at C;exact C
   refine⟨u,rv,?_⟩
   rcases S.par y (aV hp)with k|k
   ·exact .inl ⟨k,aq8 Y hp hu k⟩
   ·obtain⟨c,e⟩:=qr (n:=s.heap.objs.size+1) k
    refine .inr ⟨.inl k,c,?_,?_⟩
    ·show(aJ (s.heap.objs.size+1) scope.names h).lookup y=some c
     rw[zA,z5,e];rfl
    ·have q:=x.cell y c e
     rw[ap4 Y hp hu (by show scope.names.lookup y≠_;rw[k];decide)]at q
     exact q
  ·have hf:fr[i - vs.length]?=some y:=by
    have C:N[i]?=some y:=q1
    rw[S.app,aj (by omega)]at C;rw[hl];exact C
   have hv:cap[i - vs.length]?=some v:=by
    rw[aj (by simpa using hi),ax,aF]at q2
    cases e:cap[i - vs.length]? with
    | none=>rw[e]at q2;cases q2
    | some a=>rw[e]at q2;cases q2;rfl
   obtain⟨c,o,u,e1,e2,e3,e4⟩:=a0 _ y v hf hv
   have kf:=S.frs y (aV hf)
   refine⟨u,e4,.inr ⟨.inr kf,c,hx y c e1 kf,?_⟩⟩
   exact⟨o,hk c o (B.hok c _ e2).1,e3⟩
 case cell =>
  rcases lk y c e with a|⟨_,a⟩
  ·exact⟨_,x.cell y c a⟩
  ·obtain⟨o,v,q,d⟩:=hc y c a
   exact⟨v,o,hk c o (B.hok c _ q).1,d⟩
 case freeC =>
  rcases lk y c e with a|⟨_,a⟩
  ·exact dn c (B.hok.fresh (cU (own y c a)))
  ·exact ad7.cell (ag4.mpr ⟨y,a⟩)
 case len =>
  show _=N.length
  rw[S.app]
  simp[hl,a2]
theorem aZ6 {P:aK}{w:World}{outer:List Env}{H H':Hp}{s s':af}{h:List (Str×Addr)}(hok:HOk P w H s.heap)(hc:Cells h H)(frf:∀ b∈frs outer,H b=none)
  (un:Un (frs outer) [] (ad7 h H) H' s.heap s'.heap) (G:HOk P w H' s'.heap):Un (frs outer) [] H (Put h H H') s.heap s'.heap/\HOk P w (Put h H H') s'.heap:=by
 have nc:∀ b,H b=none->isC h b≠true:=λ b e y=>by
  obtain⟨o,v,q,_⟩:=hc.at y
  rw[e]at q;cases q
 have B:∀ c u,H c=some u->(∀ o v,u≠.frz o v)->isC h c≠true:=λ c u q d y=>by
  obtain⟨o,v,Z,_⟩:=hc.at y
  rw[q]at Z;cases Z
  exact d _ _ rfl
 have C:∀ b,isC h b=true->H' b=none:=λ b y=>by
  obtain⟨o,v,q,_⟩:=hc.at y
  exact un.free b o (hok b _ q).1 (ad7.cell y) (by simp)
 refine⟨⟨λ b o e n hb hx=>un.keep b o e (ad7.none n) hb hx,λ b o e n hb hx=>un.slot b o e (ad7.none n) hb hx,λ b o e n hx=>?_,λ b o e hx=>un.there b o e hx,λ b Y e=>?_,λ b o u e=>?_,λ b ps e=>?_⟩,λ b o e=>?_⟩
 ·rw[Put.ne (nc b n)];exact un.free b o e (ad7.none n) hx
 ·have z:=B b _ e λ _ _=>by nofun
  rw[Put.ne z];exact un.tups b Y (by rw[ad7.ne z];exact e)
 ·by_cases z:isC h b=true
  ·rw[Put.cell z];exact e
  ·rw[Put.ne z];exact un.frzs b o u (by rw[ad7.ne z];exact e)
 ·have z:=B b _ e λ _ _=>by nofun
  rw[Put.ne z];exact un.tbls b ps (by rw[ad7.ne z];exact e)
 ·by_cases z:isC h b=true
  ·rw[Put.cell z]at e
   obtain⟨ob,v,q,d⟩:=hc.at z
   rw[q]at e;cases e
   have g:=(hok b _ q).1
   have g':=un.keep b ob g (ad7.cell z) (λ y=>by rw[frf b y]at q;cases q) (by simp)
   exact⟨g',ob,g'⟩
  ·rw[Put.ne z]at e
   have J:∀ c u,H' c=some u->Put h H H' c=some u:=λ c u q=>by
    rw[Put.ne λ y=>by rw[C c y]at q;cases q];exact q
   exact(G b o e).stay (λ _ _ _ q=>q) (λ c q=>J c _ q) λ c Y q=>J c _ q
structure ClOk (P:aK)(w:World)(K:ac)(mg:Str->Option Value)(base:Heap)(k:Nat)(R:Hp->Prop)(f:Addr)(sp:Sp):Prop where
 run:∀(A:aU) (outer:List Env) (s:af) (H:Hp) (us:List Value) (vs:List V) (Q:VK),Room k A->Env0 P w K mg base A outer s H->R H->Vals vs us->sp vs H Q E0 ->
  eP (model P w) A (.call (.ref f) ⟨us,[]⟩) (CR CX0 outer P w H s Q E0) s
theorem ClOk.ofFn {P:aK}{w:World}{K:ac}{mg:Str->Option Value}{y:Heap}{k:Nat}{f:Addr}{C:bz}{ps:List Str}{sp:Sp}(F:FnOk P w K mg y CX0 k f C ps sp)(hb:Binds K C ps []):ClOk P w K mg y k (λ _=>True) f sp :=
 ⟨λ A outer s H us vs Q G B _ r h=>by
  have hl:=F.len _ _ _ _ h
  have:=hb s us (B.mod.kin.keeps λ b o e=>(B.bs b o e).1) (by rw[bC,<-r.length];exact hl)
  rw[bC]at this
  exact F.run A outer s H ⟨us,[]⟩ us vs Q E0 G B this r h⟩
def aD5 (H:Hp)(f:Addr)(qual:Str)(params:a8)(body:Expr)(scope:Scope)(fr:List Str)(cap:List V)(clos:List (Str×Addr)):Prop :=
 ∃ pm c' ctv,H f=some (ax1 f (bK "<lambda>" qual params body scope clos pm (.ref c') ctv))/\H c'=some (qK c' qual)/\Cells clos H /\
  (∀ x y c,clos.lookup x=some c->clos.lookup y=some c->x=y)/\(∀ x,scope.names.lookup x=some .free->∃ c,clos.lookup x=some c)/\Cap clos H fr cap
def BM (mg:Str->Option Value)(base:Heap):Prop:=∃ bm ob,mg "__builtins__"=some (.ref bm)/\bm≠fC/\base.get? bm=some ob/\ob.cls=.type "module"/\ob.dict=some fC/\ob.data=.plain
def cl4 (cells:List (Str×Addr))(P:Addr)(qual:Str)(params:a8)(body:Expr)(scope:Scope)(pos:Pos):TE:=λ _ H Q =>
 ∃ ps:Array Value,H P=some (.tbl ps)/\gI ps.toList /\
  (cB pos ps.toList=none->∀ c' f pm ctv,H c'=none->H f=none->c'≠f ->
   Q (.ref f) (upd (upd (upd H P (.tbl (ps++#[cA pos.line,cA pos.col,.ref c']))) c' (qK c' qual)) f (ax1 f (bK "<lambda>" qual params body scope (af9 cells scope.names []) pm (.ref c') ctv)))) /\
  (∀ cv,cB pos ps.toList=some cv->∃ c',cv=.ref c'/\∀ f pm ctv,H f=none->Q (.ref f) (upd H f (ax1 f (bK "<lambda>" qual params body scope (af9 cells scope.names []) pm (.ref c') ctv))))
noncomputable def lamCheck (scope xs:Scope):Bool:=scope.names.all λ y=>!(y.2==.free)||(xs.names.lookup y.1==some .cell||xs.names.lookup y.1==some .free)
theorem bf0 {X:Cx}{c P:Addr}{params:a8}{body:Expr}{scope:Scope}{pos:Pos}(J:X.env.code=.ref c)(C:bL X.base c P)(hB:BM X.mg X.base)
  (c1:lamCheck scope X.env.scope=true) (a1:i8 params X.env=([],[]):=by rfl) :
  PE X (.Lambda params body scope pos) (cl4 X.env.cells P (X.env.qual ++ "<lambda>") params body scope pos):=by
 intro d1 s σ H Q I h
 have c3:∀ y∈scope.names,y.2=.free->X.env.kindOf y.1=some .cell\/X.env.kindOf y.1=some .free:=λ y hy e=>by
  have z:=aM.mp c1 y hy
  have z':X.env.scope.names.lookup y.1=some .cell\/X.env.scope.names.lookup y.1=some .free:=by simpa [e]using z
  exact z'
 obtain⟨ps,hP,ht,a6,a5⟩:=h
 refine PySem.W.kla_eval a1 ?_
 have a3:=qD (scope:=scope) (env:=X.env) λ y hy e=>I.ok.has y.1 (c3 y hy e)
 have oP:s.heap.get? P=some (dz ps):=I.hok P _ hP
 have Z:s.heap.Ns aW X.mg:=I.mod.glob.keeps I.bk
 have hC:bL s.heap c P:=C.keeps I.bk
 have c4:aW≠P:=λ q=>by
  obtain⟨o,es,ep,e,d,_⟩:=Z
  rw[q,oP]at e;cases e;cases d
 have hb:s.heap.BuiltinsAt X.mg P:=by
  obtain⟨bm,ob,b1,b2,b3,b4,b5,b6⟩:=hB
  refine⟨bm,ob,b1,b2,λ q=>?_,λ q=>?_,I.bk _ _ b3,b4,b5,b6⟩
  ·obtain⟨o,es,ep,e,d,_⟩:=I.mod.glob
   rw[q,e]at b3;cases b3;rw[d]at b6;cases b6
  ·have e:=I.bk _ _ b3
   rw[q,oP]at e;cases e;cases b4
 cases q:cB pos ps.toList with
 | none =>
  refine PySem.W.kla_makeFunction (mg:=X.mg) a3 I.ok.glob Z J hC oP ht q c4 hb λ B G h' tk hx hge hlt b0 a4=>?_
  have a0:P<s.heap.objs.size:=aE oP
  have d0:B≠P:=cV (am a0 hge)
  have c5:h'.objs.size≠P:=cV (dw (am a0 hge) hlt)
  have c6:B≠h'.objs.size:=ay hlt
  have hsz:s.heap.objs.size<=h'.objs.size:=aw hge (cU hlt)
  have nP:∀ b,H b=none->b≠P:=λ b n z=>by rw[z,hP]at n;cases n
  have lt:∀ b o,H b=some o->b≠B/\b≠h'.objs.size:=λ b o e=>⟨ay (am (I.hok.lt e) hge),ay (am (I.hok.lt e) hsz)⟩
  have c0:∀ b o,s.heap.get? b=some o->b≠B/\b≠h'.objs.size:=λ b o e=>⟨ay (am (aE e) hge),ay (am (aE e) hsz)⟩
  have keep:∀ b o,b≠P->s.heap.get? b=some o->(h'.push (PySem.W.kla_obj "<lambda>" (X.env.qual ++ "<lambda>") params body scope (af9 X.env.cells scope.names []) ((X.mg "__name__").getD .none) B G)).get? b=some o:=λ b o n e=>ai _ (hx b o n e)
  have Y:∀ b,b≠P->b≠B->b≠h'.objs.size->∀ o1 o2 o3,upd (upd (upd H P o1) B o2) h'.objs.size o3 b=H b:=λ b n1 n2 n3 o1 o2 o3=>by rw[zm n3,zm n2,zm n1]
  refine⟨.ref h'.objs.size,upd (upd (upd H P (.tbl (ps++#[cA pos.line,cA pos.col,.ref B]))) B (qK B (X.env.qual ++ "<lambda>"))) h'.objs.size (ax1 h'.objs.size (bK "<lambda>" (X.env.qual ++ "<lambda>") params body scope (af9 X.env.cells scope.names []) ((X.mg "__name__").getD .none) (.ref B) G)),I.un (t':=tk) ⟨λ b o e n _ _=>keep b o (nP b n) e,λ b o e n _ _=>⟨o.slots,keep b o (nP b n) e⟩,λ b o e n _=>?fr,λ b o e _=>?th,λ b xs e=>?tu,λ b o u e=>?fz,λ b qs e=>?tb⟩ ?ok,rfl,a6 q B h'.objs.size _ G (I.hok.fresh hge) (I.hok.fresh hsz) c6⟩
  case fr=>rw[Y b (nP b n) (c0 b o e).1 (c0 b o e).2];exact n
  case th =>
   by_cases z:b=P
   ·subst z;exact⟨_,ai _ a4⟩
   ·exact⟨o,keep b o z e⟩
  case tu=>rw[Y b (λ z=>by rw[z,hP]at e;cases e) (lt b _ e).1 (lt b _ e).2];exact e
  case fz=>rw[Y b (λ z=>by rw[z,hP]at e;cases e) (lt b _ e).1 (lt b _ e).2];exact e
  case tb =>
   by_cases z:b=P
   ·subst z
    rw[hP]at e;cases e
    exact⟨#[cA pos.line,cA pos.col,.ref B],by rw[zm (bM c5),zm (bM d0),zt]⟩
   ·exact⟨#[],by rw[Y b z (lt b _ e).1 (lt b _ e).2,e];simp⟩
  case ok =>
   intro b o e
   by_cases zf:b=h'.objs.size
   ·subst zf
    rw[zt]at e;cases e
    exact au9 (aN _ rfl)
   ·rw[zm zf]at e
    by_cases zc:b=B
    ·subst zc
     rw[zt]at e;cases e
     obtain⟨c2,oc,vs,t,e1,e2,e3⟩:=b0
     exact aM1 ⟨c2,oc,vs,t,e1,ai _ e2,e3⟩
    ·rw[zm zc]at e
     by_cases zp:b=P
     ·subst zp
      rw[zt]at e;cases e
      exact ai _ a4
     ·rw[zm zp]at e
      have a2:∀ d u,H d=some u->(∀ ps,u≠.tbl ps)->upd (upd (upd H P (.tbl (ps++#[cA pos.line,cA pos.col,.ref B]))) B (qK B (X.env.qual ++ "<lambda>"))) h'.objs.size (ax1 h'.objs.size (bK "<lambda>" (X.env.qual ++ "<lambda>") params body scope (af9 X.env.cells scope.names []) ((X.mg "__name__").getD .none) (.ref B) G)) d=some u:=λ d u e nt=>by
       rw[Y d (λ z=>by rw[z,hP]at e;cases e;exact nt _ rfl) (lt d _ e).1 (lt d _ e).2];exact e
      refine(I.hok b o e).stay (λ d u hd q=>keep d u ?_ q) (λ d q=>a2 d _ q λ _=>by nofun) λ d xs q=>a2 d _ q λ _=>by nofun
      rintro rfl
      rcases hd with hd|hd
      ·exact zp hd.symm
      ·rw[hP]at hd;cases hd
 | some cv =>
  obtain⟨B,rfl,hq⟩:=a5 cv q
  refine PySem.W.kla_makeFunctionHit (mg:=X.mg) a3 I.ok.glob Z J hC oP ht q hb λ G h' tk hk hsz=>?_
  refine⟨.ref h'.objs.size,_,I.laid (t':=tk) (λ b o e=>ai _ (hk b o e)) hsz (au9 (aN _ rfl)),rfl,hq h'.objs.size _ G (I.hok.fresh hsz)⟩
structure Caught (cl:List (Str×Addr))(N:List Str)(kd:Str->Option bG)(σ:St)(H1 H2:Hp):Prop where
 ne:∀ b,isC cl b≠true->H2 b=H1 b
 free:∀ b,isC cl b=true->H1 b=none
 cells:Cells cl H2
 cap:∀(i:Nat) (x:Str) (v:V) (c:Addr),N[i]?=some x->σ[i]?=some (some v)->(kd x=some .cell\/kd x=some .free)->cl.lookup x=some c->∃ o u,H2 c=some (.frz o (.own c))/\o.data=.cell (some u)/\RelV v u
 inj:∀ x y c,cl.lookup x=some c->cl.lookup y=some c->x=y
def bM9 (cl:List (Str×Addr))(N:List Str)(kd:Str->Option bG)(sp:Sp)(t:TA):TE:=λ σ H Q=>t σ H λ vs H1=>∀ H2,Caught cl N kd σ H1 H2->sp vs H2 (λ v H3=>Q v (ad7 cl H3)) E0
theorem bx1 {X:Cx}{k:Nat}{f:Addr}{fd:bz}{ps:List Str}{sp:Sp}{G:List (Addr×Obj)}{σ:St}{H:Hp}{s:af}{Q:VK}{us:List Value}{vs:List V}(F:FnOk X.prog X.w X.K X.mg X.base CX0 k f fd ps sp)(hr:Room k X.A)(hb:Binds X.K fd ps [])
  (a6:∀ x,X.fn x=true) (I:Inv X G σ H s) (r:Vals vs us) (h:∀ H2,Caught X.env.cells X.N X.env.kindOf σ H H2->sp vs H2 (λ v Y=>Q v (ad7 X.env.cells Y)) E0):wpAny (model X.prog X.w) X.A (call (.ref f) us) (EP X G σ Q) X.xe s:=by
 let H2:Hp:=λ b=>if isC X.env.cells b=true then(s.heap.get? b).map λ o=>.frz o (.own b)else H b
 have B:∀ b,isC X.env.cells b≠true->H2 b=H b:=λ b z=>if_neg z
 have C:∀ b,isC X.env.cells b=true->∃ o v,s.heap.get? b=some o/\o.data=.cell v/\H2 b=some (.frz o (.own b)):=λ b z=>by
  obtain⟨x,e⟩:=ag4.mp z
  obtain⟨v,o,g,d⟩:=I.cell x b e
  exact⟨o,v,g,d,by show(if _ then _ else _)=_;rw[if_pos z,g];rfl⟩
 have fr:∀ b,isC X.env.cells b=true->H b=none:=λ b z=>by
  obtain⟨x,e⟩:=ag4.mp z
  exact I.freeC x b e
 have up:∀ b,isC X.env.cells b=true->X.s₀.heap.objs.size<=b:=λ b z=>by
  obtain⟨x,e⟩:=ag4.mp z
  exact I.ok.cab x b (a6 x) e
 have a2:∀ b o,X.s₀.heap.get? b=some o->isC X.env.cells b≠true:=λ b o e z=>absurd (am (aE e) (up b z)) (bo _)
 have Z:∀ b∈frs X.stack,isC X.env.cells b≠true:=λ b hb z=>by
  rcases az.mp (I.stkSub b hb)with e|hb
  ·obtain⟨x,e2⟩:=ag4.mp z
   exact I.cne x b e2 e
  ·obtain⟨_,o,ho,_⟩:=I.ok.funs.mem hb
   exact a2 b o ho z
 have a5:HOk X.prog X.w H2 s.heap:=λ b o e=>by
  by_cases z:isC X.env.cells b=true
  ·obtain⟨ob,v,g,d,q⟩:=C b z
   rw[q]at e;cases e
   exact⟨g,ob,g⟩
  ·rw[B b z]at e
   have np:∀ c u,H c=some u->H2 c=some u:=λ c u q=>by rw[B c λ y=>by rw[fr c y]at q;cases q];exact q
   exact(I.hok b o e).stay (λ _ _ _ q=>q) (λ c q=>np c _ q) λ c xs q=>np c _ q
 have nb:∀ b o,X.base.get? b=some o->isC X.env.cells b≠true:=λ b o e=>a2 b o (I.ok.bs b o e).1
 have e0:Env0 X.prog X.w X.K X.mg X.base X.A X.stack s H2:=⟨I.ok.frames,I.ok.mod,λ b o e=>⟨(I.bs b o e).1,by rw[B b (nb b o e)];exact(I.bs b o e).2⟩,aw I.ok.bsz I.sz,I.stack,λ b hb=>by rw[B b (Z b hb)];exact I.stkFree b hb,a5,I.bare⟩
 have ca:Caught X.env.cells X.N X.env.kindOf σ H H2:=⟨B,fr,λ x c e=>by
   obtain⟨o,v,g,d,q⟩:=C c (ag4.mpr ⟨x,e⟩)
   exact⟨o,v,q,d⟩,λ i x v c e1 e2 e3 e4=>by
   obtain⟨m,hn,hl⟩:=I.loc
   have vis:Vis X.env.scope x:=e3.elim (λ z=>.inr (.inl z)) λ z=>.inr (.inr z)
   obtain⟨u,ru,lk⟩:=hl i x v e1 e2 vis
   rcases lk with⟨z,_⟩|⟨_,c2,z1,z2⟩
   ·rcases e3 with y|y<;>(rw[z]at y;cases y)
   ·rw[e4]at z1;cases z1
    obtain⟨o,w',g,d,q⟩:=C c (ag4.mpr ⟨x,e4⟩)
    obtain⟨o2,g2,d2⟩:=z2
    rw[g]at g2;cases g2
    exact⟨o,u,q,d2,ru⟩,I.ok.inj⟩
 have a3:=h H2 ca
 have hl:=F.len _ _ _ _ a3
 have a0:=hb s us I.kIn (by rw[bC,<-r.length];exact hl)
 rw[bC]at a0
 refine i3 (d5 (F.run X.A X.stack s H2 ⟨us,[]⟩ us vs _ E0 hr e0 a0 r a3) λ r s' hq=>?_)
 cases r with
 | error e=>exact bw hq
 | ok fl =>
  cases fl with
  | next=>exact bw hq
  | brk=>exact bw hq
  | cont=>exact bw hq
  | ret u =>
   obtain⟨v,Y,os,bare,un,a4,rv,q⟩:=hq
   have a1:∀ b,isC X.env.cells b=true->∃ o,s.heap.get? b=some o/\s'.heap.get? b=some o/\Y b=some (.frz o (.own b)):=λ b z=>by
    obtain⟨o,v,g,d,q2⟩:=C b z
    have q3:=un.frzs b o _ q2
    exact⟨o,g,(a4 b _ q3).1,q3⟩
   have J:∀ b u,H b=some u->isC X.env.cells b≠true:=λ b u e y=>by rw[fr b y]at e;cases e
   refine⟨v,_,I.call' (H':=ad7 X.env.cells Y) (ch:=[]) os ⟨λ b o e n hb hx=>?k,λ b o e n hb hx=>?sl,λ b o e n hx=>?fr,λ b o e hx=>un.there b o e hx,λ b xs e=>?tu,λ b o u e=>?fz,λ b ps e=>?tb⟩ (λ b o e=>?hok) bare (λ b z=>absurd z (by simp)),rv,q⟩
   case k =>
    by_cases z:isC X.env.cells b=true
    ·obtain⟨o2,g,g',_⟩:=a1 b z
     rw[e]at g;cases g
     exact g'
    ·exact un.keep b o e (by rw[B b z];exact n) hb hx
   case sl=>exact un.slot b o e (by rw[B b (Z b hb)];exact n) hb hx
   case fr =>
    by_cases z:isC X.env.cells b=true
    ·exact ad7.cell z
    ·exact ad7.none (un.free b o e (by rw[B b z];exact n) hx)
   case tu =>
    rw[ad7.ne (J b _ e)]
    exact un.tups b xs (by rw[B b (J b _ e)];exact e)
   case fz =>
    rw[ad7.ne (J b _ e)]
    exact un.frzs b o u (by rw[B b (J b _ e)];exact e)
   case tb =>
    rw[ad7.ne (J b _ e)]
    exact un.tbls b ps (by rw[B b (J b _ e)];exact e)
   case hok =>
    obtain⟨z,e3⟩:=ad7.some e
    have np:∀ c u,Y c=some u->(∀ o w',u≠.frz o w')->ad7 X.env.cells Y c=some u:=λ c u q d=>by
     rw[ad7.ne λ y=>by obtain⟨o,_,_,q3⟩:=a1 c y;rw[q]at q3;cases q3;exact d _ _ rfl];exact q
    exact(a4 b o e3).stay (λ _ _ _ q=>q) (λ c q=>np c _ q λ _ _=>by nofun) λ c xs q=>np c _ q λ _ _=>by nofun
theorem aN9 {X:Cx}{k:Nat}{f:Addr}{Y:bz}{ps:List Str}{sp:Sp}{x:Str}{p pos:Pos}{e:Expr}{es:List Expr}{t:TA}(F:FnOk X.prog X.w X.K X.mg X.base CX0 k f Y ps sp)(hr:Room k X.A)(Z:Gl X x)(hm:X.mg x=some (.ref f))(hk:b8 X.K (.ref f)=true)(hb:Binds X.K Y ps [])
  (G:∀ x,X.fn x=true) (ha:PA X (e::es) t) (B:(x==("__debug__":Str))=false:=by decide) (he:bj (e::es) X.env=(false,eval e X.env)::bj es X.env:=by rfl) (C:(dq pos (bj es X.env)).any (·.1)=false:=by rfl) :
  PE X (.Call (.Name x p) (e::es) [] pos) (bM9 X.env.cells X.N X.env.kindOf sp t):=by
 intro y s σ H Q I h
 refine bZ (av9 I Z hm ?_ B)
 refine hU (h₀:=X.base) I.ok.mod.kin hk (thn (ha pos y s σ H _ I h) λ us s1 ⟨vs,H1,J,r,q⟩=>⟨J.kIn,?_⟩) he C
 exact bx1 F hr hb G J r q
def bI2 (K:ac)(H:Hp)(f:Addr):Prop:=(∃ fd,H f=some (ax1 f fd))\/∃ oc od fd sl,K.lookup f=some ⟨oc,od,.func fd,sl⟩
theorem bI2.at {X:Cx}{y:List (Addr×Obj)}{σ:St}{H:Hp}{s:af}{f:Addr}(h:bI2 X.K H f)(I:Inv X y σ H s):PySem.W.FnAt f s.heap:=by
 rcases h with⟨B,h⟩|⟨oc,od,B,sl,h⟩
 ·exact⟨_,_,_,_,ay1 I.hok h⟩
 ·exact⟨_,_,_,_,I.kIn _ _ h⟩
def bQ1 (P:aK)(w:World)(K:ac)(mg:Str->Option Value)(base:Heap)(k:Nat)(i:Nat)(t:TA):TE:=λ σ H Q=>∃ f,σ[i]?=some (some (.ref f))/\bI2 K H f/\t σ H λ vs H1=>bI2 K H1 f/\∃ R sp,ClOk P w K mg base k R f sp/\R H1/\sp vs H1 Q E0
theorem bR8 {X:Cx}{k:Nat}{f:Addr}{sp:Sp}{R:Hp->Prop}{y:List (Addr×Obj)}{σ:St}{H:Hp}{s:af}{Q:VK}{us:List Value}{vs:List V}(F:ClOk X.prog X.w X.K X.mg X.base k R f sp)(B:Room k X.A)(I:Inv X y σ H s)(C:R H)(r:Vals vs us)(h:sp vs H Q E0) :
  wpAny (model X.prog X.w) X.A (call (.ref f) us) (EP X y σ Q) X.xe s:=by
 refine i3 (d5 (F.run X.A X.stack s H us vs Q B I.env0 C r h) λ r s' hq=>?_)
 cases r with
 | error e=>exact bw hq
 | ok fl =>
  cases fl with
  | ret u=>exact I.after hq
  | next=>exact bw hq
  | brk=>exact bw hq
  | cont=>exact bw hq
theorem bl1 {X:Cx}{P:aK}{w:World}{K:ac}{mg:Str->Option Value}{base:Heap}{k i:Nat}{x:Str}{p pos:Pos}{e:Expr}{es:List Expr}{t:TA}(hP:X.prog=P)(hw:X.w=w)(Z:X.K=K)(C:X.mg=mg)(G:X.base=base)(hr:Room k X.A)(hv:PE X (.Name x p) (bw1 i))(ha:PA X (e::es) t)
  (he:bj (e::es) X.env=(false,eval e X.env)::bj es X.env:=by rfl) (B:(dq pos (bj es X.env)).any (·.1)=false:=by rfl) :
  PE X (.Call (.Name x p) (e::es) [] pos) (bQ1 P w K mg base k i t):=by
 subst hP hw Z C G
 intro y s σ H Q I h
 obtain⟨f,hσ,hf,ht⟩:=h
 refine bZ (thn (hv y s σ H (λ v H'=>v=.ref f/\H'=H) I ⟨.ref f,hσ,rfl,rfl⟩) λ u s0 ⟨v,H0,Y,r0,ev,eH⟩=>?_)
 subst ev
 subst eH
 cases r0
 exact PySem.W.callWith_F (q:=f) (hf.at Y) (thn (ha pos y s0 σ H0 _ Y ht) λ us s1 ⟨vs,H1,J,r,hF,R,sp,F,hR,q⟩=>⟨hF.at J,bR8 F hr J hR r q⟩) he B
noncomputable def aE0 (K:ac)(names:List Str):List (Str×Addr×Addr):=names.filterMap λ x=>(bh K x).map λ p=>(x,p)
theorem au7 {K:ac}{names:List Str}{y:Str×Addr×Addr}:y∈aE0 K names↔y.1∈names/\bh K y.1=some y.2:=by
 unfold aE0
 rw[bX]
 constructor
 ·rintro⟨x,hx,e⟩
  obtain⟨p,h,rfl⟩:=cE.mp e
  exact⟨hx,h⟩
 ·rintro⟨hx,e⟩
  exact⟨y.1,hx,by rw[e];rfl⟩
def bA5 (K:ac)(names:List Str)(base:Heap):Prop:=∀ x∈names,∀ c P,bh K x=some (c,P)->bL base c P
def bE6 (K:ac)(names:List Str)(H:Hp):Prop:=∀ x∈names,∀ c P,bh K x=some (c,P)->H P=some (.tbl #[])
noncomputable def bN8 (K:ac)(names:List Str)(ts:List Addr):Bool:=names.all λ x=>match bh K x with
 | some (c,P)=>iH K c P&&ts.contains P
 | none=>true
theorem av7 {K:ac}{x:Str}(h:(bh K x).isSome=true):bh K x=some (((bh K x).getD (0,0)).1,((bh K x).getD (0,0)).2):=by
 obtain⟨p,e⟩:=e9.mp h
 rw[e]
 rfl
def bK8 (H:Hp)(P:Addr)(q:Str):Prop:=∃ ps:Array Value,H P=some (.tbl ps)/\gI ps.toList/\∀ pos cv,cB pos ps.toList=some cv->∃ c',cv=.ref c'/\H c'=some (qK c' q)
def TabsH (T:List (Addr×Str))(H:Hp):Prop:=∀ y∈T,bK8 H y.1 y.2
def bc4 (H H':Hp):Prop:=∀ b o,(∀ ps,o≠.tbl ps)->H b=some o->H' b=some o
theorem bc4.of {H y:Hp}(a:ai5 H y):bc4 H y:=λ c o _ h=>a c o h
theorem TabsH.keep {T:List (Addr×Str)}{H H':Hp}(h:TabsH T H)(k:∀ b o,(∀ G,o≠.lst G)->H b=some o->H' b=some o):TabsH T H':=λ y hy=>by
 obtain⟨ps,e,t,c⟩:=h y hy
 refine⟨ps,k _ _ (λ _=>by nofun) e,t,λ pos B q=>?_⟩
 obtain⟨C,e1,e2⟩:=c pos B q
 exact⟨C,e1,k _ _ (λ _=>by unfold qK;nofun) e2⟩
theorem TabsH.same {T:List (Addr×Str)}{H H':Hp}(h:TabsH T H)(s:ai5 H H'):TabsH T H':=h.keep λ b o _ e=>s b o e
theorem TabsH.new {T:List (Addr×Str)}{H:Hp}{a:Addr}{o:HO}(h:TabsH T H)(n:H a=none):TabsH T (upd H a o):=h.same ((ai5.refl H).new n)
theorem TabsH.put {T:List (Addr×Str)}{H:Hp}{a:Addr}{o:HO}{y:List V}(h:TabsH T H)(n:H a=some (.lst y)):TabsH T (upd H a o):=h.keep λ b u d e=>by
 rw[zm λ z=>by subst z;rw[n]at e;cases e;exact d _ rfl];exact e
theorem TabsH.init {T:List (Addr×Str)}{H:Hp}(h:∀ p∈T.map (·.1),H p=some (.tbl #[])):TabsH T H:=λ y hy =>
 ⟨#[],h _ (bn hy),trivial,λ pos B e=>by simp[cB]at e⟩
theorem codeAmong_add {pos:Pos}{a b:Int}{c B:Value}:∀(l:List Value),gI l->cB pos (l++[cA a,cA b,c])=some B->cB pos l=some B\/B=c:=by
 intro l
 fun_induction gI l with
 | case1 =>
  intro _ e
  simp only[fX,cB,cA]at e
  split at e
  ·exact .inr (ao e).symm
  ·cases e
 | case2 x t y u z rest ih =>
  intro h e
  simp only[dF,cB]at e ⊢
  split at e
  ·rename_i q
   left;rw[if_pos q];exact e
  ·rename_i q
   rw[if_neg q];exact ih h e
 | case3 l h1 h2=>intro h;exact h.elim
theorem bn4 {cells:List (Str×Addr)}{N:List Str}{kd:Str->Option bG}{σ:St}{Y H2:Hp}{f:Addr}{q:Str}{params:a8}{body:Expr}{scope:Scope}{fr:List Str}{cap:List V}(B:Caught cells N kd σ Y H2)
  (hf:∃ Z J h,Y f=some (ax1 f (bK "<lambda>" q params body scope (af9 cells scope.names []) Z (.ref J) h))/\Y J=some (qK J q))
  (G:∀ x,scope.names.lookup x=some .free->∃ c,cells.lookup x=some c)
  (C:∀(i:Nat) (x:Str) (v:V),fr[i]?=some x->cap[i]?=some v->scope.names.lookup x=some .free/\(kd x=some .cell\/kd x=some .free)/\∃ j:Nat,N[j]?=some x/\σ[j]?=some (some v)) :
  aD5 H2 f q params body scope fr cap (af9 cells scope.names []):=by
 obtain⟨Z,J,h,h1,h2⟩:=hf
 have up:∀ b o,Y b=some o->H2 b=some o:=λ b o e=>by
  rw[B.ne b λ z=>by rw[B.free b z]at e;cases e];exact e
 have sub:∀ x c,(af9 cells scope.names []).lookup x=some c->cells.lookup x=some c:=λ x c e=>by
  rcases clOf_mem (aC e)with z|z
  ·exact z
  ·exact absurd z (by simp)
 refine⟨Z,J,h,up _ _ h1,up _ _ h2,λ x c e=>B.cells x c (sub x c e),λ x y c e1 e2=>B.inj x y c (sub x c e1) (sub y c e2),λ x k=>?_,λ i x v e1 e2=>?_⟩
 ·obtain⟨c,e⟩:=G x k
  exact⟨c,qG e (aC k)⟩
 ·obtain⟨k,kk,j,e3,e4⟩:=C i x v e1 e2
  obtain⟨c,e⟩:=G x k
  obtain⟨o,u,e5,e6,e7⟩:=B.cap j x v c e3 e4 kk e
  exact⟨c,o,u,qG e (aC k),e5,e6,e7⟩
theorem Caught.same {cells:List (Str×Addr)}{N:List Str}{kd:Str->Option bG}{σ:St}{y H2:Hp}(h:Caught cells N kd σ y H2):ai5 y H2:=λ b o e=>by
 rw[h.ne b λ z=>by rw[h.free b z]at e;cases e];exact e
theorem Fun.okC {P:aK}{w:World}{K:ac}{mg:Str->Option Value}{y:Heap}{x qual:Str}{st:Stmt}{f c:Addr}{C:bz}{N ps:List Str}{k:Nat}{sp:Sp}(F:Fun K x qual st f C)(Y:C.code=.ref c)(S:FnScope N ps (defScope st))(len:∀ vs H Q E,sp vs H Q E->vs.length=ps.length)
  (B:∀(A:aU) (outer:List Env) (s:af) (H:Hp) (vs:List V) (Q:VK) (E:XK),Room k (A.deeper (e8 qual (defScope st) s.heap.objs.size f (.ref c)))->sp vs H Q E ->
   ∃ t,PSs (bq0 CX0 P w K mg y N qual (defScope st) f (.ref c) A outer s H E).nox (qc st) t/\t { nx:=λ _ H'=>Q .non H',rt:=Q } (aj9 N vs) H):FnOk P w K mg y CX0 (k+1) f C ps sp:=by
 obtain⟨oc,od,kV,a1,pm,an,G,ct,a0,rfl,lk,hc⟩:=F.ex
 have e:G=.ref c:=Y
 subst e
 refine bS4 lk hc S len λ A outer s H vs Q E Z J=>?_
 obtain⟨t,h,q⟩:=B A outer s H vs Q E Z J
 exact⟨t,h.nox,q⟩
noncomputable def rowO (r:List (Option Int)):D:=.tup (r.map cn9)
theorem aZ5 {X:Cx}{K:ac}(hc:X.calm=true)(hK:X.K=K):ae7 X (.builtin "min") (λ xs H Q=>∃ a ns,xs=[.ref a]/\SqL K H a (ns.map V.int)/\ns≠[]/\∀ m∈ns,(∀ y∈ns,m<=y)->Q (.int m) H):=by
 subst hK
 intro a0 s σ H xs us Q I r h
 obtain⟨a,ns,rfl,hS,hne,q⟩:=h
 obtain⟨u,rfl,ru⟩:=am0 r
 cases ru
 obtain⟨its,G,Y,hz⟩:=I.list hS
 have hl:=G.length
 rw[aF]at hl
 have Z:0<ns.length:=List.length_pos_iff.mpr hne
 refine call_min_walk (cN Y.isList ?_)
 have C:a<s.heap.objs.size:=by obtain⟨o,_,e,_⟩:=Y;exact aE e
 have W:=i7 (prog:=X.prog) (w:=X.w) (A:=X.A.in1) (I.ok.hd hc) s.heap.objs.size a (ay C) its.toArray
 let val:Nat->Int:=λ i=>ns.getD i 0
 have B:∀ i v,its.toArray[i]?=some v->∃ t,v=Value.int (val i) t:=λ i v e=>by
  obtain⟨z,t,e1,e2⟩:=aw6 G (i:=i) (v:=v) (by rw[cw]at e;exact e)
  refine⟨t,?_⟩
  rw[e2]
  show Value.int z t=Value.int (ns.getD i 0) t
  rw[aO,e1]
  rfl
 refine⟨_,_,_,_,_,_,_,rfl,W,⟨⟨_,aN _ rfl,rfl,rfl⟩,?_⟩,λ b hb=>?_,by rw[aA];omega,jV val B,λ v h' tk hP k=>?_⟩
 ·obtain⟨o,e,r⟩:=Y.isList
  exact⟨o,ai _ e,r⟩
 ·show b<(s.heap.push _).objs.size
  rw[bR]
  rcases az.mp hb with z|z
  ·rw[z];exact dH _
  ·have J:b=a:=by simpa using z
   rw[J];exact eU C
 ·obtain⟨z,t,e1,e2⟩:=aw6 G (i:=cW (λ i j=>decide (val i<val j)) (its.toArray.size - 1)) (v:=v) (by rw[cw]at hP;exact hP)
  subst e2
  have hv:val (cW (λ i j=>decide (val i<val j)) (its.toArray.size - 1))=z:=by
   show ns.getD _ 0=z
   rw[aO,e1]
   rfl
  refine⟨.int z,H,I.kept (h':=h') (t':=tk) λ b o q=>k b o ?_ (ai _ q),⟨t,rfl⟩,q z (aV e1) λ y hy=>?_⟩
  ·intro z
   have J:b=s.heap.objs.size:=by simpa using z
   exact absurd (aE q) (by rw[J];exact bo _)
  ·obtain⟨j,hj,e3⟩:=b9.mp hy
   have:=jF val (its.toArray.size - 1) j (by simp only[aA];omega)
   rw[hv]at this
   have e4:val j=y:=by
    show ns.getD j 0=y
    rw[aO,ag hj]
    exact e3
   omega
noncomputable def mx (a b:Int):Int:=if b > a then b else a
theorem bo9 {a b x:Int}:mx a b<=x↔a<=x/\b<=x:=by unfold mx;split<;>omega
noncomputable def sgn (s:Nat->Nat->Int):Nat->Nat->Option Int:=λ i j=>some (s i j)
noncomputable def aU0 (n:Nat)(s t:Nat->Nat->Int)(i j:Nat):Int:=(minO ((ae n).map λ k=>mx (s i k) (t k j))).getD 3
theorem bb4 {l:List Int}{m x:Int}(h:minO l=some m):m<=x↔∃ y∈l,y<=x:=by
 obtain⟨C,B⟩:=aD2 h
 exact⟨λ z=>⟨m,C,z⟩,λ⟨y,hy,z⟩=>bS (B y hy) z⟩
theorem aB8 {l:List Int}(h:l≠[]):∃ m,minO l=some m:=by
 cases e:minO l with
 | none=>exact absurd (al4.mp e) h
 | some m=>exact⟨m,rfl⟩
theorem aw1 {n:Nat}(hn:1<=n){s t:Nat->Nat->Int}{i j:Nat}{x:Int}:aU0 n s t i j<=x↔∃ k,k<n/\s i k<=x/\t k j<=x:=by
 obtain⟨m,h⟩:=aB8 (l:=(ae n).map λ k=>mx (s i k) (t k j)) (by
  intro z
  have:=congrArg gu z
  rw[aF,bT]at this
  simp at this
  omega)
 unfold aU0
 rw[h]
 show m<=x↔_
 rw[bb4 h]
 constructor
 ·rintro⟨y,hy,hx⟩
  obtain⟨k,hk,rfl⟩:=av.mp hy
  exact⟨k,aR.mp hk,bo9.mp hx⟩
 ·rintro⟨k,hk,hx⟩
  exact⟨_,av.mpr ⟨k,aR.mpr hk,rfl⟩,bo9.mpr hx⟩
theorem ag6 {a b:Int}(h:∀ x,a<=x↔b<=x):a=b:=by
 have B:=(h b).mpr (bO _)
 have y:=(h a).mp (bO _)
 omega
theorem aM5 {n:Nat}(hn:1<=n){s t:Nat->Nat->Int}(h:∀ i j,i<n->j<n->0<=s i j/\s i j<=3)(h':∀ i j,i<n->j<n->0<=t i j/\t i j<=3){i j:Nat}(y:i<n)(hj:j<n):0<=aU0 n s t i j/\aU0 n s t i j<=3:=by
 constructor
 ·obtain⟨k,hk,C,B⟩:=(aw1 hn (s:=s) (t:=t) (i:=i) (j:=j)).mp (bO _)
  have:=h i k y hk
  omega
 ·exact(aw1 hn).mpr ⟨0,by omega,(h i 0 y (by omega)).2,(h' 0 j (by omega) hj).2⟩
section
variable {X:Cx}
end
noncomputable def mx3 (a b c:Int):Int:=mx (mx a b) c
theorem bv0 {a b c x:Int}:mx3 a b c<=x↔a<=x/\b<=x/\c<=x:=by unfold mx3;rw[bo9,bo9,and_assoc]
theorem aY5 {X:Cx}(hc:X.calm=true):ae7 X (.builtin "max") (λ B H Q=>∃ i j k,B=[.int i,.int j,.int k]/\Q (.int (mx3 i j k)) H):=by
 intro y s σ H B us Q I r h
 obtain⟨i,j,k,rfl,q⟩:=h
 cases r with
 | cons r1 r =>
  cases r with
  | cons r2 r =>
   cases r with
   | cons r3 r =>
    cases r
    obtain⟨J,rfl⟩:=r1
    obtain⟨Y,rfl⟩:=r2
    obtain⟨G,rfl⟩:=r3
    refine max_three_ints (I.ok.hd hc) λ h' tk C=>⟨_,H,I.kept C,?_,q⟩
    unfold mx3 mx
    by_cases h1:j > i
    ·rw[if_pos h1,if_pos h1]
     by_cases h2:k > j
     ·rw[if_pos h2,if_pos h2];exact⟨_,rfl⟩
     ·rw[if_neg h2,if_neg h2];exact⟨_,rfl⟩
    ·rw[if_neg h1,if_neg h1]
     by_cases h2:k > i
     ·rw[if_pos h2,if_pos h2];exact⟨_,rfl⟩
     ·rw[if_neg h2,if_neg h2];exact⟨_,rfl⟩
def InT (n:Nat)(s:Nat->Nat->Int):Prop:=∀ i j,i<n->j<n->0<=s i j/\s i j<=3
noncomputable def pw (n:Nat)(s:Nat->Nat->Int):Nat->Nat->Nat->Int
 | 0=>s
 | m+1=>aU0 n (pw n s m) s
theorem pw_in {n:Nat}(hn:1<=n){s:Nat->Nat->Int}(h:InT n s):∀ m,InT n (pw n s m)
 | 0=>h
 | m+1=>λ i j y hj=>aM5 hn (pw_in hn h m) h y hj
noncomputable def rnd (x:Int):Int:=if x=0\/x=3 then x else 2
noncomputable def sharp (n:Nat)(s:Nat->Nat->Int)(i j:Nat):Int:=(minO ((ae n).map λ k=>mx3 (s i k) (rnd (s k k)) (s k j))).getD 3
theorem an5 {n:Nat}(hn:1<=n){s:Nat->Nat->Int}{i j:Nat}{x:Int}:sharp n s i j<=x↔∃ k,k<n/\s i k<=x/\rnd (s k k)<=x/\s k j<=x:=by
 obtain⟨m,h⟩:=aB8 (l:=(ae n).map λ k=>mx3 (s i k) (rnd (s k k)) (s k j)) (by
  intro z
  have:=congrArg gu z
  rw[aF,bT]at this
  simp at this
  omega)
 unfold sharp
 rw[h]
 show m<=x↔_
 rw[bb4 h]
 constructor
 ·rintro⟨y,hy,hx⟩
  obtain⟨k,hk,rfl⟩:=av.mp hy
  exact⟨k,aR.mp hk,bv0.mp hx⟩
 ·rintro⟨k,hk,hx⟩
  exact⟨_,av.mpr ⟨k,aR.mpr hk,rfl⟩,bv0.mpr hx⟩
theorem bv4 {y:Int}(h:0<=y)(h3:y<=3):0<=rnd y/\rnd y<=3:=by unfold rnd;split<;>omega
theorem bp1 {n:Nat}(hn:1<=n){s:Nat->Nat->Int}(h:InT n s):InT n (sharp n s):=λ i j y hj=>by
 constructor
 ·obtain⟨k,hk,B,_⟩:=(an5 hn (s:=s) (i:=i) (j:=j)).mp (bO _)
  have:=h i k y hk
  omega
 ·exact(an5 hn).mpr ⟨0,by omega,(h i 0 y (by omega)).2,(bv4 (h 0 0 (by omega) (by omega)).1 (h 0 0 (by omega) (by omega)).2).2,(h 0 j (by omega) hj).2⟩
section
variable {n:Nat} {s:Nat->Nat->Int}
end
def cj1 (cells:List (Str×Addr))(P:Addr)(name q:Str)(params:a8)(body:List Stmt)(scope:Scope)(pos:Pos)(i:Nat):TS:=λ D σ H =>
 ∃ ps:Array Value,H P=some (.tbl ps)/\gI ps.toList /\
  (cB pos ps.toList=none->∀ c' f doc pm ctv,H c'=none->H f=none->c'≠f ->
   D.nx (σ.set i (some (.ref f))) (upd (upd (upd H P (.tbl (ps++#[cA pos.line,cA pos.col,.ref c']))) c' (qK c' q)) f (ax1 f (ci name q params body scope (af9 cells scope.names []) .none .none doc pm none (.ref c') ctv)))) /\
  (∀ cv,cB pos ps.toList=some cv->∃ c',cv=.ref c'/\∀ f doc pm ctv,H f=none->D.nx (σ.set i (some (.ref f))) (upd H f (ax1 f (ci name q params body scope (af9 cells scope.names []) .none .none doc pm none (.ref c') ctv))))
theorem bN2 {X:Cx}{c P:Addr}{name q:Str}{i:Nat}{params:a8}{body:List Stmt}{scope:Scope}{pos:Pos}(hN:X.N.Nodup)(hi:X.N[i]?=some name)(hx:Loc X.env.scope name)(Y:X.env.code=.ref c)(C:bL X.base c P)(hB:BM X.mg X.base)
  (d3:lamCheck scope X.env.scope=true) (hq:i9 X.env name name=q:=by rfl) (d2:params.defaults=[]:=by rfl) (c3:params.kw_defaults=[]:=by rfl) (ha:annTrees params none X.env=[]:=by rfl) (hf:X.fn name=true\/X.env.scope.names.lookup name=some .local:=by first|exact .inl rfl|exact .inr rfl) :
  PS X (.FunctionDef name params body [] none [] scope none name pos) (cj1 X.env.cells P name q params body scope pos i):=by
 intro a0 s σ H D I h
 have d0:∀ y∈scope.names,y.2=.free->X.env.kindOf y.1=some .cell\/X.env.kindOf y.1=some .free:=λ y hy e=>by
  have z:=aM.mp d3 y hy
  have z':X.env.scope.names.lookup y.1=some .cell\/X.env.scope.names.lookup y.1=some .free:=by simpa [e]using z
  exact z'
 obtain⟨ps,hP,ht,a3,c0⟩:=h
 refine PySem.W.nestDef_K d2 c3 ha ?_
 rw[hq]
 have fin:∀ {H2:Hp} {f:Addr} {s2:af},Inv X a0 σ H2 s2->D.nx (σ.set i (some (.ref f))) H2->wpAny (model X.prog X.w) X.A (d9 X.env name (.ref f)) (λ _ s3=>SP X a0 D .next s3) X.xe s2:=λ {H2 f s2} I2 q2=>am7 (v:=.ref f) I2 hN hi hx rfl (λ s3 I3=>⟨_,H2,I3,q2⟩) hf
 have a2:=qD (scope:=scope) (env:=X.env) λ y hy e=>I.ok.has y.1 (d0 y hy e)
 have oP:s.heap.get? P=some (dz ps):=I.hok P _ hP
 have a1:s.heap.Ns aW X.mg:=I.mod.glob.keeps I.bk
 have hC:bL s.heap c P:=C.keeps I.bk
 have e0:aW≠P:=λ q=>by
  obtain⟨o,es,ep,e,d,_⟩:=a1
  rw[q,oP]at e;cases e;cases d
 have hb:s.heap.BuiltinsAt X.mg P:=by
  obtain⟨bm,ob,b1,b2,b3,b4,b5,b6⟩:=hB
  refine⟨bm,ob,b1,b2,λ q=>?_,λ q=>?_,I.bk _ _ b3,b4,b5,b6⟩
  ·obtain⟨o,es,ep,e,d,_⟩:=I.mod.glob
   rw[q,e]at b3;cases b3;rw[d]at b6;cases b6
  ·have e:=I.bk _ _ b3
   rw[q,oP]at e;cases e;cases b4
 cases qq:cB pos ps.toList with
 | none =>
  refine PySem.W.makeFunction_K (mg:=X.mg) a2 I.ok.glob a1 Y hC oP ht qq e0 hb λ B G J h' tk hx hge hlt a4 c1=>?_
  have a6:P<s.heap.objs.size:=aE oP
  have c5:B≠P:=cV (am a6 hge)
  have d1:h'.objs.size≠P:=cV (dw (am a6 hge) hlt)
  have c4:B≠h'.objs.size:=ay hlt
  have hsz:s.heap.objs.size<=h'.objs.size:=aw hge (cU hlt)
  have nP:∀ b,H b=none->b≠P:=λ b n z=>by rw[z,hP]at n;cases n
  have lt:∀ b o,H b=some o->b≠B/\b≠h'.objs.size:=λ b o e=>⟨ay (am (I.hok.lt e) hge),ay (am (I.hok.lt e) hsz)⟩
  have a5:∀ b o,s.heap.get? b=some o->b≠B/\b≠h'.objs.size:=λ b o e=>⟨ay (am (aE e) hge),ay (am (aE e) hsz)⟩
  have keep:∀ b o,b≠P->s.heap.get? b=some o->(h'.push (PySem.W.fnMade name q params body scope (af9 X.env.cells scope.names []) J ((X.mg "__name__").getD .none) B G)).get? b=some o:=λ b o n e=>ai _ (hx b o n e)
  have Z:∀ b,b≠P->b≠B->b≠h'.objs.size->∀ o1 o2 o3,upd (upd (upd H P o1) B o2) h'.objs.size o3 b=H b:=λ b n1 n2 n3 o1 o2 o3=>by rw[zm n3,zm n2,zm n1]
  refine fin (H2:=upd (upd (upd H P (.tbl (ps++#[cA pos.line,cA pos.col,.ref B]))) B (qK B q)) h'.objs.size (ax1 h'.objs.size (ci name q params body scope (af9 X.env.cells scope.names []) .none .none J ((X.mg "__name__").getD .none) none (.ref B) G))) (I.un (t':=tk) ⟨λ b o e n _ _=>keep b o (nP b n) e,λ b o e n _ _=>⟨o.slots,keep b o (nP b n) e⟩,λ b o e n _=>?fr,λ b o e _=>?th,λ b xs e=>?tu,λ b o u e=>?fz,λ b qs e=>?tb⟩ ?ok) (a3 qq B h'.objs.size J _ G (I.hok.fresh hge) (I.hok.fresh hsz) c4)
  case fr=>rw[Z b (nP b n) (a5 b o e).1 (a5 b o e).2];exact n
  case th =>
   by_cases z:b=P
   ·subst z;exact⟨_,ai _ c1⟩
   ·exact⟨o,keep b o z e⟩
  case tu=>rw[Z b (λ z=>by rw[z,hP]at e;cases e) (lt b _ e).1 (lt b _ e).2];exact e
  case fz=>rw[Z b (λ z=>by rw[z,hP]at e;cases e) (lt b _ e).1 (lt b _ e).2];exact e
  case tb =>
   by_cases z:b=P
   ·subst z
    rw[hP]at e;cases e
    exact⟨#[cA pos.line,cA pos.col,.ref B],by rw[zm (bM d1),zm (bM c5),zt]⟩
   ·exact⟨#[],by rw[Z b z (lt b _ e).1 (lt b _ e).2,e];simp⟩
  case ok =>
   intro b o e
   by_cases zf:b=h'.objs.size
   ·subst zf
    rw[zt]at e;cases e
    exact au9 (aN _ rfl)
   ·rw[zm zf]at e
    by_cases zc:b=B
    ·subst zc
     rw[zt]at e;cases e
     obtain⟨c2,oc,vs,t,e1,e2,e3⟩:=a4
     exact aM1 ⟨c2,oc,vs,t,e1,ai _ e2,e3⟩
    ·rw[zm zc]at e
     by_cases zp:b=P
     ·subst zp
      rw[zt]at e;cases e
      exact ai _ c1
     ·rw[zm zp]at e
      have b0:∀ d u,H d=some u->(∀ ps,u≠.tbl ps)->upd (upd (upd H P (.tbl (ps++#[cA pos.line,cA pos.col,.ref B]))) B (qK B q)) h'.objs.size (ax1 h'.objs.size (ci name q params body scope (af9 X.env.cells scope.names []) .none .none J ((X.mg "__name__").getD .none) none (.ref B) G)) d=some u:=λ d u e nt=>by
       rw[Z d (λ z=>by rw[z,hP]at e;cases e;exact nt _ rfl) (lt d _ e).1 (lt d _ e).2];exact e
      refine(I.hok b o e).stay (λ d u hd q=>keep d u ?_ q) (λ d q=>b0 d _ q λ _=>by nofun) λ d xs q=>b0 d _ q λ _=>by nofun
      rintro rfl
      rcases hd with hd|hd
      ·exact zp hd.symm
      ·rw[hP]at hd;cases hd
 | some cv =>
  obtain⟨B,rfl,c6⟩:=c0 cv qq
  refine PySem.W.makeFunction_hit (mg:=X.mg) a2 I.ok.glob a1 Y hC oP ht qq hb λ G J h' tk hk hsz=>?_
  exact fin (I.laid (t':=tk) (λ b o e=>ai _ (hk b o e)) hsz (au9 (aN _ rfl))) (c6 h'.objs.size J _ G (I.hok.fresh hsz))
def ap1 (H:Hp)(f:Addr)(name qual:Str)(params:a8)(body:List Stmt)(scope:Scope)(fr:List Str)(cap:List V)(clos:List (Str×Addr)):Prop :=
 ∃ doc pm c' ctv,H f=some (ax1 f (ci name qual params body scope clos .none .none doc pm none (.ref c') ctv))/\H c'=some (qK c' qual)/\Cells clos H /\
  (∀ x y c,clos.lookup x=some c->clos.lookup y=some c->x=y)/\(∀ x,scope.names.lookup x=some .free->∃ c,clos.lookup x=some c)/\Cap clos H fr cap
theorem bk0 {cells:List (Str×Addr)}{N:List Str}{kd:Str->Option bG}{σ:St}{Z H2:Hp}{f:Addr}{q:Str}{name:Str}{params:a8}{body:List Stmt}{scope:Scope}{fr:List Str}{cap:List V}(C:Caught cells N kd σ Z H2)
  (hf:∃ h pm Y B,Z f=some (ax1 f (ci name q params body scope (af9 cells scope.names []) .none .none h pm none (.ref Y) B))/\Z Y=some (qK Y q))
  (J:∀ x,scope.names.lookup x=some .free->∃ c,cells.lookup x=some c)
  (G:∀(i:Nat) (x:Str) (v:V),fr[i]?=some x->cap[i]?=some v->scope.names.lookup x=some .free/\(kd x=some .cell\/kd x=some .free)/\∃ j:Nat,N[j]?=some x/\σ[j]?=some (some v)) :
  ap1 H2 f name q params body scope fr cap (af9 cells scope.names []):=by
 obtain⟨h,pm,Y,B,h1,h2⟩:=hf
 have up:∀ b o,Z b=some o->H2 b=some o:=λ b o e=>by
  rw[C.ne b λ z=>by rw[C.free b z]at e;cases e];exact e
 have sub:∀ x c,(af9 cells scope.names []).lookup x=some c->cells.lookup x=some c:=λ x c e=>by
  rcases clOf_mem (aC e)with z|z
  ·exact z
  ·exact absurd z (by simp)
 refine⟨h,pm,Y,B,up _ _ h1,up _ _ h2,λ x c e=>C.cells x c (sub x c e),λ x y c e1 e2=>C.inj x y c (sub x c e1) (sub y c e2),λ x k=>?_,λ i x v e1 e2=>?_⟩
 ·obtain⟨c,e⟩:=J x k
  exact⟨c,qG e (aC k)⟩
 ·obtain⟨k,kk,j,e3,e4⟩:=G i x v e1 e2
  obtain⟨c,e⟩:=J x k
  obtain⟨o,u,e5,e6,e7⟩:=C.cap j x v c e3 e4 kk e
  exact⟨c,o,u,qG e (aC k),e5,e6,e7⟩
theorem ap1.fn {K:ac}{H:Hp}{f:Addr}{name qual:Str}{params:a8}{body:List Stmt}{scope:Scope}{fr:List Str}{cap:List V}{y:List (Str×Addr)}(h:ap1 H f name qual params body scope fr cap y):bI2 K H f:=by
 obtain⟨B,Y,J,C,G,_⟩:=h
 exact .inl ⟨_,G⟩
end L2
end
noncomputable section
namespace L2
open PySem PySem.Spec PyProof.Rows Builtin
section
variable {P:aK} {w:World} {A:aU} {E:Value->af->Prop} {s:af}
theorem aH1 {h t:Addr}{i:Nat}{l:Array Value}{v:Value}{Q:Value->af->Prop}(B:s.heap.IsTupleIter h t i)(C:s.heap.IsTuple t l)(hv:l[i]?=some v)
  (k:∀ h',h'.IsTupleIter h t (i+1)->dm h s.heap h'->Q v { s with heap:=h' }):wpAny (model P w) A (bI (.ref h)) Q E s:=by
 obtain⟨o,e1,e2,y⟩:=id B
 obtain⟨p,G,_,n,J⟩:=C
 unfold bI
 refine ar (fu (name:=cX "__next__") B.typeIs cu (fv cu B.typeIs d7 ?_ (dX _)))
 show wpAny _ _ (field (.ref h) 0 >>= _) _ _ _
 refine ar (gA e1 y (x:=.ref t) rfl ?_)
 show wpAny _ _ (if(Value.ref t==Value.none)=true then _ else _) _ _ _
 rw[if_neg (show ¬((Value.ref t==Value.none)=true)from λ z=>nomatch z)]
 show wpAny _ _ (field (.ref h) 1 >>= _) _ _ _
 refine ar (gA e1 y (x:=.int i 0) rfl ?_)
 show wpAny _ _ (gH (.ref t) >>= _) _ _ _
 refine ar (du G J ?_)
 simp only[dA,hv]
 refine ar (wpAny_setField e1 y (by simp) (aS ⟨v,rfl,aS (k _ ⟨_,cL _ e1 (Obj.isFreed_of_fields (ic y _)),(Obj.cls_mapFields ..).trans e2,by rw[ic y];simp[cA]⟩ (gP ..))⟩))
theorem aR4 {h t:Addr}{i:Nat}{l:Array Value}{Q:Value->af->Prop}(C:A.handled=none)(B:s.heap.IsTupleIter h t i)(G:s.heap.IsTuple t l)(hv:l[i]?=none)
  (k:∀ h' e,iM h s.heap h'->(∃ o,h'.get? e=some o/\o.cls=.type "StopIteration")->E (.ref e) { s with heap:=h' }):wpAny (model P w) A (bI (.ref h)) Q E s:=by
 obtain⟨o,e1,e2,y⟩:=id B
 obtain⟨p,J,_,n,Y⟩:=G
 unfold bI
 refine ar (fu (name:=cX "__next__") B.typeIs cu (fv cu B.typeIs d7 ?_ (dX _)))
 show wpAny _ _ (field (.ref h) 0 >>= _) _ _ _
 refine ar (gA e1 y (x:=.ref t) rfl ?_)
 show wpAny _ _ (if(Value.ref t==Value.none)=true then _ else _) _ _ _
 rw[if_neg (show ¬((Value.ref t==Value.none)=true)from λ z=>nomatch z)]
 show wpAny _ _ (field (.ref h) 1 >>= _) _ _ _
 refine ar (gA e1 y (x:=.int i 0) rfl ?_)
 show wpAny _ _ (gH (.ref t) >>= _) _ _ _
 refine ar (du J Y ?_)
 simp only[dA,hv]
 refine ar (i6 (ar (wpAny_setField e1 y (by simp) ?_)))
 show wpAny _ _ (newExc (.type "StopIteration") [] >>= _) _ _ (_:af)
 refine ar ?_
 simp only[newExc,newTuple]
 refine ar (cb ?_ (by size_fits))
 refine ar (m:=firstArgMember _ _) (wpAny_of_eq (a:=Value.none) (by first|rfl|(simp only[firstArgMember];rfl)) (cb ?_ (by size_fits)))
 simp only[raiseNew]
 refine ar (wpAny_handled ?_)
 first|rw[show A.in1.handled=none from C]|rw[C]
 exact ar (aS (wpAny_throw (k _ _ (((gP ..).extBut.push _).push _) ⟨_,aN _ rfl,rfl⟩)))
end
structure Dw (P:aK)(w:World)(K:ac)(J:It)(it:Addr)(tn:Nat->Heap->Prop):Prop where
 obj:∀ i h,tn i h->∃ o,h.get? it=some o/\∀ v,o.data≠.cell v
 keep:∀ i h h',tn i h->(∀ o,h.get? it=some o->h'.get? it=some o)->tn i h'
 item:∀(X:Cx),X.prog=P->X.w=w->X.K=K->∀(A:aU) (i:Nat) (pins:List (Addr×Obj)) (s:af) (σ:St) (H:Hp) (Q:Value->af->Prop) (E:Value->af->Prop),Inv X pins σ H s->tn i s.heap->J.go i H ->
  (∀ x u h' tk,RelV x u->J.yld i H x H->tn (i+1) h'->dm it s.heap h'->Q u { s with heap:=h',toks:=tk })->wpAny (model P w) A (bI (.ref it)) Q E s
 done:∀(X:Cx),X.prog=P->X.w=w->X.K=K->∀(A:aU) (i:Nat) (pins:List (Addr×Obj)) (s:af) (σ:St) (H:Hp) (Q:Value->af->Prop) (E:Value->af->Prop),A.handled=none->Inv X pins σ H s->tn i s.heap->J.stop i H ->
  (∀ h' e,iM it s.heap h'->(∃ o,h'.get? e=some o/\o.cls=.type "StopIteration")->E (.ref e) { s with heap:=h' })->wpAny (model P w) A (bI (.ref it)) Q E s
theorem bx5 {P:aK}{w:World}{K:ac}(a Z:Addr):Dw P w K (Itl K a) Z (λ i h=>h.IsListIter Z a i) where
 obj:=λ i h st=>by
  obtain⟨o,e,c,d⟩:=st
  exact⟨o,e,λ v z=>by rw[d]at z;cases z⟩
 keep:=λ i h h' st k=>st.at k
 item:=by
  intro X J hw B A i y s σ H Q E I st C k
  subst J hw B
  obtain⟨xs,x,hq,hx⟩:=C
  obtain⟨its,G,p,hz⟩:=I.list hq
  obtain⟨u,hu,ru⟩:=G.get hx
  exact wpAny_nextOf_list_item st p.isList (x:=u) (by simpa using hu) λ h' Y sb=>k x u h' s.toks ru ⟨rfl,λ ys hy=>by rw[I.list_inj hy hq];exact hx⟩ Y sb
 done:=by
  intro X J hw B A i y s σ H Q E hA I st C k
  subst J hw B
  obtain⟨xs,hq,hx⟩:=C
  obtain⟨its,G,p,hz⟩:=I.list hq
  have hl:=G.length
  exact wpAny_nextOf_list_end hA st p.isList (by simp;omega) k
theorem bY2 {P:aK}{w:World}{K:ac}(a Z:Addr):Dw P w K (Itt K a) Z (λ i h=>h.IsTupleIter Z a i) where
 obj:=λ i h st=>by
  obtain⟨o,e,c,d⟩:=st
  exact⟨o,e,λ v z=>by rw[d]at z;cases z⟩
 keep:=λ i h h' st k=>st.at k
 item:=by
  intro X J hw B A i y s σ H Q E I st C k
  subst J hw B
  obtain⟨xs,x,hq,hx⟩:=C
  obtain⟨its,G,p,hz⟩:=I.tuple hq
  obtain⟨u,hu,ru⟩:=G.get hx
  exact aH1 st (show s.heap.IsTuple a its.toArray from p) (v:=u) (by simpa using hu) λ h' Y sb=>k x u h' s.toks ru ⟨rfl,λ ys hy=>by rw[I.tuple_inj hy hq];exact hx⟩ Y sb
 done:=by
  intro X J hw B A i y s σ H Q E hA I st C k
  subst J hw B
  obtain⟨xs,hq,hx⟩:=C
  obtain⟨its,G,p,hz⟩:=I.tuple hq
  have hl:=G.length
  exact aR4 hA st (show s.heap.IsTuple a its.toArray from p) (by simp;omega) k
theorem bM8 {P:aK}{w:World}{K:ac}(x:Str)(t:Tok)(it:Addr):Dw P w K (Its x) it (λ i h=>h.IsStrIter it (gB x) x t i) where
 obj:=λ i h st=>by
  obtain⟨o,e,c,d⟩:=st
  exact⟨o,e,λ v z=>by rw[d]at z;cases z⟩
 keep:=λ i h h' st k=>by
  obtain⟨o,ho,r⟩:=st
  exact⟨o,k _ ho,r⟩
 item:=by
  intro X Z hw G A i C s σ H Q E I st J k
  subst Z hw G
  have y:i<x.cps.size:=J
  have hc:x.cps[i]?=some x.cps[i]:=by simp[y]
  unfold gB at st k
  cases ha:x.cps.all (·<128)
  ·rw[ha]at st k
   exact wpAny_nextOf_wide_item st hc λ h' B Y=>k (.str ⟨#[x.cps[i]]⟩) _ h' (s.toks+1) ⟨_,rfl⟩ ⟨rfl,_,hc,rfl⟩ B Y
  ·rw[ha]at st k
   exact wpAny_nextOf_ascii_item st hc λ h' B Y=>k (.str ⟨#[x.cps[i]]⟩) _ h' (s.toks+1) ⟨_,rfl⟩ ⟨rfl,_,hc,rfl⟩ B Y
 done:=by
  intro X Z hw G A i C s σ H Q E hA I st J k
  subst Z hw G
  have y:x.cps.size<=i:=J
  have hc:x.cps[i]?=none:=by simp[y]
  unfold gB at st
  cases ha:x.cps.all (·<128)
  ·rw[ha]at st
   exact wpAny_nextOf_wide_end hA st hc k
  ·rw[ha]at st
   exact wpAny_nextOf_ascii_end hA st hc k
section
variable {X:Cx} {pins:List (Addr×Obj)} {σ:St} {H:Hp} {s:af} {A:aU} {E:Value->af->Prop} {J1 J2:It} {t1 t2:Nat->Heap->Prop} {z ti to i1 i2:Addr} {n:Nat} {a b:Value}
end
def Mkr (v:Value)(o:Obj)(h:Heap):Prop:=∀(P:aK) (w:World) (A:aU) (E:Value->af->Prop) (s:af) (Q:Value->af->Prop),(∀ b u,h.get? b=some u->s.heap.get? b=some u) ->
 Q (.ref s.heap.objs.size) { s with heap:=s.heap.push o }->wpAny (model P w) A (j3 v) Q E s
def Sr (K:ac)(H:Hp)(x:V)(J:It):Prop:=(∃ a,x=.ref a/\(∃ xs,SqL K H a xs)/\J=Itl K a)\/(∃ a,x=.ref a/\(∃ xs,SqT K H a xs)/\J=Itt K a)\/∃ y,x=.str y/\J=Its y
theorem Sr.mk {X:Cx}{C:List (Addr×Obj)}{σ:St}{H:Hp}{s:af}{x:V}{u:Value}{J:It}(I:Inv X C σ H s)(h:Sr X.K H x J)(r:RelV x u) :
  ∃(o:Obj) (G:Addr->Nat->Heap->Prop),o.isFreed=false/\Mkr u o s.heap/\(∀ B,Dw X.prog X.w X.K J B (G B))/\∀ B h',h'.get? B=some o->G B 0 h':=by
 rcases h with⟨a,e,⟨Z,hq⟩,e'⟩|⟨a,e,⟨Z,hq⟩,e'⟩|⟨y,e,e'⟩
 ·subst e e';cases r
  obtain⟨its,Y,p,hz⟩:=I.list hq
  exact⟨_,λ B i h=>h.IsListIter B a i,rfl,λ P w A E s' Q hk q=>cN (p.isList.at λ o e=>hk _ _ e) q,λ B=>bx5 a B,λ B h' e=>⟨_,e,rfl,rfl⟩⟩
 ·subst e e';cases r
  obtain⟨its,Y,p,hz⟩:=I.tuple hq
  exact⟨_,λ B i h=>h.IsTupleIter B a i,rfl,λ P w A E s' Q hk q=>g9 (Heap.IsTuple.at (show s.heap.IsTuple a its.toArray from p) λ o e=>hk _ _ e) q,λ B=>bY2 a B,λ B h' e=>⟨_,e,rfl,rfl⟩⟩
 ·subst e e';obtain⟨t,rfl⟩:=r
  exact⟨_,λ B i h=>h.IsStrIter B (gB y) y t i,rfl,λ P w A E s' Q hk q=>wpAny_pyIter_strU q,λ B=>bM8 y t B,λ B h' e=>⟨_,e,rfl,rfl⟩⟩
end L2
end
noncomputable section
namespace L2
open PySem PySem.Spec PyProof.Rows Builtin
open AutoSeq1 (wpAny_loadPart')
section
variable {X:Cx} {pins:List (Addr×Obj)} {σ:St} {H:Hp} {s:af} {A:aU} {E:Value->af->Prop} {J1:It} {t1:Nat->Heap->Prop} {z it:Addr} {n:Nat} {old:Value}
end
end L2
end
noncomputable section
namespace L2
open PySem PySem.Spec PyProof.Rows Builtin
open AutoSeq1 (wpAny_loadPart')
theorem aH7:fillsNumberSlot (.type "tuple") "mul"=pure false :=
 PySem.fillsNumberSlot_seq (id := "tuple.__mul__") (r:=some (.builtin "tuple.__rmul__")) dB.lookup (by decide +kernel) fw.lookup (by decide +kernel)
theorem aU4:seqRepeat? (.type "tuple")=pure (some (.builtin "tuple.__mul__")):=by
 unfold seqRepeat?
 rw[iI (T := "tuple") (name := "__mul__") (id := "tuple.__mul__") dB.lookup (by decide +kernel),iI (T := "tuple") (name := "__rmul__") (id := "tuple.__rmul__") fw.lookup (by decide +kernel)]
 rfl
theorem aA4 (a:Int)(t:Tok)(l:Addr)(o:Obj)(y:Array Value)(n:Nat)(B:Option Addr)(sl:Array (Option Value)) :
  Meets (Builtin.«int.__rmul__» ⟨[.int a t,.ref l],[]⟩) (λ _ R s=>s.heap.get? l=some { cls:=.type "tuple",dict:=B,data:=.seq y n,slots:=sl }/\R (.ok (.ret Value.notImplemented)) s) :=
 .of_wp λ prog w A R s h=>by obtain⟨C,g,d,tk,os⟩:=s;obtain⟨hl,h⟩:=h;wp_walk;exact⟨_,rfl,h⟩
noncomputable def au5 {α:Type}:Nat->List α->List α
 | 0,_=>[]
 | n+1,a=>a++au5 n a
theorem aL8 {α:Type}(l:List α):∀(n:Nat) (h:Array α),(ak n l.toArray).foldl (·++·) h=h++(au5 n l).toArray
 | 0,h=>by simp[au5]
 | n+1,h=>by rw[bE,cg,aL8 l n];simp[au5]
theorem aB1 {α:Type}(a:Array α):∀(n:Nat) (h:Array α),((ak n a).foldl (·++·) h).size=h.size+a.size*n
 | 0,h=>by simp
 | n+1,h=>by rw[bE,cg,aB1 a n,Array.size_append,j6];omega
def TmA (items:Array Value)(k:Int)(l:Addr)(R:Value->af->Prop)(s:af):Prop :=
 ((items.isEmpty||k==1)=true->R (.ref l) s)/\((items.isEmpty||k==1)=false->R (.ref s.heap.objs.size) { s with heap:=s.heap.push { cls:=.type "tuple",data:=.seq ((ak k.toNat items).foldl (·++·) #[]) } })
theorem ba6 {P:aK}{w:World}{A:aU}{E:Value->af->Prop}{s:af}{l:Addr}{y:Array Value}{k:Int}{t:Tok}{Q:Value->af->Prop}(h0:0<=k)(J:k<=1000000)(hz:y.size*k.toNat<=1000000)(hl:IsTup s.heap l y)
  (h:TmA y k l Q s):wpAny (model P w) A (call (.builtin "tuple.__mul__") [.ref l,.int k t]) Q E s:=by
 refine fv dB hl.typeIs PySem.F.entry_tuple_mul ?_ (PySem.F.args_tuple_mul_2 _ _)
 obtain⟨G,q2⟩:=h
 show wpAny _ _ (asIndex (.int k t) >>= _) _ _ _
 refine ar (aS ?_)
 rw[if_neg (by rw[decide_eq_false (by omega),decide_eq_false (by omega)];decide)]
 show wpAny _ _ (jL (.ref l) >>= _) _ _ _
 refine ar (tupleItemsOf_ hl ?_)
 have B:(y.size:Int)*k<=1000000:=by
  have:((y.size*k.toNat:Nat):Int)<=1000000:=by omega
  rw[iP,gQ h0]at this
  exact this
 cases hb:(y.isEmpty||k==1)with
 | true =>
  rw[if_pos rfl]
  unfold jM
  refine ar (ar (wpAny_typeOf hl.typeIs (aS ?_)))
  rw[if_pos (by decide)]
  exact ar (i6 (aS ⟨_,rfl,G hb⟩))
 | false =>
  rw[if_neg aP]
  have C:y.isEmpty=false:=by
   rw[dR]at hb;exact hb.1
  have q:=q2 hb
  show wpAny _ _ (if(decide (k<=0)||y.isEmpty)=true then _ else _) _ _ _
  by_cases hk:k<=0
  ·rw[if_pos (by rw[decide_eq_true hk];rfl)]
   have:k.toNat=0:=by omega
   rw[this]at q
   exact ar (cb (aS ⟨_,rfl,q⟩) (by size_fits))
  ·rw[if_neg (by rw[decide_eq_false hk,C];decide)]
   show wpAny _ _ (if(y.size:Int)*k > (2^63 - 1) / 8 then _ else _) _ _ _
   rw[if_neg (by omega)]
   show wpAny _ _ (if eF ((y.size:Int)*k)=true then _ else _) _ _ _
   rw[if_neg (by unfold eF;rw[decide_eq_false (by unfold aL;omega)];decide)]
   refine ar (cb (aS ⟨_,rfl,q⟩) ?_)
   show Array.size _<=aL
   rw[aB1]
   show 0+_<=_
   rw[bA]
   have h3:y.size*k.toNat<=aL:=aw hz (by decide)
   exact h3
theorem aM4 {α:Type}:∀ n,au5 n ([]:List α)=[]
 | 0=>rfl
 | n+1=>by simp[au5,aM4 n]
theorem bn7 {α:Type}(l:List α):au5 1 l=l:=by simp[au5]
theorem aP8 {α:Type}(l:List α):∀ n,(au5 n l).length=l.length*n
 | 0=>by simp[au5]
 | n+1=>by simp[au5,aP8 l n,gC];omega
theorem Vals.repT {h:List V}{us:List Value}(r:Vals h us):∀ n,Vals (au5 n h) (au5 n us)
 | 0=>.nil
 | n+1=>r.append (Vals.repT r n)
def cg9 (K:ac):R2:=λ x y H Q=>∃ a xs n,x=.ref a/\y=.int n/\SqT K H a xs/\(0<=n/\n<=1000000/\xs.length*n.toNat<=1000000)/\∀ p H',ai5 H H'->SqT K H' p (au5 n.toNat xs)->Q (.ref p) H'
theorem bF8 {X:Cx}{K:ac}(Z:X.K=K):OpR X (bV .Mult) (cg9 K):=by
 subst Z
 intro J s σ H x y v u Q I rx Y h
 obtain⟨a,G,n,rfl,rfl,ha,⟨h0,h1,hz⟩,q⟩:=h
 cases rx
 obtain⟨t,rfl⟩:=Y
 obtain⟨its,r1,C,a0⟩:=I.tuple ha
 have B:=r1.length
 obtain⟨⟨cls,dd,data,sl⟩,ho,hc,n1,hd⟩:=id C
 simp only at hc hd
 subst hc hd
 refine eJ (T := "tuple") (U := "int") (by decide) C.typeIs (λ s'=>fJ s' n t) aH7 hV dh aU4 gN.lookup
  (fL dh (fJ s n t) gO (gx _ _) (aA4 n t a default its.toArray n1 dd sl) ⟨ho,⟨rfl,C.typeIs,ba6 h0 h1 (by rw[aA,<-B];exact hz) C ⟨λ hb=>?_,λ hb=>?_⟩⟩⟩)
 ·refine⟨.ref a,H,I,rfl,q a H (ai5.refl H) ?_⟩
  rw[bD]at hb
  rcases hb with hb|hb
  ·have hi:its=[]:=by simpa using hb
   have hx:G=[]:=r1.nil_iff.mp hi
   rw[hx,aM4];rw[hx]at ha;exact ha
  ·have:n=1:=by simpa using hb
   subst this
   show SqT _ _ _ (au5 1 G)
   rw[bn7];exact ha
 ·have hp:=I.hok.fresh (ah s.heap.objs.size)
  refine⟨.ref s.heap.objs.size,_,I.laid (t':=s.toks) (o:=.tup (au5 n.toNat G)) (λ b ob q=>ai _ q) (ah _) ?_,rfl,q _ _ ((ai5.refl H).new hp) (SqT.of zt)⟩
  refine⟨by rw[aP8];exact aw hz (by decide),au5 n.toNat its,r1.repT _,?_⟩
  rw[show(au5 n.toNat its).toArray=(ak n.toNat its.toArray).foldl (·++·) #[]by rw[aL8];simp]
  exact⟨_,aN _ rfl,rfl,_,rfl⟩
end L2
end
noncomputable section
namespace L2
open PySem PySem.Spec PyProof.Rows
section
variable {κ:Type} [DecidableEq κ]
noncomputable def aM7 (kvs:List (κ×V))(k:κ):Option V:=(kvs.find? λ kv=>decide (kv.1=k)).map (·.2)
noncomputable def aA0 (kvs:List (κ×V))(k:κ)(v:V):List (κ×V) :=
 if(kvs.any λ kv=>decide (kv.1=k))=true then kvs.map (λ kv=>if kv.1=k then(kv.1,v)else kv)else kvs++[(k,v)]
theorem am5 {p:κ×V}{r:List (κ×V)}{k:κ}(e:p.1=k):aM7 (p::r) k=some p.2:=by simp[aM7,cI,e]
theorem am6 {p:κ×V}{r:List (κ×V)}{k:κ}(e:¬ p.1=k):aM7 (p::r) k=aM7 r k:=by simp[aM7,cI,e]
theorem aw0 (k:κ):∀ h:List (κ×V),(h.any λ y=>decide (y.1=k))=(aM7 h k).isSome
 | []=>rfl
 | p::r=>by
  rw[fh]
  by_cases e:p.1=k
  ·simp only[am5 e,decide_eq_true e,Bool.true_or,eD]
  ·rw[am6 e,decide_eq_false e,jU];exact aw0 k r
theorem jJ (h:List (κ×V))(k:κ)(v:V):(aA0 h k v).length<=h.length+1:=by
 unfold aA0
 split
 ·rw[aF];omega
 ·rw[aZ,aQ,dY];omega
theorem ba2.isSome_eq {o:Option V}{u:Option Value}(r:ba2 o u):o.isSome=u.isSome:=by
 cases o with
 | none=>cases u with
  | none=>rfl
  | some _=>exact(show False from r).elim
 | some _=>cases u with
  | none=>exact(show False from r).elim
  | some _=>rfl
theorem KV.val {y:List (κ×V)}{vs:List (κ×Value)}(r:KV y vs)(k:κ):ba2 (aM7 y k) (gJ vs k):=by
 unfold KV at r
 induction r with
 | nil=>exact True.intro
 | @cons p q ps qs h t ih =>
  obtain⟨B,C⟩:=h
  by_cases e:p.1=k
  ·have e':q.1=k:=B.symm.trans e
   have b:gJ (q::qs) k=some q.2:=by simp[gJ,cI,e']
   rw[am5 e,b];exact C
  ·have e':¬ q.1=k:=λ z=>e (B.trans z)
   have b:gJ (q::qs) k=gJ qs k:=by simp[gJ,cI,e']
   rw[am6 e,b];exact ih
theorem KV.any {y:List (κ×V)}{vs:List (κ×Value)}(r:KV y vs)(k:κ):(y.any λ B=>decide (B.1=k))=vs.any λ B=>decide (B.1=k):=by
 unfold KV at r
 induction r with
 | nil=>rfl
 | cons h t ih=>rw[fh,fh,ih,h.1]
theorem KV.repl {C:List (κ×V)}{vs:List (κ×Value)}(r:KV C vs)(k:κ){y:V}{u:Value}(Y:RelV y u) :
  KV (C.map λ B=>if B.1=k then(B.1,y)else B) (vs.map λ B=>if B.1=k then(B.1,u)else B):=by
 unfold KV at r ⊢
 induction r with
 | nil=>exact .nil
 | @cons p q ps qs h t ih =>
  rw[aI,aI]
  refine .cons ?_ ih
  obtain⟨G,J⟩:=h
  by_cases e:p.1=k
  ·rw[if_pos e,if_pos (G.symm.trans e)];exact⟨G,Y⟩
  ·rw[if_neg e,if_neg (λ z=>e (G.trans z))];exact⟨G,J⟩
theorem KV.put {h:List (κ×V)}{vs:List (κ×Value)}(r:KV h vs)(k:κ){y:V}{u:Value}(B:RelV y u):KV (aA0 h k y) (stored vs k u):=by
 unfold aA0 stored
 rw[r.any k]
 by_cases e:(vs.any λ C=>decide (C.1=k))=true
 ·rw[if_pos e,if_pos e];exact r.repl k B
 ·rw[if_neg e,if_neg e];exact ki r ⟨rfl,B⟩
theorem KV.length {h:List (κ×V)}{vs:List (κ×Value)}(r:KV h vs):h.length=vs.length:=gR r
end
theorem aR3 {P:aK}{w:World}{k:Key}{u:Value}(r:RelV (kV k) u):(qb P w).is k u=true:=by
 cases k with
 | inl i=>obtain⟨t,e⟩:=(show ∃ t,u=Value.int i t from r);subst e;exact aK7 P w i t
 | inr x=>obtain⟨t,e⟩:=(show ∃ t,u=Value.str x t from r);subst e;exact aI3 P w x t
theorem aA1 {P:aK}{w:World}:∀ {y:List Key} {us:List Value},Vals (y.map kV) us->ItemsAre (qb P w) y us
 | [],_,r=>by rw[cy]at r;cases r;exact .nil
 | k::y,_,r=>by
  rw[aI]at r
  cases r with
  | cons h t=>exact .cons (aR3 h) (aA1 t)
abbrev KT (H:Hp):List (List Key×V)->List (List Key×Addr×Value)->Prop:=eZ λ p q=>p.1=q.1/\H q.2.1=some (.tup (p.1.map kV))/\RelV p.2 q.2.2
theorem KT.val {H:Hp}{y:List (List Key×V)}{C:List (List Key×Addr×Value)}(r:KT H y C)(k:List Key):ba2 (aM7 y k) ((atKey C k).map (·.2)):=by
 induction r with
 | nil=>exact True.intro
 | @cons p q ps qs h t ih =>
  obtain⟨B,_,G⟩:=h
  by_cases e:p.1=k
  ·have e':q.1=k:=B.symm.trans e
   have b:atKey (q::qs) k=some q.2:=by simp[atKey,cI,e']
   rw[am5 e,b];exact G
  ·have e':¬ q.1=k:=λ z=>e (B.trans z)
   have b:atKey (q::qs) k=atKey qs k:=by simp[atKey,cI,e']
   rw[am6 e,b];exact ih
theorem KT.repl {H:Hp}{B:List (List Key×V)}{Y:List (List Key×Addr×Value)}(r:KT H B Y)(k:List Key){y:V}{u:Value}(Z:RelV y u) :
  KT H (B.map λ G=>if G.1=k then(G.1,y)else G) (Y.map (putAt k u)):=by
 induction r with
 | nil=>exact .nil
 | @cons p q ps qs h t ih =>
  rw[aI,aI]
  refine .cons ?_ ih
  obtain⟨C,J,h3⟩:=h
  unfold putAt
  by_cases e:p.1=k
  ·rw[if_pos e,if_pos (C.symm.trans e)];exact⟨C,J,Z⟩
  ·rw[if_neg e,if_neg (λ z=>e (C.trans z))];exact⟨C,J,h3⟩
theorem KT.put {H:Hp}{h:List (List Key×V)}{B:List (List Key×Addr×Value)}(r:KT H h B)(k:List Key){b:Addr}{y:V}{u:Value}(hb:H b=some (.tup (k.map kV)))(C:RelV y u) :
  KT H (aA0 h k y) (storedH B k b u):=by
 have e:(h.any λ G=>decide (G.1=k))=(atKey B k).isSome:=by
  rw[aw0,(r.val k).isSome_eq,eV]
 unfold aA0 storedH
 rw[e]
 by_cases q:(atKey B k).isSome=true
 ·rw[if_pos q,if_pos q];exact r.repl k C
 ·rw[if_neg q,if_neg q];exact ki r ⟨rfl,hb,C⟩
theorem KT.keeps {H H':Hp}{h:List (List Key×V)}{y:List (List Key×Addr×Value)}(r:KT H h y)(ht:∀ b ys,H b=some (.tup ys)->H' b=some (.tup ys)):KT H' h y :=
 eZ.mapP r λ _ _ z=>⟨z.1,ht _ _ z.2.1,z.2.2⟩
section
variable {P:aK} {w:World} {H:Hp} {h:Heap} {a:Addr}
theorem bV1 {u:HO}(ok:HOk P w H h)(e:Rd H a u):ae5 P w H h a u:=e.ok ok
theorem bi4 {y:List (Key×V)}(ok:HOk P w H h)(e:Rd H a (.dK y)):y.length<=aL/\(a==cR)=false/\∃ vs,KV y vs/\h.DictOf (qb P w) a vs :=
 show ae5 P w H h a (.dK y)from bV1 ok e
theorem bL6 {y:List (Key×V)}(ok:HOk P w H h)(e:H a=some (.dK y)):y.length<=aL/\(a==cR)=false/\∃ vs,KV y vs/\h.DictOf (qb P w) a vs:=bi4 ok (.inl e)
theorem aC8 {y:List Key}(ok:HOk P w H h)(e:H a=some (.tup (y.map kV))):(gF (qb P w)).is h y a:=by
 obtain⟨_,its,r,o,C,B,n,h3⟩:=(show ae5 P w H h a (.tup (y.map kV))from ok a _ e)
 exact⟨o,its.toArray,n,C,B,h3,by simpa using aA1 r⟩
theorem be8 {B:List (List Key×V)}(ok:HOk P w H h)(e:Rd H a (.dT B)):B.length<=aL/\(a==cR)=false /\
  ∃ C,KT H B C/\h.DictOfH (gF (qb P w)) a C:=by
 obtain⟨z,y,C,r,o,es,ep,Z,G,h3,J,Y⟩:=(show ae5 P w H h a (.dT B)from bV1 ok e)
 refine⟨z,y,C,r,o,es,ep,Z,G,h3,J,λ x hx=>?_,Y⟩
 have all:∀ {l:List (List Key×V)} {m:List (List Key×Addr×Value)},KT H l m->∀ x∈m,(gF (qb P w)).is h x.1 x.2.1:=by
  intro l m q
  induction q with
  | nil=>intro x hx;exact nomatch hx
  | @cons p q ps qs hq t ih =>
   intro x hx
   rcases az.mp hx with e|hx
   ·subst e
    exact aC8 ok (by rw[<-hq.1];exact hq.2.1)
   ·exact ih x hx
 exact all r x hx
theorem ch9 {y:List (List Key×V)}(ok:HOk P w H h)(e:H a=some (.dT y)):y.length<=aL/\(a==cR)=false /\
  ∃ B,KT H y B/\h.DictOfH (gF (qb P w)) a B:=be8 ok (.inl e)
end
def bi9 (H:Hp)(a:Addr)(y:V)(r:Option V):Prop :=
 (∃ kvs k,Rd H a (.dK kvs)/\y=kV k/\r=aM7 kvs k)\/∃ kvs k b,Rd H a (.dT kvs)/\y=.ref b/\H b=some (.tup (k.map kV))/\r=aM7 kvs k
def bZ7 (H:Hp)(a:Addr)(y v:V)(H':Hp):Prop :=
 (∃ kvs k,H a=some (.dK kvs)/\y=kV k/\kvs.length<aL/\H'=upd H a (.dK (aA0 kvs k v))) \/
 ∃ kvs k b,H a=some (.dT kvs)/\y=.ref b/\H b=some (.tup (k.map kV))/\kvs.length<aL/\H'=upd H a (.dT (aA0 kvs k v))
theorem bi9.k {H:Hp}{a:Addr}{h:List (Key×V)}{k:Key}(e:H a=some (.dK h)):bi9 H a (kV k) (aM7 h k):=.inl ⟨h,k,.inl e,rfl,rfl⟩
theorem bZ7.k {H:Hp}{a:Addr}{h:List (Key×V)}{k:Key}{v:V}(e:H a=some (.dK h))(hl:h.length<aL):bZ7 H a (kV k) v (upd H a (.dK (aA0 h k v))):=.inl ⟨h,k,e,rfl,hl,rfl⟩
section
variable {X:Cx} {pins:List (Addr×Obj)} {σ:St} {H:Hp} {s:af} {a:Addr} {y v:V} {u r:Value} {o:Option V} {A:aU} {E:Value->af->Prop}
theorem Inv.big (I:Inv X pins σ H s):cR<s.heap.objs.size:=by
 have h:aW<s.heap.objs.size:=(I.mod.glob.keeps I.bk).lt
 exact dw (by decide) h
theorem aY0 {Q:Value->af->Prop}(hu:A.units+1<cLine)(I:Inv X pins σ H s)(g:bi9 H a y (some v))(ry:RelV y u)(h:∀ G s',Inv X pins σ H s'->RelV v G->Q G s') :
  wpAny (model X.prog X.w) A (getItem (.ref a) u) Q E s:=by
 rcases g with⟨Z,k,e,J,l⟩|⟨Z,k,b,e,J,eb,l⟩
 ·subst J
  obtain⟨z,hd,vs,B,dd⟩:=bi4 I.hok e
  obtain⟨G,hw,C⟩:=ba2.some_of (v:=v) (o:=gJ vs k) (by rw[l];exact B.val k)
  exact wpAny_getItem_of (aR3 ry) dd.mapOf hw (h G _ (I.tok _) C)
 ·subst J
  cases(show u=Value.ref b from ry)
  obtain⟨z,hd,xs,B,dd⟩:=be8 I.hok e
  obtain⟨G,hw,C⟩:=ba2.some_of (v:=v) (o:=(atKey xs k).map (·.2)) (by rw[l];exact B.val k)
  obtain⟨p,hp,Y⟩:=cE.mp hw
  refine wpAny_getItem_heap (di hu) (aC8 I.hok eb) dd hp ?_
  rw[Y]
  exact h G _ (I.tok _) C
theorem cm7 {Q:Value->af->Prop}(Y:A.units+1<cLine)(I:Inv X pins σ H s)(g:bi9 H a y o)(J:RelV y u)(h:∀ s',Inv X pins σ H s'->Q (.bool o.isSome) s') :
  wpAny (model X.prog X.w) A (cJ .In u (.ref a)) Q E s:=by
 rcases g with⟨G,k,e,C,l⟩|⟨G,k,b,e,C,eb,l⟩
 ·subst C
  obtain⟨z,hd,vs,B,dd⟩:=bi4 I.hok e
  refine wpAny_in_of (aR3 J) hd dd.mapOf ?_
  rw[<-(B.val k).isSome_eq,<-l]
  exact h _ (I.tok _)
 ·subst C
  cases(show u=Value.ref b from J)
  obtain⟨z,hd,Z,B,dd⟩:=be8 I.hok e
  refine wpAny_in_heap (di Y) (aC8 I.hok eb) hd dd ?_
  have q:=(B.val k).isSome_eq
  rw[eV]at q
  rw[<-q,<-l]
  exact h _ (I.tok _)
theorem bz9 {Q:Value->af->Prop}(Y:A.units+1<cLine)(I:Inv X pins σ H s)(g:bi9 H a y o)(J:RelV y u)(h:∀ s',Inv X pins σ H s'->Q (.bool (!o.isSome)) s') :
  wpAny (model X.prog X.w) A (cJ .NotIn u (.ref a)) Q E s:=by
 rcases g with⟨G,k,e,C,l⟩|⟨G,k,b,e,C,eb,l⟩
 ·subst C
  obtain⟨z,hd,vs,B,dd⟩:=bi4 I.hok e
  refine wpAny_notIn_of (aR3 J) hd dd.mapOf ?_
  rw[<-(B.val k).isSome_eq,<-l]
  exact h _ (I.tok _)
 ·subst C
  cases(show u=Value.ref b from J)
  obtain⟨z,hd,Z,B,dd⟩:=be8 I.hok e
  refine wpAny_notIn_heap (di Y) (aC8 I.hok eb) hd dd ?_
  have q:=(B.val k).isSome_eq
  rw[eV]at q
  rw[<-q,<-l]
  exact h _ (I.tok _)
theorem aK1 {h':Heap}{t':Nat}{ob:HO}(I:Inv X pins σ H s)(mu:Mut (H a))(hs:dm a s.heap h')(h:∃ q,h'.get? a=some q)(new:ae5 X.prog X.w (upd H a ob) h' a ob) :
  Inv X pins σ (upd H a ob) { s with heap:=h',toks:=t' } :=
 I.write (x:=a) (e:=a) mu (.inl rfl) (λ b q hb z=>(hs.2 b hb).trans z) h new
theorem bt2 {P:aK}{w:World}{H':Hp}{h':Heap}{h:List (Key×V)}{vs:List (Key×Value)}(z:h.length<=aL)(hd:(a==cR)=false)(y:KV h vs)(dd:h'.DictOf (qb P w) a vs) :
  ae5 P w H' h' a (.dK h):=⟨z,hd,vs,y,dd⟩
theorem aZ3 {H':Hp}{Q:Unit->af->Prop}(hu:A.units+1<cLine)(I:Inv X pins σ H s)(g:bZ7 H a y v H')(ry:RelV y u)(Z:RelV v r)(h:∀ s',Inv X pins σ H' s'->Q () s') :
  wpAny (model X.prog X.w) A (setItem (.ref a) u r) Q E s:=by
 rcases g with⟨C,k,e,J,l,Y⟩|⟨C,k,b,e,J,eb,l,Y⟩
 ·subst J Y
  obtain⟨z,hd,vs,B,dd⟩:=bL6 I.hok e
  have hz:vs.length<=aL:=by rw[<-B.length];exact z
  have hl:(aA0 C k v).length<=aL:=by have:=jJ C k v;omega
  refine wpAny_setItem_pairs (hsz:=hz) (aR3 ry) dd λ h' G hs=>h _ ?_
  have he:∃ q,h'.get? a=some q:=let⟨q,_,_,hq,_⟩:=G;⟨q,hq⟩
  exact aK1 I (by rw[e];exact True.intro) hs he (bt2 hl hd (B.put k Z) G)
 ·subst J Y
  cases(show u=Value.ref b from ry)
  obtain⟨z,hd,xs,B,dd⟩:=ch9 I.hok e
  have hz:xs.length<=aL:=by rw[<-gR B];exact z
  have hl:(aA0 C k v).length<=aL:=by have:=jJ C k v;omega
  refine wpAny_setItem_heap (hsz:=hz) (di hu) (aC8 I.hok eb) dd λ h' G hs=>h _ ?_
  obtain⟨q,es,ep,hq,h2,h3,h4,_,h5⟩:=G
  refine aK1 I (by rw[e];exact True.intro) hs ⟨q,hq⟩ ⟨hl,hd,_,(B.put k eb Z).keeps λ c ys ec=>?_,q,es,ep,hq,h2,h3,h4,h5⟩
  rw[zm (cc4 ec e (λ z=>nomatch z))]
  exact ec
end
section
variable {X:Cx} {pins:List (Addr×Obj)} {σ:St} {H:Hp} {s:af} {a:Addr} {kvs:List (Key×V)} {k:Key} {u:Value} {A:aU} {E:Value->af->Prop}
end
theorem aH8 {X:Cx}{h:List (Addr×Obj)}{σ:St}{H:Hp}{s:af}{a:Addr}{y:V}{o:Option V}(I:Inv X h σ H s)(g:bi9 H a y o):s.TypeIs (.ref a) "dict":=by
 rcases g with⟨B,k,e,_,_⟩|⟨B,k,b,e,_,_,_⟩
 ·obtain⟨_,_,vs,_,dd⟩:=bi4 I.hok e
  exact dd.typeIs
 ·obtain⟨_,_,C,_,dd⟩:=be8 I.hok e
  exact dd.typeIs
section
variable {X:Cx} {o i e value:Expr} {pos pos' tpos:Pos} {td ty tv:TE}
end
theorem aP4 {P:aK}{w:World}{H:Hp}(h:Heap)(hb:cR<h.objs.size):ae5 P w H (h.push { cls:=.type "dict",data:=.dict #[] }) h.objs.size (.dK []) :=
 ⟨cS _,beq_eq_false_iff_ne.mpr (bM (ay hb)),[],.nil,Heap.DictOf.new h⟩
def bv5:TE:=λ _ H Q=>∀ p,H p=none->Q (.ref p) (upd H p (.dK []))
section
variable {X:Cx} {pos:Pos}
theorem bk7:PE X (.Dict [] [] pos) bv5:=λ y s σ H Q I h =>
 wpAny_Dict_empty ⟨.ref s.heap.objs.size,_,I.laid (a:=s.heap.objs.size) (o:=.dK []) (t':=s.toks) (λ _ _ q=>ai _ q) (ah _) (aP4 s.heap I.big),rfl,h _ (I.hok.fresh (ah _))⟩
end
noncomputable def bb3:List (TE×TE)->St->Hp->(List (V×V)->Hp->Prop)->Prop
 | [],_,H,Q=>Q [] H
 | (tk,tv)::r,σ,H,Q=>tk σ H λ x H1=>tv σ H1 λ y H2=>bb3 r σ H2 λ ps H3=>Q ((x,y)::ps) H3
abbrev VV:List (V×V)->List (Value×Value)->Prop:=eZ λ p q=>RelV p.1 q.1/\RelV p.2 q.2
def PPs (X:Cx)(pos:Pos)(keys:List (Option Expr))(values:List Expr)(trs:List (TE×TE)):Prop :=
 ∀(pins:List (Addr×Obj)) (s:af) (σ:St) (H:Hp) (Q:List (V×V)->Hp->Prop),Inv X pins σ H s->bb3 trs σ H Q ->
  wpAny (model X.prog X.w) X.A (evalPairs (pairTrees keys values X.env pos)) (λ vs s'=>∃ ps H',Inv X pins σ H' s'/\VV ps vs/\Q ps H') X.xe s
theorem bG3 {X:Cx}{pos:Pos}:PPs X pos [] [] []:=λ y s σ H Q I h=>pairTrees_nil_walk ⟨[],H,I,.nil,h⟩
theorem bk6 {X:Cx}{pos:Pos}{k v:Expr}{Y:List (Option Expr)}{vs:List Expr}{tk J:TE}{C:List (TE×TE)}(hk:PE X k tk)(hv:PE X v J)(hr:PPs X pos Y vs C) :
  PPs X pos (some k::Y) (v::vs) ((tk,J)::C):=λ B s σ H Q I h =>
 pairTrees_cons_walk (thn (hk B s σ H _ I h) λ u s1 ⟨x,H1,Z,rx,q1⟩=>thn (hv B s1 σ H1 _ Z q1) λ w2 s2 ⟨y,H2,I2,ry,q2⟩ =>
  thn (hr B s2 σ H2 _ I2 q2) λ ws s3 ⟨ps,H3,I3,G,q3⟩=>⟨(x,y)::ps,H3,I3,.cons ⟨rx,ry⟩ G,q3⟩)
noncomputable def aB6 (kvs more:List (Key×V)):List (Key×V):=more.foldl (λ acc kv=>aA0 acc kv.1 kv.2) kvs
theorem KV.merge:∀ {B:List (Key×V)} {C:List (Key×Value)} {y:List (Key×V)} {vs:List (Key×Value)},KV B C->KV y vs->KV (aB6 y B) (merged vs C):=by
 intro B C y vs r
 unfold KV at r
 induction r generalizing y vs with
 | nil=>intro q;exact q
 | @cons p q ps qs h t ih =>
  intro r0
  have e:KV (aA0 y p.1 p.2) (stored vs q.1 q.2):=by
   have:=r0.put p.1 h.2
   rw[<-h.1];exact this
  exact ih e
theorem aj2:∀(y h:List (Key×V)),(aB6 h y).length<=h.length+y.length
 | [],h=>by show h.length<=h.length+0;omega
 | p::r,h=>by
  have B:=aj2 r (aA0 h p.1 p.2)
  have C:=jJ h p.1 p.2
  show(aB6 (aA0 h p.1 p.2) r).length<=_
  rw[aQ];omega
theorem au2 {P:aK}{w:World}:∀ {y:List (Key×V)} {ws:List (Value×Value)},VV (y.map λ C=>(kV C.1,C.2)) ws->∃ B,Carries (qb P w) ws B/\KV y B
 | [],_,r=>by rw[cy]at r;cases r;exact⟨[],True.intro,.nil⟩
 | p::y,_,r=>by
  rw[aI]at r
  cases r with
  | @cons a b as bs h t =>
   obtain⟨B,c,q⟩:=au2 (P:=P) (w:=w) t
   obtain⟨J,G⟩:=b
   exact⟨(p.1,G)::B,⟨aR3 h.1,rfl,c⟩,.cons ⟨rfl,h.2⟩ q⟩
def bP7 (trs:List (TE×TE)):TE:=λ σ H Q=>∀ p,H p=none->bb3 trs σ (upd H p (.dK [])) λ ps H2=>H2 p=some (.dK [])/\∃ kvs:List (Key×V),ps=kvs.map (λ kv=>(kV kv.1,kv.2))/\kvs.length<=15/\Q (.ref p) (upd H2 p (.dK (aB6 [] kvs)))
theorem bJ9 {X:Cx}{pos:Pos}{y:List (Option Expr)}{B:List Expr}{C:List (TE×TE)}(h:PPs X pos y B C)(G:y.all (·.isSome)=true)(hl:y.length=B.length)(h0:y≠[])
  (a1:y.length<=15):PE X (.Dict y B pos) (bP7 C):=by
 intro J s σ H Q I q
 have hn:=I.hok.fresh (ah s.heap.objs.size)
 have I1:=I.laid (a:=s.heap.objs.size) (o:=.dK []) (h':=s.heap.push { cls:=.type "dict",data:=.dict #[] }) (t':=s.toks) (λ _ _ q=>ai _ q) (ah _) (aP4 s.heap I.big)
 refine wpAny_Dict_walk (knd:=qb X.prog X.w) G hl h0 a1 (thn (h J _ σ _ _ I1 (q _ hn)) λ ws s2 ⟨ps,H2,I2,a0,e,Z,ep,lk,q2⟩=>?_)
 subst ep
 obtain⟨rs,c,rk⟩:=au2 (P:=X.prog) (w:=X.w) a0
 obtain⟨z,hd,a2,r0,dd⟩:=bL6 I2.hok e
 cases r0
 refine⟨rs,c,dd,λ h' Y hs=>⟨.ref s.heap.objs.size,_,?_,rfl,q2⟩⟩
 have hz:(aB6 [] Z).length<=aL:=by
  have h1:=aj2 Z []
  rw[dY]at h1
  rw[dN];omega
 have he:∃ q,h'.get? s.heap.objs.size=some q:=let⟨q,_,_,hq,_⟩:=Y;⟨q,hq⟩
 exact aK1 I2 (by rw[e];exact True.intro) hs he (bt2 hz hd (rk.merge .nil) Y)
section
variable {X:Cx} {pins:List (Addr×Obj)} {σ:St} {H:Hp} {s:af} {a:Addr} {y d:V} {u r:Value} {o:Option V} {A:aU} {E:Value->af->Prop}
end
section
variable {X:Cx} {o e f:Expr} {apos cpos:Pos} {td ty tx:TE}
end
end L2
end
noncomputable section
namespace DV
inductive D where
 | non|bl (b:Bool)|int (i:Int)|str (x:List Nat)|tup (l:List D)|ref (n:Nat)|fn (f:String)|clo (f:String) (cs:List D)
noncomputable instance:DecidableEq D:=λ a b=>fx (a=b)
noncomputable instance (x:D):Decidable (x=.non):=match x with
 | .non=>.isTrue rfl
 | .bl _=>.isFalse nofun
 | .int _=>.isFalse nofun
 | .str _=>.isFalse nofun
 | .tup _=>.isFalse nofun
 | .ref _=>.isFalse nofun
 | .fn _=>.isFalse nofun
 | .clo _ _=>.isFalse nofun
inductive O where
 | lst (l:List D)|ro (l:List D)|dic (l:List (D×D))|ins (c:String) (fs:List (String×D))
noncomputable instance:DecidableEq O:=λ a b=>fx (a=b)
noncomputable abbrev Sto:=List O
noncomputable def O.kd:O->Nat
 | .lst _=>0|.ro _=>1|.dic _=>2|.ins _ _=>3
inductive R (α:Type) where
 | ok (a:α) (s:Sto)|exc (e:D) (s:Sto)|bad
noncomputable abbrev M (α:Type):=Sto->R α
noncomputable def R.bind {α β:Type}(r:R α)(f:α->Sto->R β):R β:=match r with
 | .ok a s=>f a s
 | .exc e s=>.exc e s
 | .bad=>.bad
@[simp] theorem R.bind_ok {α β:Type} (a:α) (s:Sto) (f:α->Sto->R β):(R.ok a s).bind f=f a s:=rfl
@[simp] theorem R.bind_bad {α β:Type} (f:α->Sto->R β):(R.bad:R α).bind f=.bad:=rfl
@[simp] theorem R.bind_exc {α β:Type} (e:D) (s:Sto) (f:α->Sto->R β):(R.exc e s:R α).bind f=.exc e s:=rfl
theorem R.bind_inv {α β:Type}{r:R α}{f:α->Sto->R β}{b:β}{t:Sto}(h:r.bind f=.ok b t):∃ a s,r=.ok a s/\f a s=.ok b t:=by
 cases r with
 | ok a s=>exact⟨a,s,rfl,h⟩
 | exc e s=>cases h
 | bad=>cases h
@[simp] theorem R.bind_assoc {α β γ:Type} (r:R α) (f:α->Sto->R β) (g:β->Sto->R γ):(r.bind f).bind g=r.bind λ a s=>(f a s).bind g:=by cases r<;>rfl
mutual
noncomputable def D.bnd (n:Nat):D->Bool
 | .tup l=>D.bndL n l
 | .ref k=>decide (k<n)
 | .clo _ l=>D.bndL n l
 | _=>true
noncomputable def D.bndL (n:Nat):List D->Bool
 | []=>true
 | d::l=>D.bnd n d&&D.bndL n l
end
noncomputable def O.bnd (n:Nat):O->Bool
 | .lst l=>D.bndL n l
 | .ro l=>D.bndL n l
 | .dic l=>D.bndL n (l.map (·.1))&&D.bndL n (l.map (·.2))
 | .ins _ fs=>D.bndL n (fs.map (·.2))
mutual
noncomputable def D.plain:D->Bool
 | .non=>true|.int _=>true|.str _=>true
 | .tup l=>D.plainL l
 | _=>false
noncomputable def D.plainL:List D->Bool
 | []=>true
 | d::l=>D.plain d&&D.plainL l
end
mutual
noncomputable def D.ncl:D->Bool
 | .tup l=>D.nclL l
 | .clo _ _=>false
 | _=>true
noncomputable def D.nclL:List D->Bool
 | []=>true
 | d::l=>D.ncl d&&D.nclL l
end
noncomputable def O.ncl:O->Bool
 | .lst l=>D.nclL l
 | .ro l=>D.nclL l
 | .dic l=>D.nclL (l.map (·.2))
 | _=>false
noncomputable def D.key:D->Bool
 | .int _=>true|.str _=>true|_=>false
noncomputable def LIM:Nat:=1000000
@[irreducible] noncomputable def BIG:Nat:=2^60000
@[irreducible] noncomputable def DIVL:Nat:=2^4096
inductive BOp where
 | add|sub|mul|fdiv|mod|pow|shl|shr|band|bor
 deriving DecidableEq
inductive COp where
 | eq|ne|lt|le|gt|ge|isin|notin
 deriving DecidableEq
inductive Cn where
 | non|bl (b:Bool)|int (i:Int)|str (x:List Nat)
 deriving DecidableEq
noncomputable def Cn.d:Cn->D
 | .non=>.non|.bl b=>.bl b|.int i=>.int i|.str x=>.str x
inductive Bi where
 | len|abs|int|str|min2|max2|max3|min3|isInt|isBool|isStr|isTup|isList|ord
 deriving DecidableEq
inductive Mk where
 | tuple|list|all|any|sum|min|max|sorted|lenset
 deriving DecidableEq
inductive Mt where
 | append|pop|index|count|reverse|clear|bitlen|get1|get2|setdefault|update|split|partition
 deriving DecidableEq
inductive Tg where
 | one (i:Nat)|tup (is:List Nat)
 deriving DecidableEq
mutual
inductive E where
 | var (i:Nat)|cst (c:Cn)|glob (x:String)
 | bin (op:BOp) (a b:E)|neg (a:E)|not (a:E)
 | cmp (op:COp) (a b:E)|chain (o p:COp) (a b c:E)
 | isN (a:E)|notN (a:E)|isB (a:E) (b:Bool)|notB (a:E) (b:Bool)
 | and (a b:E)|or (a b:E)|ite (c a b:E)
 | tup (es:Es)|lst (es:Es)|dic (ks vs:Es)
 | ix (a b:E)|slL (a lo:E)|slU (a hi:E)|slLU (a lo hi:E)|rev (a:E)
 | call (f:String) (as:As)|callC (f:String) (as:As)|callV (i:Nat) (es:Es)
 | bi (b:Bi) (es:Es)|mk (k:Mk) (l:L)|mkD (k:Mk) (l:L) (d:E)
 | meth (m:Mt) (o:E) (es:Es)|ext (o:E) (l:L)|extS (o e:E)|join (o e:E)|mks (k:Mk) (e:E)|mkDs (k:Mk) (e d:E)
inductive Es where
 | nil|cons (e:E) (es:Es)
inductive As where
 | nil|ex (e:E) (as:As)|lam (id:String) (caps:List Nat) (as:As)|fn (f:String) (as:As)
inductive I where
 | seq (e:E)|rng1 (a:E)|rng2 (a b:E)|rng3 (a b:E) (c:Int)|enum (it:I)|zip (a b:I)|items (e:E)
inductive L where
 | comp (tg:Tg) (it:I) (e:E) (caps:List (Option Nat))|compIf (tg:Tg) (it:I) (c e:E) (caps:List (Option Nat))|disp (es:Es)|seq (e:E)
end
mutual
inductive S where
 | asg (tg:Tg) (e:E)|setIx (o i e:E)|aug (i:Nat) (e:E)|ex (e:E)|ret (e:E)|retN
 | ite (c:E) (a b:Ss)|whl (c:E) (b:Ss)|for_ (tg:Tg) (it:I) (b:Ss)|pass|cont|brk|raise|und (i:Nat)
inductive Ss where
 | nil|cons (s:S) (ss:Ss)
end
noncomputable abbrev Env:=List (Option D)
noncomputable def ag0 (o:O):M D:=λ s=>.ok (.ref s.length) (s++[o])
noncomputable def pur (d:D):M D:=λ s=>.ok d s
noncomputable def bad {α:Type}:M α:=λ _=>.bad
noncomputable def mulOk (a b:Int):Bool:=decide (a.natAbs<2^64)||decide (b.natAbs<2^64)||(decide (a.natAbs<BIG)&&decide (b.natAbs<BIG))
noncomputable def rep:Nat->List Nat->List Nat
 | 0,_=>[]
 | n+1,a=>a++rep n a
noncomputable def by3:Nat->List D->List D
 | 0,_=>[]
 | n+1,a=>a++by3 n a
noncomputable def qN:BOp->D->D->M D
 | .add,.int a,.int b=>pur (.int (a+b))
 | .add,.str a,.str b=>if a.length+b.length<=LIM then pur (.str (a++b))else bad
 | .add,.tup a,.tup b=>if a.length+b.length<=LIM then pur (.tup (a++b))else bad
 | .add,.ref a,.ref b=>λ s=>match s[a]?,s[b]? with
  | some (.lst l),some (.lst m)=>if l.length+m.length<=LIM then ag0 (.lst (l++m)) s else .bad
  | _,_=>.bad
 | .sub,.int a,.int b=>pur (.int (a - b))
 | .mul,.int a,.int b=>if mulOk a b then pur (.int (a*b))else bad
 | .mul,.str a,.int n=>if 0<=n/\n<=1000000/\a.length*n.toNat<=LIM then pur (.str (rep n.toNat a))else bad
 | .mul,.tup a,.int n=>if 0<=n/\n<=1000000/\a.length*n.toNat<=LIM then pur (.tup (by3 n.toNat a))else bad
 | .mul,.ref a,.int n=>λ s=>match s[a]? with
  | some (.lst l)=>if 0<=n/\n<=1000000/\l.length*n.toNat<=LIM then ag0 (.lst (by3 n.toNat l)) s else .bad
  | _=>.bad
 | .fdiv,.int a,.int b=>if 0<b/\b<(DIVL:Int)then pur (.int (a / b))else bad
 | .mod,.int a,.int b=>if 0<b then pur (.int (a % b))else bad
 | .pow,.int a,.int b=>if 0<=b/\b<=1000000/\a.natAbs<2^64 then pur (.int (a^b.toNat))else bad
 | .shl,.int a,.int b=>if 0<=b/\b<=1000000/\a.natAbs<2^64 then pur (.int (a*2^b.toNat))else bad
 | .shr,.int a,.int b=>if 0<=b then pur (.int (a / 2^b.toNat))else bad
 | _,_,_=>bad
noncomputable def kd (s:Sto):D->Nat
 | .non=>0|.bl _=>1|.int _=>1|.str _=>2|.tup _=>3
 | .ref r=>match s[r]? with|some (.lst _)=>4|_=>9
 | _=>9
noncomputable def aK9 (a b:Nat):Bool:=a==9||b==9||a==b
noncomputable def b2i (b:Bool):Int:=if b then 1 else 0
noncomputable def aS6:D->D->Option Bool
 | .non,.non=>some true
 | .bl a,.bl b=>some (a==b)
 | .int a,.int b=>some (a==b)
 | .bl a,.int b=>some (b2i a==b)
 | .int a,.bl b=>some (a==b2i b)
 | .str a,.str b=>some (a==b)
 | _,_=>none
noncomputable def ae9 (s:Sto)(a b:D):Option Bool:=match aS6 a b with
 | some z=>some z
 | none=>if aK9 (kd s a) (kd s b)then none else some false
noncomputable def eqL (f:D->D->Option Bool):List D->List D->Option Bool
 | [],[]=>some true
 | [],_::_=>some false
 | _::_,[]=>some false
 | a::l,b::m=>match f a b,eqL f l m with
  | some x,some y=>some (x&&y)
  | _,_=>none
noncomputable def eqv (s:Sto):Nat->D->D->Option Bool
 | 0,a,b=>ae9 s a b
 | n+1,a,b=>match a,b with
  | .tup l,.tup m=>eqL (eqv s n) l m
  | .ref x,.ref y=>match s[x]?,s[y]? with
   | some (.lst l),some (.lst m)=>if l.length=m.length then eqL (eqv s n) l m else some false
   | _,_=>none
  | a,b=>ae9 s a b
noncomputable def DEEP:Nat:=30
noncomputable def eqM (a b:D):M D:=λ s=>match eqv s DEEP a b with
 | some r=>.ok (.bl r) s
 | none=>.bad
noncomputable def inL (s:Sto)(x:D):List D->Option Bool
 | []=>some false
 | y::l=>match eqv s DEEP y x,inL s x l with
  | some a,some b=>some (a||b)
  | _,_=>none
noncomputable def look (k:D):List (D×D)->Option D
 | []=>none
 | (a,v)::l=>if a=k then some v else look k l
noncomputable def inM (a b:D):M Bool:=λ s=>match b with
 | .tup l=>match inL s a l with|some r=>.ok r s|none=>.bad
 | .ref r=>match s[r]? with
  | some (.lst l)=>match inL s a l with|some r=>.ok r s|none=>.bad
  | some (.dic l)=>if a.key then .ok (look a l).isSome s else .bad
  | _=>.bad
 | .str y=>match a with|.str [c]=>.ok (decide (c∈y)) s|_=>.bad
 | _=>.bad
noncomputable def qE:COp->D->D->M D
 | .eq,a,b=>eqM a b
 | .ne,a,b=>λ s=>match eqv s DEEP a b with|some r=>.ok (.bl (!r)) s|none=>.bad
 | .lt,.int a,.int b=>pur (.bl (decide (a<b)))
 | .le,.int a,.int b=>pur (.bl (decide (a<=b)))
 | .gt,.int a,.int b=>pur (.bl (decide (b<a)))
 | .ge,.int a,.int b=>pur (.bl (decide (b<=a)))
 | .isin,a,b=>λ s=>(inM a b s).bind λ r s=>.ok (.bl r) s
 | .notin,a,b=>λ s=>(inM a b s).bind λ r s=>.ok (.bl (!r)) s
 | _,_,_=>bad
noncomputable def ixn (n:Nat)(i:Int):Option Nat:=if 0<=i then(if i<n then some i.toNat else none)else if -(n:Int)<=i then some (i+n).toNat else none
noncomputable def sbd (n:Nat)(i:Int):Nat:=if 0<=i then min i.toNat n else(i+n).toNat
noncomputable def loB (n:Nat):Option Int->Nat
 | none=>0
 | some i=>sbd n i
noncomputable def hiB (n:Nat):Option Int->Nat
 | none=>n
 | some i=>sbd n i
noncomputable def ce8 {α:Type}(l:List α)(lo hi:Option Int):List α:=(l.drop (loB l.length lo)).take (hiB l.length hi - loB l.length lo)
noncomputable def ixM (a b:D):M D:=λ s=>match a,b with
 | .tup l,.int i=>match(ixn l.length i).bind λ j=>l[j]? with|some d=>.ok d s|none=>.bad
 | .str l,.int i=>match(ixn l.length i).bind λ j=>l[j]? with|some c=>.ok (.str [c]) s|none=>.bad
 | .ref r,b=>match s[r]? with
  | some (.lst l)=>match b with
   | .int i=>match(ixn l.length i).bind λ j=>l[j]? with|some d=>.ok d s|none=>.bad
   | _=>.bad
  | some (.ro l)=>match b with
   | .int i=>match(ixn l.length i).bind λ j=>l[j]? with|some d=>.ok d s|none=>.bad
   | _=>.bad
  | some (.dic l)=>if b.key then match look b l with|some d=>.ok d s|none=>.bad else .bad
  | _=>.bad
 | _,_=>.bad
noncomputable def slM (a:D)(lo hi:Option Int):M D:=λ s=>match a with
 | .tup l=>.ok (.tup (ce8 l lo hi)) s
 | .str l=>.ok (.str (ce8 l lo hi)) s
 | .ref r=>match s[r]? with
  | some (.lst l)=>ag0 (.lst (ce8 l lo hi)) s
  | _=>.bad
 | _=>.bad
noncomputable def cl0 (a:D):M D:=λ s=>match a with
 | .str l=>.ok (.str l.reverse) s
 | _=>.bad
noncomputable def ar8:List D->Option (List Bool)
 | []=>some []
 | .bl b::l=>(ar8 l).map (b::·)
 | _=>none
noncomputable def qy:List D->Option (List Int)
 | []=>some []
 | .int i::l=>(qy l).map (i::·)
 | _=>none
noncomputable def bv6:List D->Option (List (List Nat))
 | []=>some []
 | .str i::l=>(bv6 l).map (i::·)
 | _=>none
noncomputable def bD6 (d:D):M D:=λ s=>match d with
 | .tup l=>.ok (.int l.length) s
 | .str l=>.ok (.int l.length) s
 | .ref r=>match s[r]? with
  | some (.lst l)=>.ok (.int l.length) s
  | some (.ro l)=>.ok (.int l.length) s
  | _=>.bad
 | _=>.bad
noncomputable def isK (k:Nat)(d:D):M D:=λ s=>match d with
 | .non=>.ok (.bl false) s
 | .bl _=>.ok (.bl (k==1||k==2)) s
 | .int _=>.ok (.bl (k==1)) s
 | .str _=>.ok (.bl (k==3)) s
 | .tup _=>.ok (.bl (k==4)) s
 | .ref r=>match s[r]? with
  | some (.lst _)=>.ok (.bl (k==5)) s
  | _=>.bad
 | _=>.bad
noncomputable def bi1 (f:D->M D):List D->M D
 | [d]=>f d
 | _=>bad
noncomputable def bi:Bi->List D->M D
 | .len,l=>bi1 bD6 l
 | .abs,l=>λ s=>match qy l with|some [i]=>.ok (.int (if i<0 then -i else i)) s|_=>.bad
 | .int,l=>λ s=>match ar8 l with|some [b]=>.ok (.int (if b then 1 else 0)) s|_=>.bad
 | .min2,l=>λ s=>match qy l with|some [a,b]=>.ok (.int (if b<a then b else a)) s|_=>.bad
 | .max2,l=>λ s=>match qy l with|some [a,b]=>.ok (.int (if b > a then b else a)) s|_=>.bad
 | .max3,l=>λ s=>match qy l with|some [a,b,c]=>.ok (.int (max (max a b) c)) s|_=>.bad
 | .isInt,l=>bi1 (isK 1) l
 | .isBool,l=>bi1 (isK 2) l
 | .isStr,l=>bi1 (isK 3) l
 | .isTup,l=>bi1 (isK 4) l
 | .isList,l=>bi1 (isK 5) l
 | _,_=>bad
noncomputable def minI:List Int->Option Int
 | []=>none
 | a::l=>some (l.foldl min a)
noncomputable def cj5:List Int->Option Int
 | []=>none
 | a::l=>some (l.foldl max a)
noncomputable def ins (a:Int):List Int->List Int
 | []=>[a]
 | b::l=>if a<=b then a::b::l else b::ins a l
noncomputable def bV3:List Int->List Int
 | []=>[]
 | a::l=>ins a (bV3 l)
noncomputable def cn3 (is:List Int):Bool:=is.all (λ i=>decide (-1000000000<=i/\i<=1000000000))&&decide (is.length<=1000000)
noncomputable def mk:Mk->List D->M D
 | .tuple,l=>λ s=>.ok (.tup l) s
 | .list,l=>ag0 (.lst l)
 | .all,l=>λ s=>match ar8 l with|some bs=>.ok (.bl (bs.all id)) s|none=>.bad
 | .any,l=>λ s=>match ar8 l with|some bs=>.ok (.bl (bs.any id)) s|none=>.bad
 | .sum,l=>λ s=>match qy l with|some is=>if cn3 is then .ok (.int is.sum) s else .bad|none=>.bad
 | .min,l=>λ s=>match(qy l).bind minI with|some m=>.ok (.int m) s|none=>.bad
 | .max,l=>λ s=>match(qy l).bind cj5 with|some m=>.ok (.int m) s|none=>.bad
 | .sorted,l=>λ s=>match qy l with|some is=>ag0 (.lst ((bV3 is).map D.int)) s|none=>.bad
 | .lenset,l=>bad
noncomputable def mkD (k:Mk)(l:List D)(d:D):M D:=λ s=>match k with
 | .min=>match qy l with|some is=>(match minI is with|some m=>.ok (.int m) s|none=>.ok d s)|none=>.bad
 | .max=>match qy l with|some is=>(match cj5 is with|some m=>.ok (.int m) s|none=>.ok d s)|none=>.bad
 | _=>.bad
noncomputable def aT0 (k v:D)(l:List (D×D)):List (D×D):=if(look k l).isSome then l.map (λ p=>if p.1=k then(p.1,v)else p)else l++[(k,v)]
noncomputable def setIx (o i v:D):Sto->R Unit:=λ s=>match o with
 | .ref r=>match s[r]? with
  | some (.lst l)=>match i with
   | .int i=>match ixn l.length i with|some j=>.ok () (s.set r (.lst (l.set j v)))|none=>.bad
   | _=>.bad
  | some (.dic l)=>if i.key&&decide (l.length<LIM)then .ok () (s.set r (.dic (aT0 i v l)))else .bad
  | _=>.bad
 | _=>.bad
noncomputable def idx (s:Sto)(x:D):Nat->List D->Option Nat
 | _,[]=>none
 | n,y::l=>match eqv s DEEP y x with
  | some true=>some n
  | some false=>idx s x (n+1) l
  | none=>none
noncomputable def meth:Mt->D->List D->M D
 | .append,.ref r,[d]=>λ s=>match s[r]? with
  | some (.lst l)=>if l.length<LIM then .ok .non (s.set r (.lst (l++[d])))else .bad
  | _=>.bad
 | .pop,.ref r,[]=>λ s=>match s[r]? with
  | some (.lst l)=>match l.getLast? with|some d=>.ok d (s.set r (.lst l.dropLast))|none=>.bad
  | _=>.bad
 | .reverse,.ref r,[]=>λ s=>match s[r]? with
  | some (.lst l)=>.ok .non (s.set r (.lst l.reverse))
  | _=>.bad
 | .clear,.ref r,[]=>λ s=>match s[r]? with
  | some (.lst l)=>.ok .non (s.set r (.lst []))
  | _=>.bad
 | .index,.ref r,[d]=>λ s=>match s[r]? with
  | some (.lst l)=>match inL s d l,idx s d 0 l with|some true,some n=>.ok (.int n) s|_,_=>.bad
  | _=>.bad
 | _,_,_=>bad
noncomputable def bQ2 (o:D)(l:List D):M D:=λ s=>match o with
 | .ref r=>match s[r]? with
  | some (.lst m)=>if m.length+l.length<=LIM then .ok .non (s.set r (.lst (m++l)))else .bad
  | _=>.bad
 | _=>.bad
noncomputable def bH9 (x y:D):M D:=λ s=>match x with
 | .str []=>match y with
  | .ref r=>match s[r]? with
   | some (.lst l)=>match bv6 l with
    | some ss=>if ss.flatten.length<=LIM then .ok (.str ss.flatten) s else .bad
    | none=>.bad
   | _=>.bad
  | _=>.bad
 | _=>.bad
noncomputable def extS (o d:D):M D:=λ s=>match d with
 | .ref k=>match s[k]? with
  | some (.lst l)=>bQ2 o l s
  | _=>.bad
 | _=>.bad
structure Fns where
 call:String->List D->M D
 lam:String->List D->List D->M D
 con:String->Option D
noncomputable def aI8 (ρ:Env)(i:Nat):M D:=λ s=>match ρ[i]? with|some (some d)=>.ok d s|_=>.bad
noncomputable def ag7 (ρ:Env):List Nat->Option (List D)
 | []=>some []
 | i::is=>match ρ[i]?,ag7 ρ is with|some (some d),some l=>some (d::l)|_,_=>none
noncomputable def zX (ρ:Env)(caps:List (Option Nat)):Env:=caps.map λ o=>match o with|none=>none|some j=>(ρ[j]?).join
noncomputable def au6 (ρ:Env)(i:Nat)(d:D):Option Env:=if i < ρ.length then some (ρ.set i (some d))else none
noncomputable def ag8 (ρ:Env)(i:Nat):Option Env:=if i < ρ.length then some (ρ.set i none)else none
noncomputable def al9 (ρ:Env):List Nat->List D->Option Env
 | [],[]=>some ρ
 | i::is,d::l=>(au6 ρ i d).bind λ ρ=>al9 ρ is l
 | _,_=>none
noncomputable def af2 (ρ:Env):Tg->D->Option Env
 | .one i,d=>au6 ρ i d
 | .tup is,.tup l=>al9 ρ is l
 | _,_=>none
structure Sq where
 its:List D
 src:List Nat
noncomputable def aG1 (d:D):M Sq:=λ s=>match d with
 | .tup l=>.ok ⟨l,[]⟩ s
 | .str l=>.ok ⟨l.map λ c=>.str [c],[]⟩ s
 | .ref r=>match s[r]? with
  | some (.lst l)=>.ok ⟨l,[r]⟩ s
  | some (.ro l)=>.ok ⟨l,[]⟩ s
  | _=>.bad
 | _=>.bad
noncomputable def aS9 (d:D):M Sq:=λ s=>match d with
 | .tup l=>.ok ⟨l,[]⟩ s
 | .str l=>.ok ⟨l.map λ c=>.str [c],[]⟩ s
 | .ref r=>match s[r]? with
  | some (.lst l)=>.ok ⟨l,[r]⟩ s
  | some (.ro l)=>.ok ⟨l,[]⟩ s
  | _=>.bad
 | _=>.bad
noncomputable def bo5 (d:D):M Sq:=λ s=>match d with
 | .tup l=>.ok ⟨l,[]⟩ s
 | .ref r=>match s[r]? with
  | some (.lst l)=>.ok ⟨l,[r]⟩ s
  | some (.ro l)=>.ok ⟨l,[]⟩ s
  | _=>.bad
 | _=>.bad
noncomputable def aM8 (d:D):Sto->R (List D):=λ s=>match d with
 | .tup l=>.ok l s
 | .str l=>.ok (l.map λ c=>.str [c]) s
 | .ref r=>match s[r]? with
  | some (.lst l)=>.ok l s
  | some (.ro l)=>.ok l s
  | _=>.bad
 | _=>.bad
noncomputable def bK6 (d:D):Sto->R (List D):=λ s=>match d with
 | .ref r=>match s[r]? with
  | some (.lst l)=>.ok l s
  | _=>.bad
 | _=>.bad
noncomputable def W62:Int:=4611686018427387904
noncomputable def jh (a b:Int):List D:=(ae (b - a).toNat).map λ(k:Nat)=>.int (a+k)
noncomputable def cl9 (a b c:Int):List D:=if 0<c then(ae ((b - a+c - 1) / c).toNat).map λ(k:Nat)=>.int (a+c*k)else(ae ((a - b+(-c) - 1) / (-c)).toNat).map λ(k:Nat)=>.int (a+c*k)
noncomputable def bB9 (n:Nat):List D->List D
 | []=>[]
 | d::l=>.tup [.int n,d]::bB9 (n+1) l
noncomputable def cb7:List D->List D->List D
 | a::l,b::m=>.tup [a,b]::cb7 l m
 | _,_=>[]
noncomputable def chk (s0 s:Sto)(src:List Nat):Bool:=src.all λ r=>decide (s[r]?=s0[r]?)
noncomputable def tru {α:Type}(r:R D)(f:Bool->Sto->R α):R α:=r.bind λ d s=>match d with|.bl b=>f b s|_=>.bad
@[simp] theorem zC {α:Type} (b:Bool) (s:Sto) (f:Bool->Sto->R α):tru (.ok (.bl b) s) f=f b s:=rfl
noncomputable def qS (ok:Sto->Bool)(g:D->Env->Sto->R (Option D×Env)):List D->Env->Sto->R (List D)
 | [],_,s=>if ok s then .ok [] s else .bad
 | d::l,ρ,s=>if ok s then(g d ρ s).bind λ p s=>(qS ok g l p.2 s).bind λ r s=>.ok (match p.1 with|some v=>v::r|none=>r) s else .bad
mutual
noncomputable def ev (F:Fns):E->Env->Sto->R D
 | .var i,ρ,s=>aI8 ρ i s
 | .cst c,_,s=>.ok c.d s
 | .glob x,_,s=>match F.con x with|some d=>.ok d s|none=>.bad
 | .bin op a b,ρ,s=>(ev F a ρ s).bind λ x s=>(ev F b ρ s).bind λ y s=>qN op x y s
 | .neg a,ρ,s=>(ev F a ρ s).bind λ x s=>match x with|.int i=>.ok (.int (-i)) s|_=>.bad
 | .not a,ρ,s=>tru (ev F a ρ s) λ b s=>.ok (.bl (!b)) s
 | .cmp op a b,ρ,s=>(ev F a ρ s).bind λ x s=>(ev F b ρ s).bind λ y s=>qE op x y s
 | .chain o p a b c,ρ,s=>(ev F a ρ s).bind λ x s=>(ev F b ρ s).bind λ y s=>tru (qE o x y s) λ k s=>if k then(ev F c ρ s).bind λ z s=>qE p y z s else .ok (.bl false) s
 | .isN a,ρ,s=>(ev F a ρ s).bind λ x s=>.ok (.bl (decide (x=.non))) s
 | .notN a,ρ,s=>(ev F a ρ s).bind λ x s=>.ok (.bl (!decide (x=.non))) s
 | .isB a b,ρ,s=>(ev F a ρ s).bind λ x s=>match x with|.bl c=>.ok (.bl (c==b)) s|_=>.bad
 | .notB a b,ρ,s=>(ev F a ρ s).bind λ x s=>match x with|.bl c=>.ok (.bl (!(c==b))) s|_=>.bad
 | .and a b,ρ,s=>tru (ev F a ρ s) λ c s=>if c then tru (ev F b ρ s) λ c s=>.ok (.bl c) s else .ok (.bl false) s
 | .or a b,ρ,s=>tru (ev F a ρ s) λ c s=>if c then .ok (.bl true) s else tru (ev F b ρ s) λ c s=>.ok (.bl c) s
 | .ite c a b,ρ,s=>tru (ev F c ρ s) λ k s=>if k then ev F a ρ s else ev F b ρ s
 | .tup es,ρ,s=>(evs F es ρ s).bind λ l s=>.ok (.tup l) s
 | .lst es,ρ,s=>(evs F es ρ s).bind λ l s=>ag0 (.lst l) s
 | .dic .nil .nil,ρ,s=>ag0 (.dic []) s
 | .dic (.cons k .nil) (.cons v .nil),ρ,s=>(ev F k ρ (s++[.dic []])).bind λ kd s1=>(ev F v ρ s1).bind λ vd s2=>if kd.key=true/\s2[s.length]?=some (.dic [])then .ok (.ref s.length) (s2.set s.length (.dic [(kd,vd)]))else .bad
 | .dic _ _,ρ,s=>.bad
 | .ix a b,ρ,s=>(ev F a ρ s).bind λ x s=>(ev F b ρ s).bind λ y s=>ixM x y s
 | .slL a lo,ρ,s=>(ev F a ρ s).bind λ x s=>(ev F lo ρ s).bind λ y s=>match y with|.int i=>slM x (some i) none s|_=>.bad
 | .slU a hi,ρ,s=>(ev F a ρ s).bind λ x s=>(ev F hi ρ s).bind λ y s=>match y with|.int i=>slM x none (some i) s|_=>.bad
 | .slLU a lo hi,ρ,s=>(ev F a ρ s).bind λ x s=>(ev F lo ρ s).bind λ y s=>match y with|.int i=>(ev F hi ρ s).bind (λ z s=>match z with|.int j=>slM x (some i) (some j) s|_=>.bad)|_=>.bad
 | .rev a,ρ,s=>(ev F a ρ s).bind λ x s=>cl0 x s
 | .call f as,ρ,s=>(ap0 F as ρ s).bind λ l s=>F.call f l s
 | .callC f as,ρ,s=>(ap0 F as ρ s).bind λ l s=>(F.call f l s).bind λ d s'=>if(d.ncl&&s'.all O.ncl)=true then .ok d s' else .bad
 | .callV i es,ρ,s=>(evs F es ρ s).bind λ l s=>match ρ[i]? with
  | some (some (.fn f))=>F.call f l s
  | some (some (.clo id cs))=>F.lam id cs l s
  | _=>.bad
 | .bi b es,ρ,s=>(evs F es ρ s).bind λ l s=>bi b l s
 | .mk k it,ρ,s=>(evL F it ρ s).bind λ q s=>mk k q s
 | .mkD k it d,ρ,s=>(evL F it ρ s).bind λ q s=>(ev F d ρ s).bind λ d s=>mkD k q d s
 | .meth m o es,ρ,s=>(ev F o ρ s).bind λ x s=>(evs F es ρ s).bind λ l s=>meth m x l s
 | .ext o it,ρ,s=>(ev F o ρ s).bind λ x s=>(evL F it ρ s).bind λ q s=>bQ2 x q s
 | .extS o e,ρ,s=>(ev F o ρ s).bind λ x s=>(ev F e ρ s).bind λ y s=>extS x y s
 | .join o e,ρ,s=>(ev F o ρ s).bind λ x s=>(ev F e ρ s).bind λ y s=>bH9 x y s
 | .mks k e,ρ,s=>(ev F e ρ s).bind λ x s=>(bK6 x s).bind λ q s=>mk k q s
 | .mkDs k e d,ρ,s=>(ev F e ρ s).bind λ x s=>(ev F d ρ s).bind λ z s=>(bK6 x s).bind λ q s=>mkD k q z s
noncomputable def evs (F:Fns):Es->Env->Sto->R (List D)
 | .nil,_,s=>.ok [] s
 | .cons e es,ρ,s=>(ev F e ρ s).bind λ d s=>(evs F es ρ s).bind λ l s=>.ok (d::l) s
noncomputable def ap0 (F:Fns):As->Env->Sto->R (List D)
 | .nil,_,s=>.ok [] s
 | .ex e as,ρ,s=>(ev F e ρ s).bind λ d s=>(ap0 F as ρ s).bind λ l s=>.ok (d::l) s
 | .lam id caps as,ρ,s=>match ag7 ρ caps with
  | some cs=>(ap0 F as ρ s).bind λ l s=>.ok (.clo id cs::l) s
  | none=>.bad
 | .fn f as,ρ,s=>(ap0 F as ρ s).bind λ l s=>.ok (.fn f::l) s
noncomputable def evI (F:Fns):I->Env->Sto->R Sq
 | .seq e,ρ,s=>(ev F e ρ s).bind λ d s=>aG1 d s
 | .rng1 a,ρ,s=>(ev F a ρ s).bind λ x s=>match x with|.int i=>if -W62<=i/\i<W62 then .ok ⟨jh 0 i,[]⟩ s else .bad|_=>.bad
 | .rng2 a b,ρ,s=>(ev F a ρ s).bind λ x s=>(ev F b ρ s).bind λ y s=>match x,y with|.int i,.int j=>if(-W62<=i/\i<W62)/\-W62<=j/\j<W62 then .ok ⟨jh i j,[]⟩ s else .bad|_,_=>.bad
 | .rng3 a b c,ρ,s=>(ev F a ρ s).bind λ x s=>(ev F b ρ s).bind λ y s=>match x,y with|.int i,.int j=>if c=2/\(0<=i/\i<1048576)/\0<=j/\j<1048576 then .ok ⟨cl9 i j c,[]⟩ s else .bad|_,_=>.bad
 | .enum (.seq e),ρ,s=>(ev F e ρ s).bind λ d s=>(bo5 d s).bind λ q s=>.ok ⟨bB9 0 q.its,q.src⟩ s
 | .zip (.seq a) (.seq b),ρ,s=>(ev F a ρ s).bind λ x s=>(ev F b ρ s).bind λ y s=>(aS9 x s).bind λ p s=>(aS9 y s).bind λ q s=>.ok ⟨cb7 p.its q.its,p.src++q.src⟩ s
 | .enum _,_,_=>.bad
 | .zip _ _,_,_=>.bad
 | .items e,ρ,s=>.bad
noncomputable def evL (F:Fns):L->Env->Sto->R (List D)
 | .comp tg it e caps,ρ,s=>(evI F it ρ s).bind λ q s0=>if q.its.length<=LIM then qS (λ s=>chk s0 s q.src) (λ d ρ s=>match af2 ρ tg d with
   | some ρ=>(ev F e ρ s).bind λ v s=>.ok (some v,ρ) s
   | none=>.bad) q.its (zX ρ caps) s0 else .bad
 | .compIf tg it c e caps,ρ,s=>(evI F it ρ s).bind λ q s0=>if q.its.length<=LIM then qS (λ s=>chk s0 s q.src) (λ d ρ s=>match af2 ρ tg d with
   | some ρ=>tru (ev F c ρ s) λ k s=>if k then(ev F e ρ s).bind λ v s=>.ok (some v,ρ) s else .ok (none,ρ) s
   | none=>.bad) q.its (zX ρ caps) s0 else .bad
 | .disp es,ρ,s=>evs F es ρ s
 | .seq e,ρ,s=>(ev F e ρ s).bind λ d s=>aM8 d s
end
inductive Ct where
 | next (ρ:Env)|ret (d:D)|cont (ρ:Env)|brk (ρ:Env)
noncomputable def aS7 (ok:Sto->Bool)(g:D->Env->Sto->R Ct):List D->Env->Sto->R Ct
 | [],ρ,s=>if ok s then .ok (.next ρ) s else .bad
 | d::l,ρ,s=>if ok s then(g d ρ s).bind λ c s=>match c with
   | .next ρ=>aS7 ok g l ρ s
   | .cont ρ=>aS7 ok g l ρ s
   | .brk ρ=>.ok (.next ρ) s
   | .ret d=>.ok (.ret d) s
  else .bad
noncomputable def jK (c:Env->Sto->R D)(g:Env->Sto->R Ct):Nat->Env->Sto->R Ct
 | 0,_,_=>.bad
 | n+1,ρ,s=>tru (c ρ s) λ b s=>if b then(g ρ s).bind λ c' s=>match c' with
   | .next ρ=>jK c g n ρ s
   | .cont ρ=>jK c g n ρ s
   | .brk ρ=>.ok (.next ρ) s
   | .ret d=>.ok (.ret d) s
  else .ok (.next ρ) s
open Classical in
noncomputable def whl (c:Env->Sto->R D)(g:Env->Sto->R Ct)(ρ:Env)(s:Sto):R Ct :=
 if h:∃ n,jK c g n ρ s≠.bad then jK c g h.choose ρ s else .bad
mutual
noncomputable def ex (F:Fns):S->Env->Sto->R Ct
 | .asg tg e,ρ,s=>(ev F e ρ s).bind λ d s=>match af2 ρ tg d with|some ρ=>.ok (.next ρ) s|none=>.bad
 | .setIx o i e,ρ,s=>(ev F e ρ s).bind λ d s=>(ev F o ρ s).bind λ x s=>(ev F i ρ s).bind λ y s=>(setIx x y d s).bind λ _ s=>.ok (.next ρ) s
 | .aug i e,ρ,s=>(aI8 ρ i s).bind λ x s=>(ev F e ρ s).bind λ y s=>match x,y with
  | .int a,.int b=>match au6 ρ i (.int (a+b))with|some ρ=>.ok (.next ρ) s|none=>.bad
  | _,_=>.bad
 | .ex e,ρ,s=>(ev F e ρ s).bind λ _ s=>.ok (.next ρ) s
 | .ret e,ρ,s=>(ev F e ρ s).bind λ d s=>.ok (.ret d) s
 | .retN,_,s=>.ok (.ret .non) s
 | .ite c a b,ρ,s=>tru (ev F c ρ s) λ k s=>if k then exs F a ρ s else exs F b ρ s
 | .whl c b,ρ,s=>whl (ev F c) (exs F b) ρ s
 | .for_ tg it b,ρ,s=>(evI F it ρ s).bind λ q s0=>aS7 (λ s=>chk s0 s q.src) (λ d ρ s=>match af2 ρ tg d with
   | some ρ=>exs F b ρ s
   | none=>.bad) q.its ρ s0
 | .pass,ρ,s=>.ok (.next ρ) s
 | .cont,ρ,s=>.ok (.cont ρ) s
 | .brk,ρ,s=>.ok (.brk ρ) s
 | .raise,_,_=>.bad
 | .und i,ρ,s=>match ag8 ρ i with|some ρ=>.ok (.next ρ) s|none=>.bad
noncomputable def exs (F:Fns):Ss->Env->Sto->R Ct
 | .nil,ρ,s=>.ok (.next ρ) s
 | .cons st ss,ρ,s=>(ex F st ρ s).bind λ c s=>match c with|.next ρ=>exs F ss ρ s|c=>.ok c s
end
structure Df where
 name:String
 ps:Nat
 vs:Nat
 body:Ss
structure Lm where
 id:String
 ps:Nat
 cs:Nat
 body:E
structure Pr where
 df:String->Option Df
 lm:String->Option Lm
 con:String->Option D
noncomputable def as0 (st st':Sto):Bool:=(ae st.length).all λ i=>decide (st'[i]?=st[i]?)||(match st'[i]? with|some o=>o.bnd st.length|none=>false)
noncomputable def zW (st:Sto)(d:D)(st':Sto):R D :=
 if as0 st st' then
  match d with
  | .ref r=>if r<st.length then .ok d (st'.take st.length)else match st'[r]? with
   | some o=>if o.bnd st.length then .ok (.ref st.length) (st'.take st.length++[o])else .ok d st'
   | none=>.bad
  | d=>if d.bnd st.length then .ok d (st'.take st.length)else .ok d st'
 else .ok d st'
noncomputable def aa0 (P:Pr):Nat->Fns
 | 0=>⟨λ _ _ _=>.bad,λ _ _ _ _=>.bad,P.con⟩
 | n+1=>⟨λ f l s=>match P.df f with
   | some d=>if l.length=d.ps then(exs (aa0 P n) d.body (l.map some++ak d.vs none) s).bind λ c s'=>match c with
     | .ret v=>zW s v s'
     | .next _=>zW s .non s'
     | _=>.bad else .bad
   | none=>.bad,
  λ id cs l s=>match P.lm id with
   | some d=>if l.length=d.ps/\cs.length=d.cs/\(D.nclL l&&D.nclL cs&&s.all O.ncl)=true then(ev (aa0 P n) d.body (l.map some++cs.map some) s).bind λ v s'=>zW s v s' else .bad
   | none=>.bad,P.con⟩
def KP (s s':Sto):Prop:=∀(i:Nat) (o:O),s[i]?=some o->∃ o',s'[i]?=some o'/\o'.kd=o.kd
theorem KP.refl (s:Sto):KP s s:=λ i o h=>⟨o,h,rfl⟩
theorem KP.trans {a b c:Sto}(h:KP a b)(g:KP b c):KP a c:=λ i o e=>by
 obtain⟨B,e1,C⟩:=h i o e
 obtain⟨y,e2,G⟩:=g i B e1
 exact⟨y,e2,G.trans C⟩
theorem KP.app (s t:Sto):KP s (s++t):=λ i o e=>⟨o,by rw[aG (ab.mp e).1];exact e,rfl⟩
theorem KP.set {s:Sto}{r:Nat}{o y:O}(h:s[r]?=some y)(k:o.kd=y.kd):KP s (s.set r o):=λ i u e=>by
 by_cases z:r=i
 ·subst z
  rw[h]at e;cases e
  exact⟨o,aX (ab.mp h).1,k⟩
 ·exact⟨u,by rw[a9 z];exact e,rfl⟩
def KR {α:Type}(s:Sto)(r:R α):Prop:=∀ a s',r=.ok a s'->KP s s'
theorem KR.bad {α:Type}{s:Sto}:KR s (.bad:R α):=λ _ _ h=>by cases h
theorem KR.ok {α:Type}{s:Sto}{a:α}:KR s (.ok a s):=λ _ _ h=>by cases h;exact KP.refl _
theorem KR.bind {α β:Type}{s:Sto}{r:R α}{f:α->Sto->R β}(h:KR s r)(g:∀ a s1,KR s1 (f a s1)):KR s (r.bind f):=λ b s' e=>by
 obtain⟨a,s1,e1,e2⟩:=R.bind_inv e
 exact(h a s1 e1).trans (g a s1 b s' e2)
theorem KR.tru {α:Type}{s:Sto}{r:R D}{f:Bool->Sto->R α}(h:KR s r)(g:∀ a s1,KR s1 (f a s1)):KR s (tru r f):=KR.bind h λ a s1=>by
 cases a with
 | bl b=>exact g b s1
 | _=>exact KR.bad
theorem KR.if {α:Type}{s:Sto}{c:Prop}[Decidable c]{a b:R α}(h:KR s a)(g:KR s b):KR s (if c then a else b):=by split;exact h;exact g
theorem KR.al {s:Sto}{o:O}:KR s (ag0 o s):=λ _ _ h=>by cases h;exact KP.app _ _
theorem KR.pu {s:Sto}{d:D}:KR s (pur d s):=λ _ _ h=>by cases h;exact KP.refl _
theorem KR.bd {s:Sto}:KR s ((DV.bad:M D) s):=λ _ _ h=>by cases h
theorem KR.im {s:Sto}{c:Prop}{_:Decidable c}{d:D}:KR s ((if c then pur d else DV.bad:M D) s):=by split;exact KR.pu;exact KR.bd
theorem KR.ia {s:Sto}{c:Prop}{_:Decidable c}{o:O}:KR s (if c then ag0 o s else .bad):=KR.if KR.al KR.bd
theorem bl2 (op:BOp)(x y:D)(s:Sto):KR s (qN op x y s):=by
 cases op with
 | add=>cases x with
  | int a=>cases y with
   | int b=>exact KR.pu
   | _=>exact KR.bd
  | str a=>cases y with
   | str b=>exact KR.im
   | _=>exact KR.bd
  | tup a=>cases y with
   | tup b=>exact KR.im
   | _=>exact KR.bd
  | ref a=>cases y with
   | ref b =>
    show KR s (match s[a]?,s[b]? with|some (.lst l),some (.lst m)=>if l.length+m.length<=LIM then ag0 (.lst (l++m)) s else .bad|_,_=>.bad)
    split
    ·exact KR.ia
    ·exact KR.bd
   | _=>exact KR.bd
  | _=>exact KR.bd
 | sub=>cases x with
  | int a=>cases y with
   | int b=>exact KR.pu
   | _=>exact KR.bd
  | _=>exact KR.bd
 | mul=>cases x with
  | int a=>cases y with
   | int b=>exact KR.im
   | _=>exact KR.bd
  | str a=>cases y with
   | int b=>exact KR.im
   | _=>exact KR.bd
  | tup a=>cases y with
   | int b=>exact KR.im
   | _=>exact KR.bd
  | ref a=>cases y with
   | int n =>
    show KR s (match s[a]? with|some (.lst l)=>if 0<=n/\n<=1000000/\l.length*n.toNat<=LIM then ag0 (.lst (by3 n.toNat l)) s else .bad|_=>.bad)
    split
    ·exact KR.ia
    ·exact KR.bd
   | _=>exact KR.bd
  | _=>exact KR.bd
 | fdiv=>cases x with
  | int a=>cases y with
   | int b=>exact KR.im
   | _=>exact KR.bd
  | _=>exact KR.bd
 | mod=>cases x with
  | int a=>cases y with
   | int b=>exact KR.im
   | _=>exact KR.bd
  | _=>exact KR.bd
 | pow=>cases x with
  | int a=>cases y with
   | int b=>exact KR.im
   | _=>exact KR.bd
  | _=>exact KR.bd
 | shl=>cases x with
  | int a=>cases y with
   | int b=>exact KR.im
   | _=>exact KR.bd
  | _=>exact KR.bd
 | shr=>cases x with
  | int a=>cases y with
   | int b=>exact KR.im
   | _=>exact KR.bd
  | _=>exact KR.bd
 | _=>exact KR.bd
theorem bg5 (op:COp)(x y:D)(s:Sto):KR s (qE op x y s):=by
 have B:∀ a b:D,KR s (inM a b s):=λ a b=>by
  intro r s' h
  unfold inM at h
  split at h
  ·split at h<;>cases h;exact KP.refl _
  ·split at h
   ·split at h<;>cases h;exact KP.refl _
   ·split at h<;>cases h;exact KP.refl _
   ·cases h
  ·split at h<;>cases h;exact KP.refl _
  ·cases h
 cases op with
 | isin=>exact KR.bind (B x y) λ _ _=>KR.ok
 | notin=>exact KR.bind (B x y) λ _ _=>KR.ok
 | eq=>intro a s' h;change eqM x y s=_ at h;unfold eqM at h;split at h<;>cases h;exact KP.refl _
 | ne =>
  intro a s' h
  change(match eqv s DEEP x y with|some r=>R.ok (D.bl (!r)) s|none=>.bad)=_ at h
  split at h<;>cases h;exact KP.refl _
 | _ =>
  intro a s' h
  cases x with
  | int i=>(cases y with
   | int j=>cases h;exact KP.refl _
   | _=>cases h)
  | _=>cases h
theorem cc1 (x y:D)(s:Sto):KR s (ixM x y s):=by
 intro a s' h
 unfold ixM at h
 repeat' split at h
 all_goals first|(cases h;exact KP.refl _;done)|(cases h;done)
theorem bA0 (x:D)(B y:Option Int)(s:Sto):KR s (slM x B y s):=by
 intro a s' h
 unfold slM at h
 repeat' split at h
 all_goals first|(cases h;exact KP.refl _;done)|(cases h;exact KP.app _ _;done)|(cases h;done)
theorem bJ3 (x:D)(s:Sto):KR s (aM8 x s):=by
 intro a s' h
 unfold aM8 at h
 repeat' split at h
 all_goals first|(cases h;exact KP.refl _;done)|(cases h;done)
theorem bd8 (x:D)(s:Sto):KR s (bK6 x s):=by
 intro a s' h
 unfold bK6 at h
 repeat' split at h
 all_goals first|(cases h;exact KP.refl _;done)|(cases h;done)
theorem bx2 (x:D)(s:Sto):KR s (aG1 x s):=by
 intro a s' h
 unfold aG1 at h
 repeat' split at h
 all_goals first|(cases h;exact KP.refl _;done)|(cases h;done)
theorem aL4 (x:D)(s:Sto):KR s (aS9 x s):=by
 intro a s' h
 unfold aS9 at h
 repeat' split at h
 all_goals first|(cases h;exact KP.refl _;done)|(cases h;done)
theorem bl5 (x:D)(s:Sto):KR s (bo5 x s):=by
 intro a s' h
 unfold bo5 at h
 repeat' split at h
 all_goals first|(cases h;exact KP.refl _;done)|(cases h;done)
theorem bx4 (x y:D)(s:Sto):KR s (bH9 x y s):=by
 intro a s' h
 unfold bH9 at h
 repeat' split at h
 all_goals first|(cases h;exact KP.refl _;done)|(cases h;done)
theorem ce0 (b:Bi)(l:List D)(s:Sto):KR s (bi b l s):=by
 have y:∀ f:D->M D,(∀ d,KR s (f d s))->KR s (bi1 f l s):=λ f C=>by
  cases l with
  | nil=>exact KR.bad
  | cons d t=>(cases t with
   | nil=>exact C d
   | cons _ _=>exact KR.bad)
 have B:∀ k d,KR s (isK k d s):=λ k d=>by
  intro a s' h
  unfold isK at h
  repeat' split at h
  all_goals first|(cases h;exact KP.refl _;done)|(cases h;done)
 have G:∀ d,KR s (bD6 d s):=λ d=>by
  intro a s' h
  unfold bD6 at h
  repeat' split at h
  all_goals first|(cases h;exact KP.refl _;done)|(cases h;done)
 cases b with
 | len=>exact y _ G
 | isInt=>exact y _ (B 1)
 | isBool=>exact y _ (B 2)
 | isStr=>exact y _ (B 3)
 | isTup=>exact y _ (B 4)
 | isList=>exact y _ (B 5)
 | _ =>
  intro a s' h
  unfold bi at h
  first|(cases h;done)|(simp only at h;split at h<;>first|(cases h;exact KP.refl _;done)|(cases h;done))
theorem bS6 (k:Mk)(l:List D)(s:Sto):KR s (mk k l s):=by
 cases k with
 | tuple=>exact KR.ok
 | list=>exact KR.al
 | lenset=>exact KR.bad
 | _ =>
  intro a s' h
  unfold mk at h
  simp only at h
  repeat' split at h
  all_goals first|(cases h;exact KP.refl _;done)|(cases h;exact KP.app _ _;done)|(cases h;done)
theorem bu0 (k:Mk)(l:List D)(d:D)(s:Sto):KR s (mkD k l d s):=by
 intro a s' h
 unfold mkD at h
 repeat' split at h
 all_goals first|(cases h;exact KP.refl _;done)|(cases h;done)
theorem by0 (m:Mt)(o:D)(l:List D)(s:Sto):KR s (meth m o l s):=by
 intro a s' h
 unfold meth at h
 repeat' split at h
 all_goals first|(cases h;done)|(cases h;exact KP.refl _;done)|(rename_i e _;cases h;exact KP.set e rfl;done)|(rename_i e _ _ _;cases h;exact KP.set e rfl;done)|(rename_i e;cases h;exact KP.set e rfl;done)|(rename_i e _ _;cases h;exact KP.set e rfl;done)
theorem aU9 (o:D)(l:List D)(s:Sto):KR s (bQ2 o l s):=by
 intro a s' h
 unfold bQ2 at h
 repeat' split at h
 all_goals first|(cases h;done)|(rename_i e _;cases h;exact KP.set e rfl;done)
theorem bk4 (o i v:D)(s:Sto):KR s (setIx o i v s):=by
 intro a s' h
 unfold setIx at h
 cases o with
 | ref r =>
  simp only at h
  cases e:s[r]? with
  | none=>rw[e]at h;cases h
  | some ob =>
   rw[e]at h
   cases ob with
   | lst l =>
    cases i with
    | int k=>simp only at h;split at h<;>cases h;exact KP.set e rfl
    | _=>cases h
   | dic l=>simp only at h;split at h<;>cases h;exact KP.set e rfl
   | _=>cases h
 | _=>cases h
structure FK (F:Fns):Prop where
 call:∀ f l s,KR s (F.call f l s)
 lam:∀ id cs l s,KR s (F.lam id cs l s)
theorem av8 {ok:Sto->Bool}{g:D->Env->Sto->R (Option D×Env)}(h:∀ d ρ s,KR s (g d ρ s)):∀(l:List D) (ρ:Env) (s:Sto),KR s (qS ok g l ρ s)
 | [],ρ,s=>KR.if KR.ok KR.bad
 | d::l,ρ,s=>KR.if (KR.bind (h d ρ s) λ p s1=>KR.bind (av8 h l p.2 s1) λ r s2=>KR.ok) KR.bad
section
variable {F:Fns} (hF:FK F)
theorem aV9 (ρ:Env)(i:Nat)(s:Sto):KR s (aI8 ρ i s):=by
 intro a s' h
 unfold aI8 at h
 split at h<;>cases h;exact KP.refl _
include hF
mutual
theorem zy:∀(e:E) (ρ:Env) (s:Sto),KR s (ev F e ρ s)
 | .var i,ρ,s=>aV9 ρ i s
 | .cst c,ρ,s=>KR.ok
 | .glob x,ρ,s=>by
  intro a s' h
  change(match F.con x with|some d=>R.ok d s|none=>.bad)=_ at h
  split at h<;>cases h;exact KP.refl _
 | .bin op a b,ρ,s=>KR.bind (zy a ρ s) λ x s=>KR.bind (zy b ρ s) λ y s=>bl2 op x y s
 | .neg a,ρ,s=>KR.bind (zy a ρ s) λ x s=>by
  cases x with
  | int i=>exact KR.ok
  | _=>exact KR.bad
 | .not a,ρ,s=>KR.tru (zy a ρ s) λ b s=>KR.ok
 | .cmp op a b,ρ,s=>KR.bind (zy a ρ s) λ x s=>KR.bind (zy b ρ s) λ y s=>bg5 op x y s
 | .chain o p a b c,ρ,s=>KR.bind (zy a ρ s) λ x s=>KR.bind (zy b ρ s) λ y s=>KR.tru (bg5 o x y s) λ k s=>KR.if (KR.bind (zy c ρ s) λ z s=>bg5 p y z s) KR.ok
 | .isN a,ρ,s=>KR.bind (zy a ρ s) λ x s=>KR.ok
 | .notN a,ρ,s=>KR.bind (zy a ρ s) λ x s=>KR.ok
 | .isB a b,ρ,s=>KR.bind (zy a ρ s) λ x s=>by
  cases x with
  | bl i=>exact KR.ok
  | _=>exact KR.bad
 | .notB a b,ρ,s=>KR.bind (zy a ρ s) λ x s=>by
  cases x with
  | bl i=>exact KR.ok
  | _=>exact KR.bad
 | .and a b,ρ,s=>KR.tru (zy a ρ s) λ c s=>KR.if (KR.tru (zy b ρ s) λ c s=>KR.ok) KR.ok
 | .or a b,ρ,s=>KR.tru (zy a ρ s) λ c s=>KR.if KR.ok (KR.tru (zy b ρ s) λ c s=>KR.ok)
 | .ite c a b,ρ,s=>KR.tru (zy c ρ s) λ k s=>KR.if (zy a ρ s) (zy b ρ s)
 | .tup es,ρ,s=>KR.bind (ak8 es ρ s) λ l s=>KR.ok
 | .lst es,ρ,s=>KR.bind (ak8 es ρ s) λ l s=>KR.al
 | .dic .nil .nil,ρ,s=>KR.al
 | .dic (.cons k .nil) (.cons v .nil),ρ,s=>by
  intro a s' h
  obtain⟨kd,s1,e1,h⟩:=R.bind_inv (show(ev F k ρ (s++[.dic []])).bind _=_ from h)
  obtain⟨B,s2,e2,h⟩:=R.bind_inv h
  split at h
  case isFalse=>cases h
  rename_i hc
  cases h
  exact((KP.app _ _).trans ((zy k ρ _ _ _ e1).trans (zy v ρ _ _ _ e2))).trans (KP.set hc.2 rfl)
 | .dic .nil (.cons _ _),ρ,s=>KR.bad
 | .dic (.cons _ .nil) .nil,ρ,s=>KR.bad
 | .dic (.cons _ .nil) (.cons _ (.cons _ _)),ρ,s=>KR.bad
 | .dic (.cons _ (.cons _ _)) _,ρ,s=>KR.bad
 | .ix a b,ρ,s=>KR.bind (zy a ρ s) λ x s=>KR.bind (zy b ρ s) λ y s=>cc1 x y s
 | .slL a lo,ρ,s=>KR.bind (zy a ρ s) λ x s=>KR.bind (zy lo ρ s) λ y s=>by
  cases y with
  | int i=>exact bA0 _ _ _ _
  | _=>exact KR.bad
 | .slU a hi,ρ,s=>KR.bind (zy a ρ s) λ x s=>KR.bind (zy hi ρ s) λ y s=>by
  cases y with
  | int i=>exact bA0 _ _ _ _
  | _=>exact KR.bad
 | .slLU a lo hi,ρ,s=>KR.bind (zy a ρ s) λ x s=>KR.bind (zy lo ρ s) λ y s=>by
  cases y with
  | int i =>
   refine KR.bind (zy hi ρ s) λ z s=>?_
   cases z with
   | int j=>exact bA0 _ _ _ _
   | _=>exact KR.bad
  | _=>exact KR.bad
 | .rev a,ρ,s=>KR.bind (zy a ρ s) λ x s=>by
  cases x with
  | str l=>exact KR.ok
  | _=>exact KR.bad
 | .call f as,ρ,s=>KR.bind (ao9 as ρ s) λ l s=>hF.call f l s
 | .callC f as,ρ,s=>KR.bind (ao9 as ρ s) λ l s=>KR.bind (hF.call f l s) λ d s'=>KR.if KR.ok KR.bad
 | .callV i es,ρ,s=>KR.bind (ak8 es ρ s) λ l s=>by
  intro a s' h
  split at h
  ·exact hF.call _ _ _ _ _ h
  ·exact hF.lam _ _ _ _ _ _ h
  ·cases h
 | .bi b es,ρ,s=>KR.bind (ak8 es ρ s) λ l s=>ce0 b l s
 | .mk k it,ρ,s=>KR.bind (aX3 it ρ s) λ q s=>bS6 k q s
 | .mkD k it d,ρ,s=>KR.bind (aX3 it ρ s) λ q s=>KR.bind (zy d ρ s) λ d s=>bu0 k q d s
 | .meth m o es,ρ,s=>KR.bind (zy o ρ s) λ x s=>KR.bind (ak8 es ρ s) λ l s=>by0 m x l s
 | .ext o it,ρ,s=>KR.bind (zy o ρ s) λ x s=>KR.bind (aX3 it ρ s) λ q s=>aU9 x q s
 | .extS o e,ρ,s=>KR.bind (zy o ρ s) λ x s=>KR.bind (zy e ρ s) λ y s=>by
  intro a s' h
  unfold extS at h
  repeat' split at h
  all_goals first|(cases h;done)|exact aU9 _ _ _ _ _ h
 | .join o e,ρ,s=>KR.bind (zy o ρ s) λ x s=>KR.bind (zy e ρ s) λ y s=>bx4 x y s
 | .mks k e,ρ,s=>KR.bind (zy e ρ s) λ x s=>KR.bind (bd8 x s) λ q s=>bS6 k q s
 | .mkDs k e d,ρ,s=>KR.bind (zy e ρ s) λ x s=>KR.bind (zy d ρ s) λ z s=>KR.bind (bd8 x s) λ q s=>bu0 k q z s
theorem ak8:∀(es:Es) (ρ:Env) (s:Sto),KR s (evs F es ρ s)
 | .nil,ρ,s=>KR.ok
 | .cons e es,ρ,s=>KR.bind (zy e ρ s) λ d s=>KR.bind (ak8 es ρ s) λ l s=>KR.ok
theorem ao9:∀(y:As) (ρ:Env) (s:Sto),KR s (ap0 F y ρ s)
 | .nil,ρ,s=>KR.ok
 | .ex e y,ρ,s=>KR.bind (zy e ρ s) λ d s=>KR.bind (ao9 y ρ s) λ l s=>KR.ok
 | .lam id caps y,ρ,s=>by
  intro a s' h
  change(match ag7 ρ caps with|some cs=>(ap0 F y ρ s).bind λ l s=>R.ok (D.clo id cs::l) s|none=>.bad)=_ at h
  split at h
  ·exact KR.bind (ao9 y ρ s) (λ l s=>KR.ok) _ _ h
  ·cases h
 | .fn f y,ρ,s=>KR.bind (ao9 y ρ s) λ l s=>KR.ok
theorem bh6:∀(h:I) (ρ:Env) (s:Sto),KR s (evI F h ρ s)
 | .seq e,ρ,s=>KR.bind (zy e ρ s) λ d s=>bx2 d s
 | .rng1 a,ρ,s=>KR.bind (zy a ρ s) λ x s=>by
  cases x with
  | int i=>exact KR.if KR.ok KR.bad
  | _=>exact KR.bad
 | .rng2 a b,ρ,s=>KR.bind (zy a ρ s) λ x s=>KR.bind (zy b ρ s) λ y s=>by
  cases x with
  | int i=>(cases y with
   | int j=>exact KR.if KR.ok KR.bad
   | _=>exact KR.bad)
  | _=>exact KR.bad
 | .rng3 a b c,ρ,s=>KR.bind (zy a ρ s) λ x s=>KR.bind (zy b ρ s) λ y s=>by
  cases x with
  | int i=>(cases y with
   | int j=>exact KR.if KR.ok KR.bad
   | _=>exact KR.bad)
  | _=>exact KR.bad
 | .enum (.seq e),ρ,s=>KR.bind (zy e ρ s) λ d s=>KR.bind (bl5 d s) λ q s=>KR.ok
 | .zip (.seq a) (.seq b),ρ,s=>KR.bind (zy a ρ s) λ x s=>KR.bind (zy b ρ s) λ y s=>KR.bind (aL4 x s) λ p s=>KR.bind (aL4 y s) λ q s=>KR.ok
 | .enum (.rng1 _),ρ,s=>KR.bad
 | .enum (.rng2 _ _),ρ,s=>KR.bad
 | .enum (.rng3 _ _ _),ρ,s=>KR.bad
 | .enum (.enum _),ρ,s=>KR.bad
 | .enum (.zip _ _),ρ,s=>KR.bad
 | .enum (.items _),ρ,s=>KR.bad
 | .zip (.rng1 _) _,ρ,s=>KR.bad
 | .zip (.rng2 _ _) _,ρ,s=>KR.bad
 | .zip (.rng3 _ _ _) _,ρ,s=>KR.bad
 | .zip (.enum _) _,ρ,s=>KR.bad
 | .zip (.zip _ _) _,ρ,s=>KR.bad
 | .zip (.items _) _,ρ,s=>KR.bad
 | .zip (.seq _) (.rng1 _),ρ,s=>KR.bad
 | .zip (.seq _) (.rng2 _ _),ρ,s=>KR.bad
 | .zip (.seq _) (.rng3 _ _ _),ρ,s=>KR.bad
 | .zip (.seq _) (.enum _),ρ,s=>KR.bad
 | .zip (.seq _) (.zip _ _),ρ,s=>KR.bad
 | .zip (.seq _) (.items _),ρ,s=>KR.bad
 | .items e,ρ,s=>KR.bad
theorem aX3:∀(y:L) (ρ:Env) (s:Sto),KR s (evL F y ρ s)
 | .comp tg y e caps,ρ,s=>KR.bind (bh6 y ρ s) λ q s0=>KR.if (av8 (λ d ρ s=>by
   intro a s' h
   split at h
   ·exact KR.bind (zy e _ s) (λ v s=>KR.ok) _ _ h
   ·cases h) _ _ _) KR.bad
 | .compIf tg y c e caps,ρ,s=>KR.bind (bh6 y ρ s) λ q s0=>KR.if (av8 (λ d ρ s=>by
   intro a s' h
   split at h
   ·exact KR.tru (zy c _ s) (λ k s=>KR.if (KR.bind (zy e _ s) λ v s=>KR.ok) KR.ok) _ _ h
   ·cases h) _ _ _) KR.bad
 | .disp es,ρ,s=>ak8 es ρ s
 | .seq e,ρ,s=>KR.bind (zy e ρ s) λ d s=>bJ3 d s
end
theorem aG9 {ok:Sto->Bool}{g:D->Env->Sto->R Ct}(h:∀ d ρ s,KR s (g d ρ s)):∀(l:List D) (ρ:Env) (s:Sto),KR s (aS7 ok g l ρ s)
 | [],ρ,s=>KR.if KR.ok KR.bad
 | d::l,ρ,s=>KR.if (KR.bind (h d ρ s) λ c s=>by
   cases c with
   | next ρ=>exact aG9 h l ρ s
   | cont ρ=>exact aG9 h l ρ s
   | brk ρ=>exact KR.ok
   | ret d=>exact KR.ok) KR.bad
theorem aI7 {c:Env->Sto->R D}{g:Env->Sto->R Ct}(hc:∀ ρ s,KR s (c ρ s))(h:∀ ρ s,KR s (g ρ s)):∀(n:Nat) (ρ:Env) (s:Sto),KR s (jK c g n ρ s)
 | 0,ρ,s=>KR.bad
 | n+1,ρ,s=>KR.tru (hc ρ s) λ b s=>KR.if (KR.bind (h ρ s) λ y s=>by
   cases y with
   | next ρ=>exact aI7 hc h n ρ s
   | cont ρ=>exact aI7 hc h n ρ s
   | brk ρ=>exact KR.ok
   | ret d=>exact KR.ok) KR.ok
mutual
theorem ch2:∀(st:S) (ρ:Env) (s:Sto),KR s (ex F st ρ s)
 | .asg tg e,ρ,s=>KR.bind (zy hF e ρ s) λ d s=>by
  intro a s' h
  split at h<;>cases h;exact KP.refl _
 | .setIx o i e,ρ,s=>KR.bind (zy hF e ρ s) λ d s=>KR.bind (zy hF o ρ s) λ x s=>KR.bind (zy hF i ρ s) λ y s=>KR.bind (bk4 x y d s) λ _ s=>KR.ok
 | .aug i e,ρ,s=>KR.bind (aV9 ρ i s) λ x s=>KR.bind (zy hF e ρ s) λ y s=>by
  intro a s' h
  repeat' split at h
  all_goals first|(cases h;exact KP.refl _;done)|(cases h;done)
 | .ex e,ρ,s=>KR.bind (zy hF e ρ s) λ d s=>KR.ok
 | .ret e,ρ,s=>KR.bind (zy hF e ρ s) λ d s=>KR.ok
 | .retN,ρ,s=>KR.ok
 | .ite c a b,ρ,s=>KR.tru (zy hF c ρ s) λ k s=>KR.if (at5 a ρ s) (at5 b ρ s)
 | .whl c b,ρ,s=>by
  intro r s' h
  change whl (ev F c) (exs F b) ρ s=_ at h
  unfold whl at h
  split at h
  ·exact aI7 hF (λ ρ s=>zy hF c ρ s) (λ ρ s=>at5 b ρ s) _ ρ s _ _ h
  ·cases h
 | .for_ tg it b,ρ,s=>KR.bind (bh6 hF it ρ s) λ q s0=>aG9 hF (λ d ρ s=>by
   intro a s' h
   split at h
   ·exact at5 b _ _ _ _ h
   ·cases h) _ _ _
 | .pass,ρ,s=>KR.ok
 | .cont,ρ,s=>KR.ok
 | .brk,ρ,s=>KR.ok
 | .raise,ρ,s=>KR.bad
 | .und i,ρ,s=>by
  intro a s' h
  change(match ag8 ρ i with|some ρ=>R.ok (Ct.next ρ) s|none=>.bad)=_ at h
  split at h<;>cases h;exact KP.refl _
theorem at5:∀(h:Ss) (ρ:Env) (s:Sto),KR s (exs F h ρ s)
 | .nil,ρ,s=>KR.ok
 | .cons st h,ρ,s=>KR.bind (ch2 st ρ s) λ c s=>by
  cases c with
  | next ρ=>exact at5 h ρ s
  | _=>exact KR.ok
end
end
theorem ax7 {s st:Sto}{d:D}(h:KP s st):KR s (zW s d st):=by
 have tk:∀ t,KP s (st.take s.length++t):=λ t i o e=>by
  obtain⟨G,e',k⟩:=h i o e
  have C:=(ab.mp e).1
  have B:=(ab.mp e').1
  refine⟨G,?_,k⟩
  rw[aG (by rw[dE];omega),ie,if_pos C];exact e'
 have y:KP s (st.take s.length):=by have:=tk [];rwa [bC]at this
 intro a s' e
 unfold zW at e
 repeat' split at e
 all_goals first|(cases e;exact y;done)|(cases e;exact tk _;done)|(cases e;exact h;done)|(cases e;done)
theorem an7 (P:Pr):∀ n,FK (aa0 P n)
 | 0=>⟨λ _ _ _=>KR.bad,λ _ _ _ _=>KR.bad⟩
 | n+1=>by
  refine⟨λ f l s=>?_,λ id cs l s=>?_⟩
  ·intro a s' h
   unfold aa0 at h
   simp only at h
   split at h
   case h_2=>cases h
   split at h
   case isFalse=>cases h
   obtain⟨c,s1,e1,h⟩:=R.bind_inv h
   have y:=at5 (an7 P n) _ _ _ _ _ e1
   cases c with
   | ret v=>exact ax7 y _ _ h
   | next ρ=>exact ax7 y _ _ h
   | _=>cases h
  ·intro a s' h
   unfold aa0 at h
   simp only at h
   split at h
   case h_2=>cases h
   split at h
   case isFalse=>cases h
   obtain⟨v,s1,e1,h⟩:=R.bind_inv h
   exact ax7 (zy (an7 P n) _ _ _ _ _ e1) _ _ h
end DV
end
open DV renaming Sto->kn,D->ko,Env->kr,R->kt,ev->kx,eqv->kA,DEEP->kB,LIM->kC,aa0->kD,tru->kE,eqL->kF,rep->kG,kd->kH,Pr->kI,ae9->kJ,af2->kK,Es->kL,O->kM,Fns->kN,evs->kO,ag7->kP,aT0->kQ,inL->kR,au6->kS,look->kT,Bi->kU,Tg->kW,Ct->kX,chk->kY,qy->kZ,ag0->k6,ixn->k7,As->k9,minI->la,meth->lb,aK9->lc,ar8->lf,ap0->lh,M->li,E->lj,Sq->lp,zX->lq,mk->lr,Lm->ls,Df->lu,al9->lv,jh->lw,qS->lx,Mk->ly,Mt->lz,Ss->lA,aS6->lB,COp->lC,pur->lD,inM->lE,bi1->lF,aI8->lG,aS7->lH,bi->lI,BOp->lJ,by3->lK,isK->lL,W62->lO,S->lP,idx->lQ,evI->lR,exs->lS,ag8->lT,as0->lU
open DV.D renaming bndL->kq,bnd->ku,nclL->k8,ncl->lM
open DV.O renaming bnd->kz,ncl->lN
noncomputable section
namespace L2
theorem fb {α:Type}{d:α}{s:kn}{p:Prop}(h:(DV.R.bad:kt α)=.ok d s):p:=nomatch h
open PySem PySem.Spec PyProof.Rows
structure LamI where
 qual:Str
 params:a8
 body:Expr
 scope:Scope
 ps:List Str
 fr:List Str
 nm:Option (Str×Pos)
def CloAt (H:Hp)(f:Addr)(J:LamI)(cap:List V)(clos:List (Str×Addr)):Prop:=match J.nm with
 | none=>aD5 H f J.qual J.params J.body J.scope J.fr cap clos
 | some p=>ap1 H f p.1 J.qual J.params [.Return (some J.body) p.2] J.scope J.fr cap clos
def ai1 (H:Hp)(f:Addr)(J:LamI)(clos:List (Str×Addr)):Prop:=match J.nm with
 | none=>∃ pm c' ctv,H f=some (ax1 f (bK "<lambda>" J.qual J.params J.body J.scope clos pm (.ref c') ctv))/\H c'=some (qK c' J.qual)
 | some p=>∃ doc pm c' ctv,H f=some (ax1 f (ci p.1 J.qual J.params [.Return (some J.body) p.2] J.scope clos .none .none doc pm none (.ref c') ctv))/\H c'=some (qK c' J.qual)
structure Gm where
 K:ac
 fa:String->Option Addr
 lg:String->LamI->Prop
 T:List (Addr×Str)
variable (Γ:Gm)
mutual
noncomputable def RV (φ:Nat->Addr)(H:Hp):ko->V->Prop
 | .non,v=>v=.non
 | .bl b,v=>v=.bl b
 | .int i,v=>v=.int i
 | .str x,v=>v=.str ⟨x.toArray⟩/\x.length<=kC
 | .tup l,v=>∃ a xs,v=.ref a/\SqT Γ.K H a xs/\RVL φ H l xs
 | .ref n,v=>v=.ref (φ n)
 | .fn f,v=>∃ a,Γ.fa f=some a/\v=.ref a
 | .clo id cs,v=>∃ f cap J clos,v=.ref f/\Γ.lg id J/\CloAt H f J cap clos/\cap.length=J.fr.length/\RVL φ H cs cap
noncomputable def RVL (φ:Nat->Addr)(H:Hp):List ko->List V->Prop
 | [],xs=>xs=[]
 | d::l,xs=>∃ x r,xs=x::r/\RV φ H d x/\RVL φ H l r
end
noncomputable def bZ6:HO->Bool
 | .tup _=>true
 | .frz _ _=>true
 | .ext _=>true
 | _=>false
def Kp (H H':Hp):Prop:=∀ b o,H b=some o->bZ6 o=true->H' b=some o
theorem Kp.refl (H:Hp):Kp H H:=λ _ _ h _=>h
theorem Kp.trans {H y H2:Hp}(a:Kp H y)(b:Kp y H2):Kp H H2:=λ c o h f=>b c o (a c o h f) f
theorem Kp.new {H y:Hp}{p:Addr}{o:HO}(a:Kp H y)(h:y p=none):Kp H (upd y p o):=λ c u e f=>by
 have e1:=a c u e f
 rw[zm (zK e1 h)];exact e1
theorem Kp.put {H y:Hp}{p:Addr}{o u:HO}(a:Kp H y)(h:y p=some u)(B:bZ6 u=false):Kp H (upd y p o):=λ c v e f=>by
 have e1:=a c v e f
 rw[zm (λ z=>by subst z;rw[h]at e1;cases e1;rw[B]at f;cases f)];exact e1
theorem Kp.sqT {K:ac}{H H':Hp}{a:Addr}{y:List V}(e:Kp H H')(h:SqT K H a y):SqT K H' a y:=by
 rcases h with(h|⟨o,h⟩)|h
 ·exact .inl (.inl (e _ _ h rfl))
 ·exact .inl (.inr ⟨o,e _ _ h rfl⟩)
 ·exact .inr h
theorem aD5.kp {H H':Hp}{f:Addr}{qual:Str}{params:a8}{body:Expr}{scope:Scope}{fr:List Str}{cap:List V}{y:List (Str×Addr)}(h:aD5 H f qual params body scope fr cap y)(e:Kp H H'):aD5 H' f qual params body scope fr cap y:=by
 obtain⟨Y,c',B,J,C,h3,h4,G,h6⟩:=h
 refine⟨Y,c',B,e _ _ J rfl,e _ _ C rfl,λ x c q=>?_,h4,G,λ i x v a b=>?_⟩
 ·obtain⟨o,v,z,d⟩:=h3 x c q
  exact⟨o,v,e _ _ z rfl,d⟩
 ·obtain⟨c,o,u,z1,z2,Z⟩:=h6 i x v a b
  exact⟨c,o,u,z1,e _ _ z2 rfl,Z⟩
theorem ap1.kp {H H':Hp}{f:Addr}{name qual:Str}{params:a8}{body:List Stmt}{scope:Scope}{fr:List Str}{cap:List V}{y:List (Str×Addr)}(h:ap1 H f name qual params body scope fr cap y)(e:Kp H H'):ap1 H' f name qual params body scope fr cap y:=by
 obtain⟨B,Z,c',C,Y,G,h3,h4,J,h6⟩:=h
 refine⟨B,Z,c',C,e _ _ Y rfl,e _ _ G rfl,λ x c q=>?_,h4,J,λ i x v a b=>?_⟩
 ·obtain⟨o,v,z,d⟩:=h3 x c q
  exact⟨o,v,e _ _ z rfl,d⟩
 ·obtain⟨c,o,u,z1,z2,z3⟩:=h6 i x v a b
  exact⟨c,o,u,z1,e _ _ z2 rfl,z3⟩
theorem CloAt.kp {H H':Hp}{f:Addr}{J:LamI}{cap:List V}{y:List (Str×Addr)}(h:CloAt H f J cap y)(e:Kp H H'):CloAt H' f J cap y:=by
 unfold CloAt at h ⊢
 cases q:J.nm with
 | none=>rw[q]at h;exact aD5.kp h e
 | some p=>rw[q]at h;exact ap1.kp h e
theorem ai1.kp {H H':Hp}{f:Addr}{J:LamI}{y:List (Str×Addr)}(h:ai1 H f J y)(e:Kp H H'):ai1 H' f J y:=by
 unfold ai1 at h ⊢
 cases q:J.nm with
 | none =>
  rw[q]at h
  obtain⟨pm,Y,B,Z,C⟩:=h
  exact⟨pm,Y,B,e _ _ Z rfl,e _ _ C rfl⟩
 | some p =>
  rw[q]at h
  obtain⟨G,pm,Y,B,Z,C⟩:=h
  exact⟨G,pm,Y,B,e _ _ Z rfl,e _ _ C rfl⟩
theorem CloAt.fn {K:ac}{H:Hp}{f:Addr}{J:LamI}{cap:List V}{y:List (Str×Addr)}(h:CloAt H f J cap y):bI2 K H f:=by
 unfold CloAt at h
 cases q:J.nm with
 | none=>rw[q]at h;obtain⟨Y,G,B,C,_⟩:=h;exact .inl ⟨_,C⟩
 | some p=>rw[q]at h;exact ap1.fn h
structure Gw (φ:Nat->Addr)(n:Nat)(H:Hp)(φ':Nat->Addr)(H':Hp):Prop where
 map:∀ i,i<n->φ' i=φ i
 kp:Kp H H'
variable {Γ:Gm}
mutual
theorem RV.monoW {φ φ':Nat->Addr}{n:Nat}{H H':Hp}(g:Gw φ n H φ' H'):∀(d:ko) (v:V),d.bnd n=true->RV Γ φ H d v->RV Γ φ' H' d v
 | .non,_,_,h=>by unfold RV at h ⊢;exact h
 | .bl _,_,_,h=>by unfold RV at h ⊢;exact h
 | .int _,_,_,h=>by unfold RV at h ⊢;exact h
 | .str _,_,_,h=>by unfold RV at h ⊢;exact h
 | .tup l,_,b,h=>by
  unfold RV at h ⊢
  unfold ku at b
  obtain⟨a,B,e,q,r⟩:=h
  exact⟨a,B,e,g.kp.sqT q,RVL.monoW g l B b r⟩
 | .ref k,_,b,h=>by
  unfold RV at h ⊢
  unfold ku at b
  rw[g.map k (of_decide_eq_true b)];exact h
 | .fn _,_,_,h=>by unfold RV at h ⊢;exact h
 | .clo id cs,_,b,h=>by
  unfold RV at h ⊢
  unfold ku at b
  obtain⟨f,cap,J,y,e,Y,C,h3,G⟩:=h
  exact⟨f,cap,J,y,e,Y,C.kp g.kp,h3,RVL.monoW g cs cap b G⟩
theorem RVL.monoW {φ φ':Nat->Addr}{n:Nat}{H H':Hp}(g:Gw φ n H φ' H'):∀(l:List ko) (y:List V),kq n l=true->RVL Γ φ H l y->RVL Γ φ' H' l y
 | [],_,_,h=>by unfold RVL at h ⊢;exact h
 | d::l,_,b,h=>by
  unfold RVL at h ⊢
  unfold kq at b
  rw[aq]at b
  obtain⟨x,r,e,q,t⟩:=h
  exact⟨x,r,e,RV.monoW g d x b.1 q,RVL.monoW g l r b.2 t⟩
end
mutual
theorem zT {n m:Nat}(h:n<=m):∀ d:ko,d.bnd n=true->d.bnd m=true
 | .non,_=>rfl
 | .bl _,_=>rfl
 | .int _,_=>rfl
 | .str _,_=>rfl
 | .tup l,b=>by unfold ku at b ⊢;exact ab9 h l b
 | .ref k,b=>by unfold ku at b ⊢;exact decide_eq_true (am (of_decide_eq_true b) h)
 | .fn _,_=>rfl
 | .clo _ l,b=>by unfold ku at b ⊢;exact ab9 h l b
theorem ab9 {n m:Nat}(h:n<=m):∀ l:List ko,kq n l=true->kq m l=true
 | [],_=>rfl
 | d::l,b=>by
  unfold kq at b ⊢
  rw[aq]at b ⊢
  exact⟨zT h d b.1,ab9 h l b.2⟩
end
theorem ac7 {n:Nat}:∀ {l:List ko},kq n l=true↔∀ d∈l,d.bnd n=true
 | []=>by unfold kq;simp
 | d::l=>by
  unfold kq
  rw[aq,ac7 (l:=l)]
  simp
theorem ql {n:Nat}{l m:List ko}(h:kq n l=true)(h':kq n m=true):kq n (l++m)=true :=
 ac7.mpr λ d hd=>(cc.mp hd).elim (ac7.mp h d) (ac7.mp h' d)
theorem an6 {n:Nat}{l:List ko}{i:Nat}{d:ko}(h:kq n l=true)(e:l[i]?=some d):d.bnd n=true:=ac7.mp h d (aV e)
section
variable {φ:Nat->Addr} {H:Hp}
theorem RVL.nil:RVL Γ φ H [] []:=by unfold RVL;rfl
theorem RVL.cons {d:ko}{l:List ko}{x:V}{h:List V}(a:RV Γ φ H d x)(b:RVL Γ φ H l h):RVL Γ φ H (d::l) (x::h):=by unfold RVL;exact⟨x,h,rfl,a,b⟩
theorem RVL.unnil {y:List V}(h:RVL Γ φ H [] y):y=[]:=by unfold RVL at h;exact h
theorem RVL.uncons {d:ko}{l:List ko}{y:List V}(h:RVL Γ φ H (d::l) y):∃ x r,y=x::r/\RV Γ φ H d x/\RVL Γ φ H l r:=by unfold RVL at h;exact h
theorem RVL.length:∀ {l:List ko} {y:List V},RVL Γ φ H l y->y.length=l.length
 | [],_,h=>by rw[h.unnil];rfl
 | d::l,_,h=>by
  obtain⟨x,r,rfl,_,t⟩:=h.uncons
  rw[aQ,aQ,RVL.length t]
theorem RVL.get:∀ {l:List ko} {B:List V} {i:Nat} {d:ko},RVL Γ φ H l B->l[i]?=some d->∃ x,B[i]?=some x/\RV Γ φ H d x
 | [],_,_,_,_,e=>by simp at e
 | d::l,_,0,d',h,e=>by
  obtain⟨x,r,rfl,q,t⟩:=h.uncons
  have e':d=d':=by simpa using e
  subst e'
  exact⟨x,rfl,q⟩
 | d::l,_,i+1,_,h,e=>by
  obtain⟨x,r,rfl,q,t⟩:=h.uncons
  obtain⟨y,e1,e2⟩:=RVL.get (i:=i) t (by simpa using e)
  exact⟨y,by simpa using e1,e2⟩
theorem RVL.append:∀ {l m:List ko} {y ys:List V},RVL Γ φ H l y->RVL Γ φ H m ys->RVL Γ φ H (l++m) (y++ys)
 | [],_,_,_,h,h'=>by rw[h.unnil];exact h'
 | d::l,_,_,_,h,h'=>by
  obtain⟨x,r,rfl,q,t⟩:=h.uncons
  exact .cons q (RVL.append t h')
theorem RVL.drop:∀ {l:List ko} {y:List V} (n:Nat),RVL Γ φ H l y->RVL Γ φ H (l.drop n) (y.drop n)
 | _,_,0,h=>h
 | [],_,n+1,h=>by rw[h.unnil];exact .nil
 | d::l,_,n+1,h=>by
  obtain⟨x,r,rfl,q,t⟩:=h.uncons
  exact RVL.drop n t
theorem RVL.take:∀ {l:List ko} {y:List V} (n:Nat),RVL Γ φ H l y->RVL Γ φ H (l.take n) (y.take n)
 | _,_,0,h=>.nil
 | [],_,n+1,h=>by rw[h.unnil];exact .nil
 | d::l,_,n+1,h=>by
  obtain⟨x,r,rfl,q,t⟩:=h.uncons
  exact .cons q (RVL.take n t)
theorem RVL.set:∀ {l:List ko} {y:List V} {d:ko} {x:V} (i:Nat),RVL Γ φ H l y->RV Γ φ H d x->RVL Γ φ H (l.set i d) (y.set i x)
 | [],_,_,_,_,h,_=>by rw[h.unnil];exact .nil
 | d::l,_,_,_,0,h,q=>by
  obtain⟨x,r,rfl,_,t⟩:=h.uncons
  exact .cons q t
 | d::l,_,_,_,i+1,h,q=>by
  obtain⟨x,r,rfl,B,t⟩:=h.uncons
  exact .cons B (RVL.set i t q)
theorem RVL.reverse:∀ {l:List ko} {y:List V},RVL Γ φ H l y->RVL Γ φ H l.reverse y.reverse
 | [],_,h=>by rw[h.unnil];exact .nil
 | d::l,_,h=>by
  obtain⟨x,r,rfl,q,t⟩:=h.uncons
  rw[dt,dt]
  exact(RVL.reverse t).append (.cons q .nil)
theorem RV.intE {i:Int}{v:V}(h:RV Γ φ H (.int i) v):v=.int i:=by unfold RV at h;exact h
theorem RV.blE {i:Bool}{v:V}(h:RV Γ φ H (.bl i) v):v=.bl i:=by unfold RV at h;exact h
theorem RV.nonE {v:V}(h:RV Γ φ H .non v):v=.non:=by unfold RV at h;exact h
theorem RV.strE {x:List Nat}{v:V}(h:RV Γ φ H (.str x) v):v=.str ⟨x.toArray⟩:=by unfold RV at h;exact h.1
theorem RV.strL {x:List Nat}{v:V}(h:RV Γ φ H (.str x) v):x.length<=kC:=by unfold RV at h;exact h.2
theorem RV.tupE {l:List ko}{v:V}(h:RV Γ φ H (.tup l) v):∃ a y,v=.ref a/\SqT Γ.K H a y/\RVL Γ φ H l y:=by unfold RV at h;exact h
theorem RV.refE {n:Nat}{v:V}(h:RV Γ φ H (.ref n) v):v=.ref (φ n):=by unfold RV at h;exact h
theorem RV.intI {i:Int}:RV Γ φ H (.int i) (.int i):=by unfold RV;rfl
theorem RV.blI {i:Bool}:RV Γ φ H (.bl i) (.bl i):=by unfold RV;rfl
theorem RV.nonI:RV Γ φ H .non .non:=by unfold RV;rfl
theorem RV.strI {x:List Nat}(h:x.length<=kC):RV Γ φ H (.str x) (.str ⟨x.toArray⟩):=by unfold RV;exact⟨rfl,h⟩
theorem RV.tupI {l:List ko}{a:Addr}{y:List V}(h:SqT Γ.K H a y)(q:RVL Γ φ H l y):RV Γ φ H (.tup l) (.ref a):=by unfold RV;exact⟨a,y,rfl,h,q⟩
theorem RV.refI {n:Nat}:RV Γ φ H (.ref n) (.ref (φ n)):=by unfold RV;rfl
end
def SqF (K:ac)(H:Hp)(a:Addr)(xs:List V):Prop:=SqL K H a xs/\∀ H',Kp H H'->SqL K H' a xs
noncomputable def az8:ko->Option Key
 | .int i=>some (.inl i)
 | .str x=>some (.inr ⟨x.toArray⟩)
 | _=>none
noncomputable def RVD (Γ:Gm)(φ:Nat->Addr)(H:Hp):List (ko×ko)->List (Key×V)->Prop
 | [],kvs=>kvs=[]
 | (d,e)::l,kvs=>∃ k v r,kvs=(k,v)::r/\az8 d=some k/\RV Γ φ H e v/\RVD Γ φ H l r
variable (Γ)
noncomputable def RO (φ:Nat->Addr)(H:Hp)(a:Addr):kM->Prop
 | .lst l=>∃ xs,H a=some (.lst xs)/\RVL Γ φ H l xs
 | .ro l=>∃ xs,SqF Γ.K H a xs/\RVL Γ φ H l xs
 | .dic l=>∃ kvs,H a=some (.dK kvs)/\RVD Γ φ H l kvs
 | .ins _ _=>False
noncomputable abbrev okd:kM->Nat:=DV.O.kd
noncomputable def isMut:kM->Bool
 | .ro _=>false
 | _=>true
structure Rp (φ:Nat->Addr)(H:Hp)(s:kn):Prop where
 inj:∀(i j:Nat) (o o':kM),s[i]?=some o->s[j]?=some o'->isMut o=true->isMut o'=true->φ i=φ j->i=j
 obj:∀(i:Nat) (o:kM),s[i]?=some o->RO Γ φ H (φ i) o
 wf:∀(i:Nat) (o:kM),s[i]?=some o->o.bnd s.length=true
 tab:TabsH Γ.T H
structure RE (φ:Nat->Addr)(H:Hp)(n:Nat)(ρ:kr)(σ:St):Prop where
 len:ρ.length=σ.length
 val:∀(i:Nat) (d:ko),ρ[i]?=some (some d)->d.bnd n=true/\∃ v,σ[i]?=some (some v)/\RV Γ φ H d v
structure Gr (φ:Nat->Addr)(s:kn)(H:Hp)(φ':Nat->Addr)(s':kn)(H':Hp):Prop where
 w:Gw φ s.length H φ' H'
 le:s.length<=s'.length
 new:∀ i:Nat,s.length<=i->i<s'.length->H (φ' i)=none
 kd:∀(i:Nat) (o o':kM),s[i]?=some o->s'[i]?=some o'->okd o'=okd o
 st:∀ b,H b≠none->H' b≠none
 fr:∀ b o,H b=some o->(∀ ps,o≠.tbl ps)->(∀(i:Nat) (ob:kM),s[i]?=some ob->isMut ob=true->φ i≠b)->H' b=some o
variable {Γ}
theorem bD7 {o y:kM}(h:okd y=okd o)(m:isMut y=true):isMut o=true:=by
 cases o with
 | ro _=>cases y with
  | ro _=>cases m
  | _=>cases h
 | _=>rfl
theorem Gr.mu {φ φ':Nat->Addr}{s s':kn}{H H':Hp}(g:Gr φ s H φ' s' H')(i:Nat)(o h:kM)(e:s[i]?=some o)(e':s'[i]?=some h)(m:isMut h=true):isMut o=true:=bD7 (g.kd i o h e e') m
theorem Gr.refl (φ:Nat->Addr)(s:kn)(H:Hp):Gr φ s H φ s H:=⟨⟨λ _ _=>rfl,Kp.refl H⟩,ah _,λ i B y=>absurd y (by omega),λ i o C e e'=>by rw[e]at e';cases e';rfl,λ _ h=>h,λ _ _ h _ _=>h⟩
theorem Gr.trans {φ φ1 φ2:Nat->Addr}{s s1 s2:kn}{H G H2:Hp}(a:Gr φ s H φ1 s1 G)(b:Gr φ1 s1 G φ2 s2 H2)(_h:s.length<=s1.length):Gr φ s H φ2 s2 H2:=by
 refine⟨⟨λ i y=>(b.w.map i (am y a.le)).trans (a.w.map i y),a.w.kp.trans b.w.kp⟩,aw a.le b.le,λ i h1 Z=>?_,λ i o o' e e'=>?_,λ c h=>b.st c (a.st c h),λ c o h J ne=>?_⟩
 ·by_cases y:i<s1.length
  ·rw[b.w.map i y];exact a.new i h1 y
  ·have e:=b.new i (by omega) Z
   cases q:H (φ2 i)with
   | none=>rfl
   | some o=>exact absurd e (a.st _ (by rw[q];simp))
 ·have hl:i<s1.length:=am (ab.mp e).1 a.le
  obtain⟨B,e1⟩:∃ B,s1[i]?=some B:=⟨s1[i],ag hl⟩
  exact(b.kd i B o' e1 e').trans (a.kd i o B e e1)
 ·refine b.fr c o (a.fr c o h J ne) J λ i ob e m z=>?_
  by_cases y:i<s.length
  ·obtain⟨C,Y⟩:∃ C,s[i]?=some C:=⟨s[i],ag y⟩
   exact ne i C Y (a.mu i C ob Y e m) (by rw[<-a.w.map i y];exact z)
  ·have:=a.new i (by omega) (ab.mp e).1
   rw[z,h]at this;cases this
theorem RV.mono {φ φ':Nat->Addr}{s s':kn}{H H':Hp}(g:Gr φ s H φ' s' H')(d:ko)(v:V)(b:d.bnd s.length=true)(h:RV Γ φ H d v):RV Γ φ' H' d v:=RV.monoW g.w d v b h
theorem RVL.mono {φ φ':Nat->Addr}{s s':kn}{H H':Hp}(g:Gr φ s H φ' s' H')(d:List ko)(v:List V)(b:kq s.length d=true)(h:RVL Γ φ H d v):RVL Γ φ' H' d v:=RVL.monoW g.w d v b h
theorem RE.mono {φ φ':Nat->Addr}{s s':kn}{H H':Hp}{ρ:kr}{σ:St}(h:RE Γ φ H s.length ρ σ)(g:Gr φ s H φ' s' H')(hn:s.length<=s'.length):RE Γ φ' H' s'.length ρ σ :=
 ⟨h.len,λ i d e=>by
  obtain⟨b,v,e1,e2⟩:=h.val i d e
  exact⟨zT hn d b,v,e1,RV.mono g d v b e2⟩⟩
def ag2 (Γ:Gm)(φ:Nat->Addr)(s:kn)(H:Hp)(d:ko)(s':kn)(Q:VK):Prop :=
 ∀ v φ' H',Gr φ s H φ' s' H'->s.length<=s'.length->d.bnd s'.length=true->RV Γ φ' H' d v->Rp Γ φ' H' s'->Q v H'
theorem ag2.trans {φ φ1:Nat->Addr}{s s1 s':kn}{H y:Hp}{d:ko}{Q:VK}(h:ag2 Γ φ s H d s' Q)(g:Gr φ s H φ1 s1 y)(l:s.length<=s1.length):ag2 Γ φ1 s1 y d s' Q :=
 λ v φ' H' g' B b r p=>h v φ' H' (g.trans g' l) (aw l B) b r p
theorem ag2.here {φ:Nat->Addr}{s:kn}{H:Hp}{d:ko}{Q:VK}{v:V}(h:ag2 Γ φ s H d s Q)(p:Rp Γ φ H s)(b:d.bnd s.length=true)(r:RV Γ φ H d v):Q v H :=
 h v φ H (Gr.refl φ s H) (ah _) b r p
theorem RVD.monoW {φ φ':Nat->Addr}{n:Nat}{H H':Hp}(g:Gw φ n H φ' H'):∀(l:List (ko×ko)) (y:List (Key×V)),kq n (l.map (·.2))=true->RVD Γ φ H l y->RVD Γ φ' H' l y
 | [],_,_,h=>h
 | (d,e)::l,_,b,h=>by
  obtain⟨k,v,r,e1,e2,B,C⟩:=h
  rw[aI]at b
  unfold kq at b
  rw[aq]at b
  exact⟨k,v,r,e1,e2,RV.monoW g e v b.1 B,RVD.monoW g l r b.2 C⟩
theorem RO.mono {φ φ':Nat->Addr}{n:Nat}{H H':Hp}{a:Addr}{o:kM}(h:RO Γ φ H a o)(g:Gw φ n H φ' H')(b:o.bnd n=true)(hl:isMut o=true->∀ u,H a=some u->H' a=some u):RO Γ φ' H' a o:=by
 cases o with
 | lst l =>
  unfold kz at b
  obtain⟨B,e,r⟩:=h
  exact⟨B,hl rfl _ e,RVL.monoW g l B b r⟩
 | ro l =>
  unfold kz at b
  obtain⟨B,e,r⟩:=h
  exact⟨B,⟨e.2 _ g.kp,λ H2 k=>e.2 _ (g.kp.trans k)⟩,RVL.monoW g l B b r⟩
 | dic l =>
  unfold kz at b
  rw[aq]at b
  obtain⟨y,e,r⟩:=h
  exact⟨y,hl rfl _ e,RVD.monoW g l y b.2 r⟩
 | ins _ _=>exact h.elim
theorem RO.there {φ:Nat->Addr}{H:Hp}{a:Addr}{o:kM}(h:RO Γ φ H a o)(m:isMut o=true):∃ u,H a=some u/\bZ6 u=false/\∀ ps,u≠.tbl ps:=by
 cases o with
 | lst l=>obtain⟨y,e,_⟩:=h;exact⟨_,e,rfl,by nofun⟩
 | ro l=>cases m
 | dic l=>obtain⟨y,e,_⟩:=h;exact⟨_,e,rfl,by nofun⟩
 | ins _ _=>exact h.elim
theorem Rp.addr {φ:Nat->Addr}{H:Hp}{s:kn}(p:Rp Γ φ H s){i:Nat}{l:List ko}(e:s[i]?=some (.lst l)):∃ h,H (φ i)=some (.lst h)/\RVL Γ φ H l h:=p.obj i _ e
theorem qF {n m:Nat}(h:n<=m)(o:kM)(b:o.bnd n=true):o.bnd m=true:=by
 cases o with
 | lst l=>unfold kz at b ⊢;exact ab9 h l b
 | ro l=>unfold kz at b ⊢;exact ab9 h l b
 | dic l =>
  unfold kz at b ⊢
  rw[aq]at b ⊢
  exact⟨ab9 h _ b.1,ab9 h _ b.2⟩
 | ins c l=>unfold kz at b ⊢;exact ab9 h _ b
theorem TabsH.keepF {T:List (Addr×Str)}{H H':Hp}(h:TabsH T H)(k:∀ b o,(bZ6 o=true\/∃ ps,o=.tbl ps)->H b=some o->H' b=some o):TabsH T H':=λ y hy=>by
 obtain⟨ps,e,t,c⟩:=h y hy
 refine⟨ps,k _ _ (.inr ⟨_,rfl⟩) e,t,λ pos B q=>?_⟩
 obtain⟨C,e1,e2⟩:=c pos B q
 exact⟨C,e1,k _ _ (.inl rfl) e2⟩
theorem Rp.new {φ:Nat->Addr}{H:Hp}{s:kn}{p:Addr}{u:HO}{o:kM}(r:Rp Γ φ H s)(C:H p=none)(hb:o.bnd s.length=true)
  (ho:∀ φ' H',Gw φ s.length H φ' H'->H' p=some u->RO Γ φ' H' p o):Gr φ s H (λ i=>if i=s.length then p else φ i) (s++[o]) (upd H p u)/\Rp Γ (λ i=>if i=s.length then p else φ i) (upd H p u) (s++[o]):=by
 have g:Gw φ s.length H (λ i=>if i=s.length then p else φ i) (upd H p u):=⟨λ i y=>if_neg (ay y),(Kp.refl H).new C⟩
 have key:∀ i B,(s++[o])[i]?=some B->(i<s.length/\s[i]?=some B)\/(i=s.length/\B=o):=λ i B e=>by
  rcases eW i s.length with h|h|h
  ·rw[aG h]at e;exact .inl ⟨h,e⟩
  ·subst h;simp at e;exact .inr ⟨rfl,e.symm⟩
  ·rw[bJ (by simp;omega)]at e;cases e
 refine⟨⟨g,by simp,λ i h1 h2=>?_,λ i o1 o2 e1 e2=>?_,λ b hb=>?_,λ b ob hb _ _=>by rw[zm (zK hb C)];exact hb⟩,λ i j J Y ei ej Z mj e=>?_,λ i B e=>?_,λ i B e=>?_,r.tab.new C⟩
 ·rw[aZ,cM]at h2
  rw[if_pos (by omega)];exact C
 ·rcases key i o2 e2 with⟨_,e⟩|⟨y,_⟩
  ·rw[e1]at e;cases e;rfl
  ·have:=(ab.mp e1).1;omega
 ·unfold upd;split
  ·simp
  ·exact hb
 ·rcases key i J ei with⟨y,ei⟩|⟨y,rfl⟩<;>rcases key j Y ej with⟨hj,ej⟩|⟨hj,ej'⟩
  ·rw[if_neg (ay y),if_neg (ay hj)]at e
   exact r.inj i j J Y ei ej Z mj e
  ·rw[if_neg (ay y),if_pos hj]at e
   obtain⟨u,G,_,_⟩:=(r.obj i J ei).there Z
   rw[e,C]at G;cases G
  ·rw[if_neg (ay hj),if_pos y]at e
   obtain⟨u,G,_,_⟩:=(r.obj j Y ej).there mj
   rw[<-e,C]at G;cases G
  ·rw[y,hj]
 ·rcases key i B e with⟨y,e⟩|⟨y,rfl⟩
  ·show RO Γ _ _ (if i=s.length then p else φ i) B
   rw[if_neg (ay y)]
   exact(r.obj i B e).mono g (r.wf i B e) λ _ v hv=>by rw[zm (zK hv C)];exact hv
  ·show RO Γ _ _ (if i=s.length then p else φ i) B
   rw[if_pos y]
   exact ho _ _ g zt
 ·rw[aZ,cM]
  rcases key i B e with⟨y,e⟩|⟨y,rfl⟩
  ·exact qF (cT _) _ (r.wf i B e)
  ·exact qF (cT _) _ hb
theorem Rp.set {φ:Nat->Addr}{H:Hp}{s:kn}{k:Nat}{u:HO}{o B:kM}(r:Rp Γ φ H s)(hk:s[k]?=some B)(J:isMut B=true)(hb:o.bnd s.length=true)
  (ho:∀ H',Gw φ s.length H φ H'->H' (φ k)=some u->RO Γ φ H' (φ k) o) (a1:okd o=okd B:=by rfl):Gr φ s H φ (s.set k o) (upd H (φ k) u)/\Rp Γ φ (upd H (φ k) u) (s.set k o):=by
 obtain⟨v0,C,f0,Y⟩:=(r.obj k B hk).there J
 have a0:k<s.length:=(ab.mp hk).1
 have g:Gw φ s.length H φ (upd H (φ k) u):=⟨λ _ _=>rfl,(Kp.refl H).put C f0⟩
 have key:∀ i y,(s.set k o)[i]?=some y->(i≠k/\s[i]?=some y)\/(i=k/\y=o):=λ i y e=>by
  by_cases h:i=k
  ·subst h;rw[aX a0]at e;exact .inr ⟨rfl,(ao e).symm⟩
  ·rw[a9 (bM h)]at e;exact .inl ⟨h,e⟩
 have mm:∀ i y,(s.set k o)[i]?=some y->isMut y=true->∃ G,s[i]?=some G/\isMut G=true:=λ i y e m=>by
  rcases key i y e with⟨_,e⟩|⟨h,_⟩
  ·exact⟨y,e,m⟩
  ·exact⟨B,by rw[h];exact hk,J⟩
 refine⟨⟨g,by simp,λ i h1 h2=>by rw[bv]at h2;omega,λ i o1 Z e1 e2=>?_,λ b hb=>?_,λ b ob hb nt ne=>by rw[zm (bM (ne k B hk J))];exact hb⟩,λ i j oi oj ei ej mi mj e=>?_,λ i y e=>?_,λ i y e=>?_,r.tab.keepF λ b v hv q=>?_⟩
 ·rcases key i Z e2 with⟨_,e⟩|⟨h,rfl⟩
  ·rw[e1]at e;cases e;rfl
  ·subst h;rw[hk]at e1;cases e1;exact a1
 ·unfold upd;split
  ·simp
  ·exact hb
 ·obtain⟨o1,e1,m1⟩:=mm i oi ei mi
  obtain⟨Z,e2,m2⟩:=mm j oj ej mj
  exact r.inj i j o1 Z e1 e2 m1 m2 e
 ·rcases key i y e with⟨h,e⟩|⟨h,rfl⟩
  ·refine(r.obj i y e).mono g (r.wf i y e) λ m v hv=>?_
   rw[zm λ z=>h (r.inj i k y B e hk m J z)];exact hv
  ·subst h
   exact ho _ g zt
 ·rw[bv]
  rcases key i y e with⟨_,e⟩|⟨_,rfl⟩
  ·exact r.wf i y e
  ·exact hb
 ·rw[zm λ z=>by
   subst z;rw[C]at q;cases q
   rcases hv with h|⟨ps,h⟩
   ·rw[f0]at h;cases h
   ·exact Y _ h]
  exact q
theorem Rp.same {φ:Nat->Addr}{H H':Hp}{s:kn}(r:Rp Γ φ H s)(e:ai5 H H'):Gr φ s H φ s H'/\Rp Γ φ H' s:=by
 have g:Gw φ s.length H φ H':=⟨λ _ _=>rfl,λ b o h _=>e b o h⟩
 exact⟨⟨g,ah _,λ i C y=>absurd y (by omega),λ i o G e e'=>by rw[e]at e';cases e';rfl,λ b hb=>by
  cases q:H b with
  | none=>exact absurd q hb
  | some o=>rw[e b o q];simp,λ b o h _ _=>e b o h⟩,r.inj,λ i o h=>(r.obj i o h).mono g (r.wf i o h) λ _ u B=>e _ u B,r.wf,r.tab.same e⟩
section
variable {φ:Nat->Addr} {H:Hp} {s:kn} {Q:VK}
theorem ag2.alloc {l:List ko}{y:List V}(h:ag2 Γ φ s H (.ref s.length) (s++[.lst l]) Q)(r:Rp Γ φ H s)(hl:RVL Γ φ H l y)(hb:kq s.length l=true){p:Addr}(B:H p=none):Q (.ref p) (upd H p (.lst y)):=by
 obtain⟨g,C⟩:=r.new (o:=.lst l) (u:=.lst y) B hb λ φ' H' g e=>⟨y,e,RVL.monoW g l y hb hl⟩
 have:=h (.ref p) _ _ g (by simp) (by unfold ku;simp) (by unfold RV;simp) C
 exact this
theorem ag2.tup {l:List ko}{y:List V}(h:ag2 Γ φ s H (.tup l) s Q)(r:Rp Γ φ H s)(hl:RVL Γ φ H l y)(hb:kq s.length l=true){p:Addr}(B:H p=none):Q (.ref p) (upd H p (.tup y)):=by
 obtain⟨g,C⟩:=r.same (H':=upd H p (.tup y)) ((ai5.refl H).new B)
 exact h _ _ _ g (ah _) (by unfold ku;exact hb) (RV.tupI (SqT.of zt) (RVL.mono g l y hb hl)) C
theorem ag2.put {k:Nat}{l l0:List ko}{y:List V}{d:ko}{v:V}(h:ag2 Γ φ s H d (s.set k (.lst l)) Q)(r:Rp Γ φ H s)(hk:s[k]?=some (.lst l0))(hl:RVL Γ φ H l y)(hb:kq s.length l=true)
  (hd:d.bnd s.length=true) (hv:RV Γ φ H d v):Q v (upd H (φ k) (.lst y)):=by
 obtain⟨g,B⟩:=r.set (o:=.lst l) (u:=.lst y) hk rfl hb λ H' g e=>⟨y,e,RVL.monoW g l y hb hl⟩
 exact h _ _ _ g (by simp) (by rw[bv];exact hd) (RV.mono g d v hd hv) B
end
variable {Γ:Gm}
theorem aA2 {a b:ko}{k:Key}(ha:az8 a=some k)(hb:az8 b=some k):a=b:=by
 cases a with
 | int i =>
  cases ha
  cases b with
  | int j=>cases hb;rfl
  | str y=>cases hb
  | _=>cases hb
 | str x =>
  cases ha
  cases b with
  | int j=>cases hb
  | str y =>
   have h:=ao hb
   injection h with h
   injection h with h
   have B:y=x:=by simpa using h
   rw[B]
  | _=>cases hb
 | _=>cases ha
theorem an1 {d:ko}(h:d.key=true):∃ k,az8 d=some k:=by
 cases d with
 | int i=>exact⟨_,rfl⟩
 | str x=>exact⟨_,rfl⟩
 | _=>cases h
theorem aO2 {φ:Nat->Addr}{H:Hp}{d:ko}{k:Key}{v:V}(h:az8 d=some k)(r:RV Γ φ H d v):v=kV k:=by
 cases d with
 | int i=>cases h;exact r.intE
 | str x=>cases h;exact r.strE
 | _=>cases h
theorem RVD.val {φ:Nat->Addr}{H:Hp}{d:ko}{k:Key}(hk:az8 d=some k):∀ {l:List (ko×ko)} {y:List (Key×V)},RVD Γ φ H l y->(kT d l=none/\aM7 y k=none)\/∃ e v,kT d l=some e/\aM7 y k=some v/\RV Γ φ H e v/\e∈l.map (·.2)
 | [],y,h=>by
  have h:y=[]:=h
  subst h
  exact .inl ⟨rfl,rfl⟩
 | (a,e)::l,y,h=>by
  obtain⟨B,v,r,rfl,e2,C,G⟩:=h
  by_cases z:a=d
  ·subst z
   rw[hk]at e2;cases e2
   exact .inr ⟨e,v,by unfold kT;rw[if_pos rfl],am5 rfl,C,by simp⟩
  ·have J:¬ B=k:=λ q=>z (aA2 e2 (by rw[q];exact hk))
   have Z:kT d ((a,e)::l)=kT d l:=by
    conv=>lhs;unfold kT
    rw[if_neg z]
   rw[Z,am6 (show ¬(B,v).1=k from J)]
   rcases RVD.val hk G with q|⟨e',v',Y,q2,q3,q4⟩
   ·exact .inl q
   ·exact .inr ⟨e',v',Y,q2,q3,by simp at q4 ⊢;exact .inr q4⟩
theorem RVD.repl {φ:Nat->Addr}{H:Hp}{d e:ko}{k:Key}{v:V}(hk:az8 d=some k)(hv:RV Γ φ H e v):∀ {l:List (ko×ko)} {y:List (Key×V)},RVD Γ φ H l y->RVD Γ φ H (l.map λ p=>if p.1=d then(p.1,e)else p) (y.map λ B=>if B.1=k then(B.1,v)else B)
 | [],y,h=>by
  have h:y=[]:=h
  subst h;exact(rfl:([]:List (Key×V))=[])
 | (a,e0)::l,y,h=>by
  obtain⟨C,v0,r,rfl,e2,J,G⟩:=h
  rw[aI,aI]
  by_cases z:a=d
  ·subst z
   rw[hk]at e2;cases e2
   rw[if_pos rfl,if_pos rfl]
   exact⟨k,v,_,rfl,hk,hv,RVD.repl hk hv G⟩
  ·have Y:¬ C=k:=λ q=>z (aA2 e2 (by rw[q];exact hk))
   rw[if_neg z,if_neg Y]
   exact⟨C,v0,_,rfl,e2,J,RVD.repl hk hv G⟩
theorem RVD.snoc {φ:Nat->Addr}{H:Hp}{d e:ko}{k:Key}{v:V}(hk:az8 d=some k)(hv:RV Γ φ H e v):∀ {l:List (ko×ko)} {y:List (Key×V)},RVD Γ φ H l y->RVD Γ φ H (l++[(d,e)]) (y++[(k,v)])
 | [],y,h=>by
  have h:y=[]:=h
  subst h;exact⟨k,v,[],rfl,hk,hv,rfl⟩
 | (a,e0)::l,y,h=>by
  obtain⟨B,v0,r,rfl,e2,C,G⟩:=h
  exact⟨B,v0,_,rfl,e2,C,RVD.snoc hk hv G⟩
theorem RVD.put {φ:Nat->Addr}{H:Hp}{d e:ko}{k:Key}{v:V}{l:List (ko×ko)}{y:List (Key×V)}(hk:az8 d=some k)(hv:RV Γ φ H e v)(h:RVD Γ φ H l y):RVD Γ φ H (kQ d e l) (aA0 y k v):=by
 unfold kQ aA0
 rw[aw0]
 rcases h.val hk with⟨B,q2⟩|⟨e',v',B,q2,_⟩
 ·rw[B,q2];exact h.snoc hk hv
 ·rw[B,q2];exact h.repl hk hv
theorem RVD.length {φ:Nat->Addr}{H:Hp}:∀ {l:List (ko×ko)} {y:List (Key×V)},RVD Γ φ H l y->y.length=l.length
 | [],y,h=>by
  have h:y=[]:=h
  subst h;rfl
 | (a,e)::l,y,h=>by
  obtain⟨C,v,r,rfl,e2,G,B⟩:=h
  rw[aQ,aQ,RVD.length B]
theorem bo3 {n:Nat}{d e:ko}{l:List (ko×ko)}(h:(DV.O.dic l).bnd n=true)(hd:d.bnd n=true)(B:e.bnd n=true):(DV.O.dic (kQ d e l)).bnd n=true:=by
 unfold kz at h ⊢
 rw[aq]at h ⊢
 obtain⟨J,G⟩:=h
 have g1:=ac7.mp J
 have C:=ac7.mp G
 unfold kQ
 refine⟨ac7.mpr λ x hx=>?_,ac7.mpr λ x hx=>?_⟩
 ·obtain⟨p,y,rfl⟩:=av.mp hx
  split at y
  ·obtain⟨q,hq,rfl⟩:=av.mp y
   split
   ·exact g1 _ (bn (f:=(·.1)) hq)
   ·exact g1 _ (bn (f:=(·.1)) hq)
  ·rcases cc.mp y with q|q
   ·exact g1 _ (bn (f:=(·.1)) q)
   ·rw[bN.mp q];exact hd
 ·obtain⟨p,y,rfl⟩:=av.mp hx
  split at y
  ·obtain⟨q,hq,rfl⟩:=av.mp y
   split
   ·exact B
   ·exact C _ (bn (f:=(·.2)) hq)
  ·rcases cc.mp y with q|q
   ·exact C _ (bn (f:=(·.2)) q)
   ·rw[bN.mp q];exact B
theorem an4 {f:ko->ko->Option Bool}{a b:ko}{l m:List ko}{z:Bool}(h:kF f (a::l) (b::m)=some z):∃ x y,f a b=some x/\kF f l m=some y/\z=(x&&y):=by
 unfold kF at h
 cases e1:f a b with
 | none=>rw[e1]at h;cases h
 | some x =>
  cases e2:kF f l m with
  | none=>rw[e1,e2]at h;cases h
  | some y=>rw[e1,e2]at h;exact⟨x,y,rfl,rfl,(ao h).symm⟩
theorem bb1 {f:ko->ko->Option Bool}:∀ {l m:List ko} {z:Bool},kF f l m=some z->∃ e:Nat->Bool,(∀ j d d',l[j]?=some d->m[j]?=some d'->f d d'=some (e j))/\((l.length==m.length)&&(ae (min l.length m.length)).all e)=z
 | [],[],z,h=>by
  unfold kF at h
  cases h
  exact⟨λ _=>true,λ j d d' h=>by simp at h,by simp⟩
 | [],b::m,z,h=>by
  unfold kF at h
  cases h
  exact⟨λ _=>true,λ j d d' h=>by simp at h,by simp⟩
 | a::l,[],z,h=>by
  unfold kF at h
  cases h
  exact⟨λ _=>true,λ j d d' G B=>by simp at B,by simp⟩
 | a::l,b::m,z,h=>by
  obtain⟨x,y,e1,e2,J⟩:=an4 h
  obtain⟨e,G,B⟩:=bb1 e2
  refine⟨λ j=>match j with|0=>x|j+1=>e j,λ j d d' g1 C=>?_,?_⟩
  ·cases j with
   | zero=>simp at g1 C;subst g1;subst C;exact e1
   | succ j=>exact G j d d' (by simpa using g1) (by simpa using C)
  ·rw[aQ,aQ,show min (l.length+1) (m.length+1)=min l.length m.length+1 by omega,dC,fi,List.all_map,J,<-B]
   have:((l.length+1==m.length+1)=(l.length==m.length)):=by
    by_cases q:l.length=m.length
    ·simp[q]
    ·have:¬ l.length+1=m.length+1:=by omega
     simp[q]
   rw[this]
   show((l.length==m.length)&&(x&&(ae _).all e))=_
   cases x<;>cases(l.length==m.length)<;>simp
section
variable {X:Cx} {pins:List (Addr×Obj)} {σ:St} {H:Hp} {sh:af} {φ:Nat->Addr} {s:kn}
theorem an8 (I:Inv X pins σ H sh){a:Addr}{y ys:List V}(h:H a=some (.lst y))(h':SqT X.K H a ys):False:=by
 rcases h' with(z|⟨o,z⟩)|⟨o,its,n,hk,_⟩
 ·rw[h]at z;cases z
 ·rw[h]at z;cases z
 ·have:=(I.bs a o (I.mod.kin a o hk)).2
  rw[h]at this;cases this
theorem rv_two (I:Inv X pins σ H sh)(Y:X.K=Γ.K)(R:Rp Γ φ H s){a b:ko}{x:V}(C:RV Γ φ H a x)(y:RV Γ φ H b x)(n1:kH s a≠9)(n2:kH s b≠9):a=b\/∃ l m p G,a=.tup l/\b=.tup m/\x=.ref p/\RVL Γ φ H l G/\RVL Γ φ H m G:=by
 have B:∀ {r:Nat},kH s (.ref r)≠9->∃ l,s[r]?=some (.lst l):=λ {r} h=>by
  have h:(match s[r]? with|some (DV.O.lst l)=>4|_=>9:Nat)≠9:=h
  cases hs:s[r]? with
  | none=>rw[hs]at h;exact absurd rfl h
  | some o =>
   rw[hs]at h
   cases o with
   | lst l=>exact⟨l,rfl⟩
   | _=>exact absurd rfl h
 cases a with
 | non=>have e:=C.nonE;subst e;cases b with
  | non=>exact .inl rfl
  | bl _=>cases y.blE
  | int _=>cases y.intE
  | str _=>cases y.strE
  | tup _=>obtain⟨_,_,e,_⟩:=y.tupE;cases e
  | ref _=>cases y.refE
  | fn _=>exact absurd rfl n2
  | clo _ _=>exact absurd rfl n2
 | bl p=>have e:=C.blE;subst e;cases b with
  | non=>cases y.nonE
  | bl _=>cases y.blE;exact .inl rfl
  | int _=>cases y.intE
  | str _=>cases y.strE
  | tup _=>obtain⟨_,_,e,_⟩:=y.tupE;cases e
  | ref _=>cases y.refE
  | fn _=>exact absurd rfl n2
  | clo _ _=>exact absurd rfl n2
 | int p=>have e:=C.intE;subst e;cases b with
  | non=>cases y.nonE
  | bl _=>cases y.blE
  | int _=>cases y.intE;exact .inl rfl
  | str _=>cases y.strE
  | tup _=>obtain⟨_,_,e,_⟩:=y.tupE;cases e
  | ref _=>cases y.refE
  | fn _=>exact absurd rfl n2
  | clo _ _=>exact absurd rfl n2
 | str p=>have e:=C.strE;subst e;cases b with
  | non=>cases y.nonE
  | bl _=>cases y.blE
  | int _=>cases y.intE
  | str q =>
   have e':p.toArray=q.toArray:=Str.mk.inj (V.str.inj y.strE)
   have a0:p=q:=by simpa using congrArg ip e'
   subst a0;exact .inl rfl
  | tup _=>obtain⟨_,_,e,_⟩:=y.tupE;cases e
  | ref _=>cases y.refE
  | fn _=>exact absurd rfl n2
  | clo _ _=>exact absurd rfl n2
 | tup l =>
  obtain⟨p,G,e,J,d1⟩:=C.tupE;subst e;cases b with
  | non=>cases y.nonE
  | bl _=>cases y.blE
  | int _=>cases y.intE
  | str _=>cases y.strE
  | tup m =>
   obtain⟨p',ys,e,q2,Z⟩:=y.tupE
   cases e
   rw[<-Y]at J q2
   rw[I.tuple_inj q2 J]at Z
   exact .inr ⟨l,m,p,G,rfl,rfl,rfl,d1,Z⟩
  | ref r =>
   cases y.refE
   obtain⟨m,hm⟩:=B n2
   obtain⟨ys,hy,_⟩:=R.addr hm
   rw[<-Y]at J
   exact(an8 I hy J).elim
  | fn _=>exact absurd rfl n2
  | clo _ _=>exact absurd rfl n2
 | ref r =>
  have e:=C.refE;subst e
  obtain⟨l,hl⟩:=B n1
  obtain⟨G,hx,_⟩:=R.addr hl
  cases b with
  | non=>cases y.nonE
  | bl _=>cases y.blE
  | int _=>cases y.intE
  | str _=>cases y.strE
  | tup m =>
   obtain⟨p',ys,e,q2,Z⟩:=y.tupE
   cases e
   rw[<-Y]at q2
   exact(an8 I hx q2).elim
  | ref r' =>
   obtain⟨m,hm⟩:=B n2
   have e:φ r=φ r':=V.ref.inj y.refE
   rw[R.inj r r' _ _ hl hm rfl rfl e]
   exact .inl rfl
  | fn _=>exact absurd rfl n2
  | clo _ _=>exact absurd rfl n2
 | fn _=>exact absurd rfl n1
 | clo _ _=>exact absurd rfl n1
theorem jv {a b:ko}{z:Bool}(h:kJ s a b=some z):lB a b=some z\/(lB a b=none/\lc (kH s a) (kH s b)=false/\z=false):=by
 unfold kJ at h
 cases e:lB a b with
 | some w=>rw[e]at h;exact .inl h
 | none =>
  rw[e]at h
  cases q:lc (kH s a) (kH s b)with
  | true=>rw[q]at h;cases h
  | false=>rw[q]at h;exact .inr ⟨rfl,rfl,(ao h).symm⟩
theorem bp6 {a b:ko}{z:Bool}(h:lB a b=some z):kH s a≠9/\kH s b≠9:=by
 cases a<;>cases b<;>first|(cases h;done)|(constructor<;>(intro z;cases z))
theorem ai4 {a b:ko}{z:Bool}(h:kJ s a b=some z):kH s a≠9/\kH s b≠9:=by
 rcases jv h with h|⟨_,h,_⟩
 ·exact bp6 h
 ·unfold lc at h
  simp only[dR,beq_eq_false_iff_ne]at h
  exact⟨h.1.1,h.1.2⟩
theorem aH4 {a:ko}{z:Bool}(h:kJ s a a=some z):z=true:=by
 rcases jv h with h|⟨_,h,_⟩
 ·cases a<;>cases h<;>first|rfl|exact beq_self_eq_true _
 ·unfold lc at h;simp at h
theorem aL6 (I:Inv X pins σ H sh)(hK:X.K=Γ.K)(R:Rp Γ φ H s):∀(n:Nat) (a b:ko) (x:V) (z:Bool),kA s n a b=some z->RV Γ φ H a x->RV Γ φ H b x->z=true:=by
 have C:∀(a b:ko) (x:V) (z:Bool),kJ s a b=some z->RV Γ φ H a x->RV Γ φ H b x->z=true:=by
  intro a b x z h B y
  rcases rv_two I hK R B y (ai4 h).1 (ai4 h).2 with e|⟨l,m,_,_,rfl,rfl,_⟩
  ·subst e;exact aH4 h
  ·rcases jv h with h|⟨_,h,_⟩
   ·cases h
   ·unfold lc at h;simp[kH]at h
 intro n
 induction n with
 | zero=>intro a b x z h;unfold kA at h;exact C a b x z h
 | succ n ih =>
  have J:∀(l m:List ko) (G:List V) (z:Bool),kF (kA s n) l m=some z->RVL Γ φ H l G->RVL Γ φ H m G->z=true:=by
   intro l
   induction l with
   | nil =>
    intro m G z h B y
    cases m with
    | nil=>unfold kF at h;exact(ao h).symm
    | cons b m=>obtain⟨x,r,e,_⟩:=y.uncons;rw[B.unnil]at e;cases e
   | cons a l ihl =>
    intro m G z h B y
    cases m with
    | nil=>obtain⟨x,r,e,_⟩:=B.uncons;rw[y.unnil]at e;cases e
    | cons b m =>
     obtain⟨p,q,e1,e2,ez⟩:=an4 h
     obtain⟨v,r,rfl,g1,g2⟩:=B.uncons
     obtain⟨v',r',e,g3,g4⟩:=y.uncons
     cases e
     rw[ez,ih a b v p e1 g1 g3,ihl m r q e2 g2 g4];rfl
  intro a b x z h B y
  unfold kA at h
  split at h
  ·rename_i l m
   obtain⟨a,G,rfl,q1,d1⟩:=B.tupE
   obtain⟨b,ys,e,q2,Y⟩:=y.tupE
   cases e
   rw[<-hK]at q1 q2
   rw[I.tuple_inj q2 q1]at Y
   exact J l m G z h d1 Y
  ·rename_i p q
   split at h
   ·rename_i l m hl hm
    obtain⟨G,e1,d1⟩:=R.addr hl
    obtain⟨ys,e2,Y⟩:=R.addr hm
    have e:=B.refE.symm.trans y.refE
    have e':φ p=φ q:=V.ref.inj e
    rw[e',e2]at e1
    have e3:ys=G:=by injection (ao e1)
    subst e3
    split at h
    ·exact J l m ys z h d1 Y
    ·rename_i Z;exact absurd (d1.length.symm.trans Y.length) Z
   ·cases h
  ·exact C a b x z h B y
end
variable {Γ:Gm}
inductive Vw (sh:af):Nat->Value->Prop where
 | non:Vw sh 0 .none
 | bl (b:Bool):Vw sh 1 (.bool b)
 | int (i:Int) (t:Tok):Vw sh 1 (.int i t)
 | str (x:Str) (t:Tok):Vw sh 2 (.str x t)
 | tup {l:Addr} {items:Array Value} (h:sh.heap.IsTuple l items):Vw sh 3 (.ref l)
 | lst {l:Addr} {items:Array Value} (h:sh.heap.IsList l items):Vw sh 4 (.ref l)
theorem Vw.eq {A:aU}{sh:af}{k B:Nat}{u v:Value}(a:Vw sh k u)(b:Vw sh B v)(hne:k≠B)(y:A.units<cLine):eG A sh u v false:=by
 cases a with
 | non=>cases b with
  | non=>exact absurd rfl hne
  | bl b=>exact SeqAt.EqAt.none_bool b
  | int i t=>exact SeqAt.EqAt.none_int i t
  | str x t=>exact SeqAt.EqAt.none_str x t
  | tup h=>exact SeqAt.EqAt.none_tuple h y
  | lst h=>exact SeqAt.EqAt.none_list h y
 | bl a=>cases b with
  | non=>exact SeqAt.EqAt.bool_none a
  | bl b=>exact absurd rfl hne
  | int i t=>exact absurd rfl hne
  | str x t=>exact SeqAt.EqAt.bool_str a x t
  | tup h=>exact SeqAt.EqAt.bool_tuple a h y
  | lst h=>exact SeqAt.EqAt.bool_list a h y
 | int a q=>cases b with
  | non=>exact SeqAt.EqAt.int_none a q
  | bl b=>exact absurd rfl hne
  | int i t=>exact absurd rfl hne
  | str x t=>exact g6 a q x t
  | tup h=>exact SeqAt.EqAt.int_tuple a q h y
  | lst h=>exact SeqAt.EqAt.int_list a q h y
 | str a q=>cases b with
  | non=>exact SeqAt.EqAt.str_none a q
  | bl b=>exact SeqAt.EqAt.str_bool a q b
  | int i t=>exact g7 a q i t
  | str x t=>exact absurd rfl hne
  | tup h=>exact SeqAt.EqAt.str_tuple a q h y
  | lst h=>exact SeqAt.EqAt.str_list a q h y
 | tup g=>cases b with
  | non=>exact SeqAt.EqAt.tuple_none g y
  | bl b=>exact SeqAt.EqAt.tuple_bool b g y
  | int i t=>exact SeqAt.EqAt.tuple_int i t g y
  | str x t=>exact SeqAt.EqAt.tuple_str x t g y
  | tup h=>exact absurd rfl hne
  | lst h=>exact SeqAt.EqAt.tuple_list g h y
 | lst g=>cases b with
  | non=>exact SeqAt.EqAt.list_none g y
  | bl b=>exact SeqAt.EqAt.list_bool b g y
  | int i t=>exact SeqAt.EqAt.list_int i t g y
  | str x t=>exact SeqAt.EqAt.list_str x t g y
  | tup h=>exact SeqAt.EqAt.list_tuple g h y
  | lst h=>exact absurd rfl hne
theorem Vw.rc {A:aU}{sh:af}{k B:Nat}{u v:Value}(a:Vw sh k u)(b:Vw sh B v)(hne:k≠B)(y:A.units<cLine):km A sh u v false:=by
 cases a with
 | non=>cases b with
  | non=>exact absurd rfl hne
  | bl b=>exact SeqAt.RcAt.none_bool b
  | int i t=>exact SeqAt.RcAt.none_int i t
  | str x t=>exact SeqAt.RcAt.none_str x t
  | tup h=>exact SeqAt.RcAt.none_tuple h y
  | lst h=>exact SeqAt.RcAt.none_list h y
 | bl a=>cases b with
  | non=>exact SeqAt.RcAt.bool_none a
  | bl b=>exact absurd rfl hne
  | int i t=>exact absurd rfl hne
  | str x t=>exact SeqAt.RcAt.bool_str a x t
  | tup h=>exact SeqAt.RcAt.bool_tuple a h y
  | lst h=>exact SeqAt.RcAt.bool_list a h y
 | int a q=>cases b with
  | non=>exact SeqAt.RcAt.int_none a q
  | bl b=>exact absurd rfl hne
  | int i t=>exact absurd rfl hne
  | str x t=>exact SeqAt.RcAt.int_str a q x t
  | tup h=>exact SeqAt.RcAt.int_tuple a q h y
  | lst h=>exact SeqAt.RcAt.int_list a q h y
 | str a q=>cases b with
  | non=>exact SeqAt.RcAt.str_none a q
  | bl b=>exact SeqAt.RcAt.str_bool a q b
  | int i t=>exact SeqAt.RcAt.str_int a q i t
  | str x t=>exact absurd rfl hne
  | tup h=>exact SeqAt.RcAt.str_tuple a q h y
  | lst h=>exact SeqAt.RcAt.str_list a q h y
 | tup g=>cases b with
  | non=>exact SeqAt.RcAt.tuple_none g y
  | bl b=>exact SeqAt.RcAt.tuple_bool b g y
  | int i t=>exact SeqAt.RcAt.tuple_int i t g y
  | str x t=>exact SeqAt.RcAt.tuple_str x t g y
  | tup h=>exact absurd rfl hne
  | lst h=>exact SeqAt.RcAt.tuple_list g h y
 | lst g=>cases b with
  | non=>exact SeqAt.RcAt.list_none g y
  | bl b=>exact SeqAt.RcAt.list_bool b g y
  | int i t=>exact SeqAt.RcAt.list_int i t g y
  | str x t=>exact SeqAt.RcAt.list_str x t g y
  | tup h=>exact SeqAt.RcAt.list_tuple g h y
  | lst h=>exact absurd rfl hne
theorem Vw.ne {A:aU}{sh:af}{k B:Nat}{u v:Value}(a:Vw sh k u)(b:Vw sh B v)(hne:k≠B)(y:A.units<cLine):j7 A sh u v true:=by
 cases a with
 | non=>cases b with
  | non=>exact absurd rfl hne
  | bl b=>exact SeqAt.RcNeAt.none_bool b
  | int i t=>exact SeqAt.RcNeAt.none_int i t
  | str x t=>exact SeqAt.RcNeAt.none_str x t
  | tup h=>exact SeqAt.RcNeAt.none_tuple h y
  | lst h=>exact SeqAt.RcNeAt.none_list h y
 | bl a=>cases b with
  | non=>exact SeqAt.RcNeAt.bool_none a
  | bl b=>exact absurd rfl hne
  | int i t=>exact absurd rfl hne
  | str x t=>exact SeqAt.RcNeAt.bool_str a x t
  | tup h=>exact SeqAt.RcNeAt.bool_tuple a h y
  | lst h=>exact SeqAt.RcNeAt.bool_list a h y
 | int a q=>cases b with
  | non=>exact SeqAt.RcNeAt.int_none a q
  | bl b=>exact absurd rfl hne
  | int i t=>exact absurd rfl hne
  | str x t=>exact SeqAt.RcNeAt.int_str a q x t
  | tup h=>exact SeqAt.RcNeAt.int_tuple a q h y
  | lst h=>exact SeqAt.RcNeAt.int_list a q h y
 | str a q=>cases b with
  | non=>exact SeqAt.RcNeAt.str_none a q
  | bl b=>exact SeqAt.RcNeAt.str_bool a q b
  | int i t=>exact SeqAt.RcNeAt.str_int a q i t
  | str x t=>exact absurd rfl hne
  | tup h=>exact SeqAt.RcNeAt.str_tuple a q h y
  | lst h=>exact SeqAt.RcNeAt.str_list a q h y
 | tup g=>cases b with
  | non=>exact SeqAt.RcNeAt.tuple_none g y
  | bl b=>exact SeqAt.RcNeAt.tuple_bool b g y
  | int i t=>exact SeqAt.RcNeAt.tuple_int i t g y
  | str x t=>exact SeqAt.RcNeAt.tuple_str x t g y
  | tup h=>exact absurd rfl hne
  | lst h=>exact SeqAt.RcNeAt.tuple_list g h y
 | lst g=>cases b with
  | non=>exact SeqAt.RcNeAt.list_none g y
  | bl b=>exact SeqAt.RcNeAt.list_bool b g y
  | int i t=>exact SeqAt.RcNeAt.list_int i t g y
  | str x t=>exact SeqAt.RcNeAt.list_str x t g y
  | tup h=>exact SeqAt.RcNeAt.list_tuple g h y
  | lst h=>exact absurd rfl hne
theorem bX7 (a b:List Nat):((⟨a.toArray⟩:Str)==⟨b.toArray⟩)=(a==b):=by
 by_cases e:a=b
 ·subst e;simp
 ·have:(⟨a.toArray⟩:Str)≠⟨b.toArray⟩:=λ q=>e (by simpa using congrArg (λ z=>z.cps.toList) q)
  rw[beq_eq_false_iff_ne.mpr this,beq_eq_false_iff_ne.mpr e]
structure Cmp (A:aU)(sh:af)(u v:Value)(z:Bool):Prop where
 rc:km A sh u v z
 ne:j7 A sh u v (!z)
section
variable {X:Cx} {pins:List (Addr×Obj)} {σ:St} {H:Hp} {sh:af} {φ:Nat->Addr} {s:kn}
theorem bR4 (I:Inv X pins σ H sh)(B:X.K=Γ.K)(R:Rp Γ φ H s){d:ko}{x:V}{u:Value}(h:RV Γ φ H d x)(r:RelV x u)(hk:kH s d≠9):Vw sh (kH s d) u:=by
 cases d with
 | non=>have e:=h.nonE;subst e;cases r;exact .non
 | bl b=>have e:=h.blE;subst e;cases r;exact .bl b
 | int i=>have e:=h.intE;subst e;obtain⟨t,rfl⟩:=r;exact .int i t
 | str y=>have e:=h.strE;subst e;obtain⟨t,rfl⟩:=r;exact .str _ t
 | tup l =>
  obtain⟨a,C,e,q,_⟩:=h.tupE
  subst e;cases r
  rw[<-B]at q
  obtain⟨its,_,t,_⟩:=I.tuple q
  exact .tup t
 | ref n =>
  have e:=h.refE;subst e;cases r
  have hk:(match s[n]? with|some (DV.O.lst l)=>4|_=>9:Nat)≠9:=hk
  show Vw sh (match s[n]? with|some (DV.O.lst l)=>4|_=>9:Nat) _
  cases hs:s[n]? with
  | none=>rw[hs]at hk;exact absurd rfl hk
  | some o =>
   rw[hs]at hk
   cases o with
   | lst l =>
    obtain⟨C,e,_⟩:=R.addr hs
    obtain⟨its,_,t,_⟩:=I.list (SqL.of e)
    exact .lst t.isList
   | _=>exact absurd rfl hk
 | fn _=>exact absurd rfl hk
 | clo _ _=>exact absurd rfl hk
theorem aD3 (I:Inv X pins σ H sh)(Z:X.K=Γ.K)(R:Rp Γ φ H s){a b:ko}{x y:V}{u v:Value}{A:aU}{z:Bool}(h:kJ s a b=some z)(G:RV Γ φ H a x)(B:RV Γ φ H b y)(r1:RelV x u)(C:RelV y v)(Y:A.units<cLine) :
  eG A sh u v z/\Cmp A sh u v z:=by
 rcases jv h with h|⟨_,hn,hz⟩
 ·cases a<;>cases b<;>try cases h
  ·cases G.nonE;cases B.nonE;cases r1;cases C
   exact⟨f7 _,SeqAt.RcAt.none_none,SeqAt.RcNeAt.none_none⟩
  ·cases G.blE;cases B.blE;cases r1;cases C
   exact⟨SeqAt.EqAt.bool_bool _ _,SeqAt.RcAt.bool_bool _ _,SeqAt.RcNeAt.bool_bool _ _⟩
  ·cases G.blE;cases B.intE;cases r1;obtain⟨t',rfl⟩:=C
   exact⟨SeqAt.EqAt.bool_int _ _ _,SeqAt.RcAt.bool_int _ _ _,SeqAt.RcNeAt.bool_int _ _ _⟩
  ·cases G.intE;cases B.blE;obtain⟨t,rfl⟩:=r1;cases C
   exact⟨SeqAt.EqAt.int_bool _ _ _,SeqAt.RcAt.int_bool _ _ _,SeqAt.RcNeAt.int_bool _ _ _⟩
  ·cases G.intE;cases B.intE;obtain⟨t,rfl⟩:=r1;obtain⟨t',rfl⟩:=C
   exact⟨SeqAt.EqAt.int_int _ _ _ _,SeqAt.RcAt.int_int _ _ _ _,SeqAt.RcNeAt.int_int _ _ _ _⟩
  ·cases G.strE;cases B.strE;obtain⟨t,rfl⟩:=r1;obtain⟨t',rfl⟩:=C
   rw[<-bX7]
   exact⟨SeqAt.EqAt.str_str _ _ _ _,SeqAt.RcAt.str_str _ _ _ _,SeqAt.RcNeAt.str_str _ _ _ _⟩
 ·subst hz
  unfold lc at hn
  simp only[dR,beq_eq_false_iff_ne]at hn
  have J:=bR4 I Z R G r1 hn.1.1
  have w2:=bR4 I Z R B C hn.1.2
  exact⟨J.eq w2 hn.2 Y,J.rc w2 hn.2 Y,J.ne w2 hn.2 Y⟩
theorem aM0 (I:Inv X pins σ H sh)(hK:X.K=Γ.K)(R:Rp Γ φ H s):∀(n:Nat) (a b:ko) (x y:V) (u v:Value) (A:aU) (z:Bool),kA s n a b=some z->RV Γ φ H a x->RV Γ φ H b y->RelV x u->RelV y v->Room n A ->
  eG A sh u v z/\Cmp A sh u v z:=by
 intro n
 induction n with
 | zero=>intro a b x y u v A z h h1 h2 r1 r2 C;unfold kA at h;exact aD3 I hK R h h1 h2 r1 r2 C.units0
 | succ n ih =>
  have B:∀ {l m:List ko} {xs ys:List V} {its its':List Value} {A:aU} {e:Nat->Bool},RVL Γ φ H l xs->RVL Γ φ H m ys->Vals xs its->Vals ys its'->Room n A->(∀ j d d',l[j]?=some d->m[j]?=some d'->kA s n d d'=some (e j)) ->
    ∀ j (h1:j<its.toArray.size) (h2:j<its'.toArray.size),eG A sh its.toArray[j] its'.toArray[j] (e j):=by
   intro l m xs ys its its' A e d1 Z Y v2 C he j h1 h2
   have l1:=Y.length
   have l2:=v2.length
   have e1:=d1.length
   have e2:=Z.length
   have a4:j<its.length:=by simpa using h1
   have a2:j<its'.length:=by simpa using h2
   have hj:j<l.length:=by omega
   have a1:j<m.length:=by omega
   obtain⟨x,ex,dx⟩:=d1.get (ag hj)
   obtain⟨y,ey,dy⟩:=Z.get (ag a1)
   obtain⟨u,eu,ru⟩:=Y.get ex
   obtain⟨w,ew,a3⟩:=v2.get ey
   have g1:its.toArray[j]=u:=by
    have:=ag a4
    rw[eu]at this
    simpa using(ao this).symm
   have g2:its'.toArray[j]=w:=by
    have:=ag a2
    rw[ew]at this
    simpa using(ao this).symm
   rw[g1,g2]
   exact(ih _ _ x y u w A (e j) (he j _ _ (ag hj) (ag a1)) dx dy ru a3 C).1
  intro a b x y u v A z h h1 h2 r1 r2 C
  have hz:=h
  unfold kA at h
  split at h
  ·rename_i l m
   obtain⟨p,xs,ex,q1,d1⟩:=id h1.tupE
   obtain⟨q,ys,ey,q2,Z⟩:=id h2.tupE
   subst ex;subst ey
   cases r1;cases r2
   rw[<-hK]at q1 q2
   obtain⟨its,Y,t1,_⟩:=I.tuple q1
   obtain⟨its',v2,t2,_⟩:=I.tuple q2
   obtain⟨e,he,J⟩:=bb1 h
   have l1:=Y.length
   have l2:=v2.length
   have e1:=d1.length
   have e2:=Z.length
   have sz:((ae (min its.toArray.size its'.toArray.size)).all e&&its.toArray.size==its'.toArray.size)=z:=by
    rw[<-J,Bool.and_comm,show its.toArray.size=l.length by simp;omega,show its'.toArray.size=m.length by simp;omega]
   have key:=SeqAt.RcAt.tuples (A:=A) (s:=sh) (e:=e) t1 t2 C.units0 (B d1 Z Y v2 C.in1 he)
   have G:=SeqAt.RcNeAt.tuples (A:=A) (s:=sh) (e:=e) t1 t2 C.units0 (B d1 Z Y v2 C.in1 he)
   rw[sz]at key G
   refine⟨?_,key,G⟩
   by_cases hab:p=q
   ·subst hab
    rw[aL6 I hK R _ _ _ _ _ hz h1 h2]
    exact f7 _
   ·exact ig hab key
  ·rename_i p q
   split at h
   ·rename_i l m hl hm
    obtain⟨xs,e1,d1⟩:=R.addr hl
    obtain⟨ys,e2,Z⟩:=R.addr hm
    have ex:=h1.refE
    have ey:=h2.refE
    subst ex;subst ey
    cases r1;cases r2
    obtain⟨its,Y,t1,_⟩:=I.list (SqL.of e1)
    obtain⟨its',v2,t2,_⟩:=I.list (SqL.of e2)
    have l1:=Y.length
    have l2:=v2.length
    have c1:=d1.length
    have c2:=Z.length
    have fin:Cmp A sh (.ref (φ p)) (.ref (φ q)) z:=by
     split at h
     ·rename_i a0
      obtain⟨e,he,J⟩:=bb1 h
      have sz:(ae its.toArray.size).all e=z:=by
       rw[<-J,show its.toArray.size=l.length by simp;omega,a0]
       simp
      have key:=SeqAt.RcAt.lists (A:=A) (s:=sh) (e:=e) t1.isList t2.isList (by simp;omega) C.units0 (B d1 Z Y v2 C.in1 he)
      have G:=SeqAt.RcNeAt.lists (A:=A) (s:=sh) (e:=e) t1.isList t2.isList (by simp;omega) C.units0 (B d1 Z Y v2 C.in1 he)
      rw[sz]at key G
      exact⟨key,G⟩
     ·rename_i a0
      cases h
      have hs:(its.toArray.size != its'.toArray.size)=true:=by simp;omega
      exact⟨SeqAt.RcAt.lists_lengths t1.isList t2.isList hs C.units0,SeqAt.RcNeAt.lists_lengths t1.isList t2.isList hs C.units0⟩
    refine⟨?_,fin⟩
    by_cases hab:φ p=φ q
    ·rw[aL6 I hK R _ _ _ _ _ hz RV.refI (by rw[hab];exact RV.refI),hab]
     exact f7 _
    ·exact ig hab fin.rc
   ·cases h
  ·exact aD3 I hK R h h1 h2 r1 r2 C.units0
end
variable {Γ:Gm} {X:Cx}
noncomputable def cf1:lJ->i0
 | .add=>.Add|.sub=>.Sub|.mul=>.Mult|.fdiv=>.FloorDiv|.mod=>.Mod|.pow=>.Pow|.shl=>.LShift|.shr=>.RShift|.band=>.BitAnd|.bor=>.BitOr
noncomputable def bx8:lC->CmpOp
 | .eq=>.Eq|.ne=>.NotEq|.lt=>.Lt|.le=>.LtE|.gt=>.Gt|.ge=>.GtE|.isin=>.In|.notin=>.NotIn
def rOp (Γ:Gm)(f:ko->ko->kn->kt ko):R2:=λ x y H Q=>∃ φ s a b d s',Rp Γ φ H s/\RV Γ φ H a x/\RV Γ φ H b y/\a.bnd s.length=true/\b.bnd s.length=true/\f a b s=.ok d s'/\ag2 Γ φ s H d s' Q
theorem qv {d e:ko}{s t:kn}(h:lD d s=.ok e t):d=e/\s=t:=by
 unfold lD at h
 cases h
 exact⟨rfl,rfl⟩
theorem qT {o:kM}{e:ko}{s t:kn}(h:k6 o s=.ok e t):e=.ref s.length/\t=s++[o]:=by
 unfold k6 at h
 cases h
 exact⟨rfl,rfl⟩
theorem bz7 (a b:List Nat):(⟨a.toArray⟩:Str)++⟨b.toArray⟩=⟨(a++b).toArray⟩:=by
 show Str.append _ _=_
 unfold Str.append
 simp
theorem qV:kC<=aL:=by rw[dN];decide
theorem bx7:OpR X (bV .Mult) (rI (λ i j=>DV.mulOk i j=true) λ i j=>.int (i*j)):=opI λ i j _ _ _ _ _ hc q=>mul_int q (by
 unfold DV.mulOk at hc
 simp only[bD,aq,decide_eq_true_eq]at hc
 rcases hc with(h|h)|⟨y,B⟩
 ·exact bZ9.ok (.inl (by omega))
 ·exact bZ9.ok (.inr (by omega))
 ·unfold DV.BIG at y B
  exact IntMulOk.of_le (m:=60000) (n:=60000) (intBits_le_iff.mpr y) (intBits_le_iff.mpr B) (by decide))
theorem aO0 (l:List Nat):∀(n:Nat) (h:Array Nat),(ak n l.toArray).foldl (·++·) h=h++(kG n l).toArray
 | 0,h=>by simp[kG]
 | n+1,h=>by
  rw[bE,cg,aO0 l n]
  simp[kG,g8]
theorem bB6 (l:List Nat):kG 1 l=l:=by simp[kG]
theorem be2:∀ n,kG n []=[]
 | 0=>rfl
 | n+1=>by simp[kG,be2 n]
theorem rep_len (l:List Nat):∀ n,(kG n l).length=l.length*n
 | 0=>by simp[kG]
 | n+1=>by simp[kG,rep_len l n,gC];omega
theorem bz3:OpR X (bV .Mult) (λ x y H Q=>∃(l:List Nat) (n:Int),x=.str ⟨l.toArray⟩/\y=.int n/\(0<=n/\n<=1000000/\l.length*n.toNat<=kC)/\Q (.str ⟨(kG n.toNat l).toArray⟩) H):=by
 intro G s σ H x y v u Q I rx ry h
 obtain⟨l,n,rfl,rfl,⟨h0,Y,J⟩,q⟩:=h
 obtain⟨t,rfl⟩:=rx
 obtain⟨t',rfl⟩:=ry
 have B:(⟨l.toArray⟩:Str).length=l.length:=by show l.toArray.size=_;simp
 have hL:=qV
 have a0:=ao7
 refine SB.mul ⟨?_,λ hn _=>?_,λ hn _=>?_⟩ λ t2 k=>?_
 ·rw[decide_eq_false (by omega),decide_eq_false (by omega)];rfl
 ·rw[B]
  have C:1<=n:=by omega
  intro Z
  have h3:(l.length:Int)*n<=1000000:=by
   have:((l.length*n.toNat:Nat):Int)<=(kC:Nat):=Int.ofNat_le.mpr J
   rw[iP,gQ h0]at this
   have e:((kC:Nat):Int)=1000000:=by unfold kC;rfl
   omega
  have h4:(l.length:Int)<=1000000:=by
   have:(l.length:Int)*1<=(l.length:Int)*n:=dS C (by omega)
   omega
  have h5:(1000000:Int)<=(2^63 - 1) / n:=by
   rw[Int.le_ediv_iff_mul_le (by omega)]
   have:(1000000:Int)*n<=1000000*1000000:=dS Y (by omega)
   omega
  omega
 ·rw[B]
  unfold jR
  exact decide_eq_false (by omega)
 ·have e:Txt.mul ⟨l.toArray⟩ n=⟨(kG n.toNat l).toArray⟩:=by
   unfold Txt.mul
   split
   ·have:n.toNat=0:=by omega
    rw[this];rfl
   ·split
    ·rename_i hc
     rw[bD]at hc
     rcases hc with hc|hc
     ·have:n=1:=by simpa using hc
      subst this
      show(⟨l.toArray⟩:Str)=⟨(kG 1 l).toArray⟩
      rw[bB6]
     ·have:l=[]:=by
       have:=eq_of_beq hc
       rw[B]at this
       exact dk.mp this
      subst this
      rw[be2]
    ·show(⟨(ak n.toNat l.toArray).foldl (·++·) #[]⟩:Str)=_
     rw[aO0];simp
  rw[e]
  exact⟨.str _,H,I.tok _,⟨_,rfl⟩,q⟩
theorem ao4 {n:Nat}{l:List ko}(h:kq n l=true):∀ k,kq n (lK k l)=true
 | 0=>rfl
 | k+1=>ql h (ao4 h k)
theorem RVL.repD {φ:Nat->Addr}{H:Hp}{l:List ko}{y:List V}(h:RVL Γ φ H l y):∀ k,RVL Γ φ H (lK k l) (au5 k y)
 | 0=>RVL.nil
 | k+1=>h.append (RVL.repD h k)
theorem aA8 {α:Type}(h:List α):∀ k,au5 k h=(ak k h).flatten
 | 0=>rfl
 | k+1=>by rw[bE,cQ,<-aA8 h k];rfl
theorem bT0 (hK:X.K=Γ.K)(op:lJ):OpR X (bV (cf1 op)) (rOp Γ (DV.qN op)):=by
 intro C s σ H x y v u Q I J Y h
 obtain⟨φ,st,a,b,d,a0,R,ha,hb,na,nb,B,q⟩:=h
 cases op with
 | add =>
  cases a with
  | int a =>
   cases b with
   | int b =>
    change(lD _) st=_ at B
    obtain⟨rfl,rfl⟩:=qv B
    have ex:=ha.intE;have G:=hb.intE;subst ex;subst G
    exact bU9 C s σ H _ _ v u Q I J Y ⟨_,_,rfl,rfl,q.here R rfl RV.intI⟩
   | _=>exact fb B
  | str a =>
   cases b with
   | str b =>
    change(if _ then _ else _:li ko) st=_ at B
    split at B
    ·rename_i hl
     obtain⟨rfl,rfl⟩:=qv B
     have ex:=ha.strE;have G:=hb.strE;subst ex;subst G
     refine aU5 C s σ H _ _ v u Q I J Y ⟨_,_,rfl,rfl,?_,?_⟩
     ·show a.toArray.size+b.toArray.size<=_
      simp only[aA]
      exact aw hl qV
     ·rw[bz7];exact q.here R rfl (RV.strI (by rw[aZ];exact hl))
    ·exact fb B
   | _=>exact fb B
  | tup a =>
   cases b with
   | tup b =>
    change(if _ then _ else _:li ko) st=_ at B
    split at B
    ·rename_i hl
     obtain⟨rfl,rfl⟩:=qv B
     obtain⟨p,xs,rfl,Z,d1⟩:=ha.tupE
     obtain⟨p',ys,rfl,h2,d2⟩:=hb.tupE
     refine bD5 hK C s σ H _ _ v u Q I J Y ⟨p,p',xs,ys,rfl,rfl,Z,h2,?_,λ t H' e ht=>?_⟩
     ·rw[d1.length,d2.length];exact aw hl qV
     ·obtain⟨g,r'⟩:=R.same e
      unfold ku at na nb
      exact q _ _ _ g (ah _) (by unfold ku;exact ql na nb) (RV.tupI ht ((RVL.mono g _ _ na d1).append (RVL.mono g _ _ nb d2))) r'
    ·exact fb B
   | _=>exact fb B
  | ref a =>
   cases b with
   | ref b =>
    change(match st[a]?,st[b]? with|some (DV.O.lst l),some (DV.O.lst m)=>if l.length+m.length<=kC then k6 (.lst (l++m)) st else .bad|_,_=>.bad:kt ko)=_ at B
    split at B
    ·rename_i l m Z h2
     split at B
     ·rename_i hl
      obtain⟨rfl,rfl⟩:=qT B
      obtain⟨xs,e1,d1⟩:=R.addr Z
      obtain⟨ys,e2,d2⟩:=R.addr h2
      have ex:=ha.refE;have G:=hb.refE;subst ex;subst G
      have b1:=R.wf _ _ Z
      have b2:=R.wf _ _ h2
      unfold kz at b1 b2
      refine bO5 C s σ H _ _ v u Q I J Y ⟨φ a,φ b,xs,ys,rfl,rfl,e1,e2,?_,λ p hp=>?_⟩
      ·rw[d1.length,d2.length];exact aw hl qV
      ·exact q.alloc R (d1.append d2) (ql b1 b2) hp
     ·exact fb B
    ·exact fb B
   | _=>exact fb B
  | _=>exact fb B
 | sub =>
  cases a with
  | int a =>
   cases b with
   | int b =>
    change(lD _) st=_ at B
    obtain⟨rfl,rfl⟩:=qv B
    have ex:=ha.intE;have G:=hb.intE;subst ex;subst G
    exact bR3 C s σ H _ _ v u Q I J Y ⟨_,_,rfl,rfl,q.here R rfl RV.intI⟩
   | _=>exact fb B
  | _=>exact fb B
 | mul =>
  cases a with
  | int a =>
   cases b with
   | int b =>
    change(if _ then _ else _:li ko) st=_ at B
    split at B
    ·rename_i hc
     obtain⟨rfl,rfl⟩:=qv B
     have ex:=ha.intE;have G:=hb.intE;subst ex;subst G
     exact bx7 C s σ H _ _ v u Q I J Y ⟨_,_,rfl,rfl,hc,q.here R rfl RV.intI⟩
    ·exact fb B
   | _=>exact fb B
  | str a =>
   cases b with
   | int b =>
    change(if _ then _ else _:li ko) st=_ at B
    split at B
    ·rename_i hc
     obtain⟨rfl,rfl⟩:=qv B
     have ex:=ha.strE;have G:=hb.intE;subst ex;subst G
     exact bz3 C s σ H _ _ v u Q I J Y ⟨_,_,rfl,rfl,hc,q.here R rfl (RV.strI (by rw[rep_len];exact hc.2.2))⟩
    ·exact fb B
   | _=>exact fb B
  | tup a =>
   cases b with
   | int b =>
    change(if _ then _ else _:li ko) st=_ at B
    split at B
    ·rename_i hc
     obtain⟨rfl,rfl⟩:=qv B
     obtain⟨p,xs,rfl,Z,d1⟩:=ha.tupE
     have G:=hb.intE;subst G
     refine bF8 hK C s σ H _ _ v u Q I J Y ⟨p,xs,_,rfl,rfl,Z,⟨hc.1,hc.2.1,by rw[d1.length];exact hc.2.2⟩,λ t H' e ht=>?_⟩
     obtain⟨g,r'⟩:=R.same e
     unfold ku at na
     exact q _ _ _ g (ah _) (by unfold ku;exact ao4 na _) (RV.tupI ht (RVL.repD (RVL.mono g _ _ na d1) _)) r'
    ·exact fb B
   | _=>exact fb B
  | ref a =>
   cases b with
   | int b =>
    change(match st[a]? with|some (DV.O.lst l)=>if 0<=b/\b<=1000000/\l.length*b.toNat<=kC then k6 (.lst (lK b.toNat l)) st else .bad|_=>.bad:kt ko)=_ at B
    split at B
    ·rename_i l Z
     split at B
     ·rename_i hc
      obtain⟨rfl,rfl⟩:=qT B
      obtain⟨xs,e1,d1⟩:=R.addr Z
      have ex:=ha.refE;have G:=hb.intE;subst ex;subst G
      have b1:=R.wf _ _ Z
      unfold kz at b1
      refine bQ7 C s σ H _ _ v u Q I J Y ⟨φ a,b,xs,rfl,rfl,e1,by omega,by omega,?_,λ p hp=>?_⟩
      ·rw[d1.length];exact aw hc.2.2 qV
      ·rw[<-aA8];exact q.alloc R (RVL.repD d1 _) (ao4 b1 _) hp
     ·exact fb B
    ·exact fb B
   | _=>exact fb B
  | _=>exact fb B
 | fdiv =>
  cases a with
  | int a =>
   cases b with
   | int b =>
    change(if _ then _ else _:li ko) st=_ at B
    split at B
    ·rename_i hc
     obtain⟨rfl,rfl⟩:=qv B
     have ex:=ha.intE;have G:=hb.intE;subst ex;subst G
     refine bl4 C s σ H _ _ v u Q I J Y ⟨_,_,rfl,rfl,⟨hc.1,?_⟩,q.here R rfl RV.intI⟩
     have:=hc.2
     unfold DV.DIVL at this
     simpa using this
    ·exact fb B
   | _=>exact fb B
  | _=>exact fb B
 | mod =>
  cases a with
  | int a =>
   cases b with
   | int b =>
    change(if _ then _ else _:li ko) st=_ at B
    split at B
    ·rename_i hc
     obtain⟨rfl,rfl⟩:=qv B
     have ex:=ha.intE;have G:=hb.intE;subst ex;subst G
     exact bX2 C s σ H _ _ v u Q I J Y ⟨_,_,rfl,rfl,hc,q.here R rfl RV.intI⟩
    ·exact fb B
   | _=>exact fb B
  | _=>exact fb B
 | pow =>
  cases a with
  | int a =>
   cases b with
   | int b =>
    change(if _ then _ else _:li ko) st=_ at B
    split at B
    ·rename_i hc
     obtain⟨rfl,rfl⟩:=qv B
     have ex:=ha.intE;have G:=hb.intE;subst ex;subst G
     exact bN1 C s σ H _ _ v u Q I J Y ⟨_,_,rfl,rfl,hc,q.here R rfl RV.intI⟩
    ·exact fb B
   | _=>exact fb B
  | _=>exact fb B
 | shl =>
  cases a with
  | int a =>
   cases b with
   | int b =>
    change(if _ then _ else _:li ko) st=_ at B
    split at B
    ·rename_i hc
     obtain⟨rfl,rfl⟩:=qv B
     have ex:=ha.intE;have G:=hb.intE;subst ex;subst G
     exact bL3 C s σ H _ _ v u Q I J Y ⟨_,_,rfl,rfl,hc,q.here R rfl RV.intI⟩
    ·exact fb B
   | _=>exact fb B
  | _=>exact fb B
 | shr =>
  cases a with
  | int a =>
   cases b with
   | int b =>
    change(if _ then _ else _:li ko) st=_ at B
    split at B
    ·rename_i hc
     obtain⟨rfl,rfl⟩:=qv B
     have ex:=ha.intE;have G:=hb.intE;subst ex;subst G
     exact bO7 C s σ H _ _ v u Q I J Y ⟨_,_,rfl,rfl,hc,q.here R rfl RV.intI⟩
    ·exact fb B
   | _=>exact fb B
  | _=>exact fb B
 | band=>exact fb B
 | bor=>exact fb B
variable {Γ:Gm} {X:Cx} {pins:List (Addr×Obj)} {σ:St} {H:Hp} {sh:af} {φ:Nat->Addr} {s:kn}
theorem aN6 {n:Nat}{a b:ko}{z:Bool}(h:kA s n a b=some z):kH s a≠9:=by
 cases n with
 | zero=>unfold kA at h;exact(ai4 h).1
 | succ n =>
  unfold kA at h
  split at h
  ·simp[kH]
  ·split at h
   ·rename_i y _;simp[kH,y]
   ·cases h
  ·exact(ai4 h).1
theorem aD0 (I:Inv X pins σ H sh)(G:X.K=Γ.K)(R:Rp Γ φ H s):∀(n:Nat) (a b c:ko) (x:V) (p q:Bool),RV Γ φ H a x->RV Γ φ H b x->kA s n a c=some p->kA s n b c=some q->p=q:=by
 intro n
 induction n with
 | zero =>
  intro a b c x p q y h e1 e2
  rcases rv_two I G R y h (aN6 e1) (aN6 e2)with e|⟨l,m,_,_,rfl,rfl,_⟩
  ·subst e;rw[e1]at e2;exact ao e2
  ·unfold kA at e1 e2
   have:kJ s (.tup l) c=kJ s (.tup m) c:=by unfold kJ;cases c<;>rfl
   rw[this,e2]at e1;exact(ao e1).symm
 | succ n ih =>
  have C:∀(l m k:List ko) (B:List V) (p q:Bool),RVL Γ φ H l B->RVL Γ φ H m B->kF (kA s n) l k=some p->kF (kA s n) m k=some q->p=q:=by
   intro l
   induction l with
   | nil =>
    intro m k B p q y h e1 e2
    have:=y.unnil;subst this
    have hm:m=[]:=by have:=h.length;exact dk.mp this.symm
    subst hm
    rw[e1]at e2;exact ao e2
   | cons a l ihl =>
    intro m k B p q y h e1 e2
    obtain⟨x,r,rfl,g1,g2⟩:=y.uncons
    cases m with
    | nil=>have:=h.unnil;cases this
    | cons b m =>
     obtain⟨x',r',e,g3,g4⟩:=h.uncons
     cases e
     cases k with
     | nil=>unfold kF at e1 e2;rw[<-ao e1,<-ao e2]
     | cons c k =>
      obtain⟨Y,p2,a1,a2,J⟩:=an4 e1
      obtain⟨q1,q2,b1,b2,Z⟩:=an4 e2
      rw[J,Z,ih a b c x Y q1 g1 g3 a1 b1,ihl m k r p2 q2 g2 g4 a2 b2]
  intro a b c x p q y h e1 e2
  rcases rv_two I G R y h (aN6 e1) (aN6 e2)with e|⟨l,m,_,B,rfl,rfl,_,d1,d2⟩
  ·subst e;rw[e1]at e2;exact ao e2
  ·cases c with
   | tup k=>unfold kA at e1 e2;exact C l m k B p q d1 d2 e1 e2
   | _ =>
    unfold kA at e1 e2
    simp only at e1 e2
    have e3:kJ s (.tup l)=kJ s (.tup m):=by funext c;unfold kJ;cases c<;>rfl
    rw[e3]at e1
    exact ao (e1.symm.trans e2)
theorem bc3 {x:ko}:∀ {l:List ko} {z:Bool},kR s x l=some z->∃ e:Nat->Bool,(∀ j d,l[j]?=some d->kA s kB d x=some (e j))/\(z=true↔∃ j,j<l.length/\e j=true)
 | [],z,h=>by
  unfold kR at h
  cases h
  exact⟨λ _=>true,λ j d h=>by simp at h,by simp⟩
 | y::l,z,h=>by
  unfold kR at h
  cases e1:kA s kB y x with
  | none=>rw[e1]at h;cases h
  | some a =>
   cases e2:kR s x l with
   | none=>rw[e1,e2]at h;cases h
   | some b =>
    rw[e1,e2]at h
    obtain⟨e,C,B⟩:=bc3 e2
    refine⟨λ j=>match j with|0=>a|j+1=>e j,λ j d g=>?_,?_⟩
    ·cases j with
     | zero=>simp at g;subst g;exact e1
     | succ j=>exact C j d (by simpa using g)
    ·have hz:(a||b)=z:=ao h
     rw[<-hz,bD,B]
     constructor
     ·rintro(q|⟨j,hj,q⟩)
      ·exact⟨0,by simp,q⟩
      ·exact⟨j+1,by simpa using hj,q⟩
     ·rintro⟨j,hj,q⟩
      cases j with
      | zero=>exact .inl q
      | succ j=>exact .inr ⟨j,by simpa using hj,q⟩
theorem bt6 (I:Inv X pins σ H sh)(hK:X.K=Γ.K)(R:Rp Γ φ H s){x:ko}{xv:V}{xu:Value}(hx:RV Γ φ H x xv)(rx:RelV xv xu){l:List ko}{ys:List V}{its:List Value}(hl:RVL Γ φ H l ys)(hv:Vals ys its){z:Bool}(h:kR s x l=some z){A:aU}(hr:Room kB A) :
  ∃ e:Value->Bool,(∀ y,y∈its.toArray->eG A sh y xu (e y))/\its.toArray.any e=z:=by
 obtain⟨e,Z,h2⟩:=bc3 h
 have len:its.length=l.length:=by rw[<-hv.length];exact hl.length
 have B:∀ j u,its[j]?=some u->∃ d y,l[j]?=some d/\ys[j]?=some y/\RV Γ φ H d y/\RelV y u:=λ j u g=>by
  have hj:j<l.length:=by rw[<-len];exact(ab.mp g).1
  obtain⟨y,g1,g2⟩:=hl.get (ag hj)
  obtain⟨u',C,J⟩:=hv.get g1
  rw[g]at C;cases C
  exact⟨_,y,ag hj,g1,g2,J⟩
 classical
 let f:Value->Bool:=λ u=>decide (∃ j,its[j]?=some u/\e j=true)
 have hf:∀ j u,its[j]?=some u->f u=e j:=λ j u g=>by
  obtain⟨d,y,g1,g2,C,J⟩:=B j u g
  cases q:e j with
  | true=>exact decide_eq_true ⟨j,g,q⟩
  | false =>
   refine decide_eq_false λ⟨k,g',q'⟩=>?_
   obtain⟨d',y',k1,k2,k3,k4⟩:=B k u g'
   have ey:y'=y:=k4.inj J
   subst ey
   have:=aD0 I hK R _ d d' x _ _ _ C k3 (Z j d g1) (Z k d' k1)
   rw[q,q']at this;cases this
 refine⟨f,λ u Y=>?_,?_⟩
 ·obtain⟨j,hj,g⟩:=b9.mp (by simpa using Y:u∈its)
  have g':its[j]?=some u:=by rw[ag hj,g]
  obtain⟨d,y,g1,g2,C,J⟩:=B j u g'
  rw[hf j u g']
  exact(aM0 I hK R _ d x y xv u xu A _ (Z j d g1) C hx J rx hr).1
 ·have e1:its.toArray.any f=true↔z=true:=by
   rw[h2,List.any_toArray,iG]
   constructor
   ·rintro⟨u,Y,q⟩
    obtain⟨j,hj,g⟩:=b9.mp Y
    have g':its[j]?=some u:=by rw[ag hj,g]
    exact⟨j,by omega,by rw[<-hf j u g'];exact q⟩
   ·rintro⟨j,hj,q⟩
    have G:j<its.length:=by omega
    exact⟨its[j],iJ G,by rw[hf j _ (ag G)];exact q⟩
  cases z<;>cases q:its.toArray.any f
  ·rfl
  ·have:=e1.mp q;cases this
  ·rw[q]at e1;have:=e1.mpr rfl;cases this
  ·rfl
theorem bG4 (I:Inv X pins σ H sh)(hK:X.K=Γ.K)(R:Rp Γ φ H s){x:ko}{xv:V}{Z:Value}(hx:RV Γ φ H x xv)(rx:RelV xv Z){l:List ko}{ys:List V}{its:List Value}(hl:RVL Γ φ H l ys)(hv:Vals ys its){z:Bool}(h:kR s x l=some z){A:aU}(hr:Room kB A) :
  ∃(e:Value->Bool) (e':Nat->Bool),(∀ y,y∈its.toArray->eG A sh y Z (e y))/\(∀ j u,its[j]?=some u->e u=e' j)/\∀ j d,l[j]?=some d->kA s kB d x=some (e' j):=by
 obtain⟨e,J,h2⟩:=bc3 h
 have len:its.length=l.length:=by rw[<-hv.length];exact hl.length
 have B:∀ j u,its[j]?=some u->∃ d y,l[j]?=some d/\ys[j]?=some y/\RV Γ φ H d y/\RelV y u:=λ j u g=>by
  have hj:j<l.length:=by rw[<-len];exact(ab.mp g).1
  obtain⟨y,g1,Y⟩:=hl.get (ag hj)
  obtain⟨u',C,G⟩:=hv.get g1
  rw[g]at C;cases C
  exact⟨_,y,ag hj,g1,Y,G⟩
 classical
 let f:Value->Bool:=λ u=>decide (∃ j,its[j]?=some u/\e j=true)
 have hf:∀ j u,its[j]?=some u->f u=e j:=λ j u g=>by
  obtain⟨d,y,g1,Y,C,G⟩:=B j u g
  cases q:e j with
  | true=>exact decide_eq_true ⟨j,g,q⟩
  | false =>
   refine decide_eq_false λ⟨k,g',q'⟩=>?_
   obtain⟨d',y',k1,k2,k3,k4⟩:=B k u g'
   have ey:y'=y:=k4.inj G
   subst ey
   have:=aD0 I hK R _ d d' x _ _ _ C k3 (J j d g1) (J k d' k1)
   rw[q,q']at this;cases this
 refine⟨f,e,λ u hu=>?_,hf,J⟩
 obtain⟨j,hj,g⟩:=b9.mp (by simpa using hu:u∈its)
 have g':its[j]?=some u:=by rw[ag hj,g]
 obtain⟨d,y,g1,Y,C,G⟩:=B j u g'
 rw[hf j u g']
 exact(aM0 I hK R _ d x y xv u Z A _ (J j d g1) C hx G rx hr).1
variable {Γ:Gm} {X:Cx}
theorem aa1 {α β:Type}{r:kt α}{f:α->kn->kt β}{b:β}{t:kn}(h:r.bind f=.ok b t):∃ a s,r=.ok a s/\f a s=.ok b t:=DV.R.bind_inv h
theorem bs0 (hK:X.K=Γ.K)(hr:Room (kB+1) X.A)(neg:Bool){B:List (Addr×Obj)}{sh:af}{σ:St}{H:Hp}{x y:V}{v u:Value}{φ:Nat->Addr}{st a0:kn}{a b:ko}{z:Bool}
  (I:Inv X B σ H sh) (rx:RelV x v) (ry:RelV y u) (R:Rp Γ φ H st) (ha:RV Γ φ H a x) (hb:RV Γ φ H b y) (h:lE a b st=.ok z a0) :
  a0=st/\∀ Q:Value->af->Prop,(∀ Z,Inv X B σ H Z->Q (.bool (if neg then !z else z)) Z)->wpAny (model X.prog X.w) X.A (cJ (if neg then .NotIn else .In) v u) Q X.xe sh:=by
 unfold lE at h
 cases b with
 | tup l =>
  simp only at h
  cases e:kR st a l with
  | none=>rw[e]at h;cases h
  | some w =>
   rw[e]at h
   cases h
   obtain⟨p,ys,rfl,q,d⟩:=hb.tupE
   cases ry
   rw[<-hK]at q
   obtain⟨its,rv,t,_⟩:=I.tuple q
   obtain⟨f,Y,C⟩:=bt6 I hK R ha rx d rv e (A:=X.A.in1) hr.in1
   refine⟨rfl,λ Q hq=>?_⟩
   cases neg with
   | false=>exact SeqAt.in_tupleAt f t Y (by rw[C];exact hq _ I)
   | true=>exact SeqAt.notIn_tupleAt f t Y (by rw[C];exact hq _ I)
 | str y0 =>
  simp only at h
  split at h
  case h_2=>exact fb h
  rename_i c
  cases h
  refine⟨rfl,λ Q hq=>?_⟩
  have e1:=ha.strE
  have e2:=hb.strE
  subst e1 e2
  obtain⟨t1,rfl⟩:=rx
  obtain⟨t2,rfl⟩:=ry
  have G:=j0 (⟨y0.toArray⟩:Str) c
  cases neg with
  | false=>exact in_str (by rw[show(⟨[c].toArray⟩:Str)=⟨#[c]⟩from rfl,G];simpa using hq _ I)
  | true=>exact notIn_str (by rw[show(⟨[c].toArray⟩:Str)=⟨#[c]⟩from rfl,G];simpa using hq _ I)
 | ref r =>
  simp only at h
  cases hs:st[r]? with
  | none=>rw[hs]at h;cases h
  | some o =>
   rw[hs]at h
   cases o with
   | lst l =>
    simp only at h
    cases e:kR st a l with
    | none=>rw[e]at h;cases h
    | some w =>
     rw[e]at h
     cases h
     obtain⟨ys,e1,d⟩:=R.addr hs
     have ey:=hb.refE;subst ey
     cases ry
     obtain⟨its,rv,t,_⟩:=I.list (SqL.of e1)
     obtain⟨f,Y,C⟩:=bt6 I hK R ha rx d rv e (A:=X.A.in1) hr.in1
     refine⟨rfl,λ Q hq=>?_⟩
     cases neg with
     | false=>exact SeqAt.in_listAt f t.isList Y (by rw[C];exact hq _ I)
     | true=>exact SeqAt.notIn_listAt f t.isList Y (by rw[C];exact hq _ I)
   | dic l =>
    simp only at h
    split at h
    case isFalse=>exact fb h
    rename_i J
    cases h
    obtain⟨k,hk⟩:=an1 J
    obtain⟨a1,e1,d⟩:=R.obj r _ hs
    have ey:=hb.refE;subst ey
    cases ry
    have ex:=aO2 hk ha;subst ex
    have ez:(kT a l).isSome=(aM7 a1 k).isSome:=by
     rcases d.val hk with⟨q1,q2⟩|⟨_,_,q1,q2,_⟩<;>rw[q1,q2]<;>rfl
    refine⟨rfl,λ Q hq=>?_⟩
    rw[ez]at hq
    cases neg with
    | false=>exact cm7 (bm5 hr) I (bi9.k e1) rx hq
    | true=>exact bz9 (bm5 hr) I (bi9.k e1) rx hq
   | ro l=>exact fb h
   | ins c l=>exact fb h
 | _=>exact fb h
theorem aw2 {op:lC}{a b d:ko}{st y:kn}(ho:op=.lt\/op=.le\/op=.gt\/op=.ge)(h:DV.qE op a b st=.ok d y):∃ i j,a=.int i/\b=.int j:=by
 rcases ho with rfl|rfl|rfl|rfl <;>
 (cases a with
 | int i =>
  (cases b with
  | int j=>exact⟨i,j,rfl,rfl⟩
  | _=>cases h)
 | _=>cases h)
theorem bT8 (hK:X.K=Γ.K)(hr:Room (kB+1) X.A)(op:lC):OpR X (cJ (bx8 op)) (rOp Γ (DV.qE op)):=by
 intro C s σ H x y v u Q I J Y h
 obtain⟨φ,st,a,b,d,G,R,ha,hb,na,nb,B,q⟩:=h
 cases op with
 | eq =>
  have B:DV.eqM a b st=.ok d G:=B
  unfold DV.eqM at B
  cases e:kA st kB a b with
  | none=>rw[e]at B;cases B
  | some z =>
   rw[e]at B;cases B
   exact(aM0 I hK R _ a b x y v u X.A z e ha hb J Y (hr.mono (by omega))).2.rc X.prog X.w X.xe _ ⟨.bl z,H,I,rfl,q.here R rfl RV.blI⟩
 | ne =>
  have B:(match kA st kB a b with|some r=>.ok (.bl (!r)) st|none=>.bad:kt ko)=.ok d G:=B
  cases e:kA st kB a b with
  | none=>rw[e]at B;cases B
  | some z =>
   rw[e]at B;cases B
   exact(aM0 I hK R _ a b x y v u X.A z e ha hb J Y (hr.mono (by omega))).2.ne X.prog X.w X.xe _ ⟨.bl (!z),H,I,rfl,q.here R rfl RV.blI⟩
 | lt =>
  obtain⟨i,j,rfl,rfl⟩:=aw2 (.inl rfl) B
  cases B
  have ex:=ha.intE;have Z:=hb.intE;subst ex;subst Z
  exact cb5 C s σ H _ _ v u Q I J Y ⟨_,_,rfl,rfl,q.here R rfl RV.blI⟩
 | le =>
  obtain⟨i,j,rfl,rfl⟩:=aw2 (.inr (.inl rfl)) B
  cases B
  have ex:=ha.intE;have Z:=hb.intE;subst ex;subst Z
  exact cg3 C s σ H _ _ v u Q I J Y ⟨_,_,rfl,rfl,q.here R rfl RV.blI⟩
 | gt =>
  obtain⟨i,j,rfl,rfl⟩:=aw2 (.inr (.inr (.inl rfl))) B
  cases B
  have ex:=ha.intE;have Z:=hb.intE;subst ex;subst Z
  exact ce4 C s σ H _ _ v u Q I J Y ⟨_,_,rfl,rfl,q.here R rfl RV.blI⟩
 | ge =>
  obtain⟨i,j,rfl,rfl⟩:=aw2 (.inr (.inr (.inr rfl))) B
  cases B
  have ex:=ha.intE;have Z:=hb.intE;subst ex;subst Z
  exact ch7 C s σ H _ _ v u Q I J Y ⟨_,_,rfl,rfl,q.here R rfl RV.blI⟩
 | isin =>
  have B:(lE a b st).bind (λ r s=>.ok (.bl r) s)=.ok d G:=B
  obtain⟨z,s1,e1,e2⟩:=aa1 B
  obtain⟨rfl,w⟩:=bs0 hK hr false I J Y R ha hb e1
  cases e2
  exact w _ λ s' I'=>⟨.bl z,H,I',rfl,q.here R rfl RV.blI⟩
 | notin =>
  have B:(lE a b st).bind (λ r s=>.ok (.bl (!r)) s)=.ok d G:=B
  obtain⟨z,s1,e1,e2⟩:=aa1 B
  obtain⟨rfl,w⟩:=bs0 hK hr true I J Y R ha hb e1
  cases e2
  exact w _ λ s' I'=>⟨.bl (!z),H,I',rfl,q.here R rfl RV.blI⟩
theorem aY2 {φ:Nat->Addr}{H:Hp}{l:List ko}{y:List V}{i:Int}{d:ko}(h:RVL Γ φ H l y)(e:((k7 l.length i).bind λ j=>l[j]?)=some d):∃ v,atI y i=some v/\RV Γ φ H d v:=by
 cases hj:k7 l.length i with
 | none=>rw[hj]at e;cases e
 | some j =>
  rw[hj]at e
  obtain⟨v,e1,e2⟩:=h.get (show l[j]?=some d from e)
  refine⟨v,?_,e2⟩
  unfold atI
  have:ixN y.length i=some j:=by rw[h.length];exact hj
  rw[this];exact e1
theorem aK6 {l:List ko}{i:Int}{d:ko}(e:((k7 l.length i).bind λ j=>l[j]?)=some d):d∈l:=by
 cases hj:k7 l.length i with
 | none=>rw[hj]at e;cases e
 | some j=>rw[hj]at e;exact aV (show l[j]?=some d from e)
theorem cb4 (hK:X.K=Γ.K)(hu:X.A.units+1<cLine):IxR X (rOp Γ DV.ixM):=by
 intro G C J s σ H x y v u Q I rx ry h hs
 obtain⟨φ,st,a,b,d,a1,R,ha,hb,na,nb,B,q⟩:=h
 unfold DV.ixM at B
 cases a with
 | tup l =>
  cases b with
  | int i =>
   simp only at B
   split at B
   ·rename_i d' e
    cases B
    obtain⟨p,xs,rfl,h1,d1⟩:=ha.tupE
    have Y:=hb.intE;subst Y
    obtain⟨w,e1,e2⟩:=aY2 d1 e
    unfold ku at na
    exact bH6 hK G C J s σ H _ _ v u Q I rx ry ⟨p,xs,i,w,rfl,rfl,h1,e1,q.here R (ac7.mp na _ (aK6 e)) e2⟩ hs
   ·exact fb B
  | _=>exact fb B
 | str l =>
  cases b with
  | int i =>
   simp only at B
   split at B
   ·rename_i c e
    cases B
    have hl:=ha.strL
    have ex:=ha.strE;have Y:=hb.intE;subst ex;subst Y
    exact ix_str G C J s σ H _ _ v u Q I rx ry ⟨⟨l.toArray⟩,i,c,rfl,rfl,by show l.toArray.size<=_;rw[aA];exact aw hl qV,e,q.here R rfl (RV.strI (by simp;decide))⟩ hs
   ·exact fb B
  | _=>exact fb B
 | ref r =>
  have ex:=ha.refE;subst ex
  simp only at B
  cases hsr:st[r]? with
  | none=>rw[hsr]at B;cases B
  | some o =>
   rw[hsr]at B
   cases o with
   | lst l =>
    cases b with
    | int i =>
     simp only at B
     split at B
     ·rename_i d' e
      cases B
      have Y:=hb.intE;subst Y
      obtain⟨xs,e1,d1⟩:=R.addr hsr
      obtain⟨w,e2,e3⟩:=aY2 d1 e
      have wf:=R.wf _ _ hsr
      unfold kz at wf
      exact aM2 hK G C J s σ H _ _ v u Q I rx ry ⟨φ r,xs,i,w,rfl,rfl,SqL.of e1,e2,q.here R (ac7.mp wf _ (aK6 e)) e3⟩ hs
     ·exact fb B
    | _=>exact fb B
   | ro l =>
    cases b with
    | int i =>
     simp only at B
     split at B
     ·rename_i d' e
      cases B
      have Y:=hb.intE;subst Y
      obtain⟨xs,e1,d1⟩:=R.obj _ _ hsr
      obtain⟨w,e2,e3⟩:=aY2 d1 e
      have wf:=R.wf _ _ hsr
      unfold kz at wf
      exact aM2 hK G C J s σ H _ _ v u Q I rx ry ⟨φ r,xs,i,w,rfl,rfl,e1.1,e2,q.here R (ac7.mp wf _ (aK6 e)) e3⟩ hs
     ·exact fb B
    | _=>exact fb B
   | dic l =>
    simp only at B
    split at B
    case isFalse=>exact fb B
    rename_i Z
    obtain⟨k,hk⟩:=an1 Z
    obtain⟨a2,e1,d1⟩:=R.obj r _ hsr
    have Y:=aO2 hk hb;subst Y
    cases rx
    rcases d1.val hk with⟨q1,_⟩|⟨e,v',q1,q2,q3,q4⟩
    ·rw[q1]at B;cases B
    ·rw[q1]at B
     cases B
     have wf:=R.wf _ _ hsr
     unfold kz at wf
     rw[aq]at wf
     have g:bi9 H (φ r) (kV k) (some v'):=by rw[<-q2];exact bi9.k e1
     exact tail_any (aH8 I g) PySem.F.slot_dict_getitem.lookup (aY0 hu I g ry λ w' s' I' a0=>⟨v',H,I',a0,q.here R (ac7.mp wf.2 _ q4) q3⟩) hs
   | ins c l=>cases b<;>cases B
 | _=>cases b<;>cases B
variable {Γ:Gm} {X:Cx}
def rCl (Γ:Gm)(f:List ko->kn->kt ko):List V->Hp->VK->Prop:=λ xs H Q=>∃ φ s l d s',Rp Γ φ H s/\RVL Γ φ H l xs/\kq s.length l=true/\f l s=.ok d s'/\ag2 Γ φ s H d s' Q
theorem RVL.one {φ:Nat->Addr}{H:Hp}{d:ko}{y:List V}(h:RVL Γ φ H [d] y):∃ x,y=[x]/\RV Γ φ H d x:=by
 obtain⟨x,r,rfl,C,B⟩:=h.uncons
 rw[B.unnil];exact⟨x,rfl,C⟩
theorem by1 (a b c:Int):mx3 a b c=max (max a b) c:=by unfold mx3 mx;split<;>split<;>omega
noncomputable def biN:kU->Option (String×Nat)
 | .len=>some ("len",1)|.abs=>some ("abs",1)|.min2=>some ("min",2)|.max2=>some ("max",2)|.max3=>some ("max",3)|_=>none
theorem qo:∀ {l:List ko} {is:List Int},kZ l=some is->l=is.map DV.D.int
 | [],is,h=>by unfold kZ at h;cases h;rfl
 | d::l,is,h=>by
  cases d with
  | int i =>
   have h:(kZ l).map (i::·)=some is:=h
   cases e:kZ l with
   | none=>rw[e]at h;cases h
   | some m=>rw[e]at h;cases h;rw[qo e];rfl
  | _=>cases h
theorem ao5:∀ {l:List ko} {is:List Bool},lf l=some is->l=is.map DV.D.bl
 | [],is,h=>by unfold lf at h;cases h;rfl
 | d::l,is,h=>by
  cases d with
  | bl i =>
   have h:(lf l).map (i::·)=some is:=h
   cases e:lf l with
   | none=>rw[e]at h;cases h
   | some m=>rw[e]at h;cases h;rw[ao5 e];rfl
  | _=>cases h
theorem RVL.ints {φ:Nat->Addr}{H:Hp}:∀ {is:List Int} {y:List V},RVL Γ φ H (is.map DV.D.int) y->y=is.map V.int
 | [],_,h=>h.unnil
 | i::is,_,h=>by
  obtain⟨x,r,rfl,C,B⟩:=RVL.uncons h
  rw[C.intE,RVL.ints B];rfl
theorem RVL.bls {φ:Nat->Addr}{H:Hp}:∀ {is:List Bool} {y:List V},RVL Γ φ H (is.map DV.D.bl) y->y=is.map V.bl
 | [],_,h=>h.unnil
 | i::is,_,h=>by
  obtain⟨x,r,rfl,C,B⟩:=RVL.uncons h
  rw[C.blE,RVL.bls B];rfl
theorem bh2 {f:ko->li ko}{l:List ko}{s s':kn}{d:ko}(h:lF f l s=.ok d s'):∃ a,l=[a]/\f a s=.ok d s':=by
 match l,h with
 | [a],h=>exact⟨a,rfl,h⟩
 | [],h=>exact fb h
 | _::_::_,h=>exact fb h
theorem aX8 (J:X.K=Γ.K)(hc:X.calm=true){b:kU}{Y:String}{k:Nat}(hn:biN b=some (Y,k)):ae7 X (.builtin Y) (rCl Γ (lI b)):=by
 intro y s σ H xs us Q I r h
 obtain⟨φ,st,l,d,G,R,hl,nl,B,q⟩:=h
 cases b with
 | len =>
  cases hn
  have B:lF DV.bD6 l st=.ok d G:=B
  obtain⟨a,rfl,C⟩:=bh2 B
  clear B
  obtain⟨x,rfl,hx⟩:=hl.one
  unfold DV.bD6 at C
  cases a with
  | tup l =>
   cases C
   obtain⟨p,ys,rfl,h1,d1⟩:=hx.tupE
   refine aq5 J y s σ H _ us Q I r ⟨p,ys,rfl,.inr h1,?_⟩
   rw[d1.length];exact q.here R rfl RV.intI
  | str l =>
   cases C
   have Z:=hx.strL
   have e:=hx.strE;subst e
   refine aC6 y s σ H _ us Q I r ⟨_,rfl,by show l.toArray.size<=_;rw[aA];exact aw Z qV,?_⟩
   show Q (.int ((l.toArray.size:Nat):Int)) H
   rw[aA]
   exact q.here R rfl RV.intI
  | ref n =>
   have e:=hx.refE;subst e
   simp only at C
   cases hs:st[n]? with
   | none=>rw[hs]at C;cases C
   | some o =>
    rw[hs]at C
    cases o with
    | lst l =>
     cases C
     obtain⟨ys,e1,d1⟩:=R.addr hs
     refine aq5 J y s σ H _ us Q I r ⟨φ n,ys,rfl,.inl (SqL.of e1),?_⟩
     rw[d1.length];exact q.here R rfl RV.intI
    | ro l =>
     cases C
     obtain⟨ys,e1,d1⟩:=R.obj _ _ hs
     refine aq5 J y s σ H _ us Q I r ⟨φ n,ys,rfl,.inl e1.1,?_⟩
     rw[d1.length];exact q.here R rfl RV.intI
    | dic l=>exact fb C
    | ins c l=>exact fb C
  | _=>exact fb C
 | abs =>
  cases hn
  have B:(match kZ l with|some [i]=>.ok (.int (if i<0 then -i else i)) st|_=>.bad:kt ko)=.ok d G:=B
  split at B
  ·rename_i i e
   cases B
   have:=qo e;subst this
   have:=RVL.ints hl;subst this
   exact bq8 y s σ H _ us Q I r ⟨i,rfl,q.here R rfl RV.intI⟩
  ·exact fb B
 | min2 =>
  cases hn
  have B:(match kZ l with|some [a,b]=>.ok (.int (if b<a then b else a)) st|_=>.bad:kt ko)=.ok d G:=B
  split at B
  ·rename_i a b e
   cases B
   have:=qo e;subst this
   have:=RVL.ints hl;subst this
   exact aW1 hc y s σ H _ us Q I r ⟨_,_,rfl,q.here R rfl RV.intI⟩
  ·exact fb B
 | max2 =>
  cases hn
  have B:(match kZ l with|some [a,b]=>.ok (.int (if b > a then b else a)) st|_=>.bad:kt ko)=.ok d G:=B
  split at B
  ·rename_i a b e
   cases B
   have:=qo e;subst this
   have:=RVL.ints hl;subst this
   exact bg1 hc y s σ H _ us Q I r ⟨_,_,rfl,q.here R rfl RV.intI⟩
  ·exact fb B
 | max3 =>
  cases hn
  have B:(match kZ l with|some [a,b,c]=>.ok (.int (max (max a b) c)) st|_=>.bad:kt ko)=.ok d G:=B
  split at B
  ·rename_i a b c e
   cases B
   have:=qo e;subst this
   have:=RVL.ints hl;subst this
   refine aY5 hc y s σ H _ us Q I r ⟨_,_,_,rfl,?_⟩
   rw[by1]
   exact q.here R rfl RV.intI
  ·exact fb B
 | _=>cases hn
theorem bY5:ae7 X (.type "int") (rCl Γ (lI .int)):=by
 intro B s σ H J us Q I r h
 obtain⟨φ,st,l,d,C,R,hl,G,y,q⟩:=h
 have y:(match lf l with|some [b]=>.ok (.int (if b then 1 else 0)) st|_=>.bad:kt ko)=.ok d C:=y
 split at y
 ·rename_i b e
  cases y
  have:=ao5 e;subst this
  have:=RVL.bls hl;subst this
  exact bi3 B s σ H _ us Q I r (.inr ⟨b,rfl,q.here R rfl RV.intI⟩)
 ·exact fb y
noncomputable def as5:Nat->String
 | 1 => "int" | 2 => "bool" | 3 => "str" | 4 => "tuple" | _ => "list"
theorem bB7 {K:ac}(k:Nat)(hk:1<=k/\k<=5):cr K (.type "NoneType") (.type (as5 k))=some false/\cr K (.type "bool") (.type (as5 k))=some (k==1||k==2) /\
  cr K (.type "int") (.type (as5 k))=some (k==1)/\cr K (.type "str") (.type (as5 k))=some (k==3)/\cr K (.type "tuple") (.type (as5 k))=some (k==4)/\cr K (.type "list") (.type (as5 k))=some (k==5):=by
 obtain⟨y,B⟩:=hk
 rcases(by omega:k=1\/k=2\/k=3\/k=4\/k=5)with h|h|h|h|h<;>subst h<;>refine⟨?_,?_,?_,?_,?_,?_⟩<;>with_unfolding_all rfl
theorem aR8 {y:List (Addr×Obj)}{σ:St}{H:Hp}{s:af}{A:aU}{E:Value->af->Prop}{Q:Value->af->Prop}{c:Value}{b:Bool}{a:Addr}{G:List V}(I:Inv X y σ H s)(B:SqT X.K H a G)(e:cr X.K (.type "tuple") c=some b)
  (h:∀ tk,Q (.bool b) { s with toks:=tk }):wpAny (model X.prog X.w) A (call (.builtin "isinstance") [.ref a,c]) Q E s:=by
 obtain⟨its,_,⟨o,g1,C,_⟩,_⟩:=I.tuple B
 exact bB hJ I.kIn ⟨o,g1,C⟩ e (λ z=>nomatch z) h
theorem bT7 (hK:X.K=Γ.K){k:Nat}(hk:1<=k/\k<=5):ae7 X (.builtin "isinstance") (λ Y H Q=>∃ x,Y=[x,.ty (as5 k)]/\rCl Γ (lF (lL k)) [x] H Q):=by
 intro J s σ H Y us Q I r h
 obtain⟨x,rfl,φ,st,l,d,B,R,hl,nl,G,q⟩:=h
 obtain⟨a,rfl,y⟩:=bh2 G
 clear G
 obtain⟨u,w',rfl,r1,r2⟩:=by5 r
 cases r2
 obtain⟨x',e',hx⟩:=hl.one
 cases e'
 obtain⟨k0,Z,k2,k3,k4,k5⟩:=bB7 (K:=X.K) k hk
 unfold lL at y
 cases a with
 | non=>cases y;have e:=hx.nonE;subst e;exact jk I r1 .non k0 λ tk=>⟨.bl _,H,I.tok _,rfl,q.here R rfl RV.blI⟩
 | bl b=>cases y;have e:=hx.blE;subst e;exact jk I r1 (.bl b) Z λ tk=>⟨.bl _,H,I.tok _,rfl,q.here R rfl RV.blI⟩
 | int b=>cases y;have e:=hx.intE;subst e;exact jk I r1 (.int b) k2 λ tk=>⟨.bl _,H,I.tok _,rfl,q.here R rfl RV.blI⟩
 | str b=>cases y;have e:=hx.strE;subst e;exact jk I r1 (.str _) k3 λ tk=>⟨.bl _,H,I.tok _,rfl,q.here R rfl RV.blI⟩
 | tup l =>
  cases y
  obtain⟨p,ys,rfl,C,d1⟩:=hx.tupE
  cases r1
  rw[<-hK]at C
  exact aR8 I C k4 λ tk=>⟨.bl _,H,I.tok _,rfl,q.here R rfl RV.blI⟩
 | ref n =>
  have e:=hx.refE;subst e
  have y:(match st[n]? with|some (.lst _)=>.ok (.bl (k==5)) st|_=>.bad:kt ko)=.ok d B:=y
  cases hs:st[n]? with
  | none=>rw[hs]at y;cases y
  | some o =>
   rw[hs]at y
   cases o with
   | lst l =>
    cases y
    obtain⟨ys,e1,d1⟩:=R.addr hs
    exact jk I r1 (.lst e1) k5 λ tk=>⟨.bl _,H,I.tok _,rfl,q.here R rfl RV.blI⟩
   | _=>exact fb y
 | _=>exact fb y
variable {X:Cx}
theorem bI0 {bs:List Bool}{its:List Value}(r:Vals (bs.map V.bl) its){i:Nat}{v:Value}(h:its[i]?=some v):∃ z,bs[i]?=some z/\v=Value.bool z:=by
 induction bs generalizing its i with
 | nil=>rw[cy]at r;cases r;simp at h
 | cons b bs ih =>
  rw[aI]at r
  cases r with
  | cons r1 r2 =>
   cases i with
   | zero =>
    cases r1
    have:_=v:=ao h
    exact⟨b,rfl,this.symm⟩
   | succ i=>exact ih r2 h
theorem be0 {bs:List Bool}:(ae bs.length).all (λ i=>bs.getD i false)=bs.all id:=by
 rw[db,aM,aM]
 constructor
 ·intro h b hb
  obtain⟨i,y,e⟩:=b9.mp hb
  have:=h i (aR.mpr y)
  rw[aO,ag y]at this
  rw[<-e];exact this
 ·intro h i y
  have y:=aR.mp y
  rw[aO,ag y]
  exact h _ (iJ y)
theorem ba5 {K:ac}(hc:X.calm=true)(hK:X.K=K):ae7 X (.builtin "all") (λ Y H Q=>∃(a:Addr) (bs:List Bool),Y=[.ref a]/\SqL K H a (bs.map V.bl)/\Q (.bl (bs.all id)) H):=by
 subst hK
 intro J s σ H Y us Q I r h
 obtain⟨a,bs,rfl,hS,q⟩:=h
 obtain⟨u,rfl,ru⟩:=am0 r
 cases ru
 obtain⟨its,G,C,hz⟩:=I.list hS
 have hl:=G.length
 rw[aF]at hl
 refine call_all_walk (cN C.isList ?_)
 have B:a<s.heap.objs.size:=by obtain⟨o,_,e,_⟩:=C;exact aE e
 have W:=i7 (prog:=X.prog) (w:=X.w) (A:=X.A.in1) (I.ok.hd hc) s.heap.objs.size a (ay B) its.toArray
 refine⟨_,_,_,_,_,_,λ i=>bs.getD i false,rfl,W,⟨⟨_,aN _ rfl,rfl,rfl⟩,?_⟩,λ i v s' Q' E' y Z=>?_,λ h' tk k=>?_⟩
 ·obtain⟨o,e,r⟩:=C.isList
  exact⟨o,ai _ e,r⟩
 ·obtain⟨z,e1,e2⟩:=bI0 G (i:=i) (v:=v) (by have y:its.toArray[i]?=some v:=y;rw[cw]at y;exact y)
  subst e2
  refine bQ ?_
  have:bs.getD i false=z:=by rw[aO,e1];rfl
  rw[<-this];exact Z
 ·have es:its.toArray.size=bs.length:=by rw[aA];omega
  rw[es,be0]
  refine⟨.bl (bs.all id),H,I.kept (h':=h') (t':=tk) λ b o q=>k b o ?_ (ai _ q),rfl,q⟩
  intro z
  have z':b=s.heap.objs.size:=by simpa using z
  exact absurd (aE q) (by rw[z'];exact bo _)
noncomputable def sgV (x:List Nat):List V:=x.map λ c=>.str ⟨#[c]⟩
theorem bw4 {vs:List V}{y:List Value}(hl:vs.length=y.length)(h:∀(i:Nat) (x:V) (u:Value),vs[i]?=some x->y[i]?=some u->RelV x u):Vals vs y:=by
 induction vs generalizing y with
 | nil=>cases y with
  | nil=>exact .nil
  | cons _ _=>cases hl
 | cons v vs ih=>cases y with
  | nil=>cases hl
  | cons a y=>exact .cons (h 0 v a rfl rfl) (ih (by simpa using hl) λ i x u e1 e2=>h (i+1) x u e1 e2)
theorem au4 {x:List Nat}{y:Array Value}(h:ItemsOf (SignAt ⟨x.toArray⟩) y x.length):Vals (sgV x) y.toList:=by
 have hl:(sgV x).length=y.toList.length:=by unfold sgV;rw[aF];simpa using h.1.symm
 refine bw4 hl λ i v u e1 e2=>?_
 obtain⟨c,t,B,C⟩:=h.2 i u (by rw[<-Array.getElem?_toList];exact e2)
 unfold sgV at e1
 rw[ax]at e1
 have B:x[i]?=some c:=by simpa using B
 rw[B]at e1
 cases e1
 exact⟨t,C⟩
theorem aI5 (hc:X.calm=true):ae7 X (.type "tuple") (λ J H Q=>∃ x:List Nat,J=[.str ⟨x.toArray⟩]/\x.length<=kC/\∀ l,H l=none->Q (.ref l) (upd H l (.tup (sgV x)))):=by
 intro y s σ H J us Q I r h
 obtain⟨x,rfl,hl,q⟩:=h
 obtain⟨u,rfl,Z⟩:=am0 r
 obtain⟨t,rfl⟩:=Z
 have hz:(sgV x).length<=aL:=by unfold sgV;rw[aF];exact aw hl qV
 refine call_tuple_str (I.ok.hd hc) _ t (λ h' tk B kp C=>?_) (by show x.toArray.size<=_;rw[aA];exact aw hl qV)
 have C:ItemsOf (SignAt ⟨x.toArray⟩) B x.length:=by simpa using C
 have Y:=au4 C
 have G:Inv X y σ H { s with heap:=h',toks:=tk }:=I.kept (t':=tk) kp
 have I2:Inv X y σ (upd H h'.objs.size (.tup (sgV x))) { s with heap:=h'.push { cls:=.type "tuple",data:=.seq B },toks:=tk } :=
  G.laid (t':=tk) (λ b o e=>ai _ e) (ah _) (show ae5 X.prog X.w _ _ _ (.tup (sgV x))from⟨hz,B.toList,Y,jZ _ _⟩)
 exact⟨.ref h'.objs.size,_,I2,rfl,q _ (G.hok.fresh (ah _))⟩
theorem aR9 (hc:X.calm=true):ae7 X (.type "list") (λ G H Q=>∃ x:List Nat,G=[.str ⟨x.toArray⟩]/\x.length<=kC/\∀ l,H l=none->Q (.ref l) (upd H l (.lst (sgV x)))):=by
 intro C s σ H G us Q I r h
 obtain⟨x,rfl,hl,q⟩:=h
 obtain⟨u,rfl,Z⟩:=am0 r
 obtain⟨t,rfl⟩:=Z
 have hz:(sgV x).length<=aL:=by unfold sgV;rw[aF];exact aw hl qV
 refine call_list_str (I.ok.hd hc) _ t (λ h' tk y Y kp e B=>?_) (by show x.toArray.size<=_;rw[aA];exact aw hl qV)
 have B:ItemsOf (SignAt ⟨x.toArray⟩) y x.length:=by simpa using B
 have J:=au4 B
 exact⟨.ref s.heap.objs.size,_,I.laid (t':=tk) kp (ah _) (show ae5 X.prog X.w _ h' _ (.lst (sgV x))from⟨hz,y.toList,Y,J,e⟩),rfl,q _ (I.hok.fresh (ah _))⟩
section
variable {Γ:Gm} {φ φ':Nat->Addr} {H H' H1 H2 H3:Hp} {clos:List (Str×Addr)} {s s':kn}
theorem qA (hc:Cells clos H){a:Addr}{u:HO}(e:H a=some u)(h:∀ o,u≠.frz o (.own a)):isC clos a≠true:=λ z=>by
 obtain⟨o,v,q,_⟩:=hc.at z
 rw[e]at q;cases q;exact h o rfl
theorem SqT.dropC {K:ac}{a:Addr}{y:List V}(hc:Cells clos H)(h:SqT K H a y):SqT K (ad7 clos H) a y:=by
 rcases h with(h|⟨o,h⟩)|h
 ·exact .inl (.inl (by rw[ad7.ne (qA hc h (λ _ z=>by cases z))];exact h))
 ·exact .inl (.inr ⟨o,by rw[ad7.ne (qA hc h (λ _ z=>by cases z))];exact h⟩)
 ·exact .inr h
theorem SqL.dropC {K:ac}{a:Addr}{y:List V}(hc:Cells clos H)(h:SqL K H a y):SqL K (ad7 clos H) a y:=by
 rcases h with(h|⟨o,h⟩)|h
 ·exact .inl (.inl (by rw[ad7.ne (qA hc h (λ _ z=>by cases z))];exact h))
 ·exact .inl (.inr ⟨o,by rw[ad7.ne (qA hc h (λ _ z=>by cases z))];exact h⟩)
 ·exact .inr h
theorem SqF.dropC {K:ac}{a:Addr}{y:List V}(hc:Cells clos H)(h:SqF K H a y):SqF K (ad7 clos H) a y:=by
 refine⟨SqL.dropC hc h.1,λ H2 k=>?_⟩
 have hk:Kp H (λ b=>if isC clos b=true then H b else H2 b):=λ b o e f=>by
  by_cases z:isC clos b=true
  ·show(if isC clos b=true then H b else H2 b)=_;rw[if_pos z];exact e
  ·show(if isC clos b=true then H b else H2 b)=_
   rw[if_neg z]
   exact k b o (by rw[ad7.ne z];exact e) f
 have q:=h.2 _ hk
 have at_:∀ u,(if isC clos a=true then H a else H2 a)=some u->(∀ o,u≠.frz o (.own a))->H2 a=some u:=λ u e B=>by
  by_cases z:isC clos a=true
  ·rw[if_pos z]at e
   exact absurd z (qA hc e B)
  ·rw[if_neg z]at e;exact e
 rcases q with(q|⟨o,q⟩)|q
 ·exact .inl (.inl (at_ _ q (λ _ z=>by cases z)))
 ·exact .inl (.inr ⟨o,at_ _ q (λ _ z=>by cases z)⟩)
 ·exact .inr q
mutual
theorem RV.dropC (hc:Cells clos H):∀(d:ko) (v:V),d.ncl=true->RV Γ φ H d v->RV Γ φ (ad7 clos H) d v
 | .non,_,_,h=>by unfold RV at h ⊢;exact h
 | .bl _,_,_,h=>by unfold RV at h ⊢;exact h
 | .int _,_,_,h=>by unfold RV at h ⊢;exact h
 | .str _,_,_,h=>by unfold RV at h ⊢;exact h
 | .tup l,_,n,h=>by
  unfold RV at h ⊢
  unfold lM at n
  obtain⟨a,y,e,q,r⟩:=h
  exact⟨a,y,e,SqT.dropC hc q,RVL.dropC hc l y n r⟩
 | .ref k,_,_,h=>by unfold RV at h ⊢;exact h
 | .fn _,_,_,h=>by unfold RV at h ⊢;exact h
 | .clo id cs,_,n,h=>by unfold lM at n;cases n
theorem RVL.dropC (hc:Cells clos H):∀(l:List ko) (y:List V),k8 l=true->RVL Γ φ H l y->RVL Γ φ (ad7 clos H) l y
 | [],_,_,h=>by unfold RVL at h ⊢;exact h
 | d::l,_,n,h=>by
  unfold k8 at n
  rw[aq]at n
  obtain⟨x,r,e,C,B⟩:=h.uncons
  subst e
  exact .cons (RV.dropC hc d x n.1 C) (RVL.dropC hc l r n.2 B)
end
theorem RVD.dropC (hc:Cells clos H):∀(l:List (ko×ko)) (y:List (Key×V)),k8 (l.map (·.2))=true->RVD Γ φ H l y->RVD Γ φ (ad7 clos H) l y
 | [],_,_,h=>h
 | (d,e)::l,_,n,h=>by
  obtain⟨k,v,r,e1,e2,C,B⟩:=h
  rw[aI]at n
  unfold k8 at n
  rw[aq]at n
  exact⟨k,v,r,e1,e2,RV.dropC hc e v n.1 C,RVD.dropC hc l r n.2 B⟩
theorem RO.dropC {a:Addr}{o:kM}(hc:Cells clos H)(h:RO Γ φ H a o)(n:o.ncl=true):RO Γ φ (ad7 clos H) a o:=by
 cases o with
 | lst l =>
  obtain⟨y,e,r⟩:=h
  exact⟨y,by rw[ad7.ne (qA hc e (λ _ z=>by cases z))];exact e,RVL.dropC hc l y n r⟩
 | ro l =>
  obtain⟨y,e,r⟩:=h
  exact⟨y,SqF.dropC hc e,RVL.dropC hc l y n r⟩
 | dic l =>
  obtain⟨y,e,r⟩:=h
  exact⟨y,by rw[ad7.ne (qA hc e (λ _ z=>by cases z))];exact e,RVD.dropC hc l y n r⟩
 | ins _ _=>exact h.elim
theorem TabsH.dropC {T:List (Addr×Str)}(hc:Cells clos H)(h:TabsH T H):TabsH T (ad7 clos H):=λ y hy=>by
 obtain⟨ps,e,t,c⟩:=h y hy
 refine⟨ps,by rw[ad7.ne (qA hc e (λ _ z=>by cases z))];exact e,t,λ pos B q=>?_⟩
 obtain⟨C,e1,e2⟩:=c pos B q
 exact⟨C,e1,by rw[ad7.ne (qA hc e2 (λ _ z=>by unfold qK at z;cases z))];exact e2⟩
theorem Rp.dropC (hc:Cells clos H)(r:Rp Γ φ H s)(n:s.all lN=true):Rp Γ φ (ad7 clos H) s :=
 ⟨r.inj,λ i o e=>RO.dropC hc (r.obj i o e) (aM.mp n o (aV e)),r.wf,TabsH.dropC hc r.tab⟩
theorem Gr.caught {N:List Str}{kd:Str->Option bG}{σ:St}(h:Caught clos N kd σ H1 H2)(g:Gr φ s H2 φ' s' H3):Gr φ s H1 φ' s' (ad7 clos H3):=by
 have y:∀ b o,H1 b=some o->isC clos b≠true:=λ b o e z=>by rw[h.free b z]at e;cases e
 have up:∀ b o,H1 b=some o->H2 b=some o:=λ b o e=>by rw[h.ne b (y b o e)];exact e
 refine⟨⟨g.w.map,λ b o e f=>?_⟩,g.le,λ i G B=>?_,g.kd,λ b e=>?_,λ b o e J C=>?_⟩
 ·rw[ad7.ne (y b o e)];exact g.w.kp b o (up b o e) f
 ·have:=g.new i G B
  by_cases z:isC clos (φ' i)=true
  ·exact h.free _ z
  ·rw[<-h.ne _ z];exact this
 ·cases q:H1 b with
  | none=>exact absurd q e
  | some o =>
   rw[ad7.ne (y b o q)]
   exact g.st b (by rw[up b o q];simp)
 ·rw[ad7.ne (y b o e)];exact g.fr b o (up b o e) J C
theorem aV6 (h:∀ b,isC clos b=true->H' b=none):ai5 H' (Put clos H H'):=λ b o e=>by
 rw[Put.ne (λ z=>by rw[h b z]at e;cases e)];exact e
theorem Gr.put (hc:Cells clos H)(y:∀ b,isC clos b=true->H' b=none)(Y:∀ b o,Γ.K.lookup b=some o->H b=none)(R':Rp Γ φ' H' s')(g:Gr φ s (ad7 clos H) φ' s' H'):Gr φ s H φ' s' (Put clos H H'):=by
 refine⟨⟨g.w.map,λ b o e f=>?_⟩,g.le,λ i Z C=>?_,g.kd,λ b e=>?_,λ b o e nt J=>?_⟩
 ·by_cases z:isC clos b=true
  ·rw[Put.cell z];exact e
  ·rw[Put.ne z];exact g.w.kp b o (by rw[ad7.ne z];exact e) f
 ·have hd:=g.new i Z C
  by_cases z:isC clos (φ' i)=true
  ·have B:=y _ z
   obtain⟨o,eo⟩:∃ o,s'[i]?=some o:=⟨s'[i],ag C⟩
   have h:=R'.obj i o eo
   cases o with
   | lst l=>obtain⟨G,e,_⟩:=h;rw[B]at e;cases e
   | ro l =>
    obtain⟨G,e,_⟩:=h
    rcases e.1 with(e|⟨_,e⟩)|⟨ob,its,n,e,_⟩
    ·rw[B]at e;cases e
    ·rw[B]at e;cases e
    ·exact Y _ _ e
   | dic l=>obtain⟨G,e,_⟩:=h;rw[B]at e;cases e
   | ins _ _=>exact h.elim
  ·rw[ad7.ne z]at hd;exact hd
 ·by_cases z:isC clos b=true
  ·rw[Put.cell z];exact e
  ·rw[Put.ne z];exact g.st b (by rw[ad7.ne z];exact e)
 ·by_cases z:isC clos b=true
  ·rw[Put.cell z];exact e
  ·rw[Put.ne z];exact g.fr b o (by rw[ad7.ne z];exact e) nt J
theorem bl8 {T:List (Addr×Str)}{cells:List (Str×Addr)}{P:Addr}{q:Str}{params:a8}{body:Expr}{scope:Scope}{pos:Pos}{σ:St}{H:Hp}{Q:VK}(hT:TabsH T H)(nd:(T.map (·.1)).Nodup)(hm:(P,q)∈T)
  (go:∀(f:Addr) (H':Hp),bc4 H H'->(∀ b,H b≠none->H' b≠none)->TabsH T H'->H f=none->(∃ Z C G,H' f=some (ax1 f (bK "<lambda>" q params body scope (af9 cells scope.names []) Z (.ref C) G))/\H' C=some (qK C q))->Q (.ref f) H') :
  cl4 cells P q params body scope pos σ H Q:=by
 obtain⟨ps,Y,ht,hc⟩:=hT _ hm
 refine⟨ps,Y,ht,λ hn C f Z G n1 n2 ne=>?_,λ cv e=>?_⟩
 ·have cP:C≠P:=λ z=>by rw[z,Y]at n1;cases n1
  have fP:f≠P:=λ z=>by rw[z,Y]at n2;cases n2
  have J:∀ b,b≠P->H b≠none->∀ o1 o2 o3,upd (upd (upd H P o1) C o2) f o3 b=H b:=λ b z1 z2 o1 o2 o3=>by
   rw[zm λ z=>by subst z;exact z2 n2,zm λ z=>by subst z;exact z2 n1,zm z1]
  refine go f _ (λ b o d e=>?_) (λ b hb=>?_) (λ y hy=>?_) n2 ⟨Z,C,G,zt,by rw[zm ne,zt]⟩
  ·rw[J b (λ z=>by subst z;rw[Y]at e;cases e;exact d _ rfl) (by rw[e];simp)];exact e
  ·by_cases z:b=P
   ·subst z;rw[zm (bM fP),zm (bM cP),zt];simp
   ·rw[J b z hb];exact hb
  ·by_cases z:y.1=P
   ·have ey:y=(P,q):=by
     have:∀(l:List (Addr×Str)),(l.map (·.1)).Nodup->y∈l->(P,q)∈l->y=(P,q):=by
      intro l
      induction l with
      | nil=>intro _ h;simp at h
      | cons a l ih =>
       intro hn h1 h2
       rw[aI,cG]at hn
       rcases az.mp h1 with e1|h1<;>rcases az.mp h2 with e2|h2
       ·rw[e1,e2]
       ·exact absurd (by rw[<-e1,z];exact bn (f:=(·.1)) h2) hn.1
       ·exact absurd (by rw[<-e2,<-z];exact bn (f:=(·.1)) h1) hn.1
       ·exact ih hn.2 h1 h2
     exact this T nd hy hm
    subst ey
    refine⟨_,by rw[zm (bM fP),zm (bM cP),zt],?_,λ B cv e=>?_⟩
    ·rw[cZ];exact TriplesOk_snoc _ _ _ _ ht
    ·rw[cZ]at e
     rcases codeAmong_add _ ht e with e'|e'
     ·obtain⟨c2,e1,e2⟩:=hc B cv e'
      exact⟨c2,e1,by rw[J c2 (λ z=>by subst z;rw[Y]at e2;unfold qK at e2;cases e2) (by rw[e2];simp)];exact e2⟩
     ·exact⟨C,e',by rw[zm ne,zt]⟩
   ·obtain⟨qs,e1,e2,e3⟩:=hT y hy
    refine⟨qs,by rw[J y.1 z (by rw[e1];simp)];exact e1,e2,λ B cv e=>?_⟩
    obtain⟨c2,e4,e5⟩:=e3 B cv e
    exact⟨c2,e4,by rw[J c2 (λ z=>by subst z;rw[Y]at e5;unfold qK at e5;cases e5) (by rw[e5];simp)];exact e5⟩
 ·obtain⟨C,e1,e2⟩:=hc pos cv e
  refine⟨C,e1,λ f Z G n=>go f _ (.of ((ai5.refl H).new n)) (λ b hb=>by
   by_cases z:b=f
   ·subst z;rw[zt];simp
   ·rw[zm z];exact hb) (hT.new n) n ⟨Z,C,G,zt,?_⟩⟩
  rw[zm (zK e2 n)];exact e2
theorem bE2 {P:aK}{w:World}{K:ac}{mg:Str->Option Value}{base:Heap}{k:Nat}{f:Addr}{N ps fr:List Str}{name qual:Str}{params:a8}{body:List Stmt}{scope:Scope}{h:List (Str×Addr)}{cap:List V}{sp:Sp}
  (S:LamScope N ps fr scope) (len:∀ vs H Q E,sp vs H Q E->vs.length=ps.length) (a3:cap.length=fr.length)
  (Z:∀(G pm:Value) (c':Addr) (Y:Value) (us:List Value),us.length=ps.length->dP (ci name qual params body scope h .none .none G pm none (.ref c') Y) ⟨us,[]⟩=pure (ps.zip us))
  (C:∀(A:aU) (outer:List Env) (s:af) (H:Hp) (cd:Value) (vs:List V) (Q:VK),Room k (A.deeper (cD qual scope s.heap.objs.size f cd (aJ (s.heap.objs.size+1) scope.names h)))->ap1 H f name qual params body scope fr cap h->(∀ b o,K.lookup b=some o->H b=none)->sp vs H Q E0 ->
   ∃ t,PSs (aK0 P w K mg base N qual scope f cd h A outer s H) body t/\t { nx:=λ _ H'=>(∀ b,isC h b=true->H' b=none)->Q .non (Put h H H'),rt:=λ v H'=>(∀ b,isC h b=true->H' b=none)->Q v (Put h H H') } (vs.map some++cap.map some) (ad7 h H)) :
  ClOk P w K mg base (k+1) (λ H=>ap1 H f name qual params body scope fr cap h) f sp:=by
 refine⟨λ A outer s H us vs Q hr B hR r a1=>?_⟩
 have hl:=len _ _ _ _ a1
 obtain⟨G,pm,c',Y,h1,h2,h3,h4,h5,h6⟩:=id hR
 have a4:s.heap.NoLimit:=B.mod.nolimit.keeps λ b o e=>(B.bs b o e).1
 refine gf hr.depth (ay1 B.hok h1) rfl S.co S.gen rfl (aA7 B.hok h2) ?_
 rw[Z G pm c' Y us (by rw[<-r.length];exact hl)]
 refine aS (at9 S.kind (λ y hy=>?_) λ env he s1 x=>?_)
 ·rcases S.par y.1 (da (show(y.1,y.2)∈ps.zip us from hy)).1 with q|q
  ·exact .inl q
  ·exact .inr ⟨q,qr q⟩
 ·subst he
  refine⟨a4.keeps x.toInCall.keep,codeAny_func ?_⟩
  obtain⟨t,ht,hq⟩:=C A outer s H (.ref c') vs Q (hr.deeper _) hR (λ b o e=>(B.bs b o (B.mod.kin b o e)).2) a1
  have I:=bg6 S hr.hd B hl a3 r h3 h4 h5 h6 x
  refine cf (ht [] s1 _ _ _ I hq) (λ fl s' hs=>?_) λ e s' hs=>hs.elim
  have fin:∀ {σ':St} {H':Hp} {v:V} {u:Value},Inv (aK0 P w K mg base N qual scope f (.ref c') h A outer s H) [] σ' H' s'->RelV v u->((∀ b,isC h b=true->H' b=none)->Q v (Put h H H'))->CE outer P w H s Q u s':=λ {σ' H' v u} J rv q=>by
   obtain⟨un,a2⟩:=aZ6 B.hok h3 B.frf J.base J.hok
   have a0:∀ b,isC h b=true->H' b=none:=λ b y=>by
    obtain⟨o,v,z,_⟩:=h3.at y
    exact(show Un (frs outer) [] (ad7 h H) H' s.heap s'.heap from J.base).free b o (B.hok b _ z).1 (ad7.cell y) (by simp)
   exact⟨v,_,J.os,J.bare,un,a2,rv,q a0⟩
  cases fl with
  | ret u =>
   obtain⟨v,σ',H',J,rv,q⟩:=hs
   exact fin J rv q
  | next =>
   obtain⟨σ',H',J,q⟩:=hs
   exact fin (v:=V.non) (u:=Value.none) J rfl q
  | brk =>
   obtain⟨_,_,_,q⟩:=hs
   exact bw q
  | cont =>
   obtain⟨_,_,_,q⟩:=hs
   exact bw q
theorem bF4 {P:aK}{w:World}{K:ac}{mg:Str->Option Value}{base:Heap}{k:Nat}{f:Addr}{N ps fr:List Str}{qual:Str}{params:a8}{body:Expr}{scope:Scope}{h:List (Str×Addr)}{cap:List V}{sp:Sp}
  (S:LamScope N ps fr scope) (len:∀ vs H Q E,sp vs H Q E->vs.length=ps.length) (a2:cap.length=fr.length)
  (Y:∀(pm:Value) (c':Addr) (G:Value) (us:List Value),us.length=ps.length->dP (bK "<lambda>" qual params body scope h pm (.ref c') G) ⟨us,[]⟩=pure (ps.zip us))
  (C:∀(A:aU) (outer:List Env) (s:af) (H:Hp) (cd:Value) (vs:List V) (Q:VK),Room k (A.deeper (cD qual scope s.heap.objs.size f cd (aJ (s.heap.objs.size+1) scope.names h)))->aD5 H f qual params body scope fr cap h->(∀ b o,K.lookup b=some o->H b=none)->sp vs H Q E0 ->
   ∃ t,PE (aK0 P w K mg base N qual scope f cd h A outer s H) body t/\t (vs.map some++cap.map some) (ad7 h H) λ v H'=>(∀ b,isC h b=true->H' b=none)->Q v (Put h H H')) :
  ClOk P w K mg base (k+1) (λ H=>aD5 H f qual params body scope fr cap h) f sp:=by
 refine⟨λ A outer s H us vs Q hr B hR r a0=>?_⟩
 have hl:=len _ _ _ _ a0
 obtain⟨pm,c',G,h1,h2,h3,h4,h5,h6⟩:=id hR
 have a3:s.heap.NoLimit:=B.mod.nolimit.keeps λ b o e=>(B.bs b o e).1
 refine PySem.W.kla_callFunE hr.depth (ay1 B.hok h1) rfl S.co S.gen rfl (aA7 B.hok h2) ?_
 rw[Y pm c' G us (by rw[<-r.length];exact hl)]
 refine aS (at9 S.kind (λ y hy=>?_) λ env he s1 x=>?_)
 ·rcases S.par y.1 (da (show(y.1,y.2)∈ps.zip us from hy)).1 with q|q
  ·exact .inl q
  ·exact .inr ⟨q,qr q⟩
 ·subst he
  refine⟨a3.keeps x.toInCall.keep,PySem.W.kla_codeExpr ?_⟩
  obtain⟨t,ht,hq⟩:=C A outer s H (.ref c') vs Q (hr.deeper _) hR (λ b o e=>(B.bs b o (B.mod.kin b o e)).2) a0
  have I:=bg6 S hr.hd B hl a2 r h3 h4 h5 h6 x
  refine cf (ht [] s1 _ _ _ I hq) (λ u s' hs=>?_) λ e s' hs=>hs.elim
  obtain⟨v,H',J,rv,q⟩:=hs
  obtain⟨un,a1⟩:=aZ6 B.hok h3 B.frf J.base J.hok
  have Z:∀ b,isC h b=true->H' b=none:=λ b y=>by
   obtain⟨o,v,z,_⟩:=h3.at y
   exact(show Un (frs outer) [] (ad7 h H) H' s.heap s'.heap from J.base).free b o (B.hok b _ z).1 (ad7.cell y) (by simp)
  exact⟨v,_,J.os,J.bare,un,a1,rv,q Z⟩
theorem Rp.sameT {φ:Nat->Addr}{H H':Hp}{s:kn}(r:Rp Γ φ H s)(e:bc4 H H')(st:∀ b,H b≠none->H' b≠none)(tb:TabsH Γ.T H'):Gr φ s H φ s H'/\Rp Γ φ H' s:=by
 have kp:Kp H H':=λ b o h f=>e b o (λ ps z=>by subst z;cases f) h
 have J:Gw φ s.length H φ H':=⟨λ _ _=>rfl,kp⟩
 refine⟨⟨J,ah _,λ i Z Y=>absurd Y (by omega),λ i o o' e e'=>by rw[e]at e';cases e';rfl,st,λ b o h B _=>e b o B h⟩,r.inj,λ i o C=>?_,r.wf,tb⟩
 exact(r.obj i o C).mono J (r.wf i o C) λ m u G=>by
  obtain⟨u',y,_,B⟩:=(r.obj i o C).there m
  rw[G]at y;cases y
  exact e _ _ B G
theorem Cells.kp {H H':Hp}(h:Cells clos H)(k:Kp H H'):Cells clos H':=λ x c e=>by
 obtain⟨o,v,q,d⟩:=h x c e
 exact⟨o,v,k _ _ q rfl,d⟩
noncomputable def PVp (Γ : Gm) (cells : List (Str × Addr)) (N : List Str) (σ : St) (φ : Nat -> Addr) (H : Hp) (d : DV.D) (v : V) : Prop := RV Γ φ H d v \/ ∃ id cs, d = .clo id cs /\ ∃ f J, v = .ref f /\ Γ.lg id J /\ ai1 H f J (af9 cells J.scope.names []) /\
      cs.length = J.fr.length /\ (∀ x, J.scope.names.lookup x = some .free -> ∃ c, cells.lookup x = some c) /\
      ∃ cap, RVL Γ φ H cs cap /\ ∀(i : Nat) (x : Str) (v : V), J.fr[i]? = some x -> cap[i]? = some v -> J.scope.names.lookup x = some .free /\ ∃ j : Nat, N[j]? = some x /\ σ[j]? = some (some v)
inductive PVL (Γ:Gm)(cells:List (Str×Addr))(N:List Str)(σ:St)(φ:Nat->Addr)(H:Hp):List ko->List V->Prop where
 | nil:PVL Γ cells N σ φ H [] []
 | cons {d v l vs} (a:PVp Γ cells N σ φ H d v) (b:PVL Γ cells N σ φ H l vs):PVL Γ cells N σ φ H (d::l) (v::vs)
theorem PVp.mono {cells:List (Str×Addr)}{N:List Str}{σ:St}{φ φ':Nat->Addr}{s s':kn}{H H':Hp}(g:Gr φ s H φ' s' H'){d:ko}{v:V}(b:d.bnd s.length=true)(h:PVp Γ cells N σ φ H d v):PVp Γ cells N σ φ' H' d v:=by
 rcases h with h|⟨id,cs,rfl,h⟩
 ·exact .inl (RV.mono g _ _ b h)
 ·obtain⟨f,J,e,C,y,G,B,cap,Y,h7⟩:=h
  unfold ku at b
  exact .inr ⟨id,cs,rfl,f,J,e,C,y.kp g.w.kp,G,B,cap,RVL.mono g cs cap b Y,h7⟩
theorem PVp.caught {cells:List (Str×Addr)}{N:List Str}{kd:Str->Option bG}{σ:St}{φ:Nat->Addr}{n:Nat}{G H2:Hp}(Y:Caught cells N kd σ G H2)(Z:∀ x c,cells.lookup x=some c->kd x=some .cell\/kd x=some .free){d:ko}{v:V}(b:d.bnd n=true)(h:PVp Γ cells N σ φ G d v):RV Γ φ H2 d v:=by
 have gw:Gw φ n G φ H2:=⟨λ _ _=>rfl,λ b o e _=>Y.same b o e⟩
 rcases h with h|⟨id,cs,rfl,h⟩
 ·exact RV.monoW gw _ _ b h
 ·obtain⟨f,J,e,h1,B,h4,C,cap,h6,h7⟩:=h
  unfold ku at b
  unfold RV
  have y:∀(i:Nat) (x:Str) (v:V),J.fr[i]?=some x->cap[i]?=some v->J.scope.names.lookup x=some .free/\(kd x=some .cell\/kd x=some .free)/\∃ j:Nat,N[j]?=some x/\σ[j]?=some (some v):=λ i x v e1 e2=>by
   obtain⟨q1,q2⟩:=h7 i x v e1 e2
   obtain⟨c,q3⟩:=C x q1
   exact⟨q1,Z x c q3,q2⟩
  have a0:CloAt H2 f J cap (af9 cells J.scope.names []):=by
   unfold CloAt
   unfold ai1 at B
   cases q:J.nm with
   | none=>rw[q]at B;exact bn4 Y B C y
   | some p=>rw[q]at B;exact bk0 Y B C y
  exact⟨f,cap,J,_,e,h1,a0,by rw[h6.length,h4],RVL.monoW gw cs cap b h6⟩
theorem PVL.caught {cells:List (Str×Addr)}{N:List Str}{kd:Str->Option bG}{σ:St}{φ:Nat->Addr}{n:Nat}{B H2:Hp}(C:Caught cells N kd σ B H2)(y:∀ x c,cells.lookup x=some c->kd x=some .cell\/kd x=some .free){l:List ko}{vs:List V}(h:PVL Γ cells N σ φ B l vs)(b:kq n l=true):RVL Γ φ H2 l vs:=by
 induction h with
 | nil=>exact .nil
 | cons a _ ih =>
  unfold kq at b
  rw[aq]at b
  exact .cons (a.caught C y b.1) (ih b.2)
end
variable {Γ:Gm} {X:Cx}
def TEv (Γ:Gm)(m:kr->kn->kt ko):TE:=λ σ H Q=>∃ φ ρ s d s',RE Γ φ H s.length ρ σ/\Rp Γ φ H s/\m ρ s=.ok d s'/\ag2 Γ φ s H d s' Q
def bP8 (Γ:Gm)(φ:Nat->Addr)(s:kn)(H:Hp)(l:List ko)(s':kn)(Q:List V->Hp->Prop):Prop :=
 ∀ vs φ' H',Gr φ s H φ' s' H'->s.length<=s'.length->kq s'.length l=true->RVL Γ φ' H' l vs->Rp Γ φ' H' s'->Q vs H'
def TAv (Γ:Gm)(m:kr->kn->kt (List ko)):TA:=λ σ H Q=>∃ φ ρ s l s',RE Γ φ H s.length ρ σ/\Rp Γ φ H s/\m ρ s=.ok l s'/\bP8 Γ φ s H l s' Q
def aN2 (Γ:Gm)(φ:Nat->Addr)(s:kn)(H:Hp)(b:Bool)(s':kn)(Q:Bool->Hp->Prop):Prop :=
 ∀ φ' H',Gr φ s H φ' s' H'->s.length<=s'.length->Rp Γ φ' H' s'->Q b H'
def TTv (Γ:Gm)(m:kr->kn->kt ko):TT:=λ σ H Q=>∃ φ ρ s b s',RE Γ φ H s.length ρ σ/\Rp Γ φ H s/\m ρ s=.ok (.bl b) s'/\aN2 Γ φ s H b s' Q
theorem PE.imp {e:Expr}{t t':TE}(h:PE X e t)(i:∀ σ H Q,t' σ H Q->t σ H Q):PE X e t':=λ y s σ H Q I q=>h y s σ H Q I (i σ H Q q)
theorem PT.imp {e:Expr}{t t':TT}(h:PT X e t)(i:∀ σ H Q,t' σ H Q->t σ H Q):PT X e t':=λ y s σ H Q I q=>h y s σ H Q I (i σ H Q q)
theorem PA.imp {e:List Expr}{t t':TA}(h:PA X e t)(i:∀ σ H Q,t' σ H Q->t σ H Q):PA X e t':=λ pos y s σ H Q I q=>h pos y s σ H Q I (i σ H Q q)
theorem aN2.trans {φ φ1:Nat->Addr}{s s1 s':kn}{H y:Hp}{b:Bool}{Q:Bool->Hp->Prop}(h:aN2 Γ φ s H b s' Q)(g:Gr φ s H φ1 s1 y)(l:s.length<=s1.length):aN2 Γ φ1 s1 y b s' Q :=
 λ φ' H' g' B p=>h φ' H' (g.trans g' l) (aw l B) p
theorem bU3 (i:Nat){σ:St}{H:Hp}{Q:VK}(h:TEv Γ (λ ρ s=>lG ρ i s) σ H Q):bw1 i σ H Q:=by
 obtain⟨φ,ρ,s,d,s',E,R,y,q⟩:=h
 simp only[lG]at y
 split at y
 ·rename_i d' e
  cases y
  obtain⟨b,v,e1,e2⟩:=E.val i _ e
  exact⟨v,e1,q.here R b e2⟩
 ·exact fb y
theorem aF4 {c:ko}{v:V}(hb:∀ n,c.bnd n=true)(hv:∀ φ H,RV Γ φ H c v){σ:St}{H:Hp}{Q:VK}(h:TEv Γ (λ ρ s=>.ok c s) σ H Q):tC v σ H Q:=by
 obtain⟨φ,ρ,s,d,s',E,R,y,q⟩:=h
 cases y
 exact q.here R (hb _) (hv _ _)
theorem bo8 {J Y:kr->kn->kt ko}{f:ko->ko->kn->kt ko}{σ:St}{H:Hp}{Q:VK}(h:TEv Γ (λ ρ s=>(J ρ s).bind λ x s=>(Y ρ s).bind λ y s=>f x y s) σ H Q):tOp (rOp Γ f) (TEv Γ J) (TEv Γ Y) σ H Q:=by
 obtain⟨φ,ρ,s,d,s',E,R,B,q⟩:=h
 obtain⟨x,s1,e1,B⟩:=aa1 B
 obtain⟨y,s2,e2,B⟩:=aa1 B
 refine⟨φ,ρ,s,x,s1,E,R,e1,λ v1 φ1 H1 g1 l1 Z r1 R1=>?_⟩
 refine⟨φ1,ρ,s1,y,s2,E.mono g1 l1,R1,e2,λ v2 φ2 H2 C G b2 r2 R2=>?_⟩
 exact⟨φ2,s2,x,y,d,s',R2,RV.mono C x v1 Z r1,r2,zT G x Z,b2,B,q.trans (g1.trans C l1) (aw l1 G)⟩
theorem cg0 {m:kr->kn->kt ko}{f:ko->kn->kt ko}{r:V->Hp->VK->Prop}{σ:St}{H:Hp}{Q:VK}(h:TEv Γ (λ ρ s=>(m ρ s).bind λ x s=>f x s) σ H Q)
  (G:∀ φ s x d s' v H',Rp Γ φ H' s->RV Γ φ H' x v->x.bnd s.length=true->f x s=.ok d s'->ag2 Γ φ s H' d s' Q->r v H' Q):tUn r (TEv Γ m) σ H Q:=by
 obtain⟨φ,ρ,s,d,s',E,R,y,q⟩:=h
 obtain⟨x,s1,e1,y⟩:=aa1 y
 exact⟨φ,ρ,s,x,s1,E,R,e1,λ B φ1 C g1 l1 J r1 R1=>G φ1 s1 x d s' B C R1 r1 J y (q.trans g1 l1)⟩
theorem qa {α:Type}{r:kt ko}{f:Bool->kn->kt α}{a:α}{t:kn}(h:kE r f=.ok a t):∃ b s,r=.ok (.bl b) s/\f b s=.ok a t:=by
 unfold kE at h
 obtain⟨d,s,e,h⟩:=aa1 h
 cases d with
 | bl b=>exact⟨b,s,e,h⟩
 | _=>exact fb h
theorem aO9 {m:kr->kn->kt ko}{σ:St}{H:Hp}{Q:Bool->Hp->Prop}(h:TTv Γ m σ H Q):tB (TEv Γ m) σ H Q:=by
 obtain⟨φ,ρ,s,b,s',E,R,y,q⟩:=h
 refine⟨φ,ρ,s,.bl b,s',E,R,y,λ v φ' H' g l C r B=>?_⟩
 exact⟨b,r.blE,q φ' H' g l B⟩
theorem bK2 {m:kr->kn->kt ko}{σ:St}{H:Hp}{Q:Bool->Hp->Prop}(h:TTv Γ m σ H Q):bN9 (TEv Γ m) σ H Q:=aO9 h
theorem bY3 {m:kr->kn->kt ko}{σ:St}{H:Hp}{Q:Bool->Hp->Prop}(h:TTv Γ (λ ρ s=>kE (m ρ s) λ b s=>.ok (.bl (!b)) s) σ H Q):cj8 (TTv Γ m) σ H Q:=by
 obtain⟨φ,ρ,s,b,s',E,R,y,q⟩:=h
 obtain⟨c,s1,e1,y⟩:=qa y
 cases y
 exact⟨φ,ρ,s,c,_,E,R,e1,q⟩
theorem bv3 {B C:kr->kn->kt ko}{σ:St}{H:Hp}{Q:Bool->Hp->Prop}(h:TTv Γ (λ ρ s=>kE (B ρ s) λ c s=>if c then kE (C ρ s) λ c s=>.ok (.bl c) s else .ok (.bl false) s) σ H Q):cj7 (TTv Γ B) (TTv Γ C) σ H Q:=by
 obtain⟨φ,ρ,s,b,s',E,R,y,q⟩:=h
 obtain⟨c,s1,e1,y⟩:=qa y
 refine⟨φ,ρ,s,c,s1,E,R,e1,λ φ1 G g1 l1 R1=>?_⟩
 cases c with
 | true =>
  rw[if_pos rfl]at y ⊢
  obtain⟨J,s2,e2,y⟩:=qa y
  cases y
  exact⟨φ1,ρ,s1,_,_,E.mono g1 l1,R1,e2,q.trans g1 l1⟩
 | false =>
  rw[if_neg aP]at y ⊢
  cases y
  exact q φ1 G g1 l1 R1
theorem bW3 {B C:kr->kn->kt ko}{σ:St}{H:Hp}{Q:Bool->Hp->Prop}(h:TTv Γ (λ ρ s=>kE (B ρ s) λ c s=>if c then .ok (.bl true) s else kE (C ρ s) λ c s=>.ok (.bl c) s) σ H Q):tOr (TTv Γ B) (TTv Γ C) σ H Q:=by
 obtain⟨φ,ρ,s,b,s',E,R,y,q⟩:=h
 obtain⟨c,s1,e1,y⟩:=qa y
 refine⟨φ,ρ,s,c,s1,E,R,e1,λ φ1 G g1 l1 R1=>?_⟩
 cases c with
 | true =>
  rw[if_pos rfl]at y ⊢
  cases y
  exact q φ1 G g1 l1 R1
 | false =>
  rw[if_neg aP]at y ⊢
  obtain⟨J,s2,e2,y⟩:=qa y
  cases y
  exact⟨φ1,ρ,s1,_,_,E.mono g1 l1,R1,e2,q.trans g1 l1⟩
theorem bQ9 {m:kr->kn->kt ko}{σ:St}{H:Hp}{Q:VK}(h:TEv Γ (λ ρ s=>kE (m ρ s) λ b s=>.ok (.bl (!b)) s) σ H Q):bO1 (TEv Γ m) σ H Q:=by
 obtain⟨φ,ρ,s,d,s',E,R,y,q⟩:=h
 obtain⟨c,s1,e1,y⟩:=qa y
 cases y
 exact⟨φ,ρ,s,.bl c,_,E,R,e1,λ v φ1 B g l b r R1=>⟨c,r.blE,q _ φ1 B g l rfl RV.blI R1⟩⟩
theorem bw2 {B C:kr->kn->kt ko}{σ:St}{H:Hp}{Q:VK}(h:TEv Γ (λ ρ s=>kE (B ρ s) λ c s=>if c then kE (C ρ s) λ c s=>.ok (.bl c) s else .ok (.bl false) s) σ H Q):bX5 (TEv Γ B) (TEv Γ C) σ H Q:=by
 obtain⟨φ,ρ,s,d,s',E,R,y,q⟩:=h
 obtain⟨c,s1,e1,y⟩:=qa y
 refine⟨φ,ρ,s,.bl c,s1,E,R,e1,λ v φ1 G g1 l1 J r1 R1=>⟨c,r1.blE,?_⟩⟩
 cases c with
 | true =>
  rw[if_pos rfl]at y ⊢
  obtain⟨c,s2,e2,y⟩:=qa y
  cases y
  exact⟨φ1,ρ,s1,.bl c,_,E.mono g1 l1,R1,e2,q.trans g1 l1⟩
 | false =>
  rw[if_neg aP]at y ⊢
  cases y
  exact q _ φ1 G g1 l1 rfl RV.blI R1
theorem bU0 {B C:kr->kn->kt ko}{σ:St}{H:Hp}{Q:VK}(h:TEv Γ (λ ρ s=>kE (B ρ s) λ c s=>if c then .ok (.bl true) s else kE (C ρ s) λ c s=>.ok (.bl c) s) σ H Q):cj2 (TEv Γ B) (TEv Γ C) σ H Q:=by
 obtain⟨φ,ρ,s,d,s',E,R,y,q⟩:=h
 obtain⟨c,s1,e1,y⟩:=qa y
 refine⟨φ,ρ,s,.bl c,s1,E,R,e1,λ v φ1 G g1 l1 J r1 R1=>⟨c,r1.blE,?_⟩⟩
 cases c with
 | true =>
  rw[if_pos rfl]at y ⊢
  cases y
  exact q _ φ1 G g1 l1 rfl RV.blI R1
 | false =>
  rw[if_neg aP]at y ⊢
  obtain⟨c,s2,e2,y⟩:=qa y
  cases y
  exact⟨φ1,ρ,s1,.bl c,_,E.mono g1 l1,R1,e2,q.trans g1 l1⟩
theorem bP2 {mc B C:kr->kn->kt ko}{σ:St}{H:Hp}{Q:VK}(h:TEv Γ (λ ρ s=>kE (mc ρ s) λ k s=>if k then B ρ s else C ρ s) σ H Q):tIf (TTv Γ mc) (TEv Γ B) (TEv Γ C) σ H Q:=by
 obtain⟨φ,ρ,s,d,s',E,R,y,q⟩:=h
 obtain⟨c,s1,e1,y⟩:=qa y
 refine⟨φ,ρ,s,c,s1,E,R,e1,λ φ1 G g1 l1 R1=>?_⟩
 cases c with
 | true =>
  rw[if_pos rfl]at y ⊢
  exact⟨φ1,ρ,s1,d,s',E.mono g1 l1,R1,y,q.trans g1 l1⟩
 | false =>
  rw[if_neg aP]at y ⊢
  exact⟨φ1,ρ,s1,d,s',E.mono g1 l1,R1,y,q.trans g1 l1⟩
theorem aP3 {σ:St}{H:Hp}{Q:List V->Hp->Prop}(h:TAv Γ (λ ρ s=>.ok [] s) σ H Q):bm7 σ H Q:=by
 obtain⟨φ,ρ,s,d,s',E,R,y,q⟩:=h
 cases y
 exact q [] φ H (Gr.refl _ _ _) (ah _) rfl .nil R
theorem by4 {m:kr->kn->kt ko}{G:kr->kn->kt (List ko)}{σ:St}{H:Hp}{Q:List V->Hp->Prop}(h:TAv Γ (λ ρ s=>(m ρ s).bind λ d s=>(G ρ s).bind λ l s=>.ok (d::l) s) σ H Q):az9 (TEv Γ m) (TAv Γ G) σ H Q:=by
 obtain⟨φ,ρ,s,l,s',E,R,B,q⟩:=h
 obtain⟨x,s1,e1,B⟩:=aa1 B
 obtain⟨y,s2,e2,B⟩:=aa1 B
 cases B
 refine⟨φ,ρ,s,x,s1,E,R,e1,λ C φ1 H1 g1 l1 Z r1 R1=>?_⟩
 refine⟨φ1,ρ,s1,y,_,E.mono g1 l1,R1,e2,λ v2 φ2 H2 J Y b2 r2 R2=>?_⟩
 refine q (C::v2) φ2 H2 (g1.trans J l1) (aw l1 Y) ?_ (.cons (RV.mono J x C Z r1) r2) R2
 unfold kq
 rw[zT Y x Z,b2];rfl
theorem aJ0 {B:kr->kn->kt (List ko)}{f:List ko->kn->kt ko}{σ:St}{H:Hp}{Q:VK}(h:TEv Γ (λ ρ s=>(B ρ s).bind λ l s=>f l s) σ H Q):tCB (rCl Γ f) (TAv Γ B) σ H Q:=by
 obtain⟨φ,ρ,s,d,s',E,R,y,q⟩:=h
 obtain⟨l,s1,e1,y⟩:=aa1 y
 exact⟨φ,ρ,s,l,s1,E,R,e1,λ vs φ1 G g1 l1 C r1 R1=>⟨φ1,s1,l,d,s',R1,r1,C,y,q.trans g1 l1⟩⟩
variable {Γ:Gm} {X:Cx}
def au8 (Γ:Gm)(J:It)(φ0:Nat->Addr)(H0:Hp)(s0:kn)(q:lp):Prop :=
 ∀ φ H s,Gr φ0 s0 H0 φ s H->s0.length<=s.length->Rp Γ φ H s->kY s0 s q.src=true->∀ i:Nat,
  (i<q.its.length->J.go i H/\∀ x H',J.yld i H x H'->ai5 H H'/\∀ d,q.its[i]?=some d->RV Γ φ H' d x)/\(q.its.length<=i->J.stop i H)
def TIv (Γ:Gm)(m:kr->kn->kt lp):TI:=λ σ H R=>∃ φ ρ s q s',RE Γ φ H s.length ρ σ/\Rp Γ φ H s/\m ρ s=.ok q s' /\
 ∀ J φ' H',Gr φ s H φ' s' H'->s.length<=s'.length->kq s'.length q.its=true->Rp Γ φ' H' s'->au8 Γ J φ' H' s' q->R J H'
theorem PI.imp {tg e:Expr}{t t':TI}(h:PI X tg e t)(i:∀ σ H R,t' σ H R->t σ H R):PI X tg e t':=λ y s σ H R I q=>h y s σ H R I (i σ H R q)
theorem PI.or {tg e:Expr}{t t':TI}(h:PI X tg e t)(h':PI X tg e t'):PI X tg e (λ σ H R=>t σ H R\/t' σ H R):=λ y s σ H R I q=>q.elim (h y s σ H R I) (h' y s σ H R I)
theorem bq4 {φ0:Nat->Addr}{H0:Hp}{s0:kn}{a:Addr}{C:List V}{l:List ko}(h:SqT Γ.K H0 a C)(hl:RVL Γ φ0 H0 l C)(hb:kq s0.length l=true):au8 Γ (Itt Γ.K a) φ0 H0 s0 ⟨l,[]⟩:=by
 intro φ H s g _ R _ i
 have h':=g.w.kp.sqT h
 have B:=RVL.mono g l C hb hl
 refine⟨λ hlt=>⟨⟨C,C[i]'(by rw[B.length];exact hlt),h',ag _⟩,λ x H' y=>?_⟩,λ G=>⟨C,h',by rw[B.length];exact G⟩⟩
 obtain⟨e,y⟩:=y
 subst e
 refine⟨ai5.refl _,λ d hd=>?_⟩
 obtain⟨v,e1,e2⟩:=B.get hd
 rw[y C h']at e1;cases e1
 exact e2
theorem bK1 {φ0:Nat->Addr}{H0:Hp}{s0:kn}{a:Addr}{C:List V}{l:List ko}(h:SqF Γ.K H0 a C)(hl:RVL Γ φ0 H0 l C)(hb:kq s0.length l=true):au8 Γ (Itl Γ.K a) φ0 H0 s0 ⟨l,[]⟩:=by
 intro φ H s g _ R _ i
 have h':=h.2 _ g.w.kp
 have B:=RVL.mono g l C hb hl
 refine⟨λ hlt=>⟨⟨C,C[i]'(by rw[B.length];exact hlt),h',ag _⟩,λ x H' y=>?_⟩,λ G=>⟨C,h',by rw[B.length];exact G⟩⟩
 obtain⟨e,y⟩:=y
 subst e
 refine⟨ai5.refl _,λ d hd=>?_⟩
 obtain⟨v,e1,e2⟩:=B.get hd
 rw[y C h']at e1;cases e1
 exact e2
theorem bq7 {φ0:Nat->Addr}{H0:Hp}{s0:kn}{r:Nat}{l:List ko}(Y:s0[r]?=some (.lst l)):au8 Γ (Itl Γ.K (φ0 r)) φ0 H0 s0 ⟨l,[r]⟩:=by
 intro φ H s g _ R J i
 have B:r<s0.length:=(ab.mp Y).1
 have hs:s[r]?=some (.lst l):=by
  unfold kY at J
  simp only[fi,j8,dL,decide_eq_true_eq]at J
  rw[J];exact Y
 obtain⟨C,e,h⟩:=R.addr hs
 rw[g.w.map r B]at e
 have h':SqL Γ.K H (φ0 r) C:=SqL.of e
 refine⟨λ hlt=>⟨⟨C,C[i]'(by rw[h.length];exact hlt),h',ag _⟩,λ x H' y=>?_⟩,λ G=>⟨C,h',by rw[h.length];exact G⟩⟩
 obtain⟨e,y⟩:=y
 subst e
 refine⟨ai5.refl _,λ d hd=>?_⟩
 obtain⟨v,e1,e2⟩:=h.get hd
 rw[y C h']at e1;cases e1
 exact e2
theorem bq3 {φ0:Nat->Addr}{H0:Hp}{s0:kn}{l:List Nat}:au8 Γ (Its ⟨l.toArray⟩) φ0 H0 s0 ⟨l.map λ c=>.str [c],[]⟩:=by
 intro φ H s g _ R _ i
 have hsz:(⟨l.toArray⟩:Str).cps.size=l.length:=by simp
 refine⟨λ hlt=>?_,λ h=>?_⟩
 ·simp only[aF]at hlt
  refine⟨show i<(⟨l.toArray⟩:Str).cps.size by rw[hsz];exact hlt,λ x H' y=>?_⟩
  obtain⟨e,c,hc,rfl⟩:=y
  subst e
  refine⟨ai5.refl _,λ d hd=>?_⟩
  have B:l[i]?=some c:=by simpa using hc
  rw[ax,B]at hd
  cases hd
  exact RV.strI (by simp;decide)
 ·simp only[aF]at h
  show(⟨l.toArray⟩:Str).cps.size<=i
  rw[hsz];exact h
theorem bk5 {φ0:Nat->Addr}{H0:Hp}{s0:kn}{a b:Int}:au8 Γ (Itr a (b - a).toNat) φ0 H0 s0 ⟨lw a b,[]⟩:=by
 intro φ H s g _ R _ i
 have hn:(lw a b).length=(b - a).toNat:=by simp[lw]
 refine⟨λ hlt=>⟨show i<(b - a).toNat by rw[<-hn];exact hlt,λ x H' y=>?_⟩,λ h=>show(b - a).toNat<=i by rw[<-hn];exact h⟩
 obtain⟨e,rfl⟩:=y
 subst e
 refine⟨ai5.refl _,λ d hd=>?_⟩
 simp only[lw]at hd hlt
 rw[ax,aY (by simpa using hlt)]at hd
 cases hd
 exact RV.intI
theorem bJ2 {m:kr->kn->kt ko}{σ:St}{H:Hp}{R:It->Hp->Prop}(h:TIv Γ (λ ρ s=>(m ρ s).bind λ x s=>match x with|.int i=>if -lO<=i/\i<lO then .ok ⟨lw 0 i,[]⟩ s else .bad|_=>.bad) σ H R) :
  bS5 (az9 (TEv Γ m) bm7) σ H R:=by
 obtain⟨φ,ρ,s,q,s',E,P,y,k⟩:=h
 obtain⟨x,s1,e1,y⟩:=aa1 y
 refine⟨φ,ρ,s,x,s1,E,P,e1,λ v φ1 C g l b r G=>?_⟩
 cases x with
 | int i =>
  simp only at y
  split at y
  ·rename_i B
   cases y
   have hw:lO=2^62:=by decide
   rw[hw]at B
   refine⟨i,by rw[r.intE],B.1,B.2,k _ φ1 C g l ?_ G ?_⟩
   ·refine ac7.mpr λ d hd=>?_
    simp only[lw,av]at hd
    obtain⟨_,_,rfl⟩:=hd
    rfl
   ·have:=bk5 (Γ:=Γ) (φ0:=φ1) (H0:=C) (s0:=s') (a:=0) (b:=i)
    rwa [j9]at this
  ·exact fb y
 | _=>exact fb y
theorem bL2 {m:kr->kn->kt ko}{σ:St}{H:Hp}{R:It->Hp->Prop}(h:TIv Γ (λ ρ s=>(m ρ s).bind λ d s=>DV.aG1 d s) σ H R) :
  ca6 Γ.K (TEv Γ m) σ H R\/bz5 Γ.K (TEv Γ m) σ H R\/ci7 (TEv Γ m) σ H R:=by
 obtain⟨φ,ρ,s,q,s',E,P,y,k⟩:=h
 obtain⟨x,s1,e1,y⟩:=aa1 y
 unfold DV.aG1 at y
 cases x with
 | tup l =>
  cases y
  refine .inl ⟨φ,ρ,s,_,_,E,P,e1,λ v φ1 C g l b r B=>?_⟩
  obtain⟨a,J,rfl,Z,d1⟩:=r.tupE
  unfold ku at b
  exact⟨a,rfl,⟨J,Z⟩,k _ φ1 C g l b B (bq4 Z d1 b)⟩
 | str l =>
  cases y
  refine .inr (.inr ⟨φ,ρ,s,_,_,E,P,e1,λ v φ1 C g G b r B=>?_⟩)
  refine⟨_,r.strE,k _ φ1 C g G ?_ B bq3⟩
  refine ac7.mpr λ d hd=>?_
  simp only[av]at hd
  obtain⟨_,_,rfl⟩:=hd
  rfl
 | ref r =>
  simp only at y
  cases hs:s1[r]? with
  | none=>rw[hs]at y;cases y
  | some o =>
   rw[hs]at y
   cases o with
   | lst l =>
    cases y
    refine .inr (.inl ⟨φ,ρ,s,_,_,E,P,e1,λ v φ1 C g G b Y B=>?_⟩)
    have e:=Y.refE;subst e
    obtain⟨J,e2,d1⟩:=B.addr hs
    have wf:=B.wf _ _ hs
    unfold kz at wf
    exact⟨φ1 r,rfl,⟨J,SqL.of e2⟩,k _ φ1 C g G wf B (bq7 hs)⟩
   | ro l =>
    cases y
    refine .inr (.inl ⟨φ,ρ,s,_,_,E,P,e1,λ v φ1 C g G b Y B=>?_⟩)
    have e:=Y.refE;subst e
    obtain⟨J,e2,d1⟩:=B.obj _ _ hs
    have wf:=B.wf _ _ hs
    unfold kz at wf
    exact⟨φ1 r,rfl,⟨J,e2.1⟩,k _ φ1 C g G wf B (bK1 e2 d1 wf)⟩
   | dic l=>exact fb y
   | ins c l=>exact fb y
 | _=>exact fb y
variable {Γ:Gm} {X:Cx}
noncomputable def bZ5:List Nat->TGs
 | []=>ci3
 | i::is=>bX9 (aE4 i) (bZ5 is)
noncomputable def gOf (K:ac):kW->TG
 | .one i=>aE4 i
 | .tup is=>ci0 K is.length (bZ5 is)
theorem bh3 {φ:Nat->Addr}{H:Hp}{n:Nat}{ρ ρ':kr}{σ:St}{i:Nat}{d:ko}{v:V}(E:RE Γ φ H n ρ σ)(r:RV Γ φ H d v)(b:d.bnd n=true)(h:kS ρ i d=some ρ'):RE Γ φ H n ρ' (σ.set i (some v)):=by
 unfold kS at h
 split at h
 ·rename_i y
  cases h
  refine⟨by rw[bv,bv];exact E.len,λ j e hj=>?_⟩
  by_cases hij:j=i
  ·subst hij
   rw[aX y]at hj
   cases hj
   exact⟨b,v,by rw[aX (by rw[<-E.len];exact y)],r⟩
  ·rw[a9 (bM hij)]at hj
   obtain⟨C,w,B,h3⟩:=E.val j e hj
   exact⟨C,w,by rw[a9 (bM hij)];exact B,h3⟩
 ·cases h
theorem bN0 {φ:Nat->Addr}{H:Hp}{n:Nat}{Q:St->Hp->Prop}:∀(is:List Nat) (l:List ko) (y:List V) (ρ ρ':kr) (σ:St),RE Γ φ H n ρ σ->RVL Γ φ H l y->kq n l=true->lv ρ is l=some ρ'->(∀ σ',RE Γ φ H n ρ' σ'->Q σ' H)->bZ5 is y σ H Q
 | [],[],y,ρ,ρ',σ,E,r,_,h,k=>by
  cases h
  exact⟨r.unnil,k σ E⟩
 | [],d::l,_,_,_,_,_,_,_,h,_=>by cases h
 | i::is,[],_,_,_,_,_,_,_,h,_=>by cases h
 | i::is,d::l,y,ρ,ρ',σ,E,r,b,h,k=>by
  have h:(kS ρ i d).bind (λ ρ=>lv ρ is l)=some ρ':=h
  obtain⟨x,B,rfl,G,C⟩:=r.uncons
  unfold kq at b
  rw[aq]at b
  cases e:kS ρ i d with
  | none=>rw[e]at h;cases h
  | some ρ1 =>
   rw[e]at h
   exact⟨x,B,rfl,bN0 is l B ρ1 ρ' _ (bh3 E G b.1 e) C b.2 h k⟩
theorem aZ8 {l:List ko}:∀ {is:List Nat} {ρ ρ':kr},lv ρ is l=some ρ'->is.length=l.length:=by
 induction l with
 | nil=>intro is ρ ρ' h;cases is with
  | nil=>rfl
  | cons i is=>cases h
 | cons d l ih=>intro is ρ ρ' h;cases is with
  | nil=>cases h
  | cons i is =>
   have h:(kS ρ i d).bind (λ ρ=>lv ρ is l)=some ρ':=h
   cases e:kS ρ i d with
   | none=>rw[e]at h;cases h
   | some ρ1=>rw[e]at h;rw[aQ,aQ,ih h]
theorem bH2 {φ:Nat->Addr}{H:Hp}{n:Nat}{Q:St->Hp->Prop}{tg:kW}{d:ko}{v:V}{ρ ρ':kr}{σ:St}(E:RE Γ φ H n ρ σ)(r:RV Γ φ H d v)(b:d.bnd n=true)(h:kK ρ tg d=some ρ')(k:∀ σ',RE Γ φ H n ρ' σ'->Q σ' H):gOf Γ.K tg v σ H Q:=by
 cases tg with
 | one i=>exact k _ (bh3 E r b h)
 | tup is =>
  cases d with
  | tup l =>
   have h:lv ρ is l=some ρ':=h
   obtain⟨a,y,rfl,B,d1⟩:=r.tupE
   unfold ku at b
   exact⟨a,y,rfl,B,by rw[d1.length,aZ8 h],bN0 is l y ρ ρ' σ E d1 b h k⟩
  | _=>cases h
def Off (φ:Nat->Addr)(s:kn)(b:Addr):Prop:=∀(i:Nat) (ob:kM),s[i]?=some ob->isMut ob=true->φ i≠b
theorem Off.mono {φ φ':Nat->Addr}{s s':kn}{H H':Hp}{b:Addr}{o:HO}(h:Off φ s b)(g:Gr φ s H φ' s' H')(hb:H b=some o):Off φ' s' b:=λ i ob e m z=>by
 by_cases C:i<s.length
 ·obtain⟨y,B⟩:∃ y,s[i]?=some y:=⟨s[i],ag C⟩
  exact h i y B (g.mu i y ob B e m) (by rw[<-g.w.map i C];exact z)
 ·have:=g.new i (by omega) (ab.mp e).1
  rw[z,hb]at this;cases this
theorem Off.new {φ:Nat->Addr}{s:kn}{H:Hp}{b:Addr}(r:Rp Γ φ H s)(h:H b=none):Off φ s b:=λ i ob e m z=>by
 obtain⟨u,y,_⟩:=(r.obj i ob e).there m
 rw[z,h]at y;cases y
theorem Rp.foreign {φ:Nat->Addr}{s:kn}{H:Hp}{b:Addr}{ys h:List V}(r:Rp Γ φ H s)(hb:H b=some (.lst ys))(ho:Off φ s b):Rp Γ φ (upd H b (.lst h)) s:=by
 have g:Gw φ s.length H φ (upd H b (.lst h)):=⟨λ _ _=>rfl,(Kp.refl H).put hb rfl⟩
 exact⟨r.inj,λ i o e=>(r.obj i o e).mono g (r.wf i o e) λ m u y=>by rw[zm (ho i o e m)];exact y,r.wf,r.tab.put hb⟩
theorem Gr.foreign {φ φ':Nat->Addr}{s s':kn}{H H':Hp}{b:Addr}{ys y:List V}(g:Gr φ s H φ' s' H')(h0:H b=none)(hb:H' b=some (.lst ys)):Gr φ s H φ' s' (upd H' b (.lst y)):=by
 have ne:∀ c o,H c=some o->c≠b:=λ c o e=>zK e h0
 refine⟨⟨g.w.map,λ c o e f=>?_⟩,g.le,g.new,g.kd,λ c hc=>?_,λ c o e B h=>?_⟩
 ·rw[zm (ne c o e)];exact g.w.kp c o e f
 ·unfold upd;split
  ·simp
  ·exact g.st c hc
 ·rw[zm (ne c o e)];exact g.fr c o e B h
def bX3 (Γ:Gm)(φ:Nat->Addr)(s:kn)(H:Hp)(l:List ko)(s':kn)(Q:VK):Prop :=
 ∀ p ys φ' H',Gr φ s H φ' s' H'->s.length<=s'.length->kq s'.length l=true->H' p=some (.lst ys)->H p=none->Off φ' s' p->RVL Γ φ' H' l ys->Rp Γ φ' H' s'->Q (.ref p) H'
def TFv (Γ:Gm)(m:kr->kn->kt (List ko)):TE:=λ σ H Q=>∃ φ ρ s l s',RE Γ φ H s.length ρ σ/\Rp Γ φ H s/\m ρ s=.ok l s'/\bX3 Γ φ s H l s' Q
theorem be3 {m:kr->kn->kt (List ko)}{σ:St}{H:Hp}{Q:VK}(h:TEv Γ (λ ρ s=>(m ρ s).bind λ l s=>k6 (.lst l) s) σ H Q):TFv Γ m σ H Q:=by
 obtain⟨φ,ρ,s,d,s',E,R,Z,q⟩:=h
 obtain⟨l,s1,e1,Z⟩:=aa1 Z
 obtain⟨rfl,rfl⟩:=qT Z
 refine⟨φ,ρ,s,l,s1,E,R,e1,λ p ys φ' H' g hl hb hp h0 ho r C=>?_⟩
 have gw:Gw φ' s1.length H' (λ i=>if i=s1.length then p else φ' i) H':=⟨λ i y=>if_neg (ay y),Kp.refl _⟩
 have key:∀(i:Nat) (B:kM),(s1++[DV.O.lst l])[i]?=some B->(i<s1.length/\s1[i]?=some B)\/(i=s1.length/\B=.lst l):=λ i B e=>by
  rcases eW i s1.length with h|h|h
  ·rw[aG h]at e;exact .inl ⟨h,e⟩
  ·subst h;simp at e;exact .inr ⟨rfl,e.symm⟩
  ·rw[bJ (by simp;omega)]at e;cases e
 have G:Gr φ s H (λ i=>if i=s1.length then p else φ' i) (s1++[.lst l]) H':=by
  refine⟨⟨λ i y=>by show(if i=s1.length then p else φ' i)=_;rw[if_neg (by omega)];exact g.w.map i y,g.w.kp⟩,by simp;omega,λ i h1 h2=>?_,λ i o B e e'=>?_,g.st,g.fr⟩
  ·by_cases y:i=s1.length
   ·show H (if i=s1.length then p else φ' i)=none
    rw[if_pos y];exact h0
   ·show H (if i=s1.length then p else φ' i)=none
    rw[if_neg y];exact g.new i h1 (by simp at h2;omega)
  ·rcases key i B e' with⟨_,e2⟩|⟨y,_⟩
   ·exact g.kd i o B e e2
   ·have:=(ab.mp e).1;omega
 have P:Rp Γ (λ i=>if i=s1.length then p else φ' i) H' (s1++[.lst l]):=by
  refine⟨λ i j J Y ei ej mi mj e=>?_,λ i o e=>?_,λ i o e=>?_,C.tab⟩
  ·rcases key i J ei with⟨y,ei⟩|⟨y,_⟩<;>rcases key j Y ej with⟨hj,ej⟩|⟨hj,_⟩
   ·rw[if_neg (ay y),if_neg (ay hj)]at e
    exact C.inj i j J Y ei ej mi mj e
   ·rw[if_neg (ay y),if_pos hj]at e
    exact absurd e (ho i J ei mi)
   ·rw[if_neg (ay hj),if_pos y]at e
    exact absurd e.symm (ho j Y ej mj)
   ·rw[y,hj]
  ·rcases key i o e with⟨y,e⟩|⟨y,rfl⟩
   ·show RO Γ _ _ (if i=s1.length then p else φ' i) o
    rw[if_neg (ay y)]
    exact(C.obj i o e).mono gw (C.wf i o e) λ _ u hu=>hu
   ·show RO Γ _ _ (if i=s1.length then p else φ' i) _
    rw[if_pos y]
    exact⟨ys,hp,RVL.monoW gw l ys hb r⟩
  ·rw[aZ,cM]
   rcases key i o e with⟨_,e⟩|⟨_,rfl⟩
   ·exact qF (cT _) _ (C.wf i o e)
   ·exact qF (cT _) _ (by unfold kz;exact hb)
 exact q (.ref p) _ H' G (by simp;omega) (by unfold ku;simp) (by unfold RV;simp) P
theorem bS9 {φ:Nat->Addr}{H:Hp}{n:Nat}{ρ:kr}{σ:St}(E:RE Γ φ H n ρ σ)(h:List (Option Nat)):RE Γ φ H n (lq ρ h) (aC5 h σ):=by
 refine⟨by unfold lq aC5;simp,λ i d e=>?_⟩
 unfold lq at e
 rw[ax]at e
 cases q:h[i]? with
 | none=>rw[q]at e;cases e
 | some o =>
  rw[q]at e
  cases o with
  | none=>cases e
  | some j =>
   have e':(ρ[j]?).join=some d:=ao e
   have ej:ρ[j]?=some (some d):=by
    cases q2:ρ[j]? with
    | none=>rw[q2]at e';cases e'
    | some o2=>rw[q2]at e';exact congrArg some e'
   obtain⟨b,v,B,y⟩:=E.val j d ej
   refine⟨b,v,?_,y⟩
   unfold aC5
   rw[ax,q]
   show some ((σ[j]?).join)=_
   rw[B];rfl
theorem bh5 {mI:kr->kn->kt lp}{mc me:kr->kn->kt ko}{tg:kW}{C:List (Option Nat)}{σ:St}{H:Hp}{Q:VK}
  (h:TFv Γ (λ ρ s=>(mI ρ s).bind λ q s0=>if q.its.length<=kC then lx (λ s=>kY s0 s q.src) (λ d ρ s=>match kK ρ tg d with
   | some ρ=>kE (mc ρ s) λ k s=>if k then(me ρ s).bind λ v s=>.ok (some v,ρ) s else .ok (none,ρ) s
   | none=>.bad) q.its (lq ρ C) s0 else .bad) σ H Q):tComp C (TIv Γ mI) (gOf Γ.K tg) (TTv Γ mc) (TEv Γ me) σ H Q:=by
 obtain⟨φ,ρ,s,l,s',E,R,hm,k⟩:=h
 obtain⟨q,s0,e1,hm⟩:=aa1 hm
 split at hm
 case isFalse=>exact fb hm
 rename_i b4
 refine⟨φ,ρ,s,q,s0,E,R,e1,λ J φ1 H1 g1 l1 b1 R1 wk D hD=>?_⟩
 have h0:H D=none:=by
  cases e:H D with
  | none=>rfl
  | some o=>exact absurd hD (g1.st D (by rw[e];simp))
 refine⟨λ i m σ' H'=>∃ φ' ρ' t y ys rest,Gr φ1 s0 H1 φ' t H'/\Rp Γ φ' H' t/\RE Γ φ' H' t.length ρ' σ'/\H' D=some (.lst ys)/\Off φ' t D/\RVL Γ φ' H' y ys/\kq t.length y=true/\y.length<=i/\i<=q.its.length/\m=q.its.length - i /\
  lx (λ s=>kY s0 s q.src) (λ d ρ s=>match kK ρ tg d with
   | some ρ=>kE (mc ρ s) λ k s=>if k then(me ρ s).bind λ v s=>.ok (some v,ρ) s else .ok (none,ρ) s
   | none=>.bad) (q.its.drop i) ρ' t=.ok rest s'/\l=y++rest,⟨q.its.length,?_⟩,?_⟩
 ·obtain⟨g2,R2⟩:=R1.same (H':=upd H1 D (.lst [])) ((ai5.refl H1).new hD)
  exact⟨φ1,lq ρ C,s0,[],[],l,g2,R2,bS9 ((E.mono g1 l1).mono g2 (ah _)) C,zt,Off.new R1 hD,.nil,rfl,ah _,cS _,by simp,by rw[jN];exact hm,rfl⟩
 ·rintro i m σ' H' ⟨φ',ρ',t,y,ys,rest,g,R',E',hy,a2,ra,ba,b6,hil,rfl,hc,hl⟩
  have B:=g.le
  rcases fO i q.its.length with hlt|hge
  ·have hd:q.its[i]?=some q.its[i]:=ag hlt
   rw[eK hlt]at hc
   unfold lx at hc
   split at hc
   case isFalse=>exact fb hc
   rename_i a3
   obtain⟨b2,b3⟩:=(wk φ' H' t g B R' a3 i).1 hlt
   refine .inr ⟨b2,_,λ σ2 H2 n=>⟨q.its.length - (i+1),by omega,n⟩,λ x H2 a6=>?_⟩
   obtain⟨sm,rv⟩:=b3 x H2 a6
   obtain⟨g2,R2⟩:=R'.same sm
   have rd:=rv _ hd
   have bd:(q.its[i]).bnd t.length=true:=zT B _ (an6 b1 hd)
   obtain⟨p,t3,hs,hc⟩:=aa1 hc
   obtain⟨r2,t4,a4,hc⟩:=aa1 hc
   cases hb:kK ρ' tg q.its[i]with
   | none=>rw[hb]at hs;cases hs
   | some ρ3 =>
    rw[hb]at hs
    refine bH2 (E'.mono g2 (ah _)) rd bd hb λ σ3 E3=>?_
    obtain⟨c,t1,ec,hs⟩:=qa hs
    refine⟨φ',ρ3,t,c,t1,E3,R2,ec,λ φ2 H4 Z l4 R4=>?_⟩
    have a5:H2 D=some (.lst ys):=sm _ _ hy
    have a1:H4 D=some (.lst ys):=Z.fr D _ a5 (by nofun) a2
    have G:Off φ2 t1 D:=a2.mono Z a5
    have G4:=(g.trans g2 B).trans Z B
    cases c with
    | true =>
     rw[if_pos rfl]at hs
     refine cn0 ?_
     obtain⟨v,t2,ev,hs⟩:=aa1 hs
     cases hs
     refine⟨φ2,ρ3,t1,v,t3,E3.mono Z l4,R4,ev,λ w φ3 H5 g5 l5 b5 r5 R5=>?_⟩
     have Y:H5 D=some (.lst ys):=g5.fr D _ a1 (by nofun) G
     have a0:Off φ3 t3 D:=G.mono g5 a1
     refine⟨ys,Y,?_,?_⟩
     ·rw[ra.length]
      have:=qV
      omega
     ·have gw:Gw φ3 t3.length H5 φ3 (upd H5 D (.lst (ys++[w]))):=⟨λ _ _=>rfl,(Kp.refl H5).put Y rfl⟩
      have G5:=G4.trans g5 (aw B l4)
      have GG:=g2.trans (Z.trans g5 l4) (ah _)
      have b0:RVL Γ φ3 H5 y ys:=RVL.mono GG _ _ ba ra
      have bb:kq t3.length (y++[v])=true:=ql (ab9 GG.le _ ba) (by unfold kq;rw[b5];rfl)
      refine⟨φ3,ρ3,t3,y++[v],ys++[w],r2,G5.foreign hD Y,R5.foreign Y a0,?_,zt,a0,RVL.monoW gw _ _ bb (b0.append (.cons r5 .nil)),bb,by simp;omega,hlt,rfl,?_,?_⟩
      ·have E5:=(E3.mono Z l4).mono g5 l5
       exact⟨E5.len,λ j e hj=>by
        obtain⟨h1,z,h2,h3⟩:=E5.val j e hj
        exact⟨h1,z,h2,RV.monoW gw _ _ h1 h3⟩⟩
      ·cases hc;exact a4
      ·cases hc;rw[hl];simp
    | false =>
     rw[if_neg aP]at hs
     refine cm1 ?_
     cases hs
     have GG:=g2.trans Z (ah _)
     exact⟨φ2,ρ3,t3,y,ys,r2,G4,R4,E3.mono Z l4,a1,G,RVL.mono GG _ _ ba ra,ab9 l4 _ ba,by omega,hlt,rfl,by cases hc;exact a4,by cases hc;exact hl⟩
  ·have hi:i=q.its.length:=by omega
   rw[fQ hge]at hc
   unfold lx at hc
   split at hc
   case isFalse=>exact fb hc
   rename_i a3
   cases hc
   refine .inl ⟨(wk φ' H' s' g B R' a3 i).2 hge,?_⟩
   rw[bC]at hl
   subst hl
   exact k D ys φ' H' (g1.trans g l1) (aw l1 B) ba hy h0 a2 ra R'
variable {Γ:Gm} {X:Cx}
noncomputable def ci6 (Γ:Gm)(φ:Nat->Addr)(H:Hp)(n:Nat)(D:Ends):kX->Prop
 | .next ρ=>∀ σ,RE Γ φ H n ρ σ->D.nx σ H
 | .ret d=>∀ v,d.bnd n=true->RV Γ φ H d v->D.rt v H
 | .cont ρ=>∀ σ,RE Γ φ H n ρ σ->D.ct σ H
 | .brk ρ=>∀ σ,RE Γ φ H n ρ σ->D.bk σ H
def aq9 (Γ:Gm)(φ:Nat->Addr)(s:kn)(H:Hp)(c:kX)(s':kn)(D:Ends):Prop :=
 ∀ φ' H',Gr φ s H φ' s' H'->s.length<=s'.length->Rp Γ φ' H' s'->ci6 Γ φ' H' s'.length D c
def TSv (Γ:Gm)(m:kr->kn->kt kX):TS:=λ D σ H=>∃ φ ρ s c s',RE Γ φ H s.length ρ σ/\Rp Γ φ H s/\m ρ s=.ok c s'/\aq9 Γ φ s H c s' D
theorem PS.imp {e:Stmt}{t t':TS}(h:PS X e t)(i:∀ D σ H,t' D σ H->t D σ H):PS X e t':=λ y s σ H Q I q=>h y s σ H Q I (i Q σ H q)
theorem PSs.imp {e:List Stmt}{t t':TS}(h:PSs X e t)(i:∀ D σ H,t' D σ H->t D σ H):PSs X e t':=λ y s σ H Q I q=>h y s σ H Q I (i Q σ H q)
theorem aq9.trans {φ φ1:Nat->Addr}{s s1 s':kn}{H y:Hp}{c:kX}{D:Ends}(h:aq9 Γ φ s H c s' D)(g:Gr φ s H φ1 s1 y)(l:s.length<=s1.length):aq9 Γ φ1 s1 y c s' D :=
 λ φ' H' g' B p=>h φ' H' (g.trans g' l) (aw l B) p
theorem aq9.here {φ:Nat->Addr}{s:kn}{H:Hp}{c:kX}{D:Ends}(h:aq9 Γ φ s H c s D)(p:Rp Γ φ H s):ci6 Γ φ H s.length D c:=h φ H (Gr.refl φ s H) (ah _) p
variable {D:Ends} {σ:St} {H:Hp}
theorem by8 {m:kr->kn->kt kX}(y:∀ ρ s,m ρ s=.ok (.next ρ) s)(h:TSv Γ m D σ H):bV0 D σ H:=by
 obtain⟨φ,ρ,s,c,s',E,R,e,q⟩:=h
 rw[y]at e;cases e
 exact q.here R σ E
theorem bN3 {m:kr->kn->kt ko}(h:TSv Γ (λ ρ s=>(m ρ s).bind λ d s=>.ok (.ret d) s) D σ H):cl6 (TEv Γ m) D σ H:=by
 obtain⟨φ,ρ,s,c,s',E,R,e,q⟩:=h
 obtain⟨x,s1,e1,e⟩:=aa1 e
 cases e
 exact⟨φ,ρ,s,x,_,E,R,e1,λ v φ1 B g1 l1 y r1 R1=>q φ1 B g1 l1 R1 v y r1⟩
theorem bE0 {m:kr->kn->kt ko}(h:TSv Γ (λ ρ s=>(m ρ s).bind λ _ s=>.ok (.next ρ) s) D σ H):bL9 (TEv Γ m) D σ H:=by
 obtain⟨φ,ρ,s,c,s',E,R,e,q⟩:=h
 obtain⟨x,s1,e1,e⟩:=aa1 e
 cases e
 exact⟨φ,ρ,s,x,_,E,R,e1,λ v φ1 y g1 l1 B r1 R1=>q φ1 y g1 l1 R1 σ (E.mono g1 l1)⟩
theorem bg7 {m:kr->kn->kt ko}{tg:kW}(h:TSv Γ (λ ρ s=>(m ρ s).bind λ d s=>match kK ρ tg d with|some ρ=>.ok (.next ρ) s|none=>.bad) D σ H):bm0 (TEv Γ m) (gOf Γ.K tg) D σ H:=by
 obtain⟨φ,ρ,s,c,s',E,R,e,q⟩:=h
 obtain⟨x,s1,e1,e⟩:=aa1 e
 refine⟨φ,ρ,s,x,s1,E,R,e1,λ v φ1 C g1 l1 y r1 R1=>?_⟩
 cases hb:kK ρ tg x with
 | none=>rw[hb]at e;cases e
 | some ρ1 =>
  rw[hb]at e
  cases e
  exact bH2 (E.mono g1 l1) r1 y hb λ σ' B=>q φ1 C g1 l1 R1 σ' B
theorem bq9 {m:kr->kn->kt (List ko)}(h:TSv Γ (λ ρ s=>((m ρ s).bind λ l s=>k6 (.lst l) s).bind λ d s=>match kK ρ tg d with|some ρ=>.ok (.next ρ) s|none=>.bad) D σ H):bm0 (TFv Γ m) (gOf Γ.K tg) D σ H :=
 be3 (bg7 h)
def bO0 (Γ:Gm):bZ4:=λ o i v H Q=>∃ φ s x y d s',Rp Γ φ H s/\RV Γ φ H x o/\RV Γ φ H y i/\RV Γ φ H d v/\x.bnd s.length=true/\y.bnd s.length=true/\d.bnd s.length=true/\DV.setIx x y d s=.ok () s' /\
 ∀ φ' H',Gr φ s H φ' s' H'->s.length<=s'.length->Rp Γ φ' H' s'->Q H'
theorem bj4 {Z mo J:kr->kn->kt ko}(h:TSv Γ (λ ρ s=>(Z ρ s).bind λ d s=>(mo ρ s).bind λ x s=>(J ρ s).bind λ y s=>(DV.setIx x y d s).bind λ _ s=>.ok (.next ρ) s) D σ H) :
  bm0 (TEv Γ Z) (ck6 (TEv Γ mo) (TEv Γ J) (bO0 Γ)) D σ H:=by
 obtain⟨φ,ρ,s,c,s',E,R,e,q⟩:=h
 obtain⟨d,s1,e1,e⟩:=aa1 e
 obtain⟨x,s2,e2,e⟩:=aa1 e
 obtain⟨y,s3,e3,e⟩:=aa1 e
 obtain⟨u,s4,e4,e⟩:=aa1 e
 cases e
 refine⟨φ,ρ,s,d,s1,E,R,e1,λ v1 φ1 H1 g1 l1 b1 r1 R1=>?_⟩
 refine⟨φ1,ρ,s1,x,s2,E.mono g1 l1,R1,e2,λ v2 φ2 H2 g2 G b2 r2 R2=>?_⟩
 have G2:=g1.trans g2 l1
 have L2:=aw l1 G
 refine⟨φ2,ρ,s2,y,s3,E.mono G2 L2,R2,e3,λ v3 φ3 H3 C B b3 r3 R3=>?_⟩
 refine⟨φ3,s3,x,y,d,_,R3,RV.mono C x v2 b2 r2,r3,RV.mono (g2.trans C G) d v1 b1 r1,zT B x b2,b3,zT (aw G B) d b1,e4,λ φ4 H4 g4 Y R4=>?_⟩
 have G3:=G2.trans C L2
 have L3:=aw L2 B
 exact q φ4 H4 (G3.trans g4 L3) (aw L3 Y) R4 σ (E.mono (G3.trans g4 L3) (aw L3 Y))
theorem bW9 (hu:X.A.units+1<cLine):ca5 X (bO0 Γ):=by
 intro G sh σ H o i v ov iv u Q I ro ri rv h
 obtain⟨φ,s,x,y,d,s',R,rx,ry,rd,bx,Y,bd,B,q⟩:=h
 cases x with
 | ref r =>
  have B:(match s[r]? with
   | some (.lst l)=>(match y with
    | .int i=>(match k7 l.length i with|some j=>DV.R.ok () (s.set r (.lst (l.set j d)))|none=>.bad)
    | _=>.bad)
   | some (.dic l)=>if y.key&&decide (l.length<kC)then .ok () (s.set r (.dic (kQ y d l)))else .bad
   | _=>.bad)=.ok () s':=B
  cases e:s[r]? with
  | none=>rw[e]at B;cases B
  | some ob =>
   rw[e]at B
   cases ob with
   | lst l =>
    cases y with
    | int k =>
     have B:(match k7 l.length k with|some j=>DV.R.ok () (s.set r (.lst (l.set j d)))|none=>.bad)=.ok () s':=B
     cases ej:k7 l.length k with
     | none=>rw[ej]at B;cases B
     | some j =>
      rw[ej]at B
      cases B
      obtain⟨xs,J,C⟩:=R.addr e
      have hb:kq s.length (l.set j d)=true:=ac7.mpr λ z hz=>by
       rcases eM hz with h|h
       ·exact ac7.mp (by have:=R.wf r _ e;unfold kz at this;exact this) z h
       ·subst h;exact bd
      refine bm9 G sh σ H o i v ov iv u Q I ro ri rv ⟨φ r,xs,k,j,rx.refE,ry.intE,J,?_,?_⟩
      ·rw[C.length];exact ej
      ·obtain⟨g,R'⟩:=R.set (o:=.lst (l.set j d)) (u:=.lst (xs.set j v)) e rfl hb λ H' g e=>⟨_,e,RVL.monoW g _ _ hb (C.set j rd)⟩
       exact q _ _ g (by simp) R'
    | _=>exact fb B
   | dic l =>
    have B:(if y.key&&decide (l.length<kC)then DV.R.ok () (s.set r (.dic (kQ y d l)))else .bad)=.ok () s':=B
    split at B
    case isFalse=>exact fb B
    rename_i hc
    cases B
    rw[aq]at hc
    obtain⟨k,hk⟩:=an1 hc.1
    have hlt:=of_decide_eq_true hc.2
    obtain⟨a0,J,C⟩:=R.obj r _ e
    have ex:=rx.refE;subst ex
    cases ro
    have ey:=aO2 hk ry;subst ey
    have hb:(DV.O.dic (kQ y d l)).bnd s.length=true:=bo3 (R.wf r _ e) Y bd
    have Z:kq s.length ((kQ y d l).map (·.2))=true:=by
     unfold kz at hb
     rw[aq]at hb
     exact hb.2
    obtain⟨g,R'⟩:=R.set (o:=.dic (kQ y d l)) (u:=.dK (aA0 a0 k v)) e rfl hb λ H' g e=>⟨_,e,RVD.monoW g _ _ Z (C.put hk rd)⟩
    exact aZ3 hu I (bZ7.k J (by rw[C.length];exact am hlt qV)) ri rv λ s4 I4=>⟨_,I4,q _ _ g (by simp) R'⟩
   | _=>exact fb B
 | _=>exact fb B
theorem bU2 {i:Nat}{m:kr->kn->kt ko} (h:TSv Γ (λ ρ s=>(lG ρ i s).bind λ x s=>(m ρ s).bind λ y s=>match x,y with
  | .int a,.int b=>match kS ρ i (.int (a+b))with|some ρ=>.ok (.next ρ) s|none=>.bad
  | _,_=>.bad) D σ H):ck2 i (TEv Γ m) (ipI λ i j=>i+j) D σ H:=by
 obtain⟨φ,ρ,s,c,s',E,R,C,q⟩:=h
 obtain⟨x,s1,e1,B⟩:=aa1 C
 obtain⟨y,s2,e2,e⟩:=aa1 B
 clear C B
 unfold lG at e1
 split at e1
 case h_2=>cases e1
 rename_i d hd
 cases e1
 obtain⟨b,v,Y,G⟩:=E.val i _ hd
 refine⟨v,Y,φ,ρ,s,y,s2,E,R,e2,λ w φ1 J g1 l1 Z r1 R1=>?_⟩
 cases x with
 | int a =>
  cases y with
  | int b =>
   refine⟨a,b,G.intE,r1.intE,?_⟩
   have e:(match kS ρ i (.int (a+b))with|some ρ=>DV.R.ok (DV.Ct.next ρ) s2|none=>.bad)=.ok c s':=e
   cases hs:kS ρ i (.int (a+b))with
   | none=>rw[hs]at e;cases e
   | some ρ1 =>
    rw[hs]at e
    cases e
    exact q φ1 J g1 l1 R1 _ (bh3 (E.mono g1 l1) RV.intI rfl hs)
  | _=>cases e
 | _=>cases e
theorem cc5 {mc:kr->kn->kt ko}{B C:kr->kn->kt kX}(h:TSv Γ (λ ρ s=>kE (mc ρ s) λ k s=>if k then B ρ s else C ρ s) D σ H):ck1 (TTv Γ mc) (TSv Γ B) (TSv Γ C) D σ H:=by
 obtain⟨φ,ρ,s,d,s',E,R,y,q⟩:=h
 obtain⟨c,s1,e1,y⟩:=qa y
 refine⟨φ,ρ,s,c,s1,E,R,e1,λ φ1 G g1 l1 R1=>?_⟩
 cases c with
 | true =>
  rw[if_pos rfl]at y ⊢
  exact⟨φ1,ρ,s1,d,s',E.mono g1 l1,R1,y,q.trans g1 l1⟩
 | false =>
  rw[if_neg aP]at y ⊢
  exact⟨φ1,ρ,s1,d,s',E.mono g1 l1,R1,y,q.trans g1 l1⟩
theorem bV5 {G J:kr->kn->kt kX}(h:TSv Γ (λ ρ s=>(G ρ s).bind λ c s=>match c with|.next ρ=>J ρ s|c=>.ok c s) D σ H):ci5 (TSv Γ G) (TSv Γ J) D σ H:=by
 obtain⟨φ,ρ,s,c,s',E,R,y,q⟩:=h
 obtain⟨C,s1,e1,y⟩:=aa1 y
 refine⟨φ,ρ,s,C,s1,E,R,e1,λ φ1 B g1 l1 R1=>?_⟩
 cases C with
 | next ρ1=>exact λ σ1 Y=>⟨φ1,ρ1,s1,c,s',Y,R1,y,q.trans g1 l1⟩
 | ret d=>cases y;exact q φ1 B g1 l1 R1
 | cont ρ=>cases y;exact q φ1 B g1 l1 R1
 | brk ρ=>cases y;exact q φ1 B g1 l1 R1
theorem br2 {mc:kr->kn->kt ko}{B:kr->kn->kt kX}(h:TSv Γ (DV.whl mc B) D σ H):bt8 (TTv Γ mc) (TSv Γ B) D σ H:=by
 obtain⟨φ,ρ,s,c,s',E,R,y,q⟩:=h
 unfold DV.whl at y
 split at y
 case isFalse=>exact fb y
 rename_i hn
 generalize hn.choose=n at y
 refine⟨λ n σ H=>∃ φ ρ s,RE Γ φ H s.length ρ σ/\Rp Γ φ H s/\DV.jK mc B n ρ s=.ok c s'/\aq9 Γ φ s H c s' D,⟨n,φ,ρ,s,E,R,y,q⟩,?_⟩
 clear E R y q hn
 rintro n σ H ⟨φ,ρ,s,E,R,y,q⟩
 cases n with
 | zero=>exact fb y
 | succ n =>
  unfold DV.jK at y
  obtain⟨b,s1,e1,y⟩:=qa y
  refine⟨φ,ρ,s,b,s1,E,R,e1,λ φ1 Y g1 l1 R1=>?_⟩
  cases b with
  | false =>
   rw[if_neg aP]at y ⊢
   cases y
   exact q φ1 Y g1 l1 R1 σ (E.mono g1 l1)
  | true =>
   rw[if_pos rfl]at y ⊢
   obtain⟨J,s2,e2,y⟩:=aa1 y
   refine⟨_,λ σ' H' w=>⟨n,dH n,w⟩,φ1,ρ,s1,J,s2,E.mono g1 l1,R1,e2,λ φ2 H2 Z l2 R2=>?_⟩
   have G:=g1.trans Z l1
   have L:=aw l1 l2
   cases J with
   | next ρ1=>exact λ σ1 C=>⟨φ2,ρ1,s2,C,R2,y,q.trans G L⟩
   | cont ρ1=>exact λ σ1 C=>⟨φ2,ρ1,s2,C,R2,y,q.trans G L⟩
   | ret d=>cases y;exact q φ2 H2 G L R2
   | brk ρ=>cases y;exact q φ2 H2 G L R2
theorem bW8 {mI : DV.Env -> DV.Sto -> DV.R DV.Sq} {mb : DV.Env -> DV.Sto -> DV.R DV.Ct} {tg : DV.Tg} (h : TSv Γ (λ ρ s => (mI ρ s).bind λ q s0 => DV.aS7 (λ s => DV.chk s0 s q.src) (λ d ρ s => match DV.af2 ρ tg d with
      | some ρ => mb ρ s
      | none => .bad) q.its ρ s0) D σ H) : ci4 (TIv Γ mI) (gOf Γ.K tg) (TSv Γ mb) D σ H := by
  obtain⟨φ, ρ, s, c, s', E, R, hm, k⟩ := h
  obtain⟨q, s0, e1, hm⟩ := aa1 hm
  refine⟨φ, ρ, s, q, s0, E, R, e1, λ J φ1 H1 g1 l1 b1 R1 wk => ?_⟩
  refine⟨λ i m σ' H' => ∃ φ' ρ' t, Gr φ1 s0 H1 φ' t H' /\ Rp Γ φ' H' t /\ RE Γ φ' H' t.length ρ' σ' /\ i <= q.its.length /\ m = q.its.length - i /\
    lH (λ s => kY s0 s q.src) (λ d ρ s => match kK ρ tg d with
      | some ρ => mb ρ s
      | none => .bad) (q.its.drop i) ρ' t = .ok c s', ⟨q.its.length, ?_⟩, ?_⟩
  · exact⟨φ1, ρ, s0, Gr.refl _ _ _, R1, E.mono g1 l1, cS _, by simp, by rw[jN]; exact hm⟩
  · rintro i m σ' H' ⟨φ', ρ', t, g, R', E', hil, rfl, hc⟩
    have hle := g.le
    rcases fO i q.its.length with hlt|hge
    · have hd : q.its[i]? = some q.its[i] := ag hlt
      rw[eK hlt]at hc
      unfold lH at hc
      split at hc
      case isFalse => exact fb hc
      rename_i hck
      obtain⟨hgo, hy2⟩ := (wk φ' H' t g hle R' hck i).1 hlt
      refine .inr ⟨hgo, _, λ σ2 H2 n => ⟨q.its.length - (i + 1), by omega, n⟩, λ x H2 hyl => ?_⟩
      obtain⟨sm, rv⟩ := hy2 x H2 hyl
      obtain⟨g2, R2⟩ := R'.same sm
      have rd := rv _ hd
      have bd : (q.its[i]).bnd t.length = true := zT hle _ (an6 b1 hd)
      obtain⟨c1, t3, hs, hc⟩ := aa1 hc
      cases hb : kK ρ' tg q.its[i]with
      | none => rw[hb]at hs; cases hs
      | some ρ3 =>
        rw[hb]at hs
        refine bH2 (E'.mono g2 (ah _)) rd bd hb λ σ3 E3 => ?_
        refine⟨φ', ρ3, t, c1, t3, E3, R2, hs, λ φ2 H4 g4 l4 R4 => ?_⟩
        have G4 := (g.trans g2 hle).trans g4 hle
        have L4 := aw hle l4
        have GG := g1.trans G4 l1
        cases c1 with
        | next ρ1 => exact λ σ1 E1 => ⟨φ2, ρ1, t3, G4, R4, E1, hlt, rfl, hc⟩
        | cont ρ1 => exact λ σ1 E1 => ⟨φ2, ρ1, t3, G4, R4, E1, hlt, rfl, hc⟩
        | ret d => cases hc; exact k φ2 H4 GG (aw l1 L4) R4
        | brk ρ => cases hc; exact k φ2 H4 GG (aw l1 L4) R4
    · rw[fQ hge]at hc
      unfold lH at hc
      split at hc
      case isFalse => exact fb hc
      rename_i hck
      cases hc
      exact .inl ⟨(wk φ' H' s' g hle R' hck i).2 hge, k φ' H' (g1.trans g l1) (aw l1 hle) R' σ' E'⟩
structure Ck where
 N:List Str
 sc:Scope
 lk:String->List Nat->Expr->Bool
noncomputable abbrev ck0 (N:List Str)(sc:Scope):Ck:=⟨N,sc,λ _ _ _=>false⟩
noncomputable def Ck.vis (c:Ck)(x:Str):Bool:=match c.sc.names.lookup x with|some .local=>true|some .cell=>true|some .free=>true|_=>false
noncomputable def Ck.loc (c:Ck)(x:Str):Bool:=match c.sc.names.lookup x with|some .local=>true|some .cell=>true|_=>false
noncomputable def Ck.gl (c:Ck)(x:Str):Bool:=(match c.sc.names.lookup x with|some .globalImplicit=>true|_=>false)&&!(x==("__debug__":Str))&&!decide (x=("__name__":Str))
noncomputable def Ck.var (c:Ck)(i:Nat)(x:Str):Bool:=decide (c.N[i]?=some x)&&c.vis x&&!(x==("__debug__":Str))&&!(x==("__classdict__":Str))
noncomputable def shp:Expr->Bool
 | .Starred ..=>false
 | .Set ..=>false
 | .SetComp ..=>false
 | .DictComp ..=>false
 | .GeneratorExp ..=>false
 | .Slice ..=>false
 | .NamedExpr ..=>false
 | _=>true
noncomputable def aD9:Expr->Bool
 | .ListComp ..=>false
 | .SetComp ..=>false
 | .DictComp ..=>false
 | _=>true
noncomputable def bj5:Expr->Bool
 | .Tuple ..=>false
 | _=>true
noncomputable def ch3:Expr->Bool
 | .Call _ [] [] _=>false
 | _=>true
noncomputable def mC:DV.Cn->Const->Bool
 | .non,.none=>true
 | .bl b,.bool c=>b==c
 | .int i,.int j=>decide (i=j)
 | .str x,.str y=>decide (y=⟨x.toArray⟩)&&decide (x.length<=1000)
 | _,_=>false
noncomputable def bZ3 (ck:Ck):List Nat->List Expr->Bool
 | [],[]=>true
 | i::is,.Name x _::es=>decide (ck.N[i]?=some x)&&ck.loc x&&bZ3 ck is es
 | _,_=>false
noncomputable def mTg (ck:Ck):kW->Expr->Bool
 | .one i,.Name x _=>decide (ck.N[i]?=some x)&&ck.loc x
 | .tup is,.Tuple es _ _=>bZ3 ck is es
 | _,_=>false
noncomputable def tgN:Expr->List Str
 | .Name x _=>[x]
 | .Tuple es _ _=>es.filterMap λ e=>match e with|.Name x _=>some x|_=>none
 | _=>[]
noncomputable def ckC (ck:Ck)(tgt:Expr)(caps:List (Option Nat))(scope:Scope):Ck:=⟨tgN tgt++(caps.filterMap id).map λ j=>ck.N.getD j "",scope,λ _ _ _=>false⟩
noncomputable def aS5 (ck:Ck)(tg:kW)(tgt iter:Expr)(caps:List (Option Nat))(scope:Scope):Bool :=
 qt (ckC ck tgt caps scope).N caps scope ck.N ck.sc&&decide ((ckC ck tgt caps scope).N.Nodup)&&mTg (ckC ck tgt caps scope) tg tgt&&shp iter
noncomputable def biT:kU->Option Str
 | .len=>some "len" | .abs=>some "abs" | .min2=>some "min" | .max2=>some "max" | .max3=>some "max" | .int=>some "int" | _=>none
noncomputable def biK:kU->Option (Nat×Str)
 | .isInt=>some (1, "int")|.isBool=>some (2, "bool")|.isStr=>some (3, "str")|.isTup=>some (4, "tuple")|.isList=>some (5, "list")|_=>none
noncomputable def mkT:ly->Option Str
 | .tuple=>some "tuple" | .list=>some "list" | _=>none
noncomputable def mkF:ly->Option Str
 | .all=>some "all" | .min=>some "min" | _=>none
noncomputable def mtT:lz->Option (Str×Nat)
 | .append=>some ("append",1)|.index=>some ("index",1)|_=>none
noncomputable def bp5:k9->Bool
 | .nil=>false
 | .ex _ as=>bp5 as
 | .lam _ _ _=>true
 | .fn _ as=>bp5 as
noncomputable def ca1 (ck:Ck)(b:kU)(x:Str)(xs:List Expr)(m1 m2:Bool):Bool:=match biK b with
 | some p=>(match xs with|[_,.Name y _]=>decide (x=("isinstance":Str))&&ck.gl x&&decide (y=p.2)&&ck.gl y&&m2|_=>false)
 | none=>(match xs with|_::_=>decide (biT b=some x)&&ck.gl x&&m1|[]=>false)
mutual
noncomputable def mE (ck:Ck):lj->Expr->Bool
 | .var i,E=>match E with|.Name x _=>ck.var i x|_=>false
 | .cst c,E=>match E with|.Constant v _ _=>mC c v|_=>false
 | .glob g,E=>match E with|.Name x _=>decide (x=(g:Str))&&ck.gl x|_=>false
 | .bin op a b,E=>match E with|.BinOp l o r _=>decide (o=cf1 op)&&mE ck a l&&mE ck b r|_=>false
 | .neg a,E=>match E with|.UnaryOp .USub l _=>mE ck a l|_=>false
 | .not a,E=>match E with|.UnaryOp .Not l _=>mE ck a l|_=>false
 | .cmp op a b,E=>match E with|.Compare l [o] [r] _=>decide (o=bx8 op)&&mE ck a l&&mE ck b r|_=>false
 | .chain _ _ _ _ _,_=>false
 | .isN a,E=>match E with|.Compare l [.Is] [.Constant .none _ _] _=>mE ck a l|_=>false
 | .notN a,E=>match E with|.Compare l [.IsNot] [.Constant .none _ _] _=>mE ck a l|_=>false
 | .isB _ _,_=>false
 | .notB _ _,_=>false
 | .and a b,E=>match E with
  | .BoolOp .And [l,r] _=>mE ck a l&&mE ck b r
  | .BoolOp .And (l::m::r::es) p=>mE ck a l&&mE ck b (.BoolOp .And (m::r::es) p)
  | _=>false
 | .or a b,E=>match E with
  | .BoolOp .Or [l,r] _=>mE ck a l&&mE ck b r
  | .BoolOp .Or (l::m::r::es) p=>mE ck a l&&mE ck b (.BoolOp .Or (m::r::es) p)
  | _=>false
 | .ite c a b,E=>match E with|.IfExp t l r _=>mE ck c t&&mE ck a l&&mE ck b r|_=>false
 | .tup es,E=>match E with|.Tuple xs _ _=>mEs ck es xs&&decide (xs.length<=1000)|_=>false
 | .lst es,E=>match E with|.List xs _=>mEs ck es xs&&decide (xs.length<=1000)|_=>false
 | .dic ks vs,E=>match E with|.Dict a b _=>(match a,b with|[],[]=>mEs ck ks []&&mEs ck vs []|[some x],[y]=>mEs ck ks [x]&&mEs ck vs [y]|_,_=>false)|_=>false
 | .slL _ _,_=>false
 | .slU _ _,_=>false
 | .slLU _ _ _,_=>false
 | .rev _,_=>false
 | .ix a b,E=>match E with|.Subscript o i _=>mE ck a o&&mE ck b i|_=>false
 | .call f as,E=>match E with|.Call (.Name x _) xs [] _=>decide (x=(f:Str))&&ck.gl x&&mAs ck as xs|_=>false
 | .callC f as,E=>match E with|.Call (.Name x _) (y::ys) [] _=>decide (x=(f:Str))&&ck.gl x&&bp5 as&&bK4 ck as (y::ys)|_=>false
 | .callV i es,E=>match E with|.Call (.Name x _) (y::ys) [] _=>ck.var i x&&mEs ck es (y::ys)|_=>false
 | .bi b es,E=>match E with|.Call (.Name x _) xs [] _=>ca1 ck b x xs (mEs ck es xs) (mEs ck es (xs.take 1))|_=>false
 | .mk k l,E=>match E with
  | .Call (.Name x _) [a] [] _=>ck.gl x&&shp a&&((decide (mkT k=some x)&&mL ck 2 l a)||(decide (mkF k=some x)&&mL ck 1 l a))
  | .ListComp e gs sc p=>decide (k=.list)&&mL ck 0 l (.ListComp e gs sc p)
  | _=>false
 | .mkD k l d,E=>match E with
  | .Call (.Name x _) [a] [⟨some y,de,_⟩] _=>decide (k=.min)&&decide (x=("min":Str))&&decide (y=("default":Str))&&ck.gl x&&shp a&&mL ck 1 l a&&mE ck d de
  | _=>false
 | .meth m o es,E=>match E with
  | .Call (.Attribute ob x ap) xs [] cp=>decide (mtT m=some (x,xs.length))&&ch3 ob&&(ap.endLine==cp.line)&&mE ck o ob&&mEs ck es xs
  | _=>false
 | .ext _ _,_=>false
 | .extS _ _,_=>false
 | .mks _ _,_=>false
 | .mkDs _ _ _,_=>false
 | .join _ _,_=>false
noncomputable def mEs (ck:Ck):kL->List Expr->Bool
 | .nil,xs=>match xs with|[]=>true|_=>false
 | .cons e es,xs=>match xs with|x::xs=>mE ck e x&&shp x&&mEs ck es xs|_=>false
noncomputable def mAs (ck:Ck):k9->List Expr->Bool
 | .nil,xs=>match xs with|[]=>true|_=>false
 | .ex e es,xs=>match xs with|x::xs=>mE ck e x&&shp x&&mAs ck es xs|_=>false
 | .lam _ _ _,_=>false
 | .fn _ _,_=>false
noncomputable def bK4 (ck:Ck):k9->List Expr->Bool
 | .nil,xs=>match xs with|[]=>true|_=>false
 | .ex e es,xs=>match xs with|x::xs=>mE ck e x&&shp x&&bK4 ck es xs|_=>false
 | .lam id caps es,xs=>match xs with|x::xs=>ck.lk id caps x&&shp x&&bK4 ck es xs|_=>false
 | .fn _ _,_=>false
noncomputable def mI (ck:Ck)(tgt:Expr):DV.I->Expr->Bool
 | .rng1 a,E=>match E with|.Call (.Name x _) [l] [] _=>decide (x=("range":Str))&&ck.gl x&&mE ck a l&&shp l|_=>false
 | .rng2 _ _,_=>false
 | .seq e,x=>mE ck e x&&shp x
 | .rng3 _ _ _,_=>false
 | .enum (.seq _),_=>false
 | .zip (.seq _) (.seq _),_=>false
 | .enum _,_=>false
 | .zip _ _,_=>false
 | .items _,_=>false
noncomputable def mL (ck:Ck)(k:Nat):DV.L->Expr->Bool
 | .comp tg it e caps,E=>match E with|.ListComp elt [⟨tgt,iter,[],z⟩] scope _=>decide (z=0)&&aS5 ck tg tgt iter caps scope&&mI ck tgt it iter&&mE (ckC ck tgt caps scope) e elt|_=>false
 | .compIf tg it c e caps,E=>match E with|.ListComp elt [⟨tgt,iter,[i],z⟩] scope _=>decide (z=0)&&aS5 ck tg tgt iter caps scope&&mI ck tgt it iter&&mE (ckC ck tgt caps scope) c i&&mE (ckC ck tgt caps scope) e elt|_=>false
 | .disp es,E=>match E with|.List xs _=>decide (1<=k)&&mEs ck es xs&&decide (xs.length<=1000)|_=>false
 | .seq e,x=>decide (k=2)&&mE ck e x
end
theorem ff {p:Prop}(h:false=true):p:=Bool.noConfusion h
noncomputable def bI7:a8->Bool
 | ⟨[], args, none, [], [], none, []⟩ => args.all λ y => y.annotation.isNone
 | _=>false
noncomputable def cl1:List Stmt->Option (Str×a8×Expr×Pos×Scope×Pos×List Stmt)
 | .FunctionDef nm params [.Return (some b) rp] [] none [] scope none nm' pos::xs=>if nm'=nm then some (nm,params,b,rp,scope,pos,xs)else none
 | _=>none
noncomputable def cj6 (nm:Str):List Stmt->Option (Str×Pos×Expr×Pos×Pos×Pos)
 | [.Return (some (.Call (.Name g gp) [a,.Name x p2] [] cp)) rp2]=>if x=nm then some (g,gp,a,p2,cp,rp2)else none
 | _=>none
noncomputable def ca4:lP->lA->Option (Nat×String×lj×String×List Nat)
 | .und i,.cons (.ret (.callC g (.ex e (.lam id caps .nil)))) .nil=>some (i,g,e,id,caps)
 | _,_=>none
noncomputable def bV6 (ck:Ck)(s:lP)(ss:lA)(S:List Stmt):Bool :=
 (ca4 s ss).any λ d=>(cl1 S).any λ q=>(cj6 q.1 q.2.2.2.2.2.2).any λ r =>
  decide (ck.N[d.1]?=some q.1)&&ck.loc q.1&&ck.var d.1 q.1&&ck.lk d.2.2.2.1 d.2.2.2.2 (.NamedExpr (.Name q.1 q.2.2.2.1) (.Lambda q.2.1 q.2.2.1 q.2.2.2.2.1 q.2.2.2.2.2.1) q.2.2.2.2.2.1)&&decide (r.1=(d.2.1:Str))&&ck.gl r.1&&mE ck d.2.2.1 r.2.2.1&&shp r.2.2.1&&bI7 q.2.1
mutual
noncomputable def mS (ck:Ck):lP->Stmt->Bool
 | .asg tg e,S=>match S with
  | .Assign [t] v _=>mTg ck tg t&&mE ck e v&&(match tg with|.one _=>true|.tup _=>bj5 v&&aD9 v)
  | _=>false
 | .setIx o i e,S=>match S with|.Assign [.Subscript ob ix _] v _=>mE ck o ob&&mE ck i ix&&mE ck e v&&aD9 v&&bj5 v|_=>false
 | .aug i e,S=>match S with|.AugAssign (.Name x _) .Add v _=>decide (ck.N[i]?=some x)&&ck.loc x&&mE ck e v|_=>false
 | .ex e,S=>match S with|.Expr v _=>mE ck e v&&aD9 v|_=>false
 | .ret e,S=>match S with|.Return (some v) _=>mE ck e v|_=>false
 | .retN,_=>false
 | .ite c a b,S=>match S with|.If t l r _=>mE ck c t&&mSs ck a l&&mSs ck b r|_=>false
 | .whl c b,S=>match S with|.While t l [] _=>mE ck c t&&mSs ck b l|_=>false
 | .for_ tg it b,S=>match S with|.For tgt iter l [] _=>mTg ck tg tgt&&mI ck tgt it iter&&mSs ck b l|_=>false
 | .pass,_=>false
 | .cont,_=>false
 | .brk,_=>false
 | .raise,_=>true
 | .und _,_=>false
noncomputable def mSs (ck:Ck):lA->List Stmt->Bool
 | .nil,xs=>match xs with|[]=>true|_=>false
 | .cons s ss,xs=>match xs with|x::xs=>bV6 ck s ss (x::xs)||(mS ck s x&&mSs ck ss xs)|_=>false
end
theorem aL5 {y:Ck}{e:lj}{E:Expr}(h:mE y e E=true):shp E=true:=by
 cases E<;>first|rfl|(exfalso;cases e<;>exact ff h)
theorem bN7 {B:Ck}{y:Expr}{e:DV.I}{E:Expr}(h:mI B y e E=true):shp E=true:=by
 cases e with
 | seq e=>have h:(mE B e E&&shp E)=true:=h;rw[aq]at h;exact h.2
 | enum a=>cases E<;>first|rfl|(exfalso;cases a<;>exact ff h)
 | zip a b=>cases E<;>first|rfl|(exfalso;cases a<;>first|exact ff h|(cases b<;>exact ff h))
 | _=>cases E<;>first|rfl|exact ff h
theorem zw {e:Expr}{es:List Expr}{env:Env}(h:shp e=true):bj (e::es) env=(false,eval e env)::bj es env:=by
 cases e<;>first|rfl|cases h
theorem z4 {env:Env}{pos:Pos}:∀ {es:List Expr},(∀ e∈es,shp e=true)->(dq pos (bj es env)).any (·.1)=false/\(dq pos (bj es env)).all (λ x=>!x.1)=true
 | [],_=>⟨rfl,rfl⟩
 | e::es,h=>by
  have B:=zw (es:=es) (env:=env) (h e (aD ..))
  obtain⟨y,h3⟩:=z4 (env:=env) (pos:=pos) (es:=es) λ x hx=>h x (au _ hx)
  rw[B]
  unfold dq at y h3 ⊢
  simp only[aI,fh,fi,y,h3]
  exact⟨rfl,rfl⟩
theorem aG4 {e:Expr}{env:Env}(h:shp e=true)(x:Value):cO e env x=pure x:=by
 cases e<;>first|rfl|cases h
theorem aB5 {e:Expr}{op:CmpOp}(h:shp e=true):cK op e=false:=by
 cases e<;>first|rfl|cases h
theorem az2 {e:Expr}{t:Option Expr}{l:Nat}{env:Env}(h:aD9 e=true):ee e t l env=pure false:=by
 cases e<;>first|rfl|cases h
theorem bd7 {e:Expr}{f:Str}{env:Env}(h:ch3 e=true):fc e f env (eval e env)=eval e env:=by
 cases e with
 | Call g a k p =>
  cases g with
  | Name x p' =>
   cases a with
   | nil=>cases k with
    | nil=>cases h
    | cons _ _=>rfl
   | cons _ _=>rfl
  | _=>rfl
 | _=>rfl
theorem aU2 {es:List Expr}{k:Nat}{p:Pos}{e:Expr}{env:Env}(h:bj5 e=true):gU [.Tuple es k p] e env=pure none:=by
 cases e<;>first|rfl|cases h
theorem aT7 {o i:Expr}{p:Pos}{e:Expr}{env:Env}(h:bj5 e=true):gU [.Subscript o i p] e env=pure none:=by
 cases e<;>first|rfl|cases h
theorem aR6 {e:Expr}(h:shp e=true):bh8 e:=by
 intro o i
 cases e<;>first|rfl|cases h
def spV (Γ:Gm)(c:List ko->kn->kt ko):Sp:=λ vs H Q _=>rCl Γ c vs H Q
noncomputable def bNames:List Str:=["len", "abs", "min", "max", "int", "isinstance", "bool", "str", "tuple", "list", "range", "sum", "all", "any", "sorted", "zip", "enumerate", "ord"]
def spL (Γ:Gm)(c:List ko->List ko->kn->kt ko)(cap:List V):Sp:=λ vs H Q _=>∃ φ s cs l d s',Rp Γ φ H s/\RVL Γ φ H l vs/\RVL Γ φ H cs cap/\kq s.length l=true/\kq s.length cs=true/\c cs l s=.ok d s'/\ag2 Γ φ s H d s' Q
noncomputable def LamI.own (J:LamI):Str:=match J.nm with|none => "<lambda>" | some p=>p.1
noncomputable def lamText (J:LamI)(params:a8)(body:Expr)(scope:Scope)(pos:Pos):Expr:=match J.nm with
 | none=>.Lambda params body scope pos
 | some p=>.NamedExpr (.Name p.1 p.2) (.Lambda params body scope pos) pos
structure LamHere (Γ:Gm)(X:Cx)(N:List Str)(id:String)(caps:List Nat)(params:a8)(body:Expr)(scope:Scope)(c P:Addr)(J:LamI):Prop where
 code:X.env.code=.ref c
 hd:bL X.base c P
 bm:BM X.mg X.base
 ck:lamCheck scope X.env.scope=true
 df:i8 params X.env=([],[])
 lg:Γ.lg id J
 q:J.qual=X.env.qual++J.own
 p:J.params=params
 b:J.body=body
 s:J.scope=scope
 len:J.fr.length=caps.length
 at_:∀(i j:Nat) (x:Str),caps[i]?=some j->J.fr[i]?=some x->N[j]?=some x
 fr:∀ x∈J.fr,scope.names.lookup x=some .free
 cl:∀ x,scope.names.lookup x=some .free->∃ c,X.env.cells.lookup x=some c
 tab:(P,J.qual)∈Γ.T
 nd:(Γ.T.map (·.1)).Nodup
 fn:∀ x,X.fn x=true
 kd:∀ x c,X.env.cells.lookup x=some c->X.env.kindOf x=some .cell\/X.env.kindOf x=some .free
structure CG (Γ:Gm)(F:kN)(n:Nat)(X:Cx)(ck:Ck):Prop where
 K:X.K=Γ.K
 N:X.N=ck.N
 nd:ck.N.Nodup
 xe:X.xe=λ _ _=>False
 calm:X.calm=true
 deep:kB+1<=n
 room:Room n X.A
 sc:∀ x k,ck.sc.names.lookup x=some k->X.env.scope.names.lookup x=some k\/(k=.free/\X.env.scope.names.lookup x=some .cell)
 fn:∀ x,ck.sc.names.lookup x=some .cell->X.fn x=true
 bi:∀ x∈bNames,X.mg x=none
 call:∀ f:String,(∀ l s,F.call f l s=.bad)\/∃ a fd ps,FnOk X.prog X.w X.K X.mg X.base CX0 n a fd ps (spV Γ (F.call f))/\X.mg (f:Str)=some (.ref a)/\b8 X.K (.ref a)=true/\Binds X.K fd ps []
 con:∀ x d,F.con x=some d->∃ v u,X.mg (x:Str)=some u/\RelV v u/\(∀ m,d.bnd m=true)/\∀ φ H,RV Γ φ H d v
 lam:∀ id caps E,ck.lk id caps E=true->∃ c P params body scope pos J,E=lamText J params body scope pos/\LamHere Γ X ck.N id caps params body scope c P J
 cl:∀(id:String) (J:LamI) (f:Addr) (cap:List V) (clos:List (Str×Addr)),Γ.lg id J->cap.length=J.fr.length->ClOk X.prog X.w X.K X.mg X.base n (λ H=>CloAt H f J cap clos) f (spL Γ (F.lam id) cap)
 fa:∀(f:String) (a:Addr),Γ.fa f=some a->X.mg (f:Str)=some (.ref a)/\∃ oc od fd sl,X.K.lookup a=some ⟨oc,od,.func fd,sl⟩
 fk:DV.FK F
section
variable {Γ:Gm} {F:kN} {n:Nat} {X:Cx} {ck:Ck}
theorem CG.vis (G:CG Γ F n X ck){x:Str}(h:ck.vis x=true):Vis X.env.scope x:=by
 unfold Ck.vis at h
 split at h
 ·rename_i e;rcases G.sc _ _ e with z|⟨z,_⟩
  ·exact .inl z
  ·cases z
 ·rename_i e;rcases G.sc _ _ e with z|⟨z,_⟩
  ·exact .inr (.inl z)
  ·cases z
 ·rename_i e;rcases G.sc _ _ e with z|⟨_,z⟩
  ·exact .inr (.inr z)
  ·exact .inr (.inl z)
 ·cases h
theorem CG.loc (G:CG Γ F n X ck){x:Str}(h:ck.loc x=true):Loc X.env.scope x/\(X.fn x=true\/X.env.scope.names.lookup x=some .local):=by
 unfold Ck.loc at h
 split at h
 ·rename_i e;rcases G.sc _ _ e with z|⟨z,_⟩
  ·exact⟨.inl z,.inr z⟩
  ·cases z
 ·rename_i e;rcases G.sc _ _ e with z|⟨z,_⟩
  ·exact⟨.inr z,.inl (G.fn _ e)⟩
  ·cases z
 ·cases h
theorem CG.gl (G:CG Γ F n X ck){x:Str}(h:ck.gl x=true):Gl X x/\(x==("__debug__":Str))=false/\x ≠ "__name__":=by
 unfold Ck.gl at h
 simp only[aq,eX]at h
 obtain⟨⟨y,B⟩,h3⟩:=h
 refine⟨?_,B,of_decide_eq_false h3⟩
 split at y
 ·rename_i e;rcases G.sc _ _ e with z|⟨z,_⟩
  ·exact z
  ·cases z
 ·cases y
theorem bu1 (G:CG Γ F n X ck):∀ {is:List Nat} {es:List Expr},bZ3 ck is es=true->PGs X es (bZ5 is)/\(cq es X.env).length=is.length/\(cq es X.env).findIdx? (·.1)=none
 | [],[],_=>⟨bB0,rfl,rfl⟩
 | [],_::_,h=>by cases h
 | i::is,[],h=>by cases h
 | i::is,e::es,h=>by
  cases e with
  | Name x p =>
   unfold bZ3 at h
   simp only[aq,decide_eq_true_eq]at h
   obtain⟨⟨B,y⟩,h3⟩:=h
   obtain⟨l1,C⟩:=G.loc y
   obtain⟨a,b,c⟩:=bu1 G h3
   have hs:cq (.Name x p::es) X.env=(false,fD (.Name x p) X.env)::cq es X.env:=rfl
   refine⟨bm3 (aW9 (by rw[G.N];exact G.nd) (by rw[G.N];exact B) l1 C) a (by rw[hs];rfl),by rw[hs,aQ,aQ,b],?_⟩
   rw[hs,List.findIdx?_cons]
   simp[c]
  | _=>cases h
theorem bw7 (G:CG Γ F n X ck){tg:kW}{e:Expr}(h:mTg ck tg e=true):PG X e (gOf Γ.K tg):=by
 unfold mTg at h
 split at h
 ·simp only[aq,decide_eq_true_eq]at h
  obtain⟨l1,y⟩:=G.loc h.2
  exact aW9 (by rw[G.N];exact G.nd) (by rw[G.N];exact h.1) l1 y
 ·obtain⟨a,b,c⟩:=bu1 G h
  exact bD1 G.K G.calm a b c
 ·cases h
theorem CG.comp (G:CG Γ F n X ck){tg:kW}{J iter:Expr}{B:List (Option Nat)}{scope:Scope}(h:aS5 ck tg J iter B scope=true) :
  qt (ckC ck J B scope).N B scope X.N X.env.scope=true/\shp iter=true /\
  ∀(C:Addr) (cells:List (Str×Addr)) (s:af) (H:Hp) (ex:List Addr),CG Γ F n (z8 X (ckC ck J B scope).N scope C cells s H ex) (ckC ck J B scope)/\PG (z8 X (ckC ck J B scope).N scope C cells s H ex) J (gOf Γ.K tg):=by
 unfold aS5 at h
 simp only[aq,decide_eq_true_eq]at h
 obtain⟨⟨⟨Y,h2⟩,h3⟩,h4⟩:=h
 refine⟨?_,h4,λ C cells s H ex=>?_⟩
 ·rw[G.N]
  unfold qt at Y ⊢
  simp only[aq]at Y ⊢
  obtain⟨⟨⟨⟨⟨a1,a2⟩,a3⟩,a4⟩,a5⟩,a6⟩:=Y
  refine⟨⟨⟨⟨⟨a1,?_⟩,a3⟩,a4⟩,a5⟩,a6⟩
  rw[aM]at a2 ⊢
  intro y hy
  have:=a2 y hy
  rw[bD]at this ⊢
  rcases this with q|q
  ·exact .inl q
  ·right
   rw[bD]at q ⊢
   rcases q with q|q
   ·rcases G.sc _ _ (eq_of_beq q)with z|⟨z,_⟩
    ·left;rw[z];exact beq_self_eq_true _
    ·cases z
   ·rcases G.sc _ _ (eq_of_beq q)with z|⟨_,z⟩
    ·right;rw[z];exact beq_self_eq_true _
    ·left;rw[z];exact beq_self_eq_true _
 ·have Z:CG Γ F n (z8 X (ckC ck J B scope).N scope C cells s H ex) (ckC ck J B scope):=by
   refine⟨G.K,rfl,h2,rfl,G.calm,G.deep,G.room,λ x k e=>?_,λ x e=>?_,G.bi,G.call,G.con,λ _ _ _ h=>(by cases h),G.cl,G.fa,G.fk⟩
   ·have q:=qQ (env:=X.env) e
    have q':(dJ scope X.env).names.lookup x=some (if(k==NameKind.free&&X.env.scope.kind==.function&&X.env.kindOf x==some .cell)then NameKind.cell else k):=q
    show(dJ scope X.env).names.lookup x=some k\/_
    rw[q']
    split
    ·rename_i hc
     simp only[aq]at hc
     exact .inr ⟨eq_of_beq hc.1.1,rfl⟩
    ·exact .inl rfl
   ·show(scope.names.lookup x==some .cell)=true
    rw[show scope.names.lookup x=some .cell from e];rfl
  exact⟨Z,bw7 Z h3⟩
end
section
variable {Γ:Gm} {F:kN} {n:Nat} {X:Cx} {ck:Ck} {σ:St} {H:Hp} {Q:VK}
theorem TEv.eq {m m':kr->kn->kt ko}(e:∀ ρ s,m ρ s=m' ρ s)(q:TEv Γ m σ H Q):TEv Γ m' σ H Q:=by
 have:m=m':=funext λ ρ=>funext λ s=>e ρ s
 subst this;exact q
theorem TTv.eq {m m':kr->kn->kt ko}{Q:Bool->Hp->Prop}(e:∀ ρ s,m ρ s=m' ρ s)(q:TTv Γ m σ H Q):TTv Γ m' σ H Q:=by
 have:m=m':=funext λ ρ=>funext λ s=>e ρ s
 subst this;exact q
theorem TAv.eq {m m':kr->kn->kt (List ko)}{Q:List V->Hp->Prop}(e:∀ ρ s,m ρ s=m' ρ s)(q:TAv Γ m σ H Q):TAv Γ m' σ H Q:=by
 have:m=m':=funext λ ρ=>funext λ s=>e ρ s
 subst this;exact q
theorem TFv.eq {m m':kr->kn->kt (List ko)}(e:∀ ρ s,m ρ s=m' ρ s)(q:TFv Γ m σ H Q):TFv Γ m' σ H Q:=by
 have:m=m':=funext λ ρ=>funext λ s=>e ρ s
 subst this;exact q
theorem TIv.eq {m m':kr->kn->kt lp}{R:It->Hp->Prop}(e:∀ ρ s,m ρ s=m' ρ s)(q:TIv Γ m σ H R):TIv Γ m' σ H R:=by
 have:m=m':=funext λ ρ=>funext λ s=>e ρ s
 subst this;exact q
theorem TSv.eq {m m':kr->kn->kt kX}{D:Ends}(e:∀ ρ s,m ρ s=m' ρ s)(q:TSv Γ m D σ H):TSv Γ m' D σ H:=by
 have:m=m':=funext λ ρ=>funext λ s=>e ρ s
 subst this;exact q
def EvT (Γ:Gm)(X:Cx)(E:Expr)(m:kr->kn->kt ko):Prop:=PE X E (TEv Γ m)/\PT X E (TTv Γ m)
theorem EvT.val {E:Expr}{m:kr->kn->kt ko}(h:PE X E (TEv Γ m))(B:∀ y,dg E X.env y=(do let v <- y;standAt E.pos;io [v] (truthy v)):=by intro _;rfl):EvT Γ X E m :=
 ⟨h,(bW7 h B).imp λ σ H Q q=>aO9 q⟩
theorem bp9 {c a b:Expr}{pos:Pos}{J tb G:TT}(hc:PT X c J)(ha:PT X a tb)(hb:PT X b G):PT X (.IfExp c a b pos) (λ σ H Q=>J σ H λ k B=>if k=true then tb σ B Q else G σ B Q):=by
 intro y s σ H Q I h
 have e:dg (.IfExp c a b pos) X.env (eval (.IfExp c a b pos) X.env)=(do if <- dg c X.env (eval c X.env)then dg a X.env (eval a X.env)else dg b X.env (eval b X.env)):=by rw[dg]
 rw[e]
 refine ar (thn (hc y s σ H _ I h) λ k s1 ⟨B,C,Y⟩=>?_)
 cases k with
 | true=>exact ha y s1 σ B Q C Y
 | false=>exact hb y s1 σ B Q C Y
theorem bL8 {mc C G:kr->kn->kt ko}{Q:Bool->Hp->Prop}(h:TTv Γ (λ ρ s=>kE (mc ρ s) λ k s=>if k then C ρ s else G ρ s) σ H Q):TTv Γ mc σ H λ k B=>if k=true then TTv Γ C σ B Q else TTv Γ G σ B Q:=by
 obtain⟨φ,ρ,s,d,s',E,R,y,q⟩:=h
 obtain⟨c,s1,e1,y⟩:=qa y
 refine⟨φ,ρ,s,c,s1,E,R,e1,λ φ1 B g1 l1 R1=>?_⟩
 cases c with
 | true =>
  rw[if_pos rfl]at y ⊢
  exact⟨φ1,ρ,s1,d,s',E.mono g1 l1,R1,y,q.trans g1 l1⟩
 | false =>
  rw[if_neg aP]at y ⊢
  exact⟨φ1,ρ,s1,d,s',E.mono g1 l1,R1,y,q.trans g1 l1⟩
section
variable {a b c:lj} {l r t:Expr} {pos:Pos}
theorem bF2 (G:CG Γ F n X ck)(op:lJ)(ha:EvT Γ X l (kx F a))(hb:EvT Γ X r (kx F b)):EvT Γ X (.BinOp l (cf1 op) r pos) (kx F (.bin op a b)) :=
 .val ((cf7 (bT0 G.K op) ha.1 hb.1).imp λ σ H Q q=>bo8 (TEv.eq (λ ρ s=>rfl) q))
theorem bF6 (ha:EvT Γ X l (kx F a)):EvT Γ X (.UnaryOp .USub l pos) (kx F (.neg a)) :=
 .val ((cc6 bU8 ha.1).imp λ σ H Q q=>cg0 (f:=λ x s=>match x with|.int i=>.ok (.int (-i)) s|_=>.bad) (TEv.eq (λ ρ s=>rfl) q) λ φ s x d s' v H' R r y h k=>by
  cases x with
  | int i =>
   cases h
   exact⟨i,r.intE,k.here R rfl RV.intI⟩
  | _=>cases h)
theorem bC8 (ha:EvT Γ X l (kx F a)):EvT Γ X (.UnaryOp .Not l pos) (kx F (.not a)) :=
 ⟨(bM0 ha.1).imp λ σ H Q q=>bQ9 (TEv.eq (λ ρ s=>rfl) q),(bW1 ha.2).imp λ σ H Q q=>bY3 (TTv.eq (λ ρ s=>rfl) q)⟩
theorem bC4 (G:CG Γ F n X ck)(op:lC)(hs:shp r=true)(ha:EvT Γ X l (kx F a))(hb:EvT Γ X r (kx F b)):EvT Γ X (.Compare l [bx8 op] [r] pos) (kx F (.cmp op a b)):=by
 have ho:=bT8 (Γ:=Γ) G.K (G.room.mono G.deep) op
 refine⟨(bJ7 ho ha.1 hb.1 (aB5 hs)).imp λ σ H Q q=>bo8 (TEv.eq (λ ρ s=>rfl) q),(bz1 ho ha.1 hb.1 (aB5 hs)).imp λ σ H Q q=>?_⟩
 have q:=bK2 q
 exact bo8 (TEv.eq (λ ρ s=>rfl) q)
theorem RV.nonIff {φ:Nat->Addr}{x:ko}{v:V}(r:RV Γ φ H x v):decide (v=.non)=decide (x=.non):=by
 cases x with
 | non=>rw[r.nonE];rfl
 | bl b=>rw[r.blE];rfl
 | int i=>rw[r.intE];rfl
 | str z=>rw[r.strE];rfl
 | tup l=>obtain⟨a,h,rfl,_⟩:=r.tupE;rfl
 | ref k=>rw[r.refE];rfl
 | fn f=>unfold RV at r;obtain⟨a,_,rfl⟩:=r;rfl
 | clo f cs=>unfold RV at r;obtain⟨f,_,_,_,rfl,_⟩:=r;rfl
theorem bF1 {j pos'}(ha:EvT Γ X l (kx F a)):EvT Γ X (.Compare l [.Is] [.Constant .none j pos'] pos) (kx F (.isN a)):=by
 have key:∀ σ H Q,TEv Γ (kx F (.isN a)) σ H Q->cj4 (TEv Γ (kx F a)) σ H Q:=λ σ H Q q=>by
  obtain⟨φ,ρ,s,d,s',E,R,h,k⟩:=q
  obtain⟨x,s1,e1,h⟩:=aa1 h
  cases h
  refine⟨φ,ρ,s,x,_,E,R,e1,λ v φ1 y g1 l1 B r1 R1=>?_⟩
  show Q (.bl (decide (v=.non))) y
  rw[r1.nonIff]
  exact k _ φ1 y g1 l1 rfl RV.blI R1
 exact⟨(bs7 (bs9 ha.1)).imp key,(bt3 (bs9 ha.1)).imp λ σ H Q q=>key _ _ _ (aO9 q)⟩
theorem bk2 {j pos'}(ha:EvT Γ X l (kx F a)):EvT Γ X (.Compare l [.IsNot] [.Constant .none j pos'] pos) (kx F (.notN a)):=by
 have key:∀ σ H Q,TEv Γ (kx F (.notN a)) σ H Q->bT5 (TEv Γ (kx F a)) σ H Q:=λ σ H Q q=>by
  obtain⟨φ,ρ,s,d,s',E,R,h,k⟩:=q
  obtain⟨x,s1,e1,h⟩:=aa1 h
  cases h
  refine⟨φ,ρ,s,x,_,E,R,e1,λ v φ1 y g1 l1 B r1 R1=>?_⟩
  show Q (.bl (!decide (v=.non))) y
  rw[r1.nonIff]
  exact k _ φ1 y g1 l1 rfl RV.blI R1
 exact⟨(bs7 (be4 ha.1)).imp key,(bt3 (be4 ha.1)).imp λ σ H Q q=>key _ _ _ (aO9 q)⟩
theorem ba0 {op:BoolOp}{es:List Expr}{t:TT}(h:PT X (.BoolOp op es pos) t):PW X (.BoolOp op es pos) t:=by
 intro B y s σ H Q I q
 have:=h y s σ H Q I q
 have e:∀ w,dg (.BoolOp op es pos) X.env w=allTrue op es X.env:=λ w=>by rw[dg]
 rw[e]at this ⊢
 exact this
theorem bI9 (ha:EvT Γ X l (kx F a))(hb:EvT Γ X r (kx F b)):EvT Γ X (.BoolOp .And [l,r] pos) (kx F (.and a b)) :=
 ⟨(br9 ha.1 (bu4 hb.1)).imp λ σ H Q q=>bw2 (TEv.eq (λ ρ s=>rfl) q),(bs8 ha.2 (bF7 hb.2)).pt.imp λ σ H Q q=>bv3 (TTv.eq (λ ρ s=>rfl) q)⟩
theorem bA3 {es:List Expr}(ha:EvT Γ X l (kx F a))(hb:EvT Γ X (.BoolOp .And (r::es) pos) (kx F b)):EvT Γ X (.BoolOp .And (l::r::es) pos) (kx F (.and a b)) :=
 ⟨(br9 ha.1 hb.1).imp λ σ H Q q=>bw2 (TEv.eq (λ ρ s=>rfl) q),(bs8 ha.2 (ba0 hb.2)).pt.imp λ σ H Q q=>bv3 (TTv.eq (λ ρ s=>rfl) q)⟩
theorem bO8 (ha:EvT Γ X l (kx F a))(hb:EvT Γ X r (kx F b)):EvT Γ X (.BoolOp .Or [l,r] pos) (kx F (.or a b)) :=
 ⟨(bX6 ha.1 (bu4 hb.1)).imp λ σ H Q q=>bU0 (TEv.eq (λ ρ s=>rfl) q),(bV2 ha.2 (bV8 hb.2)).pt.imp λ σ H Q q=>bW3 (TTv.eq (λ ρ s=>rfl) q)⟩
theorem bU7 {es:List Expr}(ha:EvT Γ X l (kx F a))(hb:EvT Γ X (.BoolOp .Or (r::es) pos) (kx F b)):EvT Γ X (.BoolOp .Or (l::r::es) pos) (kx F (.or a b)) :=
 ⟨(bX6 ha.1 hb.1).imp λ σ H Q q=>bU0 (TEv.eq (λ ρ s=>rfl) q),(bV2 ha.2 (ba0 hb.2)).pt.imp λ σ H Q q=>bW3 (TTv.eq (λ ρ s=>rfl) q)⟩
theorem bG0 (hc:EvT Γ X t (kx F c))(ha:EvT Γ X l (kx F a))(hb:EvT Γ X r (kx F b)):EvT Γ X (.IfExp t l r pos) (kx F (.ite c a b)) :=
 ⟨(bp3 hc.2 ha.1 hb.1).imp λ σ H Q q=>bP2 (TEv.eq (λ ρ s=>rfl) q),(bp9 hc.2 ha.2 hb.2).imp λ σ H Q q=>bL8 (TTv.eq (λ ρ s=>rfl) q)⟩
theorem bQ6 (G:CG Γ F n X ck)(hs:shp r=true)(ha:EvT Γ X l (kx F a))(hb:EvT Γ X r (kx F b)):EvT Γ X (.Subscript l r pos) (kx F (.ix a b)) :=
 .val ((cf9 (cb4 G.K (bm5 G.room)) ha.1 hb.1 (aR6 hs)).imp λ σ H Q q=>bo8 (TEv.eq (λ ρ s=>rfl) q))
end
end
section
variable {Γ:Gm} {F:kN} {n:Nat} {X:Cx} {ck:Ck} {σ:St} {H:Hp} {Q:VK}
theorem aw9:∀ {es:kL} {ρ:kr} {s s':kn} {l:List ko} {y:List Expr} {B:Ck},kO F es ρ s=.ok l s'->mEs B es y=true->l.length=y.length
 | .nil,ρ,s,s',l,y,B,h,m=>by
  cases h
  cases y with
  | nil=>rfl
  | cons _ _=>rw[mEs]at m<;>first|cases m|(intros;simp_all)
 | .cons e es,ρ,s,s',l,y,B,h,m=>by
  obtain⟨d,s1,e1,h⟩:=aa1 h
  obtain⟨r,s2,e2,h⟩:=aa1 h
  cases h
  cases y with
  | nil=>rw[mEs]at m<;>first|cases m|(intros;simp_all)
  | cons x y =>
   rw[mEs,aq]at m
   rw[aQ,aQ,aw9 e2 m.2]
theorem ay7:∀ {es:kL} {B:List Expr},mEs ck es B=true->∀ x∈B,shp x=true
 | .nil,[],_,x,hx=>by cases hx
 | .nil,_::_,m,_,_=>by rw[mEs]at m<;>first|cases m|(intros;simp_all)
 | .cons e es,[],m,x,hx=>by cases hx
 | .cons e es,y::B,m,x,hx=>by
  rw[mEs,aq,aq]at m
  rcases az.mp hx with h|h
  ·rw[h];exact m.1.2
  ·exact ay7 m.2 x h
theorem aW3:∀ {es:k9} {B:List Expr},mAs ck es B=true->∀ x∈B,shp x=true
 | .nil,[],_,x,hx=>by cases hx
 | .nil,_::_,m,_,_=>by rw[mAs]at m<;>first|cases m|(intros;simp_all)
 | .ex e es,[],m,x,hx=>by cases hx
 | .lam _ _ _,_,m,_,_=>by rw[mAs]at m<;>first|cases m|(intros;simp_all)
 | .fn _ _,_,m,_,_=>by rw[mAs]at m<;>first|cases m|(intros;simp_all)
 | .ex e es,y::B,m,x,hx=>by
  rw[mAs,aq,aq]at m
  rcases az.mp hx with h|h
  ·rw[h];exact m.1.2
  ·exact aW3 m.2 x h
theorem aO1 {e:lj}{x:Expr}{y:List Expr}{h:kr->kn->kt (List ko)}(hs:shp x=true)(C:PE X x (TEv Γ (kx F e)))(B:PA X y (TAv Γ h)) :
  PA X (x::y) (TAv Γ (λ ρ s=>(kx F e ρ s).bind λ d s=>(h ρ s).bind λ l s=>.ok (d::l) s)) :=
 (qu C B (zw hs)).imp λ σ H Q q=>by4 q
theorem bd9 {k:Nat}(h:k<=1000):k<=aL:=by rw[dN];omega
theorem bD0 {es:kL}{y:List Expr}{k:Nat}{pos:Pos}(m:mEs ck es y=true)(hz:y.length<=1000)(h:PA X y (TAv Γ (kO F es))):EvT Γ X (.Tuple y k pos) (kx F (.tup es)) :=
 .val ((bL4 h).imp λ σ H Q q=>tv_tup' hz m q)
where
 tv_tup' {es:kL} {y:List Expr} {σ:St} {H:Hp} {Q:VK} (hz:y.length<=1000) (m:mEs ck es y=true) (q:TEv Γ (kx F (.tup es)) σ H Q):ck7 (TAv Γ (kO F es)) σ H Q:=by
  obtain⟨φ,ρ,s,d,s',E,R,B,q⟩:=q
  obtain⟨l,s1,e1,B⟩:=aa1 B
  cases B
  refine⟨φ,ρ,s,l,_,E,R,e1,λ vs φ1 J g1 l1 C r1 R1=>⟨by rw[r1.length,aw9 e1 m];exact bd9 hz,λ p G=>?_⟩⟩
  exact(q.trans g1 l1).tup R1 r1 C G
theorem bD4 {es:kL}{y:List Expr}{pos:Pos}(m:mEs ck es y=true)(hz:y.length<=1000)(h:PA X y (TAv Γ (kO F es))):EvT Γ X (.List y pos) (kx F (.lst es)):=by
 refine .val ((bu7 h).imp λ σ H Q q=>?_)
 obtain⟨φ,ρ,s,d,s',E,R,B,q⟩:=q
 obtain⟨l,s1,e1,B⟩:=aa1 B
 obtain⟨rfl,rfl⟩:=qT B
 refine⟨φ,ρ,s,l,_,E,R,e1,λ vs φ1 J g1 l1 C r1 R1=>⟨by rw[r1.length,aw9 e1 m];exact bd9 hz,λ p G=>?_⟩⟩
 exact(q.trans g1 l1).alloc R1 r1 C G
theorem bn5 {f:String}{y:k9}{C:List Expr}{p pos:Pos}(G:CG Γ F n X ck)(hg:ck.gl (f:Str)=true)(m:mAs ck y C=true)(h:PA X C (TAv Γ (lh F y))):EvT Γ X (.Call (.Name (f:Str) p) C [] pos) (kx F (.call f y)):=by
 refine .val ?_
 obtain⟨g1,Y,g3⟩:=G.gl hg
 rcases G.call f with hbad|⟨a,fd,ps,hF,B,hk,hb⟩
 ·intro Z s σ H Q I q
  obtain⟨φ,ρ,s,d,s',E,R,J,q⟩:=q
  obtain⟨l,s1,e1,J⟩:=aa1 J
  rw[hbad]at J
  cases J
 have key:∀ σ H Q,TEv Γ (kx F (.call f y)) σ H Q->aT1 (spV Γ (F.call f)) [] E0 (TAv Γ (lh F y)) σ H Q:=λ σ H Q q=>by
  have:=aJ0 (TEv.eq (m':=λ ρ s=>(lh F y ρ s).bind λ l s=>F.call f l s) (λ ρ s=>rfl) q)
  unfold tCB at this
  unfold aT1 spV
  simpa only[bC]using this
 cases C with
 | nil =>
  have h0:PE X (.Call (.Name (f:Str) p) [] [] pos) (aT1 (spV Γ (F.call f)) [] E0 bm7):=bn9 hF G.room g1 B hk hb .nil bT3 Y
  cases y with
  | nil =>
   refine h0.imp λ σ H Q q=>?_
   have q1:=key σ H Q q
   unfold aT1 at q1 ⊢
   exact aP3 (TAv.eq (λ ρ s=>rfl) q1)
  | _=>rw[mAs]at m<;>first|cases m|(intros;simp_all)
 | cons x C =>
  have hs:=aW3 m
  exact(bw8 hF G.room g1 B hk hb .nil bT3 h Y (zw (hs x (aD ..))) (z4 λ e he=>hs e (au _ he)).1).imp key
def BiC (Γ:Gm)(X:Cx)(b:kU)(x:Str):Prop:=(∃ id,be x=some (.builtin id)/\ae7 X (.builtin id) (rCl Γ (lI b)))\/∃ T,be x=some (.type T)/\ae7 X (.type T) (rCl Γ (lI b))
theorem bO3 (G:CG Γ F n X ck){b:kU}{x:Str}(h:biT b=some x):x∈bNames/\BiC Γ X b x:=by
 cases b<;>first|cases h|skip
 ·exact⟨by decide,.inl ⟨_,ca8,aX8 G.K G.calm (k:=1) rfl⟩⟩
 ·exact⟨by decide,.inl ⟨_,cf5,aX8 G.K G.calm (k:=1) rfl⟩⟩
 ·exact⟨by decide,.inr ⟨_,bN6,bY5⟩⟩
 ·exact⟨by decide,.inl ⟨_,bH7,aX8 G.K G.calm (k:=2) rfl⟩⟩
 ·exact⟨by decide,.inl ⟨_,bT2,aX8 G.K G.calm (k:=2) rfl⟩⟩
 ·exact⟨by decide,.inl ⟨_,bT2,aX8 G.K G.calm (k:=3) rfl⟩⟩
theorem bR9 {b:kU}{es:kL}{x:Str}{y:Expr}{B:List Expr}{p pos:Pos}(G:CG Γ F n X ck)(hb:biT b=some x)(hg:ck.gl x=true)(m:mEs ck es (y::B)=true)(h:PA X (y::B) (TAv Γ (kO F es))) :
  EvT Γ X (.Call (.Name x p) (y::B) [] pos) (kx F (.bi b es)):=by
 refine .val ?_
 obtain⟨g1,Z,Y⟩:=G.gl hg
 obtain⟨hm,hc⟩:=bO3 G hb
 have hs:=ay7 m
 have s1:=zw (es:=B) (env:=X.env) (hs y (aD ..))
 have s2:=(z4 (env:=X.env) (pos:=pos) λ e he=>hs e (au _ he)).1
 rcases hc with⟨id,J,C⟩|⟨T,J,C⟩
 ·exact(av3 C g1 (G.bi _ hm) J h Y Z s1 s2).imp λ σ H Q q=>aJ0 (TEv.eq (λ ρ s=>rfl) q)
 ·exact(aq0 C g1 (G.bi _ hm) J h Y Z s1 s2).imp λ σ H Q q=>aJ0 (TEv.eq (λ ρ s=>rfl) q)
theorem bP4 {b:kU}{k:Nat}{t:Str}(h:biK b=some (k,t)):(1<=k/\k<=5)/\t∈bNames/\be t=some (.type (as5 k))/\lI b=lF (lL k):=by
 cases b<;>cases h
 ·exact⟨by omega,by decide,bN6,rfl⟩
 ·exact⟨by omega,by decide,bM2,rfl⟩
 ·exact⟨by omega,by decide,cd2,rfl⟩
 ·exact⟨by omega,by decide,aZ1,rfl⟩
 ·exact⟨by omega,by decide,bu9,rfl⟩
noncomputable def PEs (Γ:Gm)(F:kN)(X:Cx):kL->List Expr->Prop
 | .nil,[]=>True
 | .cons e es,x::xs=>(shp x=true/\EvT Γ X x (kx F e))/\PEs Γ F X es xs
 | _,_=>False
theorem ap2:∀ {es:kL} {y:List Expr},PEs Γ F X es y->PA X y (TAv Γ (kO F es))
 | .nil,[],_=>ag9.imp λ σ H Q q=>aP3 (TAv.eq (λ ρ s=>rfl) q)
 | .nil,_::_,h=>h.elim
 | .cons _ _,[],h=>h.elim
 | .cons e es,x::y,h=>(aO1 h.1.1 h.1.2.1 (ap2 h.2)).imp λ σ H Q q=>TAv.eq (λ ρ s=>rfl) q
theorem bE3 {b:kU}{es:kL}{k:Nat}{t:Str}{a:Expr}{p Y pos:Pos}(G:CG Γ F n X ck)(hb:biK b=some (k,t))(Z:ck.gl "isinstance"=true)(B:ck.gl t=true)(h:PEs Γ F X es [a]) :
  EvT Γ X (.Call (.Name "isinstance" p) [a,.Name t Y] [] pos) (kx F (.bi b es)):=by
 refine .val ?_
 obtain⟨g1,g2,g3⟩:=G.gl Z
 obtain⟨t1,t2,t3⟩:=G.gl B
 obtain⟨hk,y,hv,C⟩:=bP4 hb
 have J:PE X (.Name t Y) (tC (.ty (as5 k))):=bH0 t1 (G.bi _ y) hv rfl t3 t2
 cases es with
 | nil=>exact h.elim
 | cons e es =>
  cases es with
  | cons _ _=>exact h.2.elim
  | nil =>
   obtain⟨⟨hs,ha,_⟩,_⟩:=h
   have hA:PA X [a,.Name t Y] (az9 (TEv Γ (kx F e)) (az9 (tC (.ty (as5 k))) bm7)):=qu ha (qu J ag9 (zw rfl)) (zw hs)
   refine(av3 (bT7 G.K hk) g1 (G.bi _ (by decide)) aD1 hA g3 g2 (zw hs) (z4 λ e he=>by rw[bN.mp he];rfl).1).imp λ σ H Q q=>?_
   obtain⟨φ,ρ,s,d,s',E,R,y,q⟩:=q
   obtain⟨l,s1,e1,y⟩:=aa1 y
   obtain⟨x,s2,e2,e1⟩:=aa1 e1
   obtain⟨l2,s3,e3,e1⟩:=aa1 e1
   cases e3
   cases e1
   rw[C]at y
   refine⟨φ,ρ,s,x,_,E,R,e2,λ v φ1 H1 g1 l1 b1 r1 R1=>?_⟩
   exact⟨v,rfl,φ1,_,[x],d,s',R1,.cons r1 .nil,by unfold kq;rw[b1];rfl,y,q.trans g1 l1⟩
end
section
variable {Γ:Gm} {F:kN} {n:Nat} {X:Cx} {ck:Ck} {σ:St} {H:Hp}
def TAp (Γ:Gm)(cells:List (Str×Addr))(N:List Str)(m:kr->kn->kt (List ko)):TA:=λ σ H Q=>∃ φ ρ s l s',RE Γ φ H s.length ρ σ/\Rp Γ φ H s/\m ρ s=.ok l s' /\
 ∀ vs φ' H',Gr φ s H φ' s' H'->s.length<=s'.length->kq s'.length l=true->PVL Γ cells N σ φ' H' l vs->Rp Γ φ' H' s'->Q vs H'
theorem TAp.eq {cells:List (Str×Addr)}{N:List Str}{m m':kr->kn->kt (List ko)}{Q:List V->Hp->Prop}(e:∀ ρ s,m ρ s=m' ρ s)(q:TAp Γ cells N m σ H Q):TAp Γ cells N m' σ H Q:=by
 obtain⟨φ,ρ,s,l,s',E,R,h,q⟩:=q
 exact⟨φ,ρ,s,l,s',E,R,by rw[<-e];exact h,q⟩
theorem bC0 {cells:List (Str×Addr)}{N:List Str}{Q:List V->Hp->Prop}(h:TAp Γ cells N (λ ρ s=>.ok [] s) σ H Q):bm7 σ H Q:=by
 obtain⟨φ,ρ,s,l,s',E,R,y,q⟩:=h
 cases y
 exact q [] φ H (Gr.refl _ _ _) (ah _) rfl .nil R
theorem bV4 {cells:List (Str×Addr)}{N:List Str}{m:kr->kn->kt ko}{C:kr->kn->kt (List ko)}{Q:List V->Hp->Prop}(h:TAp Γ cells N (λ ρ s=>(m ρ s).bind λ d s=>(C ρ s).bind λ l s=>.ok (d::l) s) σ H Q):az9 (TEv Γ m) (TAp Γ cells N C) σ H Q:=by
 obtain⟨φ,ρ,s,l,s',E,R,B,q⟩:=h
 obtain⟨x,s1,e1,B⟩:=aa1 B
 obtain⟨y,s2,e2,B⟩:=aa1 B
 cases B
 refine⟨φ,ρ,s,x,s1,E,R,e1,λ v φ1 H1 g1 l1 Y r1 R1=>?_⟩
 refine⟨φ1,ρ,s1,y,s',E.mono g1 l1,R1,e2,λ vs φ2 H2 G J Z r2 R2=>?_⟩
 exact q (v::vs) φ2 H2 (g1.trans G l1) (aw l1 J) (by unfold kq;rw[zT J x Y,Z];rfl) (.cons (PVp.mono G Y (.inl r1)) r2) R2
theorem aq4 {ρ:kr}:∀ {is:List Nat} {cs:List ko},kP ρ is=some cs->cs.length=is.length/\∀(i j:Nat),is[i]?=some j->∃ d,cs[i]?=some d/\ρ[j]?=some (some d)
 | [],cs,h=>by cases h;exact⟨rfl,λ i j e=>by cases e⟩
 | k::is,cs,h=>by
  unfold kP at h
  cases e:ρ[k]? with
  | none=>rw[e]at h;cases h
  | some o =>
   cases o with
   | none=>rw[e]at h;cases h
   | some d =>
    cases e2:kP ρ is with
    | none=>rw[e,e2]at h;cases h
    | some l =>
     rw[e,e2]at h
     cases h
     obtain⟨B,y⟩:=aq4 e2
     refine⟨by rw[aQ,aQ,B],λ i j ei=>?_⟩
     cases i with
     | zero=>cases ei;exact⟨d,rfl,e⟩
     | succ i=>exact y i j ei
theorem bg8 {φ:Nat->Addr}{s:kn}{ρ:kr}(E:RE Γ φ H s.length ρ σ):∀ {is:List Nat} {cs:List ko},kP ρ is=some cs->∃ cap,RVL Γ φ H cs cap/\kq s.length cs=true/\∀(i j:Nat) (v:V),is[i]?=some j->cap[i]?=some v->σ[j]?=some (some v)
 | [],cs,h=>by cases h;exact⟨[],.nil,rfl,λ i j v e=>by cases e⟩
 | k::is,cs,h=>by
  unfold kP at h
  cases e:ρ[k]? with
  | none=>rw[e]at h;cases h
  | some o =>
   cases o with
   | none=>rw[e]at h;cases h
   | some d =>
    cases e2:kP ρ is with
    | none=>rw[e,e2]at h;cases h
    | some l =>
     rw[e,e2]at h
     cases h
     obtain⟨cap,G,B,h3⟩:=bg8 E e2
     obtain⟨hb,v,C,hv⟩:=E.val k d e
     refine⟨v::cap,.cons hv G,by unfold kq;rw[hb,B];rfl,λ i j w ei y=>?_⟩
     cases i with
     | zero=>cases ei;cases y;exact C
     | succ i=>exact h3 i j w ei y
theorem bU4 {id:String}{h:List Nat}{params:a8}{body:Expr}{scope:Scope}{pos:Pos}{c P:Addr}{J:LamI}{xs:List Expr}{Z:kr->kn->kt (List ko)}(L:LamHere Γ X X.N id h params body scope c P J)(hnm:J.nm=none)(h2:PA X xs (TAp Γ X.env.cells X.N Z)) :
  PA X (.Lambda params body scope pos::xs) (TAp Γ X.env.cells X.N (λ ρ s=>match kP ρ h with|some cs=>(Z ρ s).bind λ l s=>.ok (.clo id cs::l) s|none=>.bad)):=by
 refine(qu (bf0 L.code L.hd L.bm L.ck L.df) h2).imp λ σ H Q q=>?_
 obtain⟨φ,ρ,s,l,s',E,R,B,q⟩:=q
 have B:(match kP ρ h with|some cs=>(Z ρ s).bind λ l s=>DV.R.ok (DV.D.clo id cs::l) s|none=>DV.R.bad)=.ok l s':=B
 cases eg:kP ρ h with
 | none=>rw[eg]at B;exact fb B
 | some cs =>
  rw[eg]at B
  obtain⟨y,s2,e2,B⟩:=aa1 B
  cases B
  obtain⟨cap,G,C,hσ⟩:=bg8 E eg
  have Y:=(aq4 eg).1
  have hq:J.qual=X.env.qual ++ "<lambda>":=by rw[L.q];unfold LamI.own;rw[hnm]
  rw[<-hq]
  refine bl8 R.tab L.nd L.tab λ f H' e st tb hf ho=>?_
  obtain⟨g1,R1⟩:=R.sameT e st tb
  refine⟨φ,ρ,s,y,s',E.mono g1 (ah _),R1,e2,λ vs φ2 H2 g2 l2 b2 r2 R2=>?_⟩
  refine q (.ref f::vs) φ2 H2 (g1.trans g2 (ah _)) l2 (by unfold kq ku;rw[ab9 l2 cs C,b2];rfl) (.cons ?_ r2) R2
  have p1:PVp Γ X.env.cells X.N σ φ H' (.clo id cs) (.ref f):=by
   refine .inr ⟨id,cs,rfl,f,J,rfl,L.lg,by unfold ai1;rw[hnm];dsimp only;rw[L.p,L.b,L.s];exact ho,by rw[Y,L.len],by rw[L.s];exact L.cl,cap,RVL.mono g1 cs cap C G,λ i x v e1 e3=>?_⟩
   have hi:i<h.length:=by rw[<-L.len];exact(ab.mp e1).1
   have hj:h[i]?=some h[i]:=ag hi
   exact⟨by rw[L.s];exact L.fr x (aV e1),h[i],L.at_ i _ x hj e1,hσ i _ v hj e3⟩
  exact p1.mono g2 (by unfold ku;exact C)
theorem bf8 {f:String}{ms:kr->kn->kt (List ko)}{e:Expr}{es:List Expr}{p pos:Pos}(G:CG Γ F n X ck)(hg:ck.gl (f:Str)=true)(Z:∀ x,X.fn x=true)(Y:∀ x c,X.env.cells.lookup x=some c->X.env.kindOf x=some .cell\/X.env.kindOf x=some .free)
  (hs:∀ y∈e::es,shp y=true) (h:PA X (e::es) (TAp Γ X.env.cells X.N ms)) :
  PE X (.Call (.Name (f:Str) p) (e::es) [] pos) (TEv Γ (λ ρ s=>(ms ρ s).bind λ l s=>(F.call f l s).bind λ d s'=>if(d.ncl&&s'.all lN)=true then .ok d s' else .bad)):=by
 obtain⟨g1,g2,g3⟩:=G.gl hg
 rcases G.call f with hb|⟨a,fd,ps,hF,J,hk,hB⟩
 ·intro a0 s σ H Q I q
  obtain⟨φ,ρ,s,d,s',E,R,B,q⟩:=q
  obtain⟨l,s1,e1,B⟩:=aa1 B
  rw[hb]at B;exact fb B
 ·refine(aN9 hF G.room g1 J hk hB Z h g2 (zw (hs e (aD ..))) (z4 λ y hy=>hs y (au _ hy)).1).imp λ σ H Q q=>?_
  obtain⟨φ,ρ,s,d,s',E,R,B,q⟩:=q
  obtain⟨l,s1,e1,B⟩:=aa1 B
  obtain⟨d2,s2,e2,B⟩:=aa1 B
  split at B
  case isFalse=>exact fb B
  rename_i hn
  cases B
  rw[aq]at hn
  refine⟨φ,ρ,s,l,s1,E,R,e1,λ vs φ1 H1 gg l1 b1 r1 R1=>λ H2 C=>?_⟩
  obtain⟨gs,R2⟩:=R1.same C.same
  refine⟨φ1,s1,l,d,s',R2,r1.caught C Y b1,b1,e2,λ v φ' H3 g' l' b' r' R'=>?_⟩
  have hc:Cells X.env.cells H3:=C.cells.kp g'.w.kp
  exact q v φ' (ad7 X.env.cells H3) (gg.trans (Gr.caught C g') l1) (aw l1 l') b' (RV.dropC hc d v hn.1 r') (R'.dropC hc hn.2)
theorem aY1 {i:Nat}{x:Str}{es:kL}{e:Expr}{xs:List Expr}{p pos:Pos}(G:CG Γ F n X ck)(hv:ck.var i x=true)(hs:∀ y∈e::xs,shp y=true)(h:PA X (e::xs) (TAv Γ (kO F es)))(a0:PE X (.Name x p) (bw1 i)) :
  PE X (.Call (.Name x p) (e::xs) [] pos) (TEv Γ (kx F (.callV i es))):=by
 refine(bl1 rfl rfl rfl rfl rfl G.room a0 h (zw (hs e (aD ..))) (z4 λ y hy=>hs y (au _ hy)).1).imp λ σ H Q q=>?_
 obtain⟨φ,ρ,s,d,s',E,R,B,q⟩:=q
 have B:((kO F es ρ s).bind λ l s=>match ρ[i]? with
  | some (some (.fn f))=>F.call f l s
  | some (some (.clo id cs))=>F.lam id cs l s
  | _=>.bad)=.ok d s':=B
 obtain⟨l,s1,e1,B⟩:=aa1 B
 cases eρ:ρ[i]? with
 | none=>rw[eρ]at B;exact fb B
 | some o =>
  cases o with
  | none=>rw[eρ]at B;exact fb B
  | some v0 =>
   obtain⟨hb,v,hσ,rv⟩:=E.val i v0 eρ
   cases v0 with
   | fn f =>
    rw[eρ]at B
    have B:F.call f l s1=.ok d s':=B
    unfold RV at rv
    obtain⟨a,ha,e2⟩:=rv
    subst e2
    obtain⟨h1,h2⟩:=G.fa f a ha
    rcases G.call f with hb|⟨a',fd,ps,hF,Z,hk,hB⟩
    ·rw[hb]at B;exact fb B
    ·rw[h1]at Z
     cases Z
     refine⟨a,hσ,.inr h2,φ,ρ,s,l,s1,E,R,e1,λ vs φ1 H1 g1 l1 b1 r1 R1=>?_⟩
     exact⟨.inr h2,_,_,ClOk.ofFn hF hB,trivial,φ1,s1,l,d,s',R1,r1,b1,B,q.trans g1 l1⟩
   | clo id cs =>
    rw[eρ]at B
    have B:F.lam id cs l s1=.ok d s':=B
    unfold RV at rv
    unfold ku at hb
    obtain⟨f,cap,J,C,e2,a3,a1,a2,a4⟩:=rv
    subst e2
    have fin:∀ H',CloAt H' f J cap C->bI2 X.K H' f:=λ H' h'=>h'.fn
    refine⟨f,hσ,fin H a1,φ,ρ,s,l,s1,E,R,e1,λ vs φ1 H1 g1 l1 b1 r1 R1=>?_⟩
    have Y:=a1.kp g1.w.kp
    exact⟨fin H1 Y,_,_,G.cl id J f cap C a3 a2,Y,φ1,s1,cs,l,d,s',R1,r1,RVL.mono g1 cs cap hb a4,b1,ab9 l1 cs hb,B,q.trans g1 l1⟩
   | _=>rw[eρ]at B;exact fb B
end
section
variable {Γ:Gm} {F:kN} {n:Nat} {X:Cx} {ck:Ck} {σ:St} {H:Hp} {Q:VK}
def cm2 (K:ac)(H:Hp)(v:V)(ys:List V):Prop:=(∃ a,v=.ref a/\(SqL K H a ys\/SqT K H a ys))\/∃ x:List Nat,v=.str ⟨x.toArray⟩/\x.length<=kC/\ys=sgV x
def TLv (Γ:Gm)(m:kr->kn->kt (List ko)):TE:=λ σ H Q=>∃ φ ρ s l s',RE Γ φ H s.length ρ σ/\Rp Γ φ H s/\m ρ s=.ok l s' /\
 ∀ v ys φ' H',Gr φ s H φ' s' H'->s.length<=s'.length->kq s'.length l=true->cm2 Γ.K H' v ys->RVL Γ φ' H' l ys->Rp Γ φ' H' s'->Q v H'
theorem aN5 {m:kr->kn->kt (List ko)}(h:TLv Γ m σ H Q):TFv Γ m σ H Q:=by
 obtain⟨φ,ρ,s,l,s',E,R,C,q⟩:=h
 exact⟨φ,ρ,s,l,s',E,R,C,λ p ys φ' H' g hl hb B h0 ho r y=>q (.ref p) ys φ' H' g hl hb (.inl ⟨p,rfl,.inl (SqL.of B)⟩) r y⟩
theorem aA5 {φ:Nat->Addr}:∀ x:List Nat,RVL Γ φ H (x.map λ c=>.str [c]) (sgV x)
 | []=>.nil
 | c::x=>.cons (RV.strI (by unfold kC;simp)) (aA5 x)
theorem at8 {k:Nat}:∀ x:List Nat,kq k (x.map λ c=>.str [c])=true
 | []=>rfl
 | c::x=>by rw[aI];unfold kq;rw[at8 x];rfl
theorem bL5 {m:kr->kn->kt ko}(h:TLv Γ (λ ρ s=>(m ρ s).bind λ d s=>DV.aM8 d s) σ H Q):TEv Γ m σ H Q:=by
 obtain⟨φ,ρ,s,l,s',E,R,y,q⟩:=h
 obtain⟨d,s1,e1,y⟩:=aa1 y
 refine⟨φ,ρ,s,d,s1,E,R,e1,λ v φ1 J g1 l1 Y r1 R1=>?_⟩
 cases d with
 | tup l' =>
  cases y
  obtain⟨a,G,rfl,C,B⟩:=r1.tupE
  unfold ku at Y
  exact q _ G φ1 J g1 l1 Y (.inl ⟨a,rfl,.inr C⟩) B R1
 | str x =>
  cases y
  exact q v (sgV x) φ1 J g1 l1 (at8 x) (.inr ⟨x,r1.strE,r1.strL,rfl⟩) (aA5 x) R1
 | ref k =>
  have y:(match s1[k]? with
   | some (.lst l)=>DV.R.ok l s1
   | some (.ro l)=>.ok l s1
   | _=>.bad)=.ok l s':=y
  rw[r1.refE]
  cases e:s1[k]? with
  | none=>rw[e]at y;exact fb y
  | some ob =>
   rw[e]at y
   cases ob with
   | lst l' =>
    cases y
    obtain⟨G,C,B⟩:=R1.addr e
    have:=R1.wf k _ e
    unfold kz at this
    exact q _ G φ1 J g1 l1 this (.inl ⟨_,rfl,.inl (SqL.of C)⟩) B R1
   | ro l' =>
    cases y
    obtain⟨G,C,B⟩:=R1.obj k _ e
    have:=R1.wf k _ e
    unfold kz at this
    exact q _ G φ1 J g1 l1 this (.inl ⟨_,rfl,.inl C.1⟩) B R1
   | _=>exact fb y
 | _=>exact fb y
theorem TLv.eq {m m':kr->kn->kt (List ko)}(e:∀ ρ s,m ρ s=m' ρ s)(q:TLv Γ m σ H Q):TLv Γ m' σ H Q:=by
 have:m=m':=funext λ ρ=>funext λ s=>e ρ s
 subst this;exact q
theorem aS4 {m:kr->kn->kt (List ko)}{a:Expr}{p pos:Pos}(G:CG Γ F n X ck)(J:ck.gl "tuple"=true)(hs:shp a=true)(h:PE X a (TLv Γ m)) :
  PE X (.Call (.Name "tuple" p) [a] [] pos) (TEv Γ (λ ρ s=>(m ρ s).bind λ l s=>lr .tuple l s)):=by
 obtain⟨g1,g2,Z⟩:=G.gl J
 refine(aq0 ((aJ3 G.K).or (aI5 G.calm)) g1 (G.bi _ (by decide)) aZ1 (qu h ag9 (zw hs)) Z g2 (zw hs) rfl).imp λ σ H Q q=>?_
 obtain⟨φ,ρ,s,d,s',E,R,y,q⟩:=q
 obtain⟨l,s1,e1,y⟩:=aa1 y
 cases y
 refine⟨φ,ρ,s,l,_,E,R,e1,λ v ys φ1 Y g1 l1 B hq r1 R1=>?_⟩
 rcases hq with⟨a,rfl,hq|hq⟩|⟨x,rfl,hx,rfl⟩
 ·exact .inl ⟨a,ys,rfl,.inl ⟨hq,λ p C=>(q.trans g1 l1).tup R1 r1 B C⟩⟩
 ·exact .inl ⟨a,ys,rfl,.inr ⟨hq,q _ φ1 Y g1 l1 (by unfold ku;exact B) (RV.tupI hq r1) R1⟩⟩
 ·exact .inr ⟨x,rfl,hx,λ p C=>(q.trans g1 l1).tup R1 r1 B C⟩
theorem ba9 {m:kr->kn->kt (List ko)}{a:Expr}{p pos:Pos}(G:CG Γ F n X ck)(J:ck.gl "list"=true)(hs:shp a=true)(h:PE X a (TLv Γ m)) :
  PE X (.Call (.Name "list" p) [a] [] pos) (TEv Γ (λ ρ s=>(m ρ s).bind λ l s=>lr .list l s)):=by
 obtain⟨g1,Z,Y⟩:=G.gl J
 refine(aq0 ((aQ8 G.K).or (aR9 G.calm)) g1 (G.bi _ (by decide)) bu9 (qu h ag9 (zw hs)) Y Z (zw hs) rfl).imp λ σ H Q q=>?_
 obtain⟨φ,ρ,s,d,s',E,R,y,q⟩:=q
 obtain⟨l,s1,e1,y⟩:=aa1 y
 obtain⟨rfl,rfl⟩:=qT y
 refine⟨φ,ρ,s,l,_,E,R,e1,λ v ys φ1 H1 g1 l1 C hq r1 R1=>?_⟩
 rcases hq with⟨a,rfl,hq⟩|⟨x,rfl,hx,rfl⟩
 ·exact .inl ⟨a,ys,rfl,hq,λ p B=>(q.trans g1 l1).alloc R1 r1 C B⟩
 ·exact .inr ⟨x,rfl,hx,λ p B=>(q.trans g1 l1).alloc R1 r1 C B⟩
theorem bP0 {m:kr->kn->kt (List ko)}{k:ly}{x:Str}{a:Expr}{p pos:Pos}(G:CG Γ F n X ck)(hk:mkT k=some x)(y:ck.gl x=true)(hs:shp a=true)(h:PE X a (TLv Γ m)) :
  PE X (.Call (.Name x p) [a] [] pos) (TEv Γ (λ ρ s=>(m ρ s).bind λ l s=>lr k l s)):=by
 cases k<;>cases hk
 ·exact aS4 G y hs h
 ·exact ba9 G y hs h
def FrC (Γ:Gm)(X:Cx)(x:Str)(k:ly):Prop:=∃ id r,be x=some (.builtin id)/\x∈bNames/\ae7 X (.builtin id) r/\∀ φ H s l ys p d s' Q,Rp Γ φ H s->RVL Γ φ H l ys->H p=some (.lst ys)->lr k l s=.ok d s'->ag2 Γ φ s H d s' Q->r [.ref p] H Q
theorem aN3:∀(l:List Int) (a:Int),(l.foldl min a=a\/l.foldl min a∈l)/\l.foldl min a<=a/\∀ y∈l,l.foldl min a<=y
 | [],a=>⟨.inl rfl,bO _,λ y hy=>by cases hy⟩
 | b::l,a=>by
  obtain⟨B,C,h3⟩:=aN3 l (min a b)
  rw[cg]
  refine⟨?_,by omega,λ y hy=>?_⟩
  ·rcases B with h|h
   ·rw[h]
    rcases ka a b with z|z
    ·left;omega
    ·right;rw[show min a b=b by omega];exact aD ..
   ·exact .inr (au _ h)
  ·rcases az.mp hy with z|z
   ·rw[z];omega
   ·exact h3 y z
theorem aO7 {l:List Int}{m:Int}(h:la l=some m):m∈l/\∀ y∈l,m<=y:=by
 cases l with
 | nil=>cases h
 | cons a l =>
  cases h
  obtain⟨C,B,h3⟩:=aN3 l a
  refine⟨?_,λ y hy=>?_⟩
  ·rcases C with h|h
   ·rw[h];exact aD ..
   ·exact au _ h
  ·rcases az.mp hy with z|z
   ·rw[z];exact B
   ·exact h3 y z
theorem bz0 (G:CG Γ F n X ck){k:ly}{x:Str}(hk:mkF k=some x):FrC Γ X x k:=by
 cases k<;>cases hk
 ·refine⟨_,_,cc7,by decide,ba5 G.calm G.K,λ φ H s l ys p d s' Q R r B h q=>?_⟩
  unfold lr at h
  dsimp only at h
  cases e:lf l with
  | none=>rw[e]at h;exact fb h
  | some bs =>
   rw[e]at h
   cases h
   have:=ao5 e
   subst this
   exact⟨p,bs,rfl,SqL.of (by rw[<-r.bls];exact B),q.here R rfl RV.blI⟩
 ·refine⟨_,_,bH7,by decide,aZ5 G.calm G.K,λ φ H s l ys p d s' Q R r B h q=>?_⟩
  unfold lr at h
  dsimp only at h
  cases e:kZ l with
  | none=>rw[e]at h;exact fb h
  | some is =>
   rw[e]at h
   have h:(match la is with|some m=>DV.R.ok (DV.D.int m) s|none=>.bad)=.ok d s':=h
   cases e2:la is with
   | none=>rw[e2]at h;exact fb h
   | some mm =>
    rw[e2]at h
    cases h
    have:=qo e
    subst this
    refine⟨p,is,rfl,SqL.of (by rw[<-r.ints];exact B),(λ(z:is=[])=>by rw[z]at e2;cases e2),λ m h y=>?_⟩
    obtain⟨a,b⟩:=aO7 e2
    have:m=mm:=iQ (y mm a) (b m h)
    rw[this]
    exact q.here R rfl RV.intI
theorem bP1 {m:kr->kn->kt (List ko)}{k:ly}{x:Str}{a:Expr}{p pos:Pos}(G:CG Γ F n X ck)(hk:mkF k=some x)(B:ck.gl x=true)(hs:shp a=true)(h:PE X a (TFv Γ m)) :
  PE X (.Call (.Name x p) [a] [] pos) (TEv Γ (λ ρ s=>(m ρ s).bind λ l s=>lr k l s)):=by
 obtain⟨g1,Z,J⟩:=G.gl B
 obtain⟨id,r,hb,hx,hc,Y⟩:=bz0 (Γ:=Γ) G hk
 refine(av3 hc g1 (G.bi _ hx) hb (qu h ag9 (zw hs)) J Z (zw hs) rfl).imp λ σ H Q q=>?_
 obtain⟨φ,ρ,s,d,s',E,R,y,q⟩:=q
 obtain⟨l,s1,e1,y⟩:=aa1 y
 exact⟨φ,ρ,s,l,_,E,R,e1,λ p ys φ1 C g1 l1 b1 hp h0 ho r1 R1=>Y φ1 C s1 l ys p d s' Q R1 r1 hp y (q.trans g1 l1)⟩
theorem bP9 {md:kr->kn->kt (ko)}{ml:kr->kn->kt (List ko)}{a de:Expr}{p pos kp:Pos}(G:CG Γ F n X ck)(hg:ck.gl "min"=true)(hs:shp a=true)(h:PE X a (TFv Γ ml))(hd:PE X de (TEv Γ md)) :
  PE X (.Call (.Name "min" p) [a] [⟨some "default",de,kp⟩] pos) (TEv Γ (λ ρ s=>(ml ρ s).bind λ l s=>(md ρ s).bind λ d s=>DV.mkD .min l d s)):=by
 obtain⟨g1,Y,g3⟩:=G.gl hg
 refine(bw5 rfl G.calm g1 (G.bi _ (by decide)) h hd (zw hs)).imp λ σ H Q q=>?_
 obtain⟨φ,ρ,s,d,s',E,R,B,q⟩:=q
 obtain⟨l,s1,e1,B⟩:=aa1 B
 obtain⟨d0,s2,e2,B⟩:=aa1 B
 refine⟨φ,ρ,s,l,s1,E,R,e1,λ p ys φ1 H1 g1 l1 b1 hp h0 ho r1 R1=>?_⟩
 refine⟨φ1,ρ,s1,d0,s2,E.mono g1 l1,R1,e2,λ v φ2 H2 Y l2 b2 r2 R2=>?_⟩
 have Z:H2 p=some (.lst ys):=Y.fr p _ hp (by nofun) (λ i ob e mu=>ho i ob e mu)
 unfold DV.mkD at B
 dsimp only at B
 cases e:kZ l with
 | none=>rw[e]at B;exact fb B
 | some is =>
  rw[e]at B
  have hm2:(match la is with|some m=>DV.R.ok (DV.D.int m) s2|none=>DV.R.ok d0 s2)=.ok d s':=B
  have:=qo e
  subst this
  have hq:=q.trans (g1.trans Y l1) (aw l1 l2)
  refine⟨p,is,rfl,SqL.of (by rw[<-r1.ints];exact Z),λ z=>?_,λ m C J=>?_⟩
  ·subst z
   cases hm2
   exact hq.here R2 b2 r2
  ·clear e2
   cases e2:la is with
   | none =>
    cases is with
    | nil=>cases C
    | cons _ _=>cases e2
   | some mm =>
    rw[e2]at hm2
    cases hm2
    obtain⟨x,y⟩:=aO7 e2
    have:m=mm:=iQ (J mm x) (y m C)
    rw[this]
    exact hq.here R2 rfl RV.intI
theorem br1 {φ φ':Nat->Addr}{s s':kn}{H':Hp}{r:Nat}{l:List ko}(R:Rp Γ φ H s)(g:Gr φ s H φ' s' H')(hb:r<s.length)(e:s'[r]?=some (.lst l)):tyV Γ.K "list" (.ref (φ r)) H:=by
 obtain⟨h,y⟩:∃ h,s[r]?=some h:=⟨s[r],ag hb⟩
 have C:=g.mu r h _ y e rfl
 have ho:=R.obj r h y
 cases h with
 | lst l0 =>
  obtain⟨G,B,_⟩:=ho
  exact .inl ⟨rfl,G,SqL.of B⟩
 | ro _=>cases C
 | dic _=>have:=g.kd r _ _ y e;cases this
 | ins _ _=>exact ho.elim
def mtR (Γ:Gm)(m:lz):V->List V->Hp->VK->Prop:=λ x vs H Q=>∃ φ s a l d s',Rp Γ φ H s/\RV Γ φ H a x/\RVL Γ φ H l vs/\a.bnd s.length=true/\kq s.length l=true/\lb m a l s=.ok d s'/\ag2 Γ φ s H d s' Q
theorem bN5:kC<aL:=by rw[dN];decide
theorem ax5 {m:lz}{x:Str}{k:Nat}(y:mtT m=some (x,k)){a:ko}{l:List ko}{s s':kn}{d:ko}(h:lb m a l s=.ok d s'):∃ r l0,a=.ref r/\s[r]?=some (.lst l0):=by
 have go:∀ {r:Nat} {f:List ko->kt ko},(match s[r]? with|some (.lst l)=>f l|_=>.bad)=.ok d s'->∃ l0,s[r]?=some (.lst l0):=λ {r f} h=>by
  cases e:s[r]? with
  | none=>rw[e]at h;exact fb h
  | some ob =>
   cases ob with
   | lst l0=>exact⟨l0,rfl⟩
   | _=>rw[e]at h;exact fb h
 unfold lb at h
 split at h
 ·obtain⟨l0,e⟩:=go h;exact⟨_,l0,rfl,e⟩
 ·obtain⟨l0,e⟩:=go h;exact⟨_,l0,rfl,e⟩
 ·obtain⟨l0,e⟩:=go h;exact⟨_,l0,rfl,e⟩
 ·obtain⟨l0,e⟩:=go h;exact⟨_,l0,rfl,e⟩
 ·obtain⟨l0,e⟩:=go h;exact⟨_,l0,rfl,e⟩
 ·exact fb h
theorem bj6:MtR X "list.append" (mtR Γ .append):=by
 intro C sh σ H x vs v us Q I rx Z h
 obtain⟨φ,s,a,l,d,s',R,ra,rl,ba,bl,B,q⟩:=h
 obtain⟨r,l0,rfl,e⟩:=ax5 (m:=.append) rfl B
 cases l with
 | nil=>exact fb B
 | cons y t =>
  cases t with
  | cons _ _=>exact fb B
  | nil =>
   simp only[lb,e]at B
   split at B
   case isFalse=>exact fb B
   rename_i hlt
   cases B
   obtain⟨z,rfl,rz⟩:=rl.one
   obtain⟨xs,Y,J⟩:=R.addr e
   have G:kq s.length l0=true:=by have:=R.wf r _ e;unfold kz at this;exact this
   refine aB7 C sh σ H x [z] v us Q I rx Z ⟨φ r,xs,z,ra.refE,rfl,Y,by rw[J.length];have:=bN5;omega,?_⟩
   exact q.put R e (J.append (.cons rz .nil)) (ql G bl) rfl RV.nonI
theorem bc0 {s:kn}{x:ko}{e:Nat->Bool}:∀ {l:List ko} {k n:Nat},(∀ j d,l[j]?=some d->kA s kB d x=some (e (k+j)))->lQ s x k l=some n->∃ j,n=k+j/\j<l.length/\e (k+j)=true/\∀ i,i<j->e (k+i)=false
 | [],k,n,_,h=>by cases h
 | y::l,k,n,he,h=>by
  have G:=he 0 y rfl
  unfold lQ at h
  rw[G]at h
  cases q:e (k+0)with
  | true =>
   rw[q]at h
   cases h
   exact⟨0,rfl,by simp,q,λ i B=>absurd B (dZ _)⟩
  | false =>
   rw[q]at h
   obtain⟨j,Y,J,h3,C⟩:=bc0 (l:=l) (k:=k+1) (λ j d ej=>by rw[show k+1+j=k+(j+1)by omega];exact he (j+1) d ej) h
   refine⟨j+1,by omega,by simp;omega,by rw[show k+(j+1)=k+1+j by omega];exact h3,λ i B=>?_⟩
   cases i with
   | zero=>exact q
   | succ i=>rw[show k+(i+1)=k+1+i by omega];exact C i (by omega)
theorem bC2 (hK:X.K=Γ.K)(C:Room (kB+1) X.A):MtR X "list.index" (mtR Γ .index):=by
 intro a4 sh σ H x vs v us Q I rx rv h
 obtain⟨φ,s,a,l,d,s',R,ra,rl,ba,bl,B,q⟩:=h
 obtain⟨r,l0,rfl,e⟩:=ax5 (m:=.index) rfl B
 obtain⟨y,rfl⟩:∃ y,l=[y]:=by
  cases l with
  | nil=>exact fb B
  | cons y l=>cases l with
   | nil=>exact⟨y,rfl⟩
   | cons z l=>exact fb B
 simp only[lb,e]at B
 cases ein:kR s y l0 with
 | none=>rw[ein]at B;exact fb B
 | some z =>
  cases ei:lQ s y 0 l0 with
  | none=>rw[ein,ei]at B;cases z<;>cases B
  | some n =>
   rw[ein,ei]at B
   cases z with
   | false=>exact fb B
   | true =>
    cases B
    obtain⟨w,ws,rfl,a1,a0⟩:=rl.uncons
    have hv:=a0.unnil
    subst hv
    obtain⟨u,rfl,ru⟩:=rv.one
    obtain⟨xs,h1,h2⟩:=R.addr e
    have ex:=ra.refE
    subst ex
    cases rx
    obtain⟨zz,its,nn,Y,hl,eo⟩:=I.lstM h1
    obtain⟨f,e',g1,g2,g3⟩:=bG4 I hK R a1 ru h2 Y ein (A:=X.A.in1) C.in1
    obtain⟨j,G,a6,J,a2⟩:=bc0 (e:=e') (k:=0) (λ j d ej=>by rw[bA];exact g3 j d ej) ei
    rw[bA]at G J
    subst G
    have a5:its.length=l0.length:=by rw[<-Y.length,h2.length]
    have a3:n<its.toArray.size:=by rw[aA];omega
    have Z:its.length<=aL:=by rw[<-Y.length];exact zz
    rw[dN]at Z
    refine fL fy ⟨_,eo,rfl⟩ PySem.F.entry_list_index (PySem.F.args_list_index_2 _ _) (SeqAt.list_indexAt (φ r) its.toArray nn none #[] u f n a3 (by omega) ?_ ?_) ⟨eo,λ y hy=>g1 y hy,?_⟩
    ·have:its[n]?=some its[n]:=ag (by omega)
     show f its[n]=true
     rw[g2 n _ this];exact J
    ·intro i hi hlt
     rw[aA]at hi
     have:its[i]?=some its[i]:=ag hi
     show f its[i]=false
     rw[g2 i _ this]
     have:=a2 i hlt
     rwa [bA]at this
    ·exact⟨.int n,H,I.tok _,⟨_,rfl⟩,q.here R rfl RV.intI⟩
structure MtOk (Γ:Gm)(X:Cx)(m:lz)(x:Str):Prop where
 ex:∃ id,PySem.Slot "list" x id/\typeOf (.builtin id)=pure (.type "method_descriptor")/\MtR X id (mtR Γ m)
theorem bV7 (B:X.K=Γ.K)(y:Room (kB+1) X.A){m:lz}{x:Str}{k:Nat}(h:mtT m=some (x,k)):MtOk Γ X m x:=by
 cases m<;>cases h
 ·exact⟨_,gh,PySem.F.type_list_append,bj6⟩
 ·exact⟨_,fy,PySem.F.type_list_index,bC2 B y⟩
theorem bk3 {m:lz}{o:lj}{es:kL}{ob:Expr}{C:List Expr}{x:Str}{ap cp:Pos}(G:CG Γ F n X ck)(hm:mtT m=some (x,C.length))(hab:ch3 ob=true)(hl:(ap.endLine==cp.line)=true)(ho:PE X ob (TEv Γ (kx F o)))
  (a1:mEs ck es C=true) (h:PEs Γ F X es C):EvT Γ X (.Call (.Attribute ob x ap) C [] cp) (kx F (.meth m o es)):=by
 refine .val ?_
 obtain⟨id,slot,a0,hr⟩:=(bV7 (Γ:=Γ) (X:=X) G.K (G.room.mono G.deep) hm).ex
 have hs:=ay7 a1
 have key:∀ σ H Q,TEv Γ (kx F (.meth m o es)) σ H Q->tBM Γ.K "list" (mtR Γ m) (TEv Γ (kx F o)) (TAv Γ (kO F es)) σ H Q:=λ σ H Q q=>by
  obtain⟨φ,ρ,s,d,s',E,R,B,q⟩:=q
  obtain⟨a,s1,e1,B⟩:=aa1 B
  obtain⟨l,s2,e2,B⟩:=aa1 B
  refine⟨φ,ρ,s,a,s1,E,R,e1,λ v φ1 H1 g1 l1 J r1 R1=>?_⟩
  obtain⟨r,l0,rfl,er⟩:=ax5 hm B
  rw[r1.refE]
  have hk:∀ φ2 H2,Gr φ1 s1 H1 φ2 s2 H2->tyV Γ.K "list" (.ref (φ1 r)) H1:=λ φ2 H2 g2=>br1 R1 g2 (by unfold ku at J;exact of_decide_eq_true J) er
  have Y:TAv Γ (kO F es) σ H1 λ C H2=>mtR Γ m (.ref (φ1 r)) C H2 Q:=by
   refine⟨φ1,ρ,s1,l,s2,E.mono g1 l1,R1,e2,λ vs φ2 H2 g2 l2 b2 r2 R2=>?_⟩
   refine⟨φ2,s2,.ref r,l,d,s',R2,?_,r2,zT l2 _ J,b2,B,q.trans (g1.trans g2 l1) (aw l1 l2)⟩
   have:=RV.mono g2 _ _ J r1
   rw[r1.refE]at this
   exact this
  refine⟨?_,Y⟩
  have hlt:r<s1.length:=by unfold ku at J;exact of_decide_eq_true J
  obtain⟨o0,e0⟩:∃ o0,s1[r]?=some o0:=⟨s1[r],ag hlt⟩
  have Z:=R1.obj r o0 e0
  cases o0 with
  | lst l0 =>
   obtain⟨C,h1,_⟩:=Z
   exact .inl ⟨rfl,C,SqL.of h1⟩
  | ro l0 =>
   obtain⟨C,h1,_⟩:=Z
   exact .inl ⟨rfl,C,h1.1⟩
  | dic _ =>
   obtain⟨o',eo,ek⟩:=DV.ak8 G.fk es ρ s1 _ _ e2 r _ e0
   rw[er]at eo;cases eo;cases ek
  | ins _ _=>exact Z.elim
 cases C with
 | nil =>
  have p0:PE X (.Call (.Attribute ob x ap) [] [] cp) (cj0 X.K "list" (mtR Γ m) (TEv Γ (kx F o))):=bW5 fA slot a0 hr ho (bd7 hab) hl
  rw[G.K]at p0
  refine p0.imp λ σ H Q q=>?_
  cases es with
  | cons _ _=>exact h.elim
  | nil =>
   obtain⟨φ,ρ,s,d,s',E,R,B,k⟩:=key σ H Q q
   refine⟨φ,ρ,s,d,s',E,R,B,λ v φ1 H1 g1 l1 J r1 R1=>?_⟩
   obtain⟨h1,h2⟩:=k v φ1 H1 g1 l1 J r1 R1
   exact⟨h1,aP3 (TAv.eq (λ ρ s=>rfl) h2)⟩
 | cons y ys =>
  refine(bQ8 G.K fA slot a0 hr ho (ap2 h) (bd7 hab) ?_ hl (zw (hs y (aD ..))) (z4 λ e he=>hs e (au _ he)).1).imp key
  rw[(z4 hs).2]
  have:(y::ys).length<=1:=by
   unfold mtT at hm
   split at hm<;>first|(have:=ao hm;have:=congrArg Prod.snd this;simp at this;simp;omega)|cases hm
  simp only[dM,dY,kb]
  show(true&&decide ((y::ys).length+0+0<30))=true
  rw[dM]
  exact decide_eq_true (by omega)
end
section
variable {Γ:Gm} {F:kN} {n:Nat} {X:Cx} {ck:Ck} {σ:St} {H:Hp} {Q:VK}
theorem PIf.imp {e:List Expr}{t t':TT}(h:PIf X e t)(i:∀ σ H Q,t' σ H Q->t σ H Q):PIf X e t':=λ y s σ H Q I q=>h y s σ H Q I (i σ H Q q)
structure CompF (Γ:Gm)(X:Cx)(m:kr->kn->kt (List ko))(E:Expr):Prop where
 ex:∃ elt tgt iter ifs scope pos N' caps wi g tc te,E=.ListComp elt [⟨tgt,iter,ifs,0⟩] scope pos/\qt N' caps scope X.N X.env.scope=true/\PI X tgt iter wi /\
  (∀(C:Addr) (cells:List (Str×Addr)) (s:af) (H:Hp) (ex:List Addr),PG (z8 X N' scope C cells s H ex) tgt g/\PIf (z8 X N' scope C cells s H ex) ifs tc/\PE (z8 X N' scope C cells s H ex) elt te) /\
  (∀ x,cO iter X.env x=pure x)/\∀ σ H Q,TFv Γ m σ H Q->tComp caps wi g tc te σ H Q
theorem CompF.pe {m:kr->kn->kt (List ko)}{E:Expr}(h:CompF Γ X m E)(hc:X.calm=true):PE X E (TFv Γ m):=by
 obtain⟨G,Z,iter,a0,scope,pos,Y,y,wi,g,tc,te,rfl,h1,B,h3,C,J⟩:=h.ex
 exact(aZ2 Y y h1 B hc h3 C).imp J
theorem bE8 {tg:kW}{mI:kr->kn->kt lp}{mc J:kr->kn->kt ko}{h:List (Option Nat)}{B y iter i:Expr}{scope:Scope}{pos:Pos}(G:CG Γ F n X ck)(hm:aS5 ck tg y iter h scope=true)
  (Z:PI X y iter (TIv Γ mI)) (hc:∀ C cells s H ex,PT (z8 X (ckC ck y h scope).N scope C cells s H ex) i (TTv Γ mc)) (he:∀ C cells s H ex,PE (z8 X (ckC ck y h scope).N scope C cells s H ex) B (TEv Γ J)) :
  CompF Γ X (λ ρ s=>(mI ρ s).bind λ q s0=>if q.its.length<=kC then lx (λ s=>kY s0 s q.src) (λ d ρ s=>match kK ρ tg d with
   | some ρ=>kE (mc ρ s) λ k s=>if k then(J ρ s).bind λ v s=>.ok (some v,ρ) s else .ok (none,ρ) s
   | none=>.bad) q.its (lq ρ h) s0 else .bad) (.ListComp B [⟨y,iter,[i],0⟩] scope pos):=by
 obtain⟨c1,c2,Y⟩:=G.comp hm
 exact⟨B,y,iter,[i],scope,pos,_,h,_,_,_,_,rfl,c1,Z,λ C cells s H ex=>⟨(Y C cells s H ex).2,bx9 (hc C cells s H ex),he C cells s H ex⟩,aG4 c2,λ σ H Q q=>bh5 q⟩
theorem bn6 {tg:kW}{mI:kr->kn->kt lp}{Y:kr->kn->kt ko}{h:List (Option Nat)}{B y iter:Expr}{scope:Scope}{pos:Pos}(G:CG Γ F n X ck)(J:aS5 ck tg y iter h scope=true)
  (hi:PI X y iter (TIv Γ mI)) (he:∀ C cells s H ex,PE (z8 X (ckC ck y h scope).N scope C cells s H ex) B (TEv Γ Y)) :
  CompF Γ X (λ ρ s=>(mI ρ s).bind λ q s0=>if q.its.length<=kC then lx (λ s=>kY s0 s q.src) (λ d ρ s=>match kK ρ tg d with
   | some ρ=>(Y ρ s).bind λ v s=>.ok (some v,ρ) s
   | none=>.bad) q.its (lq ρ h) s0 else .bad) (.ListComp B [⟨y,iter,[],0⟩] scope pos):=by
 obtain⟨c1,c2,Z⟩:=G.comp J
 refine⟨B,y,iter,[],scope,pos,_,h,_,_,TTv Γ (λ ρ s=>.ok (.bl true) s),_,rfl,c1,hi,λ C cells s H ex=>⟨(Z C cells s H ex).2,bz4.imp λ σ H Q q=>?_,he C cells s H ex⟩,aG4 c2,λ σ H Q q=>bh5 (TFv.eq (λ ρ s=>?_) q)⟩
 ·obtain⟨φ,ρ,s,b,s',E,R,J,q⟩:=q
  cases J
  exact q φ H (Gr.refl _ _ _) (ah _) R
 ·congr 1
theorem bx0 {tg:Expr}{e:lj}{E:Expr}(G:CG Γ F n X ck)(h:PE X E (TEv Γ (kx F e))):PI X tg E (TIv Γ (lR F (.seq e))):=by
 refine(PI.or (bK0 G.K h) (PI.or (bm2 G.K h) (bS7 h))).imp λ σ H R q=>bL2 (TIv.eq (λ ρ s=>rfl) q)
theorem bm8 {tg:Expr}{a:lj}{l:Expr}{p pos:Pos}(G:CG Γ F n X ck)(y:ck.gl "range"=true)(hs:shp l=true)(h:PE X l (TEv Γ (kx F a))):PI X tg (.Call (.Name "range" p) [l] [] pos) (TIv Γ (lR F (.rng1 a))) :=
 (bh0 (G.gl y).1 (G.bi _ (by decide)) (qu h ag9 (zw hs)) (zw hs)).imp λ σ H R q=>bJ2 (TIv.eq (λ ρ s=>rfl) q)
theorem bS3 (h:TEv Γ (λ ρ s=>k6 (.dic []) s) σ H Q):bv5 σ H Q:=by
 obtain⟨φ,ρ,s,d,s',E,R,C,q⟩:=h
 obtain⟨rfl,rfl⟩:=qT C
 intro p B
 obtain⟨g,y⟩:=R.new (o:=.dic []) (u:=.dK []) B rfl λ φ' H' g e=>⟨[],e,rfl⟩
 exact q (.ref p) _ _ g (by simp) (by unfold ku;simp) (by unfold RV;simp) y
theorem bM3 {mk mv:kr->kn->kt ko}(h:TEv Γ (λ ρ s=>(mk ρ (s++[.dic []])).bind λ kd s1=>(mv ρ s1).bind λ C s2=>if kd.key=true/\s2[s.length]?=some (.dic [])then .ok (.ref s.length) (s2.set s.length (.dic [(kd,C)]))else .bad) σ H Q):bP7 [(TEv Γ mk,TEv Γ mv)] σ H Q:=by
 obtain⟨φ,ρ,s,d,s',E,R,y,q⟩:=h
 obtain⟨kd,s1,e1,y⟩:=aa1 y
 obtain⟨C,s2,e2,y⟩:=aa1 y
 split at y
 case isFalse=>exact fb y
 rename_i hc
 cases y
 intro p hp
 obtain⟨g0,R0⟩:=R.new (o:=.dic []) (u:=.dK []) hp rfl λ φ' H' g e=>⟨[],e,rfl⟩
 have l0:s.length<=(s++[DV.O.dic []]).length:=by simp
 refine⟨_,ρ,s++[DV.O.dic []],kd,s1,E.mono g0 l0,R0,e1,λ v1 φ1 H1 g1 l1 b1 r1 R1=>?_⟩
 refine⟨φ1,ρ,s1,C,s2,(E.mono g0 l0).mono g1 l1,R1,e2,λ Y φ2 H2 G J b2 r2 R2=>?_⟩
 have B:φ2 s.length=p:=by
  rw[G.w.map s.length (am (by simp) l1),g1.w.map s.length (by simp)];simp
 obtain⟨k,hk⟩:=an1 hc.1
 have ek:=aO2 hk (RV.mono G kd v1 b1 r1)
 obtain⟨Z,z1,z2⟩:=R2.obj s.length _ hc.2
 have z2:Z=[]:=z2
 subst z2
 rw[B]at z1
 refine⟨z1,[(k,Y)],by rw[ek];rfl,by simp,?_⟩
 have hb:(DV.O.dic [(kd,C)]).bnd s2.length=true:=by
  unfold kz
  simp only[aI,cy,kq,dL,aq]
  exact⟨zT J _ b1,b2⟩
 obtain⟨g3,R3⟩:=R2.set (o:=.dic [(kd,C)]) (u:=.dK [(k,Y)]) hc.2 rfl hb λ H' g e=>⟨_,e,k,Y,[],rfl,hk,RV.monoW g _ _ b2 r2,rfl⟩
 rw[B]at g3 R3
 have L:s.length<=s2.length:=aw l0 (aw l1 J)
 have lt:s.length<s2.length:=am (by simp) (aw l1 J)
 exact q (.ref p) _ _ (((g0.trans g1 l0).trans G (aw l0 l1)).trans g3 L) (by rw[bv];exact L) (by unfold ku;rw[bv];exact decide_eq_true lt) (by unfold RV;rw[B]) R3
end
section
variable {Γ:Gm} {F:kN} {n:Nat}
theorem bQ4 {X:Cx}{c:DV.Cn}{v:Const}{k:Nat}{pos:Pos}(h:mC c v=true):EvT Γ X (.Constant v k pos) (kx F (.cst c)):=by
 refine .val ?_
 unfold mC at h
 split at h
 ·exact bW2.imp λ σ H Q q=>aF4 (c:=.non) (λ _=>rfl) (λ _ _=>RV.nonI) (TEv.eq (λ ρ s=>rfl) q)
 ·rename_i b c
  have e:=eq_of_beq h
  subst e
  exact cg2.imp λ σ H Q q=>aF4 (c:=.bl b) (λ _=>rfl) (λ _ _=>RV.blI) (TEv.eq (λ ρ s=>rfl) q)
 ·rename_i i j
  have e:=of_decide_eq_true h
  subst e
  exact bU6.imp λ σ H Q q=>aF4 (c:=.int i) (λ _=>rfl) (λ _ _=>RV.intI) (TEv.eq (λ ρ s=>rfl) q)
 ·rename_i x y
  rw[aq]at h
  have e:=of_decide_eq_true h.1
  have e2:=of_decide_eq_true h.2
  subst e
  exact bM5.imp λ σ H Q q=>aF4 (c:=.str x) (λ _=>rfl) (λ _ _=>RV.strI (by unfold kC;omega)) (TEv.eq (λ ρ s=>rfl) q)
 ·cases h
theorem bF0 {X:Cx}{Z:Ck}{es:kL}{y:List Expr}{pos:Pos}(m:mEs Z es y=true)(hz:y.length<=1000)(h:PA X y (TAv Γ (kO F es))):PE X (.List y pos) (TFv Γ (DV.evL F (.disp es))):=by
 refine(bu7 h).imp λ σ H Q q=>?_
 obtain⟨φ,ρ,s,l,s',E,R,J,q⟩:=q
 refine⟨φ,ρ,s,l,s',E,R,J,λ vs φ1 C g1 l1 Y r1 R1=>⟨by rw[r1.length,aw9 J m];exact bd9 hz,λ p B=>?_⟩⟩
 obtain⟨G,R2⟩:=R1.same (H':=upd C p (.lst vs)) ((ai5.refl C).new B)
 refine q p vs φ1 _ (g1.trans G l1) l1 Y zt ?_ (Off.new R1 B) (RVL.mono G _ _ Y r1) R2
 cases e:H p with
 | none=>rfl
 | some o=>exact absurd B (g1.st p (by rw[e];simp))
theorem CompF.eq {X:Cx}{m m':kr->kn->kt (List ko)}{E:Expr}(c:CompF Γ X m E)(e:∀ ρ s,m' ρ s=m ρ s):CompF Γ X m' E:=by
 have:m'=m:=funext λ ρ=>funext λ s=>e ρ s
 subst this;exact c
theorem zF {a b:Bool}(h:(a&&b)=true):a=true/\b=true:=by rw[aq]at h;exact h
theorem bz6 {X:Cx}{B:Ck}{g:String}{p:Pos}(G:CG Γ F n X B)(h:B.gl (g:Str)=true):EvT Γ X (.Name (g:Str) p) (kx F (.glob g)):=by
 refine .val ?_
 obtain⟨g1,Z,g3⟩:=G.gl h
 cases e:F.con g with
 | none =>
  intro C s σ H Q I q
  obtain⟨φ,ρ,s,d,s',E,R,y,q⟩:=q
  have y:(match F.con g with|some d=>DV.R.ok d s|none=>.bad)=.ok d s':=y
  rw[e]at y
  cases y
 | some d =>
  obtain⟨v,u,Y,J,h3,h4⟩:=G.con g d e
  exact(bE7 g1 Y J Z).imp λ σ H Q q=>aF4 (c:=d) h3 h4 (TEv.eq (λ ρ s=>by show(match F.con g with|some d=>DV.R.ok d s|none=>.bad)=DV.R.ok d s;rw[e]) q)
theorem bX1 {X:Cx}{y:Ck}{i:Nat}{x:Str}{p:Pos}(G:CG Γ F n X y)(h:y.var i x=true):EvT Γ X (.Name x p) (kx F (.var i)):=by
 refine .val ?_
 unfold Ck.var at h
 obtain⟨h,C⟩:=zF h
 obtain⟨h,h3⟩:=zF h
 obtain⟨J,B⟩:=zF h
 have e1:(x==("__debug__":Str))=false:=by simpa using h3
 have e2:(x==("__classdict__":Str))=false:=by simpa using C
 exact(bh9 (by rw[G.N];exact of_decide_eq_true J) (G.vis B) e1 e2).imp λ σ H Q q=>bU3 i (TEv.eq (λ ρ s=>rfl) q)
theorem bv9 {X:Cx}{y:Ck}{i:Nat}{x:Str}{p:Pos}(G:CG Γ F n X y)(h:y.var i x=true):PE X (.Name x p) (bw1 i):=by
 unfold Ck.var at h
 obtain⟨h,C⟩:=zF h
 obtain⟨h,h3⟩:=zF h
 obtain⟨J,B⟩:=zF h
 exact bh9 (by rw[G.N];exact of_decide_eq_true J) (G.vis B) (by simpa using h3) (by simpa using C)
theorem av0 {G:Ck}:∀ {es:k9} {C:List Expr},bK4 G es C=true->∀ x∈C,shp x=true
 | .nil,[],_,x,hx=>by cases hx
 | .nil,_::_,h,_,_=>ff h
 | .ex e es,[],h,_,_=>ff h
 | .ex e es,y::ys,h,x,hx=>by
  obtain⟨h,h3⟩:=zF h
  obtain⟨J,B⟩:=zF h
  rcases az.mp hx with rfl|hx
  ·exact B
  ·exact av0 h3 x hx
 | .lam _ _ es,[],h,_,_=>ff h
 | .lam _ _ es,y::ys,h,x,hx=>by
  obtain⟨h,h3⟩:=zF h
  obtain⟨J,B⟩:=zF h
  rcases az.mp hx with rfl|hx
  ·exact B
  ·exact av0 h3 x hx
 | .fn _ _,_,h,_,_=>ff h
theorem aL2 {C:Ck}:∀ {es:k9} {J:List Expr},bK4 C es J=true->bp5 es=true->∃ id B E,C.lk id B E=true
 | .nil,_,_,h=>by cases h
 | .ex e es,[],h,_=>ff h
 | .ex e es,y::ys,h,hl=>by
  obtain⟨h,h3⟩:=zF h
  exact aL2 h3 hl
 | .lam id B es,[],h,_=>ff h
 | .lam id B es,y::ys,h,_=>by
  obtain⟨h,h3⟩:=zF h
  obtain⟨G,Y⟩:=zF h
  exact⟨id,B,y,G⟩
 | .fn _ _,_,h,_=>ff h
theorem aM9 {X:Cx}{E:Expr}{m:kr->kn->kt ko}(h:∀ ρ s,m ρ s=.bad):EvT Γ X E m:=by
 refine⟨λ y s σ H Q I q=>?_,λ y s σ H Q I q=>?_⟩
 ·obtain⟨φ,ρ,s,d,s',E,R,B,q⟩:=q
  rw[h]at B;exact fb B
 ·obtain⟨φ,ρ,s,d,s',E,R,B,q⟩:=q
  rw[h]at B;exact fb B
inductive LK (Γ:Gm)(X:Cx)(m:kr->kn->kt (List ko))(E:Expr)(k:Nat):Prop where
 | c (h:CompF Γ X m E):LK Γ X m E k
 | f (hk:1<=k) (h:PE X E (TFv Γ m)):LK Γ X m E k
 | s (hk:k=2) (h:PE X E (TLv Γ m)):LK Γ X m E k
theorem bT6 {X:Cx}{m:kr->kn->kt (List ko)}{E:Expr}(h:LK Γ X m E 0):CompF Γ X m E:=by
 cases h with
 | c h=>exact h
 | f hk h=>omega
 | s hk h=>omega
theorem bU1 {X:Cx}{y:Ck}{m:kr->kn->kt (List ko)}{E:Expr}(G:CG Γ F n X y)(h:LK Γ X m E 1):PE X E (TFv Γ m):=by
 cases h with
 | c h=>exact h.pe G.calm
 | f hk h=>exact h
 | s hk h=>omega
theorem cg7 {X:Cx}{y:Ck}{m:kr->kn->kt (List ko)}{E:Expr}(G:CG Γ F n X y)(h:LK Γ X m E 2):PE X E (TLv Γ m):=by
 cases h with
 | c h=>exact(h.pe G.calm).imp λ σ H Q q=>aN5 q
 | f hk h=>exact h.imp λ σ H Q q=>aN5 q
 | s hk h=>exact h
theorem biOk_inv {B:Ck}{b:kU}{x:Str}{C:List Expr}{es:kL}(h:ca1 B b x C (mEs B es C) (mEs B es (C.take 1))=true) :
  (∃ k t a y J,biK b=some (k,t)/\C=[a,.Name y J]/\x=("isinstance":Str)/\y=t/\B.gl x=true/\B.gl y=true/\mEs B es [a]=true)\/∃ a ys,C=a::ys/\biT b=some x/\B.gl x=true/\mEs B es (a::ys)=true:=by
 unfold ca1 at h
 cases hk:biK b with
 | none =>
  rw[hk]at h
  cases C with
  | nil=>exact ff h
  | cons a ys =>
   obtain⟨h,h3⟩:=zF h
   obtain⟨Y,G⟩:=zF h
   exact .inr ⟨a,ys,rfl,of_decide_eq_true Y,G,h3⟩
 | some p =>
  rw[hk]at h
  cases C with
  | nil=>exact ff h
  | cons a ys=>cases ys with
   | nil=>exact ff h
   | cons b ys=>cases b with
    | Name y J=>cases ys with
     | nil =>
      obtain⟨h,Z⟩:=zF h
      obtain⟨h,h4⟩:=zF h
      obtain⟨h,h3⟩:=zF h
      obtain⟨Y,G⟩:=zF h
      exact .inl ⟨p.1,p.2,a,y,J,rfl,rfl,of_decide_eq_true Y,of_decide_eq_true h3,G,h4,Z⟩
     | cons _ _=>exact ff h
    | _=>exact ff h
mutual
theorem sE:∀(e:lj) (E:Expr) (X:Cx) (B:Ck),CG Γ F n X B->mE B e E=true->EvT Γ X E (kx F e)
 | .var i,E,X,B,G,h=>by
  cases E with
  | Name x p =>
   exact bX1 G h
  | _=>exact ff h
 | .cst c,E,X,B,G,h=>by
  cases E with
  | Constant v k p =>
   exact bQ4 h
  | _=>exact ff h
 | .glob g,E,X,B,G,h=>by
  cases E with
  | Name x p =>
   obtain⟨J,C⟩:=zF h
   have e:=of_decide_eq_true J
   subst e
   exact bz6 G C
  | _=>exact ff h
 | .bin op a b,E,X,B,G,h=>by
  cases E with
  | BinOp l o r pE =>
   obtain⟨h,h3⟩:=zF h
   obtain⟨J,C⟩:=zF h
   have e:=of_decide_eq_true J
   subst e
   exact bF2 G op (sE a _ X B G C) (sE b _ X B G h3)
  | _=>exact ff h
 | .neg a,E,X,B,G,h=>by
  cases E with
  | UnaryOp o l p =>
   cases o with
   | USub =>
    exact bF6 (sE a _ X B G h)
   | _=>exact ff h
  | _=>exact ff h
 | .not a,E,X,B,G,h=>by
  cases E with
  | UnaryOp o l p =>
   cases o with
   | Not =>
    exact bC8 (sE a _ X B G h)
   | _=>exact ff h
  | _=>exact ff h
 | .cmp op a b,E,X,B,G,h=>by
  cases E with
  | Compare l os rs pE =>
   cases os with
   | cons o os_0 =>
    cases os_0 with
    | nil =>
     cases rs with
     | cons r rs_0 =>
      cases rs_0 with
      | nil =>
       obtain⟨h,h3⟩:=zF h
       obtain⟨J,C⟩:=zF h
       have e:=of_decide_eq_true J
       subst e
       exact bC4 G op (aL5 h3) (sE a _ X B G C) (sE b _ X B G h3)
      | _=>exact ff h
     | _=>exact ff h
    | _=>exact ff h
   | _=>exact ff h
  | _=>exact ff h
 | .chain _ _ _ _ _,E,X,B,G,h=>ff h
 | .isN a,E,X,B,G,h=>by
  cases E with
  | Compare l os rs pE =>
   cases os with
   | cons o os1 =>
    cases o with
    | Is =>
     cases os1 with
     | nil =>
      cases rs with
      | cons r rs1 =>
       cases r with
       | Constant v k p1 =>
        cases v with
        | none =>
         cases rs1 with
         | nil =>
          exact bF1 (sE a _ X B G h)
         | _=>exact ff h
        | _=>exact ff h
       | _=>exact ff h
      | _=>exact ff h
     | _=>exact ff h
    | _=>exact ff h
   | _=>exact ff h
  | _=>exact ff h
 | .notN a,E,X,B,G,h=>by
  cases E with
  | Compare l os rs pE =>
   cases os with
   | cons o os1 =>
    cases o with
    | IsNot =>
     cases os1 with
     | nil =>
      cases rs with
      | cons r rs1 =>
       cases r with
       | Constant v k p1 =>
        cases v with
        | none =>
         cases rs1 with
         | nil =>
          exact bk2 (sE a _ X B G h)
         | _=>exact ff h
        | _=>exact ff h
       | _=>exact ff h
      | _=>exact ff h
     | _=>exact ff h
    | _=>exact ff h
   | _=>exact ff h
  | _=>exact ff h
 | .isB _ _,E,X,B,G,h=>ff h
 | .notB _ _,E,X,B,G,h=>ff h
 | .and a b,E,X,B,G,h=>by
  cases E with
  | BoolOp op vs p=>cases op with
   | And =>
    cases vs with
    | nil=>exact ff h
    | cons l vs=>cases vs with
     | nil=>exact ff h
     | cons r vs=>cases vs with
      | nil =>
       obtain⟨J,C⟩:=zF h
       exact bI9 (sE a _ X B G J) (sE b _ X B G C)
      | cons r2 vs =>
       obtain⟨J,C⟩:=zF h
       exact bA3 (sE a _ X B G J) (sE b _ X B G C)
   | _=>exact ff h
  | _=>exact ff h
 | .or a b,E,X,B,G,h=>by
  cases E with
  | BoolOp op vs p=>cases op with
   | Or =>
    cases vs with
    | nil=>exact ff h
    | cons l vs=>cases vs with
     | nil=>exact ff h
     | cons r vs=>cases vs with
      | nil =>
       obtain⟨J,C⟩:=zF h
       exact bO8 (sE a _ X B G J) (sE b _ X B G C)
      | cons r2 vs =>
       obtain⟨J,C⟩:=zF h
       exact bU7 (sE a _ X B G J) (sE b _ X B G C)
   | _=>exact ff h
  | _=>exact ff h
 | .ite c a b,E,X,B,G,h=>by
  cases E with
  | IfExp tE l r pE =>
   obtain⟨h,h3⟩:=zF h
   obtain⟨J,C⟩:=zF h
   exact bG0 (sE c _ X B G J) (sE a _ X B G C) (sE b _ X B G h3)
  | _=>exact ff h
 | .tup es,E,X,B,G,h=>by
  cases E with
  | Tuple xs k p =>
   obtain⟨J,C⟩:=zF h
   exact bD0 J (of_decide_eq_true C) (ap2 (sEs es _ X B G J))
  | _=>exact ff h
 | .lst es,E,X,B,G,h=>by
  cases E with
  | List xs p =>
   obtain⟨J,C⟩:=zF h
   exact bD4 J (of_decide_eq_true C) (ap2 (sEs es _ X B G J))
  | _=>exact ff h
 | .dic .nil .nil,E,X,B,G,h=>by
  cases E with
  | Dict a b p=>cases a with
   | nil=>cases b with
    | nil=>exact .val (bk7.imp λ σ H Q q=>bS3 (TEv.eq (λ ρ s=>rfl) q))
    | _=>exact ff h
   | cons x a=>cases x with
    | none=>exact ff h
    | some x=>cases a with
     | nil=>cases b with
      | nil=>exact ff h
      | cons y b=>cases b with
       | nil=>exact ff h
       | _=>exact ff h
     | _=>exact ff h
  | _=>exact ff h
 | .dic (.cons k .nil) (.cons v .nil),E,X,B,G,h=>by
  cases E with
  | Dict a b p=>cases a with
   | nil=>cases b with
    | nil=>exact ff h
    | _=>exact ff h
   | cons x a=>cases x with
    | none=>exact ff h
    | some x=>cases a with
     | nil=>cases b with
      | nil=>exact ff h
      | cons y b=>cases b with
       | nil =>
        obtain⟨J,C⟩:=zF h
        obtain⟨J,_⟩:=zF J
        obtain⟨J,_⟩:=zF J
        obtain⟨C,_⟩:=zF C
        obtain⟨C,_⟩:=zF C
        exact .val ((bJ9 (bk6 (sE k _ X B G J).1 (sE v _ X B G C).1 bG3) rfl rfl (by nofun) (by show 1<=15;decide)).imp λ σ H Q q=>bM3 (TEv.eq (λ ρ s=>rfl) q))
       | _=>exact ff h
     | _=>exact ff h
  | _=>exact ff h
 | .dic .nil (.cons _ _),E,X,B,G,h=>aM9 λ _ _=>rfl
 | .dic (.cons _ .nil) .nil,E,X,B,G,h=>aM9 λ _ _=>rfl
 | .dic (.cons _ .nil) (.cons _ (.cons _ _)),E,X,B,G,h=>aM9 λ _ _=>rfl
 | .dic (.cons _ (.cons _ _)) _,E,X,B,G,h=>aM9 λ _ _=>rfl
 | .ix a b,E,X,B,G,h=>by
  cases E with
  | Subscript o i p =>
   obtain⟨J,C⟩:=zF h
   exact bQ6 G (aL5 C) (sE a _ X B G J) (sE b _ X B G C)
  | _=>exact ff h
 | .slL _ _,E,X,B,G,h=>ff h
 | .slU _ _,E,X,B,G,h=>ff h
 | .slLU _ _ _,E,X,B,G,h=>ff h
 | .rev _,E,X,B,G,h=>ff h
 | .call f as,E,X,B,G,h=>by
  cases E with
  | Call fE xs kw p =>
   cases fE with
   | Name x pN =>
    cases kw with
    | nil =>
     obtain⟨h,h3⟩:=zF h
     obtain⟨J,C⟩:=zF h
     have e:=of_decide_eq_true J
     subst e
     exact bn5 G C h3 (sAs as _ X B G h3)
    | _=>exact ff h
   | _=>exact ff h
  | _=>exact ff h
 | .callC f as,E,X,B,G,h=>by
  cases E with
  | Call fE xs kw p =>
   cases fE with
   | Name x pN =>
    cases xs with
    | cons y ys =>
     cases kw with
     | nil =>
      obtain⟨h,h3⟩:=zF h
      obtain⟨h,Y⟩:=zF h
      obtain⟨J,C⟩:=zF h
      have e:=of_decide_eq_true J
      subst e
      obtain⟨id,a0,E',hlk⟩:=aL2 h3 Y
      obtain⟨_,_,_,_,_,_,_,_,L⟩:=G.lam id a0 E' hlk
      exact .val ((bf8 G C L.fn L.kd (av0 h3) (ci2 as _ X B G h3)).imp λ σ H Q q=>TEv.eq (λ ρ s=>rfl) q)
     | _=>exact ff h
    | _=>exact ff h
   | _=>exact ff h
  | _=>exact ff h
 | .callV i es,E,X,B,G,h=>by
  cases E with
  | Call fE xs kw p =>
   cases fE with
   | Name x pN =>
    cases xs with
    | cons y ys =>
     cases kw with
     | nil =>
      obtain⟨J,C⟩:=zF h
      exact .val (aY1 G J (ay7 C) (ap2 (sEs es _ X B G C)) (bv9 G J))
     | _=>exact ff h
    | _=>exact ff h
   | _=>exact ff h
  | _=>exact ff h
 | .bi b es,E,X,B,G,h=>by
  cases E with
  | Call fE xs kw p =>
   cases fE with
   | Name x pN =>
    cases kw with
    | nil =>
     have h:ca1 B b x xs (mEs B es xs) (mEs B es (xs.take 1))=true:=h
     rcases biOk_inv h with⟨k,t,a,y,py,hk,rfl,rfl,rfl,C,Y,Z⟩|⟨a,ys,rfl,J,C,h3⟩
     ·exact bE3 G hk C Y (sEs es _ X B G Z)
     ·exact bR9 G J C h3 (ap2 (sEs es _ X B G h3))
    | _=>exact ff h
   | _=>exact ff h
  | _=>exact ff h
 | .mk k l,E,X,B,G,h=>by
  cases E with
  | ListComp e gs sc p =>
   obtain⟨J,C⟩:=zF h
   have e:=of_decide_eq_true J
   subst e
   exact .val (((bT6 (sL l _ X B G 0 C)).pe G.calm).imp λ σ H Q q=>be3 (TEv.eq (λ ρ s=>rfl) q))
  | Call fE xs kw p =>
   cases fE with
   | Name x pN =>
    cases xs with
    | cons a xs_0 =>
     cases xs_0 with
     | nil =>
      cases kw with
      | nil =>
       obtain⟨h,Y⟩:=zF h
       obtain⟨C,h3⟩:=zF h
       rw[bD]at Y
       rcases Y with Y|Y
       ·obtain⟨Z,h6⟩:=zF Y
        exact .val ((bP0 G (of_decide_eq_true Z) C h3 (cg7 G (sL l _ X B G 2 h6))).imp λ σ H Q q=>TEv.eq (λ ρ s=>rfl) q)
       ·obtain⟨Z,h6⟩:=zF Y
        exact .val ((bP1 G (of_decide_eq_true Z) C h3 (bU1 G (sL l _ X B G 1 h6))).imp λ σ H Q q=>TEv.eq (λ ρ s=>rfl) q)
      | _=>exact ff h
     | _=>exact ff h
    | _=>exact ff h
   | _=>exact ff h
  | _=>exact ff h
 | .mks _ _,E,X,B,G,h=>ff h
 | .mkDs _ _ _,E,X,B,G,h=>ff h
 | .mkD k l d,E,X,B,G,h=>by
  cases E with
  | Call fE xs kw p =>
   cases fE with
   | Name x pN =>
    cases xs with
    | cons a xs_0 =>
     cases xs_0 with
     | nil =>
      cases kw with
      | cons kk kw1 =>
       cases kk with
       | mk ky de kp =>
        cases ky with
        | some y =>
         cases kw1 with
         | nil =>
          obtain⟨h,h7⟩:=zF h
          obtain⟨h,h6⟩:=zF h
          obtain⟨h,Z⟩:=zF h
          obtain⟨h,Y⟩:=zF h
          obtain⟨h,h3⟩:=zF h
          obtain⟨J,C⟩:=zF h
          have e:=of_decide_eq_true J
          have e2:=of_decide_eq_true C
          have e3:=of_decide_eq_true h3
          subst e e2 e3
          exact .val ((bP9 G Y Z (bU1 G (sL l _ X B G 1 h6)) (sE d _ X B G h7).1).imp λ σ H Q q=>TEv.eq (λ ρ s=>rfl) q)
         | _=>exact ff h
        | _=>exact ff h
      | _=>exact ff h
     | _=>exact ff h
    | _=>exact ff h
   | _=>exact ff h
  | _=>exact ff h
 | .meth m o es,E,X,B,G,h=>by
  cases E with
  | Call fE xs kw p =>
   cases fE with
   | Attribute ob x ap =>
    cases kw with
    | nil =>
     obtain⟨h,Z⟩:=zF h
     obtain⟨h,Y⟩:=zF h
     obtain⟨h,h3⟩:=zF h
     obtain⟨J,C⟩:=zF h
     exact bk3 G (of_decide_eq_true J) C h3 (sE o _ X B G Y).1 Z (sEs es _ X B G Z)
    | _=>exact ff h
   | _=>exact ff h
  | _=>exact ff h
 | .ext _ _,E,X,B,G,h=>ff h
 | .extS _ _,E,X,B,G,h=>ff h
 | .join _ _,E,X,B,G,h=>ff h
theorem sEs:∀(es:kL) (y:List Expr) (X:Cx) (B:Ck),CG Γ F n X B->mEs B es y=true->PEs Γ F X es y
 | .nil,y,X,B,G,h=>by
  cases y with
  | nil =>
   exact trivial
  | _=>exact ff h
 | .cons e es,y,X,B,G,h=>by
  cases y with
  | cons x y =>
   obtain⟨h,h3⟩:=zF h
   obtain⟨J,C⟩:=zF h
   exact⟨⟨C,sE e _ X B G J⟩,sEs es _ X B G h3⟩
  | _=>exact ff h
theorem sAs:∀(es:k9) (y:List Expr) (X:Cx) (B:Ck),CG Γ F n X B->mAs B es y=true->PA X y (TAv Γ (lh F es))
 | .nil,y,X,B,G,h=>by
  cases y with
  | nil =>
   exact ag9.imp λ σ H Q q=>aP3 (TAv.eq (λ ρ s=>rfl) q)
  | _=>exact ff h
 | .ex e es,y,X,B,G,h=>by
  cases y with
  | cons x y =>
   obtain⟨h,h3⟩:=zF h
   obtain⟨J,C⟩:=zF h
   exact(aO1 C (sE e _ X B G J).1 (sAs es _ X B G h3)).imp λ σ H Q q=>TAv.eq (λ ρ s=>rfl) q
  | _=>exact ff h
 | .lam _ _ _,y,X,B,G,h=>ff h
 | .fn _ _,y,X,B,G,h=>ff h
theorem ci2:∀(es:k9) (y:List Expr) (X:Cx) (B:Ck),CG Γ F n X B->bK4 B es y=true->PA X y (TAp Γ X.env.cells X.N (lh F es))
 | .nil,y,X,B,G,h=>by
  cases y with
  | nil =>
   exact ag9.imp λ σ H Q q=>bC0 (TAp.eq (λ ρ s=>rfl) q)
  | _=>exact ff h
 | .ex e es,y,X,B,G,h=>by
  cases y with
  | cons x y =>
   obtain⟨h,h3⟩:=zF h
   obtain⟨Y,C⟩:=zF h
   exact(qu (sE e _ X B G Y).1 (ci2 es _ X B G h3) (zw C)).imp λ σ H Q q=>bV4 (TAp.eq (λ ρ s=>rfl) q)
  | _=>exact ff h
 | .lam id caps es,y,X,B,G,h=>by
  cases y with
  | cons x y =>
   obtain⟨h,h3⟩:=zF h
   obtain⟨Y,C⟩:=zF h
   obtain⟨c,P,params,body,scope,pos,J,e,L⟩:=G.lam id caps _ Y
   have hnm:J.nm=none:=by
    cases q:J.nm with
    | none=>rfl
    | some p=>unfold lamText at e;rw[q]at e;rw[e]at C;cases C
   unfold lamText at e
   rw[hnm]at e
   dsimp only at e
   subst e
   rw[<-G.N]at L
   exact(bU4 L hnm (ci2 es _ X B G h3)).imp λ σ H Q q=>TAp.eq (λ ρ s=>rfl) q
  | _=>exact ff h
 | .fn _ _,y,X,B,G,h=>ff h
theorem sI:∀(i:DV.I) (E tg:Expr) (X:Cx) (y:Ck),CG Γ F n X y->mI y tg i E=true->PI X tg E (TIv Γ (lR F i))
 | .seq e,E,tg,X,y,G,h=>by
  obtain⟨B,C⟩:=zF h
  exact bx0 G (sE e _ X y G B).1
 | .rng1 a,E,tg,X,y,G,h=>by
  cases E with
  | Call fE xs kw p =>
   cases fE with
   | Name x pN =>
    cases xs with
    | cons l xs_0 =>
     cases xs_0 with
     | nil =>
      cases kw with
      | nil =>
       obtain⟨h,J⟩:=zF h
       obtain⟨h,h3⟩:=zF h
       obtain⟨B,C⟩:=zF h
       have e:=of_decide_eq_true B
       subst e
       exact bm8 G C J (sE a _ X y G h3).1
      | _=>exact ff h
     | _=>exact ff h
    | _=>exact ff h
   | _=>exact ff h
  | _=>exact ff h
 | .rng2 _ _,E,tg,X,y,G,h=>ff h
 | .rng3 _ _ _,E,tg,X,y,G,h=>ff h
 | .enum (.seq _),E,tg,X,y,G,h=>ff h
 | .enum (.rng1 _),E,tg,X,y,G,h=>ff h
 | .enum (.rng2 _ _),E,tg,X,y,G,h=>ff h
 | .enum (.rng3 _ _ _),E,tg,X,y,G,h=>ff h
 | .enum (.enum _),E,tg,X,y,G,h=>ff h
 | .enum (.zip _ _),E,tg,X,y,G,h=>ff h
 | .enum (.items _),E,tg,X,y,G,h=>ff h
 | .zip (.seq _) (.seq _),E,tg,X,y,G,h=>ff h
 | .zip (.seq _) (.rng1 _),E,tg,X,y,G,h=>ff h
 | .zip (.seq _) (.rng2 _ _),E,tg,X,y,G,h=>ff h
 | .zip (.seq _) (.rng3 _ _ _),E,tg,X,y,G,h=>ff h
 | .zip (.seq _) (.enum _),E,tg,X,y,G,h=>ff h
 | .zip (.seq _) (.zip _ _),E,tg,X,y,G,h=>ff h
 | .zip (.seq _) (.items _),E,tg,X,y,G,h=>ff h
 | .zip (.rng1 _) _,E,tg,X,y,G,h=>ff h
 | .zip (.rng2 _ _) _,E,tg,X,y,G,h=>ff h
 | .zip (.rng3 _ _ _) _,E,tg,X,y,G,h=>ff h
 | .zip (.enum _) _,E,tg,X,y,G,h=>ff h
 | .zip (.zip _ _) _,E,tg,X,y,G,h=>ff h
 | .zip (.items _) _,E,tg,X,y,G,h=>ff h
 | .items _,E,tg,X,y,G,h=>ff h
theorem sL:∀(l:DV.L) (E:Expr) (X:Cx) (B:Ck),CG Γ F n X B->∀ k,mL B k l E=true->LK Γ X (DV.evL F l) E k
 | .comp tg it e caps,E,X,B,G,k,h=>by
  cases E with
  | ListComp elt gs scope p =>
   cases gs with
   | cons g gs1 =>
    cases g with
    | mk tgt iter ifs z =>
     cases ifs with
     | nil =>
      cases gs1 with
      | nil =>
       obtain⟨h,h3⟩:=zF h
       obtain⟨h,J⟩:=zF h
       obtain⟨h0,y⟩:=zF h
       have Y:=of_decide_eq_true h0
       subst Y
       have c:=bn6 (pos:=p) G y (sI it _ _ X B G J) λ C cells s H ex=>(sE e _ _ _ ((G.comp y).2.2 C cells s H ex).1 h3).1
       exact .c (c.eq λ ρ s=>rfl)
      | _=>exact ff h
     | _=>exact ff h
   | _=>exact ff h
  | _=>exact ff h
 | .compIf tg it i e caps,E,X,B,G,k,h=>by
  cases E with
  | ListComp elt gs scope p =>
   cases gs with
   | cons g gs1 =>
    cases g with
    | mk tgt iter ifs z =>
     cases ifs with
     | cons i1 ifs1 =>
      cases ifs1 with
      | nil =>
       cases gs1 with
       | nil =>
        obtain⟨h,Z⟩:=zF h
        obtain⟨h,h3⟩:=zF h
        obtain⟨h,J⟩:=zF h
        obtain⟨h0,y⟩:=zF h
        have Y:=of_decide_eq_true h0
        subst Y
        have c:=bE8 (pos:=p) G y (sI it _ _ X B G J) (λ C cells s H ex=>(sE i _ _ _ ((G.comp y).2.2 C cells s H ex).1 h3).2) λ C cells s H ex=>(sE e _ _ _ ((G.comp y).2.2 C cells s H ex).1 Z).1
        exact .c (c.eq λ ρ s=>rfl)
       | _=>exact ff h
      | _=>exact ff h
     | _=>exact ff h
   | _=>exact ff h
  | _=>exact ff h
 | .disp es,E,X,B,G,k,h=>by
  cases E with
  | List xs p =>
   obtain⟨h,J⟩:=zF h
   obtain⟨h0,y⟩:=zF h
   exact .f (of_decide_eq_true h0) (bF0 y (of_decide_eq_true J) (ap2 (sEs es _ X B G y)))
  | _=>exact ff h
 | .seq e,E,X,B,G,k,h=>by
  obtain⟨h0,y⟩:=zF h
  exact .s (of_decide_eq_true h0) ((sE e _ X B G y).1.imp λ σ H Q q=>bL5 (TLv.eq (λ ρ s=>rfl) q))
end
end
section
variable {Γ:Gm} {F:kN} {n:Nat}
theorem bq2 {X:Cx}{ck:Ck}{m:kr->kn->kt (List ko)}{E:Expr}{x:Str}{i:Nat}{px pos:Pos}(G:CG Γ F n X ck)(c:CompF Γ X m E)(hi:ck.N[i]?=some x)(hl:ck.loc x=true) :
  PS X (.Assign [.Name x px] E pos) (bm0 (TFv Γ m) (aE4 i)):=by
 obtain⟨C,y,iter,B,scope,p2,N',h,wi,g,tc,te,rfl,h1,h2,h3,h4,h5⟩:=c.ex
 obtain⟨l1,l2⟩:=G.loc hl
 have nd:X.N.Nodup:=by rw[G.N];exact G.nd
 have Z:X.N[i]?=some x:=by rw[G.N];exact hi
 generalize hb:((X.env.blockKind==.function&&X.env.kindOf x==some .local&&px.line==(Expr.ListComp C [⟨y,iter,B,0⟩] scope p2).pos.line&&!(scope.names.any λ(n,k)=>n==x&&(k==.local||k==.cell))))=b
 have Y:ee (.ListComp C [⟨y,iter,B,0⟩] scope p2) (some (.Name x px)) pos.line X.env=pure b:=by rw[<-hb];rfl
 have imp:∀ D σ H,bm0 (TFv Γ m) (aE4 i) D σ H->bm0 (tComp h wi g tc te) (aE4 i) D σ H:=λ D σ H q=>h5 _ _ _ q
 cases b with
 | true =>
  have J:X.env.scope.names.lookup x=some .local:=by
   simp only[aq]at hb
   exact eq_of_beq hb.1.1.2
  exact(aQ5 N' h nd Z J h1 h2 G.calm h3 h4 Y).imp imp
 | false=>exact(bs1 nd Z l1 (aZ2 N' h h1 h2 G.calm h3 h4) Y l2).imp imp
theorem bG9 {X:Cx}{y:Ck}{e:lj}{v:Expr}{x:Str}{i:Nat}{Z pos:Pos}(G:CG Γ F n X y)(C:y.N[i]?=some x)(hl:y.loc x=true)(h:mE y e v=true) :
  PS X (.Assign [.Name x Z] v pos) (TSv Γ (DV.ex F (.asg (.one i) e))):=by
 obtain⟨l1,l2⟩:=G.loc hl
 have nd:X.N.Nodup:=by rw[G.N];exact G.nd
 have B:X.N[i]?=some x:=by rw[G.N];exact C
 by_cases hc:aD9 v=true
 ·exact(bs1 nd B l1 (sE e v X y G h).1 (az2 hc) l2).imp λ D σ H q=>bg7 (tg:=.one i) (TSv.eq (λ ρ s=>rfl) q)
 ·have hs:=aL5 h
  cases v with
  | ListComp elt gs sc p =>
   cases e with
   | mk k l =>
    obtain⟨Y,J⟩:=zF h
    have e:=of_decide_eq_true Y
    subst e
    exact(bq2 G (bT6 (sL l _ X y G 0 J)) C hl).imp λ D σ H q=>bq9 (tg:=.one i) (TSv.eq (λ ρ s=>rfl) q)
   | _=>exact ff h
  | SetComp _ _ _ _=>cases hs
  | DictComp _ _ _ _ _=>cases hs
  | _=>exact absurd rfl hc
theorem bp2 {T:List (Addr×Str)}{cells:List (Str×Addr)}{P:Addr}{q:Str}{name:Str}{params:a8}{body:List Stmt}{scope:Scope}{pos:Pos}{ix:Nat}{D0:Ends}{σ:St}{H:Hp}(hT:TabsH T H)(nd:(T.map (·.1)).Nodup)(hm:(P,q)∈T)
  (go:∀(f:Addr) (H':Hp),bc4 H H'->(∀ b,H b≠none->H' b≠none)->TabsH T H'->H f=none->(∃ G pm C J,H' f=some (ax1 f (ci name q params body scope (af9 cells scope.names []) .none .none G pm none (.ref C) J))/\H' C=some (qK C q))->D0.nx (σ.set ix (some (.ref f))) H') :
  cj1 cells P name q params body scope pos ix D0 σ H:=by
 obtain⟨ps,Z,ht,hc⟩:=hT _ hm
 refine⟨ps,Z,ht,λ hn C f G pm J n1 n2 ne=>?_,λ cv e=>?_⟩
 ·have cP:C≠P:=λ z=>by rw[z,Z]at n1;cases n1
  have fP:f≠P:=λ z=>by rw[z,Z]at n2;cases n2
  have Y:∀ b,b≠P->H b≠none->∀ o1 o2 o3,upd (upd (upd H P o1) C o2) f o3 b=H b:=λ b z1 z2 o1 o2 o3=>by
   rw[zm λ z=>by subst z;exact z2 n2,zm λ z=>by subst z;exact z2 n1,zm z1]
  refine go f _ (λ b o d e=>?_) (λ b hb=>?_) (λ y hy=>?_) n2 ⟨G,pm,C,J,zt,by rw[zm ne,zt]⟩
  ·rw[Y b (λ z=>by subst z;rw[Z]at e;cases e;exact d _ rfl) (by rw[e];simp)];exact e
  ·by_cases z:b=P
   ·subst z;rw[zm (bM fP),zm (bM cP),zt];simp
   ·rw[Y b z hb];exact hb
  ·by_cases z:y.1=P
   ·have ey:y=(P,q):=by
     have:∀(l:List (Addr×Str)),(l.map (·.1)).Nodup->y∈l->(P,q)∈l->y=(P,q):=by
      intro l
      induction l with
      | nil=>intro _ h;simp at h
      | cons a l ih =>
       intro hn h1 h2
       rw[aI,cG]at hn
       rcases az.mp h1 with e1|h1<;>rcases az.mp h2 with e2|h2
       ·rw[e1,e2]
       ·exact absurd (by rw[<-e1,z];exact bn (f:=(·.1)) h2) hn.1
       ·exact absurd (by rw[<-e2,<-z];exact bn (f:=(·.1)) h1) hn.1
       ·exact ih hn.2 h1 h2
     exact this T nd hy hm
    subst ey
    refine⟨_,by rw[zm (bM fP),zm (bM cP),zt],?_,λ B cv e=>?_⟩
    ·rw[cZ];exact TriplesOk_snoc _ _ _ _ ht
    ·rw[cZ]at e
     rcases codeAmong_add _ ht e with e'|e'
     ·obtain⟨c2,e1,e2⟩:=hc B cv e'
      exact⟨c2,e1,by rw[Y c2 (λ z=>by subst z;rw[Z]at e2;unfold qK at e2;cases e2) (by rw[e2];simp)];exact e2⟩
     ·exact⟨C,e',by rw[zm ne,zt]⟩
   ·obtain⟨qs,e1,e2,e3⟩:=hT y hy
    refine⟨qs,by rw[Y y.1 z (by rw[e1];simp)];exact e1,e2,λ B cv e=>?_⟩
    obtain⟨c2,e4,e5⟩:=e3 B cv e
    exact⟨c2,e4,by rw[Y c2 (λ z=>by subst z;rw[Z]at e5;unfold qK at e5;cases e5) (by rw[e5];simp)];exact e5⟩
 ·obtain⟨C,e1,e2⟩:=hc pos cv e
  refine⟨C,e1,λ f G pm J n=>go f _ (.of ((ai5.refl H).new n)) (λ b hb=>by
   by_cases z:b=f
   ·subst z;rw[zt];simp
   ·rw[zm z];exact hb) (hT.new n) n ⟨G,pm,C,J,zt,?_⟩⟩
  rw[zm (zK e2 n)];exact e2
theorem bc2 (env : Env) : ∀ l : List Arg, (l.all λ y => y.annotation.isNone) = true -> gY l env = []
 | [], _ => by unfold gY; rfl
 | ⟨x,some a,p⟩::l,h=>by simp at h
 | ⟨x,none,p⟩::l,h=>by
  unfold gY
  exact bc2 env l (by simpa using h)
theorem bn2 {params:a8}(h:bI7 params=true)(env:Env):params.defaults=[]/\params.kw_defaults=[]/\annTrees params none env=[]:=by
 unfold bI7 at h
 split at h
 ·refine⟨rfl,rfl,?_⟩
  unfold annTrees
  simp only[Option.toList,bC]
  rw[bc2 env _ h];rfl
 ·cases h
theorem aG3 {α:Type}{o:Option α}{f:α->Bool}(h:o.any f=true):∃ a,o=some a/\f a=true:=by
 cases o with
 | none=>exact ff h
 | some a=>exact⟨a,rfl,h⟩
theorem bk1 {s:lP}{y:lA}{d:Nat×String×lj×String×List Nat}(h:ca4 s y=some d):s=.und d.1/\y=.cons (.ret (.callC d.2.1 (.ex d.2.2.1 (.lam d.2.2.2.1 d.2.2.2.2 .nil)))) .nil:=by
 unfold ca4 at h
 split at h
 ·cases h;exact⟨rfl,rfl⟩
 ·cases h
theorem bo0 {S:List Stmt}{q:Str×a8×Expr×Pos×Scope×Pos×List Stmt}(h:cl1 S=some q):S=.FunctionDef q.1 q.2.1 [.Return (some q.2.2.1) q.2.2.2.1] [] none [] q.2.2.2.2.1 none q.1 q.2.2.2.2.2.1::q.2.2.2.2.2.2:=by
 have y:∀ {p:Prop},(none:Option (Str×a8×Expr×Pos×Scope×Pos×List Stmt))=some q->p:=λ h=>nomatch h
 cases S with
 | cons x xs =>
  cases x with
  | FunctionDef nm params body dl ret tp scope ts nm2 pos =>
   cases body with
   | cons b1 bs =>
    cases b1 with
    | Return v rp =>
     cases v with
     | some b =>
      cases bs with
      | nil =>
       cases dl with
       | nil =>
        cases ret with
        | none =>
         cases tp with
         | nil =>
          cases ts with
          | none =>
           have h:(if nm2=nm then some (nm,params,b,rp,scope,pos,xs)else none)=some q:=h
           by_cases e:nm2=nm
           ·rw[if_pos e]at h;cases h;rw[e]
           ·rw[if_neg e]at h;exact y h
          | _=>exact y h
         | _=>exact y h
        | _=>exact y h
       | _=>exact y h
      | _=>exact y h
     | _=>exact y h
    | _=>exact y h
   | _=>exact y h
  | _=>exact y h
 | _=>exact y h
theorem bn8 {C:Str}{S:List Stmt}{r:Str×Pos×Expr×Pos×Pos×Pos}(h:cj6 C S=some r):S=[.Return (some (.Call (.Name r.1 r.2.1) [r.2.2.1,.Name C r.2.2.2.1] [] r.2.2.2.2.1)) r.2.2.2.2.2]:=by
 have B:∀ {p:Prop},(none:Option (Str×Pos×Expr×Pos×Pos×Pos))=some r->p:=λ h=>nomatch h
 cases S with
 | cons x xs =>
  cases x with
  | Return v rp2 =>
   cases v with
   | some e =>
    cases e with
    | Call f as kw cp =>
     cases f with
     | Name g gp =>
      cases as with
      | cons a as1 =>
       cases as1 with
       | cons y as2 =>
        cases y with
        | Name x p2 =>
         cases as2 with
         | nil =>
          cases kw with
          | nil =>
           cases xs with
           | nil =>
            have h:(if x=C then some (g,gp,a,p2,cp,rp2)else none)=some r:=h
            by_cases e:x=C
            ·rw[if_pos e]at h;cases h;rw[e]
            ·rw[if_neg e]at h;exact B h
           | _=>exact B h
          | _=>exact B h
         | _=>exact B h
        | _=>exact B h
       | _=>exact B h
      | _=>exact B h
     | _=>exact B h
    | _=>exact B h
   | _=>exact B h
  | _=>exact B h
 | _=>exact B h
theorem bL1 {X:Cx}{ck:Ck}{s:lP}{ss:lA}{S:List Stmt}(G:CG Γ F n X ck)(hM:bV6 ck s ss S=true):PSs X S (TSv Γ (lS F (.cons s ss))):=by
 obtain⟨⟨i,g,e,id,y⟩,e1,hA⟩:=aG3 hM
 clear hM
 obtain⟨⟨B,params,b,rp,scope,pos,xs⟩,e2,hB⟩:=aG3 hA
 clear hA
 obtain⟨⟨g',gp,a,p2,cp,rp2⟩,e3,h⟩:=aG3 hB
 clear hB
 obtain⟨rfl,rfl⟩:=bk1 e1
 have e3:=bn8 e3
 have e2:=bo0 e2
 dsimp only at e2 e3 h ⊢
 subst e3
 subst e2
 clear e1
 obtain⟨h,d3⟩:=zF h
 obtain⟨h,a5⟩:=zF h
 obtain⟨h,h9⟩:=zF h
 obtain⟨h,h8⟩:=zF h
 obtain⟨h,h7⟩:=zF h
 obtain⟨h,h6⟩:=zF h
 obtain⟨h,h5⟩:=zF h
 obtain⟨h0,h2⟩:=zF h
 have h7:=of_decide_eq_true h7
 subst h7
 have h1:=of_decide_eq_true h0
 clear h0
 obtain⟨c,P,a0,d0,b4,e7,J,Y,L⟩:=G.lam id y _ h6
 obtain⟨pn,hnm⟩:∃ pn,J.nm=some pn:=by
  cases q:J.nm with
  | none=>unfold lamText at Y;rw[q]at Y;cases Y
  | some p=>exact⟨p,rfl⟩
 obtain⟨pa,pb⟩:=pn
 unfold lamText at Y
 rw[hnm]at Y
 dsimp only at Y
 cases Y
 rw[<-G.N]at L h1
 obtain⟨l1,l2⟩:=G.loc h2
 obtain⟨a1,a2,a3⟩:=bn2 d3 X.env
 have c6:X.env.kindOf B=some .local\/X.env.kindOf B=some .cell:=l1
 have hq:i9 X.env B B=J.qual:=by
  rw[L.q]
  unfold LamI.own i9
  rw[hnm]
  rcases c6 with z|z<;>rw[z]<;>rfl
 have p1:=bN2 (X:=X) (c:=c) (P:=P) (body:=[.Return (some b) rp]) (scope:=scope) (pos:=pos) (by rw[G.N];exact G.nd) h1 l1 L.code L.hd L.bm L.ck hq a1 a2 a3 l2
 have b5:PE X (.Name B p2) (bw1 i):=bv9 G h5
 obtain⟨g1,g2,g3⟩:=G.gl h8
 rcases G.call g with hb|⟨fa,fd,ps,hF,c4,hk,hB⟩
 ·intro e0 sh σ H D I q
  obtain⟨φ,ρ,s,c,s',E,R,C,q⟩:=q
  obtain⟨c1,s1,e1,C⟩:=aa1 C
  have e1:(match lT ρ i with|some ρ=>DV.R.ok (DV.Ct.next ρ) s|none=>.bad)=.ok c1 s1:=e1
  split at e1
  case h_2=>cases e1
  cases e1
  obtain⟨c1,s1,e1,C⟩:=aa1 C
  obtain⟨d1,s2,e1,hm2⟩:=aa1 e1
  obtain⟨l,s3,e1,hm2⟩:=aa1 e1
  obtain⟨d,s4,e4,hm2⟩:=aa1 hm2
  rw[hb]at e4;cases e4
 have hE:=(sE e _ X ck G h9).1
 have hA:PA X [a,.Name B p2] (az9 (TEv Γ (kx F e)) (az9 (bw1 i) bm7)):=qu hE (qu b5 ag9 (zw rfl)) (zw a5)
 have p3:=aN9 (p:=gp) (pos:=cp) hF G.room g1 c4 hk hB L.fn hA g2 (zw a5) (z4 (es:=[.Name B p2]) λ z hz=>by rw[bN.mp hz];rfl).1
 refine(am9 p1 (am9 (bc1 p3) aJ1)).imp λ D σ H q=>?_
 obtain⟨φ,ρ,s,c0,s',E,R,C,q⟩:=q
 obtain⟨c1,s1,e1,C⟩:=aa1 C
 have e1:(match lT ρ i with|some ρ=>DV.R.ok (DV.Ct.next ρ) s|none=>.bad)=.ok c1 s1:=e1
 unfold lT at e1
 by_cases hil:i < ρ.length
 case neg=>rw[if_neg hil]at e1;cases e1
 rw[if_pos hil]at e1
 cases e1
 obtain⟨c1,s1,e1,C⟩:=aa1 C
 obtain⟨d1,s2,e1,hm2⟩:=aa1 e1
 cases hm2
 cases C
 obtain⟨l,s3,e1,hm2⟩:=aa1 e1
 obtain⟨d2,s4,e4,hm2⟩:=aa1 hm2
 split at hm2
 case isFalse=>exact fb hm2
 rename_i hn
 cases hm2
 rw[aq]at hn
 obtain⟨x1,s5,e5,e1⟩:=aa1 e1
 obtain⟨y1,s6,Z,e1⟩:=aa1 e1
 cases e1
 have Z:(match kP (ρ.set i none) y with|some cs=>(lh F .nil (ρ.set i none) s5).bind λ l s=>DV.R.ok (DV.D.clo id cs::l) s|none=>DV.R.bad)=.ok y1 s3:=Z
 cases eg:kP (ρ.set i none) y with
 | none=>rw[eg]at Z;cases Z
 | some cs =>
  rw[eg]at Z
  cases Z
  refine bp2 R.tab L.nd L.tab λ f H' eS st tb hf ho=>?_
  obtain⟨b2,R1⟩:=R.sameT eS st tb
  have E1:RE Γ φ H' s.length (ρ.set i none) (σ.set i (some (.ref f))):=by
   have E0:=E.mono b2 (ah _)
   refine⟨by rw[bv,bv];exact E0.len,λ j d ej=>?_⟩
   by_cases z:i=j
   ·subst z
    rw[aX hil]at ej;cases ej
   ·rw[a9 z]at ej
    obtain⟨q1,v,q2,q3⟩:=E0.val j d ej
    exact⟨q1,v,by rw[a9 z];exact q2,q3⟩
  obtain⟨cap,a4,a6,hσ⟩:=bg8 E1 eg
  have b0:=(aq4 eg).1
  have c5:ai1 H' f J (af9 X.env.cells J.scope.names []):=by
   unfold ai1;rw[hnm];dsimp only;rw[L.p,L.b,L.s];exact ho
  refine⟨φ,ρ.set i none,s,x1,_,E1,R1,e5,λ v1 φ1 H1 g1 l1 b1 r1 c3=>?_⟩
  have b6:i < σ.length:=by rw[<-E.len];exact hil
  refine⟨.ref f,by rw[aX b6],?_⟩
  intro H2 ca
  obtain⟨gs,R2⟩:=c3.same ca.same
  have b3:=ab9 l1 cs a6
  have c2:∀ m,x1.bnd m=true->kq m cs=true->kq m [x1,.clo id cs]=true:=λ m z1 z2=>by
   simp only[kq,z1,dM,dL]
   unfold ku;exact z2
  have bl:=c2 _ b1 b3
  have pv:PVL Γ X.env.cells X.N (σ.set i (some (.ref f))) φ1 H1 [x1,.clo id cs] [v1,.ref f]:=by
   refine .cons (.inl r1) (.cons (.inr ⟨id,cs,rfl,f,J,rfl,L.lg,c5.kp g1.w.kp,by rw[b0,L.len],by rw[L.s];exact L.cl,cap,RVL.mono g1 cs cap a6 a4,λ i x v e1 e3=>?_⟩) .nil)
   have hi:i<y.length:=by rw[<-L.len];exact(ab.mp e1).1
   have hj:y[i]?=some y[i]:=ag hi
   exact⟨by rw[L.s];exact L.fr x (aV e1),y[i],L.at_ i _ x hj e1,hσ i _ v hj e3⟩
  refine⟨φ1,_,[x1,.clo id cs],_,_,R2,pv.caught ca L.kd bl,bl,e4,λ v φ' H3 g' l' b' r' R'=>?_⟩
  have hc:Cells X.env.cells H3:=ca.cells.kp g'.w.kp
  exact q φ' (ad7 X.env.cells H3) ((b2.trans g1 (ah _)).trans (Gr.caught ca g') l1) (aw l1 l') (R'.dropC hc hn.2) v b' (RV.dropC hc _ v hn.1 r')
mutual
theorem sS:∀(st:lP) (S:Stmt) (X:Cx) (y:Ck),CG Γ F n X y->mS y st S=true->PS X S (TSv Γ (DV.ex F st))
 | .asg tg e,S,X,y,G,h=>by
  cases S with
  | Assign ts v p =>
   cases ts with
   | cons t ts1 =>
    cases ts1 with
    | nil =>
     obtain⟨h,h3⟩:=zF h
     obtain⟨C,B⟩:=zF h
     cases tg with
     | one i =>
      have h:=C
      cases t with
      | Name x px =>
       obtain⟨Z,Y⟩:=zF h
       exact bG9 G (of_decide_eq_true Z) Y B
      | _=>exact ff h
     | tup is =>
      obtain⟨Z,Y⟩:=zF h3
      have h:=C
      cases t with
      | Tuple te tk tp=>exact(bu5 (sE e _ X y G B).1 (bw7 G C) (show ee v (some (.Tuple te tk tp)) p.line X.env=pure false from az2 Y) (aU2 Z) rfl).imp λ D σ H q=>bg7 (TSv.eq (λ ρ s=>rfl) q)
      | _=>exact ff h
    | _=>exact ff h
   | _=>exact ff h
  | _=>exact ff h
 | .setIx o i e,S,X,y,G,h=>by
  cases S with
  | Assign ts v p2 =>
   cases ts with
   | cons tt ts1 =>
    cases tt with
    | Subscript ob ix p1 =>
     cases ts1 with
     | nil =>
      obtain⟨h,h5⟩:=zF h
      obtain⟨h,h4⟩:=zF h
      obtain⟨h,h3⟩:=zF h
      obtain⟨C,B⟩:=zF h
      have J:=aL5 B
      refine(bu5 (sE e _ X y G h3).1 (bT4 (sE o _ X y G C).1 (sE i _ X y G B).1 (bW9 (bm5 G.room)) ?_) (show ee v (some (.Subscript ob ix p1)) p2.line X.env=pure false from az2 h4) (aT7 h5) ?_).imp λ D σ H q=>bj4 (TSv.eq (λ ρ s=>rfl) q)
      ·intro w
       cases ix<;>first|rfl|cases J
      ·rfl
     | _=>exact ff h
    | _=>exact ff h
   | _=>exact ff h
  | _=>exact ff h
 | .aug i e,S,X,y,G,h=>by
  cases S with
  | AugAssign tt op v p =>
   cases tt with
   | Name x p1 =>
    cases op with
    | Add =>
     obtain⟨h,h3⟩:=zF h
     obtain⟨C,B⟩:=zF h
     obtain⟨l1,l2⟩:=G.loc B
     exact(bO2 (by rw[G.N];exact G.nd) (by rw[G.N];exact of_decide_eq_true C) l1 (sE e _ X y G h3).1 bY4 l2).imp λ D σ H q=>bU2 (TSv.eq (λ ρ s=>rfl) q)
    | _=>exact ff h
   | _=>exact ff h
  | _=>exact ff h
 | .ex e,S,X,y,G,h=>by
  cases S with
  | Expr v p =>
   obtain⟨C,B⟩:=zF h
   exact(bE9 (sE e _ X y G C).1 (az2 B)).imp λ D σ H q=>bE0 (TSv.eq (λ ρ s=>rfl) q)
  | _=>exact ff h
 | .ret e,S,X,y,G,h=>by
  cases S with
  | Return vo p =>
   cases vo with
   | some v =>
    exact(bc1 (sE e _ X y G h).1).imp λ D σ H q=>bN3 (TSv.eq (λ ρ s=>rfl) q)
   | _=>exact ff h
  | _=>exact ff h
 | .retN,S,X,y,G,h=>ff h
 | .ite c a b,S,X,y,G,h=>by
  cases S with
  | If t l r p =>
   obtain⟨h,h3⟩:=zF h
   obtain⟨C,B⟩:=zF h
   exact(cb3 (sE c _ X y G C).2 (sSs a _ X y G B) (sSs b _ X y G h3)).imp λ D σ H q=>cc5 (TSv.eq (λ ρ s=>rfl) q)
  | _=>exact ff h
 | .whl c b,S,X,y,G,h=>by
  cases S with
  | While t l o p =>
   cases o with
   | nil =>
    obtain⟨C,B⟩:=zF h
    exact(bp0 (by rw[G.xe];exact iR) (sE c _ X y G C).2 (sSs b _ X y G B)).imp λ D σ H q=>br2 (TSv.eq (λ ρ s=>rfl) q)
   | _=>exact ff h
  | _=>exact ff h
 | .for_ tg it b,S,X,y,G,h=>by
  cases S with
  | For tgt iter l o p =>
   cases o with
   | nil =>
    obtain⟨h,h3⟩:=zF h
    obtain⟨C,B⟩:=zF h
    exact(bT1 (by rw[G.xe];exact iR) G.calm (sI it _ _ X y G B) (bw7 G C) (sSs b _ X y G h3) (aG4 (bN7 B))).imp λ D σ H q=>bW8 (TSv.eq (λ ρ s=>rfl) q)
   | _=>exact ff h
  | _=>exact ff h
 | .pass,S,X,y,G,h=>ff h
 | .cont,S,X,y,G,h=>ff h
 | .brk,S,X,y,G,h=>ff h
 | .und _,S,X,y,G,h=>ff h
 | .raise,S,X,y,G,h=>bj2.imp λ D σ H q=>by
  obtain⟨φ,ρ,s,c,s',E,R,hm,q⟩:=q
  cases hm
theorem sSs:∀(st:lA) (S:List Stmt) (X:Cx) (y:Ck),CG Γ F n X y->mSs y st S=true->PSs X S (TSv Γ (lS F st))
 | .nil,S,X,y,G,h=>by
  cases S with
  | nil =>
   exact aJ1.imp λ D σ H q=>by8 (m:=lS F .nil) (λ ρ s=>rfl) q
  | _=>exact ff h
 | .cons s ss,S,X,y,G,h=>by
  cases S with
  | cons x xs =>
   rcases(bD _ _).mp h with h|h
   ·exact bL1 G h
   obtain⟨C,B⟩:=zF h
   exact(am9 (sS s _ X y G C) (sSs ss _ X y G B)).imp λ D σ H q=>bV5 (TSv.eq (λ ρ s=>rfl) q)
  | _=>exact ff h
end
end
section
variable {Γ:Gm}
theorem aK3 {φ φ1:Nat->Addr}{H B:Hp}{s s1:kn}(R:Rp Γ φ H s)(g:Gr φ s H φ1 s1 B)(ho:lU s s1=true){i:Nat}{o:kM}(y:i<s.length)(e:s1[i]?=some o):o.bnd s.length=true:=by
 unfold lU at ho
 have:=aM.mp ho i (aR.mpr y)
 rw[e,bD]at this
 rcases this with h|h
 ·exact R.wf i o (of_decide_eq_true h).symm
 ·exact h
theorem jd {s1:kn}{k i:Nat}{o:kM}(e:(s1.take k)[i]?=some o):i<k/\s1[i]?=some o:=by
 rw[ie]at e
 split at e
 ·exact⟨‹_›,e⟩
 ·cases e
theorem aQ2 {φ φ1:Nat->Addr}{H h:Hp}{s s1:kn}(R:Rp Γ φ H s)(g:Gr φ s H φ1 s1 h)(R1:Rp Γ φ1 h s1)(ho:lU s s1=true):Gr φ s H φ1 (s1.take s.length) h/\Rp Γ φ1 h (s1.take s.length):=by
 have hl:(s1.take s.length).length=s.length:=by rw[dE];have:=g.le;omega
 refine⟨⟨g.w,by rw[hl];exact ah _,λ i C B=>by rw[hl]at B;omega,λ i o y e e'=>g.kd i o y e (jd e').2,g.st,g.fr⟩,λ i j o y e e' m m' z=>R1.inj i j o y (jd e).2 (jd e').2 m m' z,λ i o e=>R1.obj i o (jd e).2,λ i o e=>?_,R1.tab⟩
 rw[hl]
 exact aK3 R g ho (jd e).1 (jd e).2
theorem az7 {φ φ1:Nat->Addr}{H C:Hp}{s s1 s':kn}{v0 d:ko}{v:V}(R:Rp Γ φ H s)(g:Gr φ s H φ1 s1 C)(R1:Rp Γ φ1 C s1)(hb:v0.bnd s1.length=true)(r:RV Γ φ1 C v0 v)(h:DV.zW s v0 s1=.ok d s') :
  ∃ φ',Gr φ s H φ' s' C/\s.length<=s'.length/\d.bnd s'.length=true/\RV Γ φ' C d v/\Rp Γ φ' C s':=by
 have all:d=v0->s'=s1->∃ φ',Gr φ s H φ' s' C/\s.length<=s'.length/\d.bnd s'.length=true/\RV Γ φ' C d v/\Rp Γ φ' C s':=λ e1 e2=>by
  subst e1;subst e2
  exact⟨φ1,g,g.le,hb,r,R1⟩
 unfold DV.zW at h
 split at h
 case isFalse=>cases h;exact all rfl rfl
 rename_i ho
 obtain⟨gt,Rt⟩:=aQ2 R g R1 ho
 have hl:(s1.take s.length).length=s.length:=by rw[dE];have:=g.le;omega
 have tk:d=v0->s'=s1.take s.length->v0.bnd s.length=true->∃ φ',Gr φ s H φ' s' C/\s.length<=s'.length/\d.bnd s'.length=true/\RV Γ φ' C d v/\Rp Γ φ' C s':=λ e1 e2 b=>by
  subst e1;subst e2
  exact⟨φ1,gt,by rw[hl];exact ah _,by rw[hl];exact b,r,Rt⟩
 split at h
 ·rename_i k
  split at h
  ·cases h
   exact tk rfl rfl (by unfold ku;exact decide_eq_true ‹_›)
  ·rename_i hk
   split at h
   ·rename_i o Y
    split at h
    ·rename_i J
     cases h
     have gw:Gw φ1 s.length C (λ i=>if i=s.length then φ1 k else φ1 i) C:=⟨λ i y=>if_neg (ay y),Kp.refl _⟩
     have key:∀(i:Nat) (G:kM),(s1.take s.length++[o])[i]?=some G->(i<s.length/\s1[i]?=some G)\/(i=s.length/\G=o):=λ i G e=>by
      rcases eW i s.length with h|h|h
      ·rw[aG (by rw[hl];exact h)]at e;exact .inl (jd e)
      ·subst h
       rw[aj (by rw[hl];exact ah _),hl,fR]at e
       exact .inr ⟨rfl,(ao e).symm⟩
      ·rw[bJ (by rw[aZ,hl];simp;omega)]at e;cases e
     have B:(s1.take s.length++[o]).length=s.length+1:=by rw[aZ,hl];rfl
     refine⟨λ i=>if i=s.length then φ1 k else φ1 i,⟨⟨λ i y=>?_,g.w.kp⟩,by rw[B];omega,λ i h1 h2=>?_,λ i oo G e e'=>?_,g.st,g.fr⟩,by rw[B];omega,by unfold ku;rw[B];exact decide_eq_true (dH _),?_,⟨λ i j oi oj a1 a0 mi mj e=>?_,λ i G e=>?_,λ i G e=>?_,R1.tab⟩⟩
     ·show(if i=s.length then φ1 k else φ1 i)=φ i
      rw[if_neg (ay y)];exact g.w.map i y
     ·rw[B]at h2
      show H (if i=s.length then φ1 k else φ1 i)=none
      rw[if_pos (by omega)]
      exact g.new k (by omega) (ab.mp Y).1
     ·rcases key i G e' with⟨_,e2⟩|⟨y,_⟩
      ·exact g.kd i oo G e e2
      ·have:=(ab.mp e).1;omega
     ·rw[r.refE]
      unfold RV
      show V.ref (φ1 k)=V.ref (if s.length=s.length then φ1 k else φ1 s.length)
      rw[if_pos rfl]
     ·rcases key i oi a1 with⟨y,ei⟩|⟨y,zi⟩<;>rcases key j oj a0 with⟨hj,ej⟩|⟨hj,zj⟩
      ·rw[if_neg (ay y),if_neg (ay hj)]at e
       exact R1.inj i j oi oj ei ej mi mj e
      ·rw[if_neg (ay y),if_pos hj]at e
       subst zj
       have:=R1.inj i k oi _ ei Y mi mj e
       omega
      ·rw[if_neg (ay hj),if_pos y]at e
       subst zi
       have:=R1.inj k j _ oj Y ej mi mj e
       omega
      ·rw[y,hj]
     ·rcases key i G e with⟨y,e⟩|⟨y,rfl⟩
      ·show RO Γ _ _ (if i=s.length then φ1 k else φ1 i) G
       rw[if_neg (ay y)]
       exact(R1.obj i G e).mono gw (aK3 R g ho y e) λ _ u Z=>Z
      ·show RO Γ _ _ (if i=s.length then φ1 k else φ1 i) G
       rw[if_pos y]
       exact(R1.obj k _ Y).mono gw J λ _ u Z=>Z
     ·rw[B]
      rcases key i G e with⟨y,e⟩|⟨_,rfl⟩
      ·exact qF (cT _) _ (aK3 R g ho y e)
      ·exact qF (cT _) _ J
    ·cases h;exact all rfl rfl
   ·exact fb h
 ·split at h
  ·cases h;exact tk rfl rfl ‹_›
  ·cases h;exact all rfl rfl
structure LamGood (J:LamI)(L:ls):Prop where
 sc:LamScope (J.ps++J.fr) J.ps J.fr J.scope
 ps:J.ps.length=L.ps
 fr:J.fr.length=L.cs
 m:mE (ck0 (J.ps++J.fr) J.scope) L.body J.body=true
 bind:∀(clos:List (Str×Addr)) (doc pm:Value) (c':Addr) (ctv:Value) (us:List Value),us.length=J.ps.length->dP (bK "<lambda>" J.qual J.params J.body J.scope clos pm (.ref c') ctv) ⟨us,[]⟩=pure (J.ps.zip us) /\
  ∀(nm:Str) (rp:Pos),dP (ci nm J.qual J.params [.Return (some J.body) rp] J.scope clos .none .none doc pm none (.ref c') ctv) ⟨us,[]⟩=pure (J.ps.zip us)
structure LkAt (Γ:Gm)(cds:List (Addr×Addr))(f:Str)(sc:Scope)(N:List Str)(fd:bz)(id:String)(caps:List Nat)(params:a8)(body:Expr)(scope:Scope)(c P:Addr)(J:LamI):Prop where
 code:fd.code=.ref c
 cd:(c,P)∈cds
 ck:lamCheck scope sc=true
 fre:∀ x,scope.names.lookup x=some .free->sc.names.lookup x=some .cell
 cel:∀ y∈sc.names,y.2=.cell->sc.names.lookup y.1=some .cell
 df:∀ env,i8 params env=([],[])
 lg:Γ.lg id J
 q:J.qual=f ++ ".<locals>."++J.own
 p:J.params=params
 b:J.body=body
 s:J.scope=scope
 len:J.fr.length=caps.length
 at_:∀(i j:Nat) (x:Str),caps[i]?=some j->J.fr[i]?=some x->N[j]?=some x
 fr:∀ x∈J.fr,scope.names.lookup x=some .free
 tab:(P,J.qual)∈Γ.T
def ca0 (Γ:Gm)(cds:List (Addr×Addr))(f:Str)(sc:Scope)(N:List Str)(fd:bz)(lk:String->List Nat->Expr->Bool):Prop :=
 ∀ id caps E,lk id caps E=true->∃ c P params body scope pos J,E=lamText J params body scope pos/\LkAt Γ cds f sc N fd id caps params body scope c P J
def Good (Γ:Gm)(cds:List (Addr×Addr))(mg:Str->Option Value)(f:String)(d:lu):Prop:=∃ st N ps a fd lk,DefAt Γ.K mg (f:Str) st ps a fd/\FnScope N ps (defScope st)/\ps.length=d.ps/\N.length=d.ps+d.vs/\mSs ⟨N,defScope st,lk⟩ d.body (qc st)=true/\ca0 Γ cds (f:Str) (defScope st) N fd lk
structure PrOk (Γ:Gm)(cds:List (Addr×Addr))(P:kI)(mg:Str->Option Value):Prop where
 df:∀ f d,P.df f=some d->Good Γ cds mg f d
 con:∀ x d,P.con x=some d->∃ v u,mg (x:Str)=some u/\RelV v u/\(∀ m,d.bnd m=true)/\∀ φ H,RV Γ φ H d v
 bi:∀ x∈bNames,mg x=none
 fa:∀(f:String) (a:Addr),Γ.fa f=some a->mg (f:Str)=some (.ref a)/\∃ oc od fd sl,Γ.K.lookup a=some ⟨oc,od,.func fd,sl⟩
 lg:∀ id J,Γ.lg id J->∃ L,P.lm id=some L/\LamGood J L
 nd:(Γ.T.map (·.1)).Nodup
noncomputable def aP2 (Γ : Gm) (prog : Program) (w : World) (mg : Str -> Option Value) (base : Heap) (F : DV.Fns) (n : Nat) : Prop := (∀ f : String, (∀ l s, F.call f l s = .bad) \/
      ∃ a fd ps, FnOk prog w Γ.K mg base CX0 n a fd ps (spV Γ (F.call f)) /\ mg (f : Str) = some (.ref a) /\ b8 Γ.K (.ref a) = true /\ Binds Γ.K fd ps []) /\
  ∀(id : String) (J : LamI) (f : Addr) (cap : List V) (clos : List (Str × Addr)), Γ.lg id J -> cap.length = J.fr.length -> ClOk prog w Γ.K mg base n (λ H => CloAt H f J cap clos) f (spL Γ (F.lam id) cap)
theorem br4 {φ:Nat->Addr}{H:Hp}{n k:Nat}{N:List Str}{l:List ko}{vs:List V}(r:RVL Γ φ H l vs)(b:kq n l=true)(hN:N.length=l.length+k):RE Γ φ H n (l.map some++ak k none) (aj9 N vs):=by
 have hl:=r.length
 refine⟨?_,λ i d e=>?_⟩
 ·unfold aj9;simp[hl,hN]
 ·by_cases hi:i<l.length
  ·rw[aG (by simpa using hi),ax]at e
   have e':l[i]?=some d:=by
    rw[ag hi]at e ⊢
    exact ao e
   obtain⟨v,e1,e2⟩:=r.get e'
   refine⟨an6 b e',v,?_,e2⟩
   unfold aj9
   rw[aG (by rw[aF,hl];exact hi),ax,e1];rfl
  ·rw[aj (by simpa using iE hi)]at e
   rw[fj]at e
   split at e<;>cases e
theorem bW0 {a1:List (Addr×Addr)}{P:kI}{prog:aK}{w:World}{mg:Str->Option Value}{C:Heap}(hP:PrOk Γ a1 P mg)(hb:∀ y∈a1,bL C y.1 y.2/\BM mg C)(n:Nat)(a0:aP2 Γ prog w mg C (kD P n) (n+31))
  {f:String} {d:lu} (e:P.df f=some d) {st:Stmt} {N ps:List Str} {a:Addr} {fd:bz} {lk:String->List Nat->Expr->Bool} (hD:DefAt Γ.K mg (f:Str) st ps a fd) (hS:FnScope N ps (defScope st)) (h1:ps.length=d.ps) (h2:N.length=d.ps+d.vs) (hm:mSs ⟨N,defScope st,lk⟩ d.body (qc st)=true) (hL:ca0 Γ a1 (f:Str) (defScope st) N fd lk) :
  FnOk prog w Γ.K mg C CX0 (n+1+31) a fd ps (spV Γ ((kD P (n+1)).call f)):=by
 have Z:∀ vs H Q E,spV Γ ((kD P (n+1)).call f) vs H Q E->vs.length=ps.length:=λ vs H Q E q=>by
  obtain⟨φ,s,l,d',s',R,r,b,hc,k⟩:=q
  simp only[kD,e]at hc
  split at hc
  ·rw[r.length,h1];assumption
  ·exact fb hc
 have body:∀(Y:Value),(∀ id B E,lk id B E=true->fd.code=Y)->∀(A:aU) (outer:List Env) (sh:af) (H:Hp) (vs:List V) (Q:VK) (E:XK),Room (n+31) (A.deeper (e8 (f:Str) (defScope st) sh.heap.objs.size a Y))->spV Γ ((kD P (n+1)).call f) vs H Q E ->
   ∃ t,PSs (bq0 CX0 prog w Γ.K mg C N (f:Str) (defScope st) a Y A outer sh H E).nox (qc st) t/\t { nx:=λ _ H'=>Q .non H',rt:=Q } (aj9 N vs) H:=by
  intro Y a3 A outer sh H vs Q E hr q
  have G:CG Γ (kD P n) (n+31) (bq0 CX0 prog w Γ.K mg C N (f:Str) (defScope st) a Y A outer sh H E).nox ⟨N,defScope st,lk⟩:=by
   refine⟨rfl,rfl,hS.nd,rfl,rfl,?_,hr,λ x k e=>.inl e,λ _ _=>rfl,hP.bi,a0.1,?_,λ id B E' hlk=>?_,a0.2,hP.fa,DV.an7 P n⟩
   ·show kB+1<=n+31
    unfold kB;omega
   ·have:(kD P n).con=P.con:=by cases n<;>rfl
    rw[this];exact hP.con
   ·obtain⟨c,Pa,params,body,scope,pos,J,eE,L⟩:=hL id B E' hlk
    obtain⟨a5,a2⟩:=hb _ L.cd
    refine⟨c,Pa,params,body,scope,pos,J,eE,⟨?_,a5,a2,L.ck,L.df _,L.lg,L.q,L.p,L.b,L.s,L.len,L.at_,L.fr,λ x hx=>?_,L.tab,hP.nd,λ _=>rfl,λ x c hx=>?_⟩⟩
    ·show Y=.ref c
     rw[<-a3 id B E' hlk];exact L.code
    ·exact qr (L.fre x hx)
    ·rcases zZ (aC hx)with z|z
     ·exact .inl (L.cel (x,.cell) z rfl)
     ·exact absurd z (by simp)
  refine⟨_,sSs d.body (qc st) _ ⟨N,defScope st,lk⟩ G hm,?_⟩
  obtain⟨φ,s,l,d',s',R,r,b,hc,k⟩:=q
  simp only[kD,e]at hc
  split at hc
  case isFalse=>exact fb hc
  rename_i Z
  obtain⟨c,s1,e1,hc⟩:=aa1 hc
  refine⟨φ,l.map some++ak d.vs none,s,c,s1,br4 r b (by rw[h2,Z]),R,e1,λ φ1 H1 g1 l1 R1=>?_⟩
  cases c with
  | ret v0 =>
   intro v hb rv
   obtain⟨φ',g',l',b',r',R'⟩:=az7 R g1 R1 hb rv hc
   exact k v φ' H1 g' l' b' r' R'
  | next ρ =>
   intro σ' _
   obtain⟨φ',g',l',b',r',R'⟩:=az7 (v0:=.non) R g1 R1 rfl RV.nonI hc
   exact k .non φ' H1 g' l' b' r' R'
  | cont ρ=>exact fb hc
  | brk ρ=>exact fb hc
 by_cases hl:∃ id B E,lk id B E=true
 ·obtain⟨id,B,E,hlk⟩:=hl
  obtain⟨c,Pa,params,a4,scope,pos,J,eE,L⟩:=hL id B E hlk
  exact hD.fn.okC L.code hS Z (body _ λ _ _ _ _=>L.code)
 ·exact hD.fn.ok hS Z (λ Y=>body Y λ id B E h=>absurd ⟨id,B,E,h⟩ hl)
theorem bH1 {b6:List (Addr×Addr)}{P:kI}{prog:aK}{w:World}{mg:Str->Option Value}{Y:Heap}(hP:PrOk Γ b6 P mg)(n:Nat)(Z:aP2 Γ prog w mg Y (kD P n) (n+31))
  (id:String) (J:LamI) (f:Addr) (cap:List V) (C:List (Str×Addr)) (b3:Γ.lg id J) (a2:cap.length=J.fr.length) :
  ClOk prog w Γ.K mg Y (n+1+31) (λ H=>CloAt H f J cap C) f (spL Γ ((kD P (n+1)).lam id) cap):=by
 obtain⟨L,eL,LG⟩:=hP.lg id J b3
 have a3:∀ vs H Q E,spL Γ ((kD P (n+1)).lam id) cap vs H Q E->vs.length=J.ps.length:=λ vs H Q E q=>by
  obtain⟨φ,s,cs,l,d,s',R,r,rc,b,bc,hc,k⟩:=q
  simp only[kD,eL]at hc
  split at hc
  ·rename_i hh;rw[r.length,LG.ps];exact hh.1
  ·exact fb hc
 have main:∀(A:aU) (outer:List Env) (sh:af) (H:Hp) (cd:Value) (vs:List V) (Q:VK),Room (n+31) (A.deeper (cD J.qual J.scope sh.heap.objs.size f cd (aJ (sh.heap.objs.size+1) J.scope.names C)))->Cells C H->(∀ b o,Γ.K.lookup b=some o->H b=none)->spL Γ ((kD P (n+1)).lam id) cap vs H Q E0 ->
   ∃ t,PE (aK0 prog w Γ.K mg Y (J.ps++J.fr) J.qual J.scope f cd C A outer sh H) J.body t/\t (vs.map some++cap.map some) (ad7 C H) λ v H'=>(∀ b,isC C b=true->H' b=none)->Q v (Put C H H'):=by
  intro A outer sh H cd vs Q hr B hK q
  have G:CG Γ (kD P n) (n+31) (aK0 prog w Γ.K mg Y (J.ps++J.fr) J.qual J.scope f cd C A outer sh H) (ck0 (J.ps++J.fr) J.scope):=by
   refine⟨rfl,rfl,LG.sc.nd,rfl,rfl,?_,hr,λ x k e=>.inl e,λ x e=>?_,hP.bi,Z.1,?_,λ _ _ _ h=>(by cases h),Z.2,hP.fa,DV.an7 P n⟩
   ·show kB+1<=n+31
    unfold kB;omega
   ·show(J.scope.names.lookup x==some .cell)=true
    rw[show J.scope.names.lookup x=some .cell from e];rfl
   ·have:(kD P n).con=P.con:=by cases n<;>rfl
    rw[this];exact hP.con
  refine⟨_,(sE L.body J.body _ (ck0 (J.ps++J.fr) J.scope) G LG.m).1,?_⟩
  obtain⟨φ,s,cs,l,d,s',R,r,rc,b,bc,hc,k⟩:=q
  simp only[kD,eL]at hc
  split at hc
  case isFalse=>exact fb hc
  rename_i hh
  obtain⟨h1,h2,h3⟩:=hh
  rw[aq,aq]at h3
  obtain⟨⟨b4,c0⟩,b5⟩:=h3
  obtain⟨v0,s1,e1,hc⟩:=aa1 hc
  have RD:Rp Γ φ (ad7 C H) s:=R.dropC B b5
  have a6:RVL Γ φ (ad7 C H) (l++cs) (vs++cap):=(RVL.dropC B l vs b4 r).append (RVL.dropC B cs cap c0 rc)
  refine⟨φ,l.map some++cs.map some,s,v0,s1,⟨by simp[r.length,rc.length],λ i x ei=>?_⟩,RD,e1,λ v φ1 H1 g1 l1 b1 r1 R1 a1=>?_⟩
  ·rw[<-bu,ax]at ei
   have b0:(l++cs)[i]?=some x:=by
    cases q:(l++cs)[i]? with
    | none=>rw[q]at ei;cases ei
    | some y=>rw[q]at ei;cases ei;rfl
   obtain⟨u,e3,e4⟩:=a6.get b0
   refine⟨an6 (ql b bc) b0,u,?_,e4⟩
   rw[<-bu,ax,e3];rfl
  ·obtain⟨φ',g',l',b',r',R'⟩:=az7 RD g1 R1 b1 r1 hc
   have gp:=Gr.put B a1 hK R' g'
   obtain⟨gs,Rs⟩:=R'.same (aV6 (H:=H) a1)
   exact k v φ' _ gp l' b' (RV.mono gs d v b' r') Rs
 unfold CloAt
 cases q:J.nm with
 | none=>exact bF4 LG.sc a3 a2 (λ pm c' a0 us a4=>(LG.bind C .none pm c' a0 us a4).1) (λ A outer sh H cd vs Q hr a5 hK q=>by
   obtain⟨pm,c',a0,_,_,B,_⟩:=a5
   exact main A outer sh H cd vs Q hr B hK q)
 | some p=>exact bE2 LG.sc a3 a2 (λ b2 pm c' a0 us a4=>(LG.bind C b2 pm c' a0 us a4).2 _ _) (λ A outer sh H cd vs Q hr a5 hK q=>by
   obtain⟨b2,pm,c',a0,_,_,B,_⟩:=a5
   obtain⟨t,h1,h2⟩:=main A outer sh H cd vs Q hr B hK q
   exact⟨_,am9 (bc1 h1) aJ1,h2⟩)
theorem aY7 {C:List (Addr×Addr)}{P:kI}{prog:aK}{w:World}{mg:Str->Option Value}{h:Heap}(G:PrOk Γ C P mg)(hb:∀ y∈C,bL h y.1 y.2/\BM mg h):∀ n:Nat,aP2 Γ prog w mg h (kD P n) (n+31)
 | 0=>⟨λ f=>.inl λ l s=>rfl,λ id J f cap B _ _=>⟨λ A outer s H us vs Q _ _ _ _ q=>by
   obtain⟨φ,s,cs,l,d,s',R,r,rc,b,bc,hc,k⟩:=q
   cases hc⟩⟩
 | n+1=>by
  have ih:aP2 Γ prog w mg h (kD P n) (n+31):=aY7 G hb n
  refine⟨λ f=>?_,λ id J f cap B Z Y=>bH1 G n ih id J f cap B Z Y⟩
  cases e:P.df f with
  | none=>exact .inl λ l s=>by simp only[kD,e]
  | some d =>
   obtain⟨st,N,ps,a,fd,lk,hD,hS,Z,Y,hm,hL⟩:=G.df f d e
   exact .inr ⟨a,fd,ps,bW0 G hb n ih e hD hS Z Y hm hL,hD.mg,hD.fn.kp,hD.bi⟩
def spT (Γ:Gm):Sp:=λ vs H Q _=>∃(a:Addr) (ns:List Int),vs=[.ref a]/\SqF Γ.K H a (ns.map V.int)/\ns.length<=63/\TabsH Γ.T H/\∀ H',Q (.bl true) H'
theorem aP0 {φ:Nat->Addr}{H:Hp}:∀ ns:List Int,RVL Γ φ H (ns.map DV.D.int) (ns.map V.int)
 | []=>.nil
 | n::ns=>.cons RV.intI (aP0 ns)
theorem aC2 {m:Nat}:∀ ns:List Int,kq m (ns.map DV.D.int)=true
 | []=>rfl
 | n::ns=>by rw[aI];unfold kq;rw[aC2 ns];rfl
theorem bY1 {P:kI}{k:Nat}(h:∀ ns:List Int,ns.length<=63->∃ s',(kD P k).call "law" [.ref 0] [.ro (ns.map DV.D.int)]=.ok (.bl true) s')(vs:List V)(H:Hp)(Q:VK)(E:XK)(q:spT Γ vs H Q E):spV Γ ((kD P k).call "law") vs H Q E:=by
 obtain⟨a,ns,rfl,B,hl,hT,y⟩:=q
 obtain⟨s',hs⟩:=h ns hl
 refine⟨λ _=>a,[.ro (ns.map DV.D.int)],[.ref 0],.bl true,s',⟨λ i j o C e e' m m' _=>?_,λ i o e=>?_,λ i o e=>?_,hT⟩,.cons RV.refI .nil,?_,hs,λ v φ' H' g l b r R=>?_⟩
 ·cases i with
  | zero=>cases e;cases m
  | succ i=>cases e
 ·cases i with
  | zero=>cases e;exact⟨_,B,aP0 ns⟩
  | succ i=>cases e
 ·cases i with
  | zero=>cases e;unfold kz;exact aC2 ns
  | succ i=>cases e
 ·unfold kq ku kq;rfl
 ·rw[r.blE];exact y H'
theorem aO3 {y:List (Addr×Addr)}{mg:Str->Option Value}:∀ {tbl:List (String×lu)},(∀ p∈tbl,Good Γ y mg p.1 p.2)->∀ f d,tbl.lookup f=some d->Good Γ y mg f d
 | [],_,f,d,h=>by cases h
 | (g,e)::tbl,H,f,d,h=>by
  rw[a7]at h
  cases q:f==g with
  | true =>
   rw[q]at h
   cases h
   rw[eq_of_beq q]
   exact H (g,_) (aD ..)
  | false =>
   rw[q]at h
   exact aO3 (λ p B=>H p (au _ B)) f d h
def bp4 (Γ:Gm)(mg:Str->Option Value)(x:String)(d:ko):Prop:=∃ v u,mg (x:Str)=some u/\RelV v u/\(∀ m,d.bnd m=true)/\∀ φ H,RV Γ φ H d v
theorem bf5 {mg:Str->Option Value}:∀ {tbl:List (String×ko)},(∀ p∈tbl,bp4 Γ mg p.1 p.2)->∀ f d,tbl.lookup f=some d->bp4 Γ mg f d
 | [],_,f,d,h=>by cases h
 | (g,e)::tbl,H,f,d,h=>by
  rw[a7]at h
  cases q:f==g with
  | true =>
   rw[q]at h
   cases h
   rw[eq_of_beq q]
   exact H (g,_) (aD ..)
  | false =>
   rw[q]at h
   exact bf5 (λ p y=>H p (au _ y)) f d h
theorem ap3 {mg:Str->Option Value}{x:String}{i:Int}{t:Tok}(h:mg (x:Str)=some (.int i t)):bp4 Γ mg x (.int i):=⟨.int i,_,h,⟨t,rfl⟩,λ _=>rfl,λ _ _=>RV.intI⟩
end
theorem aU6 {P:aK}{w:World}{K:ac}{mg mb:Str->Option Value}{k:Nat}{fa a:Addr}{fd:bz}{x:Str}{sp:Sp}{B:af}{vs:List Value}{ns:List Int}{tabs:List (Addr×Addr)}
  (KX:K.In B.heap) (c2:B.heap.Ns aW mg) (hb:B.heap.Ns fC mb) (c5:∀ x:Str,x ≠ "__name__"->mb x=be x) (c0:B.heap.NoLimit) (hg:B.gens=#[]) (d3:BM mg B.heap) (hT:jO tabs B.heap) (c4:jP K=true)
  (ha:B.heap.get? a=some { cls:=.type "list",data:=.seq vs.toArray }) (hi:iX vs ns) (hl:ns.length<=aL) (hr:Room k gG)
  (F:∀ J:Heap,K.In J->J.Ns aW mg->BM mg J->(∀ q∈tabs,bL J q.1 q.2)->FnOk P w K mg J CX0 k fa fd [x] sp) (a4:∀(s:af) (u:Value),iV s fd ⟨[u],[]⟩ [(x,u)])
  (d1:∀ H:Hp,(∀ q∈tabs,H q.2=some (.tbl #[]))->SqL K H a (ns.map V.int)->(∀ u,H a=some u->(∃ o xs,u=.frz o (.lst xs))\/∃ ps,u=.tbl ps)->sp [.ref a] H (λ v _=>v=.bl true) E0) :
  eP (model P w) gG (.call (.ref fa) ⟨[.ref a],[]⟩) (λ r s'=>r=.ok (.ret (.bool true))/\OldK B.heap s'.heap/\s'.os=B.os/\eO s'.gens) B:=by
 have rv:=aC4 hi
 have b0:=hi.length
 have C:∀ b,b∈tabs.map (·.2)->B.heap.get? b=some (dz #[]):=λ b h=>by
  obtain⟨q,hq,rfl⟩:=av.mp h
  exact(hT q hq).2
 have Z:∀ H:Hp,(∀ b u,H b=some u->(b=a/\∃ o xs,u=.frz o (.lst xs))\/(b∈tabs.map (·.2)/\u=.tbl #[]))->(∀ q∈tabs,H q.2=some (.tbl #[]))->SqL K H a (ns.map V.int)->HOk P w H B.heap->(H a≠none->K.lookup a=none) ->
   eP (model P w) gG (.call (.ref fa) ⟨[.ref a],[]⟩) (λ r s'=>r=.ok (.ret (.bool true))/\OldK B.heap s'.heap/\s'.os=B.os/\eO s'.gens) B:=by
  intro H hO c3 hS hok hK
  have un:∀ b o,B.heap.get? b=some o->o.cls≠.type "list"->(∀ vs,o.data≠.fields vs)->H b=none:=λ b o e n1 n2=>by
   cases q:H b with
   | none=>rfl
   | some u =>
    rcases hO b u q with⟨z,_⟩|⟨z,_⟩
    ·rw[z,ha]at e;cases e;exact absurd rfl n1
    ·rw[C b z]at e;cases e;exact absurd rfl (n2 #[])
  have Y:∀ {b:Addr} {m:Str->Option Value},B.heap.Ns b m->(bi7 B.heap H).Ns b m:=λ {b m} ⟨o,es,ep,e,d,r⟩=>by
   refine⟨o,es,ep,am4 e ?_,d,r⟩
   cases q:H b with
   | none=>rfl
   | some u =>
    rcases hO b u q with⟨z,_⟩|⟨z,_⟩
    ·rw[z,ha]at e;cases e;cases d
    ·rw[C b z]at e;cases e;cases d
  have a6:K.In (bi7 B.heap H):=λ b o e=>am4 (KX b o e) (by
   cases q:H b with
   | none=>rfl
   | some u =>
    rcases hO b u q with⟨z,_⟩|⟨z,_⟩
    ·subst z
     rw[hK (by rw[q];simp)]at e;cases e
    ·have e2:=KX b o e
     rw[C b z]at e2
     have h2:=aM.mp c4 (b,o) (PySem.W.mem_of_lookupK e)
     have e3:o=dz #[]:=(ao e2).symm
     subst e3
     exact absurd (show false=true from h2) aP)
  have hM:Mod K mg (bi7 B.heap H):=⟨a6,Y c2,⟨mb,Y hb,c5⟩,let⟨mc,h1,h2⟩:=c0;⟨mc,Y h1,h2⟩⟩
  have c6:BM mg (bi7 B.heap H):=by
   obtain⟨bm,ob,b1,b2,b3,b4,b5,b6⟩:=d3
   exact⟨bm,ob,b1,b2,am4 b3 (un bm ob b3 (by rw[b4];nofun) (by rw[b6];nofun)),b4,b5,b6⟩
  have d2:∀ q∈tabs,bL (bi7 B.heap H) q.1 q.2:=λ q hq=>by
   obtain⟨o,e4,c1,tf,a2,tg,d0,a5,tt,e1,r1,r2⟩:=(hT q hq).1
   refine⟨o,e4,c1,tf,a2,tg,d0,a5,tt,am4 e1 ?_,r1,r2⟩
   cases q2:H q.1 with
   | none=>rfl
   | some u =>
    rcases hO _ u q2 with⟨z,_⟩|⟨z,_⟩
    ·rw[z,ha]at e1;cases e1;exact absurd r1 (by simp)
    ·rw[C _ z]at e1;cases e1;exact absurd r1 (by simp)
  have e0:Env0 P w K mg (bi7 B.heap H) gG [] B H:=⟨rfl,hM,λ b o e=>bE1 e,Nat.le_of_eq (bf7 _ _),trivial,λ b hb=>absurd (show b∈([]:List Addr)from hb) (by simp),hok,.of_eq hg⟩
  refine d5 ((F _ a6 (Y c2) c6 d2).run gG [] B H ⟨[.ref a],[]⟩ [.ref a] [.ref a] _ _ hr e0 (a4 B (.ref a)) (.cons rfl .nil) (d1 H c3 hS (λ u e=>(hO a u e).elim (λ z=>.inl z.2) (λ z=>.inr ⟨_,z.2⟩)))) λ r s' h=>?_
  cases r with
  | error e=>exact bw h
  | ok fl =>
   cases fl with
   | next=>exact bw h
   | brk=>exact bw h
   | cont=>exact bw h
   | ret u =>
    obtain⟨v,H',os,bare,a3,a1,r',q⟩:=h
    have q':v=.bl true:=q
    subst q'
    obtain rfl:u=Value.bool true:=r'
    have key:∀ b o,B.heap.get? b=some o->asItWas B.heap s'.heap b o/\∃ o',s'.heap.get? b=some o':=λ b o e=>by
     cases q:H b with
     | none =>
      have z:=a3.keep b o e q (by intro z;exact absurd (show b∈([]:List Addr)from z) (by simp)) (by simp)
      exact⟨.inl z,o,z⟩
     | some u =>
      rcases hO b u q with⟨_,ob,xs,z⟩|⟨z,z2⟩
      ·subst z
       have z2:=a3.frzs b ob _ q
       obtain⟨e1,_⟩:=hok b _ q
       obtain⟨e2,_⟩:=a1 b _ z2
       rw[e]at e1;cases e1
       exact⟨.inl e2,_,e2⟩
      ·subst z2
       obtain⟨a0,z3⟩:=a3.tbls b _ q
       have g:s'.heap.get? b=some { cls:=.none,data:=.fields (#[]++a0) }:=a1 b _ z3
       have e1:=C b z
       rw[e]at e1;cases e1
       obtain⟨p,hp,ep⟩:=av.mp z
       refine⟨.inr (.inl ⟨?_,rfl,#[],a0,rfl,g⟩),_,g⟩
       have t:=((hT p hp).1.tab (hT p hp).2).isCodeTable
       rw[ep]at t
       exact t
    exact⟨rfl,⟨λ b o e=>(key b o e).1,λ b o e=>(key b o e).2⟩,os,bare⟩
 have tbl:∀ b,b∈tabs.map (·.2)->b≠a:=λ b h z=>by
  have e:=C b h
  rw[z,ha]at e;cases e
 cases hk:K.lookup a with
 | some o =>
  have e:=KX a o hk
  rw[ha]at e
  cases e
  refine Z (λ b=>if b∈tabs.map (·.2)then some (.tbl #[])else none) (λ b u z=>?_) (λ q hq=>if_pos (bn hq)) (.inr ⟨_,vs.toArray,_,hk,rfl,rfl,rfl,by rw[aA,b0];exact hl,by simpa using rv⟩) (λ b u z=>?_) λ z=>?_
  ·by_cases hb:b∈tabs.map (·.2)
   ·have G:=(if_pos hb).symm.trans z
    cases G
    exact .inr ⟨hb,rfl⟩
   ·have G:=(if_neg hb).symm.trans z
    cases G
  ·by_cases hb:b∈tabs.map (·.2)
   ·have G:=(if_pos hb).symm.trans z
    cases G
    exact C b hb
   ·have G:=(if_neg hb).symm.trans z
    cases G
  ·exact absurd (if_neg λ y=>tbl a y rfl) z
 | none =>
  refine Z (λ b=>if b=a then some (.frz { cls:=.type "list",data:=.seq vs.toArray } (.lst (ns.map V.int)))else if b∈tabs.map (·.2)then some (.tbl #[])else none) (λ b u z=>?_) (λ q hq=>?_) (.inl (.inr ⟨{ cls:=.type "list",data:=.seq vs.toArray },if_pos rfl⟩)) (λ b u z=>?_) λ _=>hk
  ·by_cases hb:b=a
   ·have G:=(if_pos hb).symm.trans z
    cases G
    exact .inl ⟨hb,_,_,rfl⟩
   ·have G:=(if_neg hb).symm.trans z
    by_cases hc:b∈tabs.map (·.2)
    ·rw[if_pos hc]at G;cases G;exact .inr ⟨hc,rfl⟩
    ·rw[if_neg hc]at G;cases G
  ·have hm:q.2∈tabs.map (·.2):=bn hq
   show(if _ then _ else if _ then _ else _)=_
   rw[if_neg (tbl _ hm),if_pos hm]
  ·by_cases hb:b=a
   ·have G:=(if_pos hb).symm.trans z
    cases G
    subst hb
    exact⟨ha,by rw[aF];exact hl,vs,_,rv,ha⟩
   ·have G:=(if_neg hb).symm.trans z
    by_cases hc:b∈tabs.map (·.2)
    ·rw[if_pos hc]at G;cases G;exact C b hc
    ·rw[if_neg hc]at G;cases G
theorem ba8 {ts:List Addr}{l:cF}{n k:Nat}{q:aK}{loose:List Str}{XP:(Str->Option Value)->Heap->Prop}{YP:World->Heap->Prop}{d:DefRec}{K:Params->ac}{sp:ac->Sp}{x:Str}(names:List Str)
  (hn:l.most=some n) (a6:n<=aL) (a2:d.params.defaults=[]) (hr:Room k gG)
  (hY:∀(w:World) (h:Heap),YP w h->(K w.params).In h/\∀ P∈ts,h.get? P=some (dz #[])) (a0:∀ w:World,bN8 (K w.params) names ts=true) (a1:∀ w:World,jP (K w.params)=true)
  (F:∀(w:World) (mg:Str->Option Value) (fa:Addr) (h:Heap),(K w.params).In h->h.Ns aW mg->mg d.name=some (.ref fa) ->
   ∃ fd:bz,(∀(s:af) (u:Value),iV s fd ⟨[u],[]⟩ [(x,u)]) /\
    ∀ B:Heap,(K w.params).In B->B.Ns aW mg->BM mg B->bA5 (K w.params) names B->FnOk l.prog w (K w.params) mg B CX0 k fa fd [x] (sp (K w.params)))
  (a5:∀(K:ac) (H:Hp) (a:Addr) (ns:List Int),ns.length<=n->bE6 K names H->SqL K H a (ns.map V.int)->(∀ u,H a=some u->(∃ o xs,u=.frz o (.lst xs))\/∃ ps,u=.tbl ps)->sp K [.ref a] H (λ v _=>v=.bl true) E0) :
  jS q loose XP YP l.row.toRowW d [] (λ f vs=>iY f vs):=by
 refine Att.attach_call hn a2 λ w s₀ s₁ mg mb fa o pm cd b1 a vs ns G Y ho hd b0 a3 Z J C hg=>?_
 obtain⟨KX,a4⟩:=hY w _ Y
 obtain⟨fd,hb,hF⟩:=F w mg fa _ KX G.T.g a3
 have hT:jO ((aE0 (K w.params) names).map (·.2)) s₁.heap:=λ p hp=>by
  obtain⟨y,hy,rfl⟩:=av.mp hp
  obtain⟨h1,h2⟩:=au7.mp hy
  have z:=aM.mp (a0 w) y.1 h1
  rw[h2]at z
  have z':(iH (K w.params) y.2.1 y.2.2&&ts.contains y.2.2)=true:=z
  rw[aq]at z'
  exact⟨PySem.W.codeHd_of_K KX z'.1,a4 _ (by simpa using z'.2)⟩
 have hm:∀ x∈names,∀ c P,bh (K w.params) x=some (c,P)->(c,P)∈(aE0 (K w.params) names).map (·.2):=λ x hx c P e=>av.mpr ⟨(x,c,P),au7.mpr ⟨hx,e⟩,rfl⟩
 refine aU6 (tabs:=(aE0 (K w.params) names).map (·.2)) KX G.T.g G.T.b G.T.builtins G.T.nolimit hg ?_ hT (a1 w) Z J (aw C a6) hr (λ B k1 k2 k3 k4=>hF B k1 k2 k3 λ x hx c P e=>k4 _ (hm x hx c P e)) hb λ H hO hS hF=>a5 (K w.params) H a ns C (λ x hx c P e=>hO _ (hm x hx c P e)) hS hF
 obtain⟨bm,ob,h1,h2,h3,h4,h5,h6⟩:=G.T.bmain
 exact⟨bm,ob,h1,h2,h3,h4,h5,h6⟩
def spB (names:List Str)(K:ac):Sp:=λ vs H Q _=>∃(a:Addr) (ns:List Int),vs=[.ref a]/\SqF K H a (ns.map V.int)/\ns.length<=63/\bE6 K names H/\∀ H',Q (.bl true) H'
theorem bM1 {names:List Str}{K:ac}{H:Hp}{a:Addr}{ns:List Int}(hl:ns.length<=63)(hB:bE6 K names H)(y:SqL K H a (ns.map V.int))(B:∀ u,H a=some u->(∃ o C,u=.frz o (.lst C))\/∃ ps,u=.tbl ps):spB names K [.ref a] H (λ v _=>v=.bl true) E0:=by
 refine⟨a,ns,rfl,⟨y,λ H' k=>?_⟩,hl,hB,λ _=>rfl⟩
 rcases y with(h|⟨o,h⟩)|h
 ·rcases B _ h with⟨_,_,z⟩|⟨_,z⟩<;>cases z
 ·exact .inl (.inr ⟨o,k _ _ h rfl⟩)
 ·exact .inr h
def cn2 (P:kI):String->LamI->Prop:=λ id J=>∃ L,P.lm id=some L/\LamGood J L
noncomputable def sfx (x:Str):Str:=if x = "letter_table" then "least_fee" else "<lambda>"
noncomputable def bG5 (names:List Str)(K:ac):List (Addr×Str):=names.map λ x=>(((bh K x).getD (0,0)).2,x ++ ".<locals>."++sfx x)
noncomputable def bK5 (names:List Str)(K:ac):List (Addr×Addr):=names.map λ x=>(bh K x).getD (0,0)
noncomputable def bV9 (K:ac)(f:String):Option Addr:=match b7 K aW (f:Str)with
 | some (some (.ref a))=>(match K.lookup a with
  | some ⟨_,_,.func _,_⟩=>some a
  | _=>none)
 | _=>none
theorem bJ5 {K:ac}{f:String}{a:Addr}{oc:Value}{od:Option Addr}{y:bz}{sl:Array (Option Value)}(B:b7 K aW (f:Str)=some (some (.ref a)))(h:K.lookup a=some ⟨oc,od,.func y,sl⟩):bV9 K f=some a:=by
 unfold bV9
 rw[B]
 simp only
 rw[h]
theorem aM6 {K:ac}{f:String}{a:Addr}(h:bV9 K f=some a):b7 K aW (f:Str)=some (some (.ref a))/\∃ oc od y sl,K.lookup a=some ⟨oc,od,.func y,sl⟩:=by
 unfold bV9 at h
 split at h
 ·rename_i B e
  split at h
  ·rename_i oc od y sl e2
   cases h
   exact⟨e,_,_,_,_,e2⟩
  ·cases h
 ·cases h
noncomputable abbrev bi8 (names:List Str)(P:kI)(K:ac):Gm:=⟨K,bV9 K,cn2 P,bG5 names K⟩
theorem cd7 {names:List Str}{P:kI}{K:ac}{h:Heap}{mg:Str->Option Value}(X:K.In h)(G:h.Ns aW mg):∀(f:String) (a:Addr),(bi8 names P K).fa f=some a->mg (f:Str)=some (.ref a)/\∃ oc od y sl,(bi8 names P K).K.lookup a=some ⟨oc,od,.func y,sl⟩:=λ f a e=>⟨bP X G (aM6 e).1,(aM6 e).2⟩
theorem bt5 {names:List Str}{P:kI}{K:ac}{h:Heap}{mg:Str->Option Value}{f:String}{a:Addr}{oc:Value}{od:Option Addr}{C:bz}{sl:Array (Option Value)}(X:K.In h)(G:h.Ns aW mg)(y:b7 K aW (f:Str)=some (some (.ref a)))(B:K.lookup a=some ⟨oc,od,.func C,sl⟩):bp4 (bi8 names P K) mg f (.fn f) :=
 ⟨.ref a,.ref a,bP X G y,rfl,λ _=>rfl,λ φ H=>by unfold RV;exact⟨a,bJ5 y B,rfl⟩⟩
theorem bn0 {names:List Str}{P:kI}{K:ac}(ht:∀ x∈names,(bh K x).isSome=true){vs:List V}{H:Hp}{Q:VK}{E:XK}(q:spB names K vs H Q E):spT (bi8 names P K) vs H Q E:=by
 obtain⟨a,ns,e,B,hl,hB,y⟩:=q
 refine⟨a,ns,e,B,hl,TabsH.init λ p h=>?_,y⟩
 simp only[bG5,cY]at h
 obtain⟨x,hx,rfl⟩:=av.mp h
 exact hB x hx _ _ (av7 (ht x hx))
theorem bs2 {names:List Str}{K:ac}{mg:Str->Option Value}{h:Heap}(ht:∀ x∈names,(bh K x).isSome=true)(bm:BM mg h)(hc:bA5 K names h):∀ y∈bK5 names K,bL h y.1 y.2/\BM mg h:=λ y hy=>by
 obtain⟨x,hx,rfl⟩:=av.mp hy
 exact⟨hc x hx _ _ (av7 (ht x hx)),bm⟩
noncomputable def ay8:a8->Option (List Str)
 | ⟨[],args,none,[],[],none,[]⟩=>some (args.map (·.arg))
 | _=>none
theorem jc {p:a8}{ps:List Str}(h:ay8 p=some ps):∃ args,p=⟨[],args,none,[],[],none,[]⟩/\args.map (·.arg)=ps:=by
 unfold ay8 at h
 split at h
 ·exact⟨_,rfl,ao h⟩
 ·cases h
def aH0 (ps:List Str):Prop:=∀ params,ay8 params=some ps->∀(qual:Str) (body:Expr) (scope:Scope) (clos:List (Str×Addr)) (doc pm:Value) (c':Addr) (ctv:Value) (us:List Value),us.length=ps.length->dP (bK "<lambda>" qual params body scope clos pm (.ref c') ctv) ⟨us,[]⟩=pure (ps.zip us) /\
 ∀(nm:Str) (rp:Pos),dP (ci nm qual params [.Return (some body) rp] scope clos .none .none doc pm none (.ref c') ctv) ⟨us,[]⟩=pure (ps.zip us)
noncomputable def aY8 (ps fr:List Str)(sc:Scope):Bool:=decide (sc.kind=.function)&&!sc.isCoroutine&&!sc.isGenerator&&decide ((ps++fr).Nodup)&&(ps.all λ x=>decide (sc.names.lookup x=some .local)||decide (sc.names.lookup x=some .cell))&&(fr.all λ x=>decide (sc.names.lookup x=some .free))&&(sc.names.all λ y=>!decide (y.2=.cell)||decide (sc.names.lookup y.1=some .cell))
theorem bb8 {ps fr:List Str}{sc:Scope}(h:aY8 ps fr sc=true):LamScope (ps++fr) ps fr sc:=by
 unfold aY8 at h
 simp only[aq,decide_eq_true_eq,eX,aM,bD]at h
 obtain⟨⟨⟨⟨⟨⟨Y,C⟩,h3⟩,G⟩,J⟩,B⟩,h7⟩:=h
 exact⟨Y,C,h3,G,rfl,J,B,λ y hy e=>by
  rcases h7 y hy with z|z
  ·rw[e]at z;simp at z
  ·exact z⟩
noncomputable def bS2 (scope sc:Scope):Bool:=scope.names.all λ y=>!decide (scope.names.lookup y.1=some .free)||decide (sc.names.lookup y.1=some .cell)
theorem bj3 {scope sc:Scope}(h:bS2 scope sc=true):∀ x,scope.names.lookup x=some .free->sc.names.lookup x=some .cell:=λ x hx=>by
 have:=aM.mp h (x,.free) (aC hx)
 simp only[bD,eX,decide_eq_false_iff_not,decide_eq_true_eq]at this
 rcases this with z|z
 ·exact absurd hx z
 ·exact z
noncomputable def lkB (sc:Scope)(N:List Str)(caps:List Nat)(params:a8)(body:Expr)(scope:Scope)(t:ls×List Str×List Str):Bool :=
 decide (ay8 params=some t.2.1)&&decide (caps.map (λ j=>N[j]?)=t.2.2.map some)&&lamCheck scope sc&&bS2 scope sc&&aY8 t.2.1 t.2.2 scope&&decide (t.2.1.length=t.1.ps)&&decide (t.2.2.length=t.1.cs)&&mE (ck0 (t.2.1++t.2.2) scope) t.1.body body
noncomputable def lkG (f:Str)(sc:Scope)(N:List Str)(tab:List (String×ls×List Str×List Str))(id:String)(caps:List Nat)(E:Expr):Bool:=match tab.lookup id,E with
 | some t,.Lambda params body scope _=>decide (sfx f = "<lambda>")&&lkB sc N caps params body scope t
 | some t,.NamedExpr (.Name nm _) (.Lambda params body scope p1) p2=>decide (sfx f=nm)&&decide (p1=p2)&&lkB sc N caps params body scope t
 | _,_=>false
theorem bC3 {names:List Str}{P:kI}{K:ac}{f:Str}{sc:Scope}{N:List Str}{fd:bz}{tab:List (String×ls×List Str×List Str)}(hf:f∈names)(G:fd.code=.ref ((bh K f).getD (0,0)).1)(Z:∀ y∈sc.names,y.2=.cell->sc.names.lookup y.1=some .cell)
  (Y:∀ id t,tab.lookup id=some t->P.lm id=some t.1/\aH0 t.2.1):ca0 (bi8 names P K) (bK5 names K) f sc N fd (lkG f sc N tab):=by
 intro id B E h
 have C:∀(t:ls×List Str×List Str) (params:a8) (body:Expr) (scope:Scope) (J:Option (Str×Pos)),tab.lookup id=some t->lkB sc N B params body scope t=true->(match J with|none => "<lambda>" | some p=>p.1)=sfx f ->
   LkAt (bi8 names P K) (bK5 names K) f sc N fd id B params body scope ((bh K f).getD (0,0)).1 ((bh K f).getD (0,0)).2 ⟨f ++ ".<locals>."++sfx f,params,body,scope,t.2.1,t.2.2,J⟩:=λ t params body scope J e h hs=>by
  obtain⟨L,ps,fr⟩:=t
  unfold lkB at h
  simp only[aq,decide_eq_true_eq]at h
  obtain⟨⟨⟨⟨⟨⟨⟨h1,h2⟩,h3⟩,h4⟩,h5⟩,h6⟩,h7⟩,h8⟩:=h
  obtain⟨hL,hB⟩:=Y id _ e
  obtain⟨args,rfl,a1⟩:=jc h1
  have a0:fr.length=B.length:=by have:=congrArg gu h2;simpa using this.symm
  have S:=bb8 h5
  refine⟨G,av.mpr ⟨f,hf,rfl⟩,h3,bj3 h4,Z,λ env=>rfl,⟨L,hL,⟨S,h6,h7,h8,λ a3 a4 pm c' a5 us a2=>hB _ h1 _ _ _ _ _ _ _ _ _ a2⟩⟩,?_,rfl,rfl,rfl,a0,λ i j x e1 e2=>?_,S.frs,av.mpr ⟨f,hf,rfl⟩⟩
  ·show f ++ ".<locals>."++sfx f=f ++ ".<locals>."++LamI.own _
   unfold LamI.own
   rw[<-hs]<;>rfl
  ·have e3:(B.map (λ j=>N[j]?))[i]?=some (N[j]?):=by rw[ax,e1];rfl
   rw[h2,ax,e2]at e3
   exact(ao e3).symm
 unfold lkG at h
 split at h
 case h_3=>cases h
 ·rename_i t params body scope pos e
  rw[aq]at h
  exact⟨_,_,params,body,scope,pos,_,rfl,C t params body scope none e h.2 (of_decide_eq_true h.1).symm⟩
 ·rename_i t J rp params body scope p1 p2 e
  rw[aq,aq]at h
  have ep:=of_decide_eq_true h.1.2
  subst ep
  exact⟨_,_,params,body,scope,p1,_,rfl,C t params body scope (some (J,rp)) e h.2 (of_decide_eq_true h.1.1).symm⟩
theorem aV5 {names:List Str}{P:kI}{K:ac}{f:Str}{sc:Scope}{N:List Str}{y:bz}:ca0 (bi8 names P K) (bK5 names K) f sc N y (λ _ _ _=>false):=λ _ _ _ h=>by cases h
theorem ce2 {names:List Str}{P:kI}{K:ac}:∀ id J,(bi8 names P K).lg id J->∃ L,P.lm id=some L/\LamGood J L:=λ _ _ h=>h
theorem ce3 {P:kI}{tab:List (String×ls×List Str×List Str)}(h:∀ p∈tab,P.lm p.1=some p.2.1/\aH0 p.2.2.1):∀ id t,tab.lookup id=some t->P.lm id=some t.1/\aH0 t.2.1:=by
 induction tab with
 | nil=>intro id t e;cases e
 | cons y l ih =>
  intro id t e
  rw[a7]at e
  cases q:id==y.1 with
  | true =>
   rw[q]at e
   cases e
   rw[eq_of_beq q]
   exact h y (aD ..)
  | false =>
   rw[q]at e
   exact ih (λ p B=>h p (au _ B)) id t e
def ci8 (K:ac)(n:Str)(st:Stmt):Prop:=∃(f:Addr) (od an:Option Addr) (sl:Array (Option Value)) (oc kV dc pm cd ct:Value),b7 K aW n=some (some (.ref f)) /\
 K.lookup f=some ⟨oc,od,.func (cC n n (defArgs st) (qc st) (defScope st) .none kV dc pm an cd ct),sl⟩/\eB K cd n=true/\b8 K (.ref f)=true
def ci9 (n:Str)(st:Stmt)(ps:List Str):Prop:=∀(kV doc pm:Value) (an:Option Addr) (cdv ct:Value) (us:List Value),us.length=ps.length->dP (cC n n (defArgs st) (qc st) (defScope st) .none kV doc pm an cdv ct) ⟨us,[]⟩=pure (ps.zip us)
theorem bd0 {Q:List Value->Prop}(h:Q [])(us:List Value)(hl:us.length=0):Q us:=by
 cases us with
 | nil=>exact h
 | cons _ _=>cases hl
theorem bdS {k:Nat}{Q:List Value->Prop}(h:∀ a us,us.length=k->Q (a::us))(us:List Value)(hl:us.length=k+1):Q us:=by
 cases us with
 | nil=>cases hl
 | cons a us=>exact h a us (Nat.succ.inj hl)
theorem bd1 {Q:List Value->Prop}(h:∀ a,Q [a]):∀ us:List Value,us.length=1->Q us:=bdS λ a=>bd0 (h a)
theorem bd2 {Q:List Value->Prop}(h:∀ a b,Q [a,b]):∀ us:List Value,us.length=2->Q us:=bdS λ a=>bd1 (h a)
theorem bd3 {Q:List Value->Prop}(h:∀ a b c,Q [a,b,c]):∀ us:List Value,us.length=3->Q us:=bdS λ a=>bd2 (h a)
theorem bd4 {Q:List Value->Prop}(h:∀ a b c d,Q [a,b,c,d]):∀ us:List Value,us.length=4->Q us:=bdS λ a=>bd3 (h a)
def DT (names:List Str)(P:kI)(n:String)(d:lu)(st:Stmt):Prop:=∃ N ps,FnScope N ps (defScope st)/\ps.length=d.ps/\N.length=d.ps+d.vs/\ci9 n st ps/\(mSs ⟨N,defScope st,λ _ _ _=>false⟩ d.body (qc st)=true \/
 ((n:Str)∈names/\∃ tab,mSs ⟨N,defScope st,lkG n (defScope st) N tab⟩ d.body (qc st)=true/\(∀ y∈(defScope st).names,y.2=.cell->(defScope st).names.lookup y.1=some .cell)/\∀ p∈tab,P.lm p.1=some p.2.1/\aH0 p.2.2.1))
theorem good_of {names:List Str}{P:kI}{K:ac}{h:Heap}{mg:Str->Option Value}{n:String}{d:lu}{st:Stmt}(X:K.In h)(G:h.Ns aW mg)(hT:∀ x∈names,(bh K x).isSome=true)(hD:ci8 K n st)(hd:DT names P n d st):Good (bi8 names P K) (bK5 names K) mg n d:=by
 obtain⟨f,od,an,sl,oc,kV,dc,Z,cd,ct,a,l,c,k⟩:=hD
 obtain⟨N,ps,C,B,h3,J,y⟩:=hd
 have F:=br5 (st:=st) l c k
 have D:DefAt K mg n st ps f _:=⟨F,bP X G a,F.binds J⟩
 rcases y with y|⟨hn,tab,y,Y,h7⟩
 ·exact⟨_,_,_,_,_,_,D,C,B,h3,y,aV5⟩
 ·exact⟨_,_,_,_,_,_,D,C,B,h3,y,bC3 hn (PySem.W.law_code X G (av7 (hT _ hn)) (bP X G a) (X _ _ l) rfl) Y (ce3 h7)⟩
end L2
end
noncomputable section
namespace DV
noncomputable def cg4:Df:=⟨"_law_bag",2,3,(.cons (.asg (.one 2) (.cst (.int 0))) (.cons (.ite (.cmp .lt (.var 1) (.bi .len (.cons (.var 0) .nil))) (.cons (.asg (.one 2) (.bi .abs (.cons (.ix (.var 0) (.var 1)) .nil))) .nil) .nil) (.cons (.asg (.one 3) (.bin .add (.bin .mul (.cst (.int 7919)) (.var 1)) (.cst (.int 17)))) (.cons (.for_ (.one 4) (.rng1 (.bi .min2 (.cons (.bi .len (.cons (.var 0) .nil)) (.cons (.cst (.int 60)) .nil)))) (.cons (.asg (.one 3) (.bin .mod (.bin .add (.bin .add (.bin .mul (.var 3) (.cst (.int 48271))) (.bin .mod (.ix (.var 0) (.var 4)) (.cst (.int 2147483647)))) (.var 4)) (.cst (.int 2147483629)))) .nil)) (.cons (.ite (.cmp .lt (.var 2) (.bin .pow (.cst (.int 10)) (.cst (.int 18)))) (.cons (.asg (.one 2) (.cst (.int 0))) .nil) .nil) (.cons (.ret (.lst (.cons (.var 2) (.cons (.var 3) .nil)))) .nil))))))⟩
noncomputable def bL7:Df:=⟨"_law_take",2,3,(.cons (.ite (.cmp .gt (.ix (.var 0) (.cst (.int 0))) (.cst (.int 0))) (.cons (.asg (.one 2) (.bin .mod (.ix (.var 0) (.cst (.int 0))) (.var 1))) (.cons (.setIx (.var 0) (.cst (.int 0)) (.bin .fdiv (.ix (.var 0) (.cst (.int 0))) (.var 1))) (.cons (.ret (.var 2)) .nil))) .nil) (.cons (.asg (.one 3) (.cst (.int 0))) (.cons (.asg (.one 4) (.cst (.int 1))) (.cons (.whl (.cmp .lt (.var 4) (.var 1)) (.cons (.setIx (.var 0) (.cst (.int 1)) (.bin .mod (.bin .add (.bin .mul (.ix (.var 0) (.cst (.int 1))) (.cst (.int 48271))) (.cst (.int 7919))) (.cst (.int 2147483647)))) (.cons (.asg (.one 3) (.bin .add (.bin .mul (.var 3) (.cst (.int 1073741789))) (.bin .mod (.bin .mul (.bin .fdiv (.ix (.var 0) (.cst (.int 1))) (.cst (.int 8))) (.cst (.int 69621))) (.cst (.int 1073741789))))) (.cons (.asg (.one 4) (.bin .mul (.var 4) (.cst (.int 1073741789)))) .nil)))) (.cons (.ret (.bin .mod (.var 3) (.var 1))) .nil)))))⟩
noncomputable def bG7:Df:=⟨"_law_rooms",2,1,(.cons (.asg (.one 2) (.call "_law_take" (.ex (.var 0) (.ex (.bin .shl (.cst (.int 1)) (.var 1)) .nil)))) (.cons (.ret (.mk .tuple (.compIf (.one 0) (.rng1 (.var 1)) (.cmp .eq (.bin .mod (.bin .fdiv (.var 1) (.bin .shl (.cst (.int 1)) (.var 0))) (.cst (.int 2))) (.cst (.int 1))) (.var 0) [none,some 2]))) .nil))⟩
noncomputable def aX6:Df:=⟨"_law_machine",1,5,(.cons (.asg (.one 1) (.bin .add (.cst (.int 1)) (.call "_law_take" (.ex (.var 0) (.ex (.cst (.int 3)) .nil))))) (.cons (.asg (.one 2) (.bin .add (.cst (.int 1)) (.call "_law_take" (.ex (.var 0) (.ex (.cst (.int 5)) .nil))))) (.cons (.asg (.one 3) (.call "_law_take" (.ex (.var 0) (.ex (.cst (.int 13)) .nil)))) (.cons (.ite (.cmp .eq (.call "_law_take" (.ex (.var 0) (.ex (.cst (.int 8)) .nil))) (.cst (.int 7))) (.cons (.asg (.one 3) (.call "_law_take" (.ex (.var 0) (.ex (.cst (.int 76)) .nil)))) .nil) .nil) (.cons (.asg (.one 4) (.lst .nil)) (.cons (.for_ (.one 5) (.rng1 (.var 3)) (.cons (.ex (.meth .append (.var 4) (.cons (.tup (.cons (.call "_law_take" (.ex (.var 0) (.ex (.var 2) .nil))) (.cons (.ix (.cst (.str [97,98,99])) (.call "_law_take" (.ex (.var 0) (.ex (.var 1) .nil)))) (.cons (.call "_law_take" (.ex (.var 0) (.ex (.var 2) .nil))) (.cons (.call "_law_take" (.ex (.var 0) (.ex (.cst (.int 4)) .nil))) .nil))))) .nil))) .nil)) (.cons (.ret (.tup (.cons (.var 1) (.cons (.var 2) (.cons (.call "_law_rooms" (.ex (.var 0) (.ex (.var 2) .nil))) (.cons (.call "_law_rooms" (.ex (.var 0) (.ex (.var 2) .nil))) (.cons (.mk .tuple (.seq (.var 4))) .nil))))))) .nil)))))))⟩
noncomputable def bO9:Df:=⟨"_law_word",3,2,(.cons (.asg (.one 3) (.cst (.str []))) (.cons (.for_ (.one 4) (.rng1 (.call "_law_take" (.ex (.var 0) (.ex (.bin .add (.var 2) (.cst (.int 1))) .nil)))) (.cons (.asg (.one 3) (.bin .add (.var 3) (.ix (.cst (.str [97,98,99])) (.call "_law_take" (.ex (.var 0) (.ex (.var 1) .nil)))))) .nil)) (.cons (.ret (.var 3)) .nil)))⟩
noncomputable def ab0:Df:=⟨"rooms_of",1,0,(.cons (.ret (.ix (.var 0) (.cst (.int 1)))) .nil)⟩
noncomputable def je:Df:=⟨"begins_of",1,0,(.cons (.ret (.ix (.var 0) (.cst (.int 2)))) .nil)⟩
noncomputable def ah8:Df:=⟨"ends_of",1,0,(.cons (.ret (.ix (.var 0) (.cst (.int 3)))) .nil)⟩
noncomputable def ab5:Df:=⟨"doors_of",1,0,(.cons (.ret (.ix (.var 0) (.cst (.int 4)))) .nil)⟩
noncomputable def ac8:Df:=⟨"grid",2,2,(.cons (.asg (.one 2) (.lst .nil)) (.cons (.for_ (.one 3) (.rng1 (.var 0)) (.cons (.ex (.meth .append (.var 2) (.cons (.mk .tuple (.comp (.one 0) (.rng1 (.var 0)) (.callV 1 (.cons (.var 2) (.cons (.var 0) .nil))) [none,some 1,some 3])) .nil))) .nil)) (.cons (.ret (.mk .tuple (.seq (.var 2)))) .nil)))⟩
noncomputable def ad2:Df:=⟨"least",1,0,(.cons (.ret (.mkD .min (.compIf (.one 0) (.seq (.var 0)) (.notN (.var 0)) (.var 0) [none]) (.cst .non))) .nil)⟩
noncomputable def ad6:Df:=⟨"added",2,0,(.cons (.ite (.or (.isN (.var 0)) (.isN (.var 1))) (.cons (.ret (.cst .non)) .nil) .nil) (.cons (.ret (.bin .add (.var 0) (.var 1))) .nil))⟩
noncomputable def ad9:Df:=⟨"plain",1,0,(.cons (.ret (.callC "grid" (.ex (.var 0) (.lam "plain.0" [] .nil)))) .nil)⟩
noncomputable def ab1:Lm:=⟨"plain.0",2,0,(.ite (.cmp .eq (.var 0) (.var 1)) (.cst (.int 0)) (.cst .non))⟩
noncomputable def ab7:Df:=⟨"product",2,1,(.cons (.asg (.one 2) (.bi .len (.cons (.var 0) .nil))) (.cons (.ret (.callC "grid" (.ex (.var 2) (.lam "product.0" [2,0,1] .nil)))) .nil))⟩
noncomputable def aa6:Lm:=⟨"product.0",2,3,(.call "least" (.ex (.mk .list (.comp (.one 0) (.rng1 (.var 2)) (.call "added" (.ex (.ix (.ix (.var 1) (.var 2)) (.var 0)) (.ex (.ix (.ix (.var 3) (.var 0)) (.var 4)) .nil))) [none,some 3,some 0,some 4,some 1])) .nil))⟩
noncomputable def bl7:Df:=⟨"_law_same",2,2,(.cons (.ite (.or (.not (.bi .isTup (.cons (.var 0) .nil))) (.cmp .ne (.bi .len (.cons (.var 0) .nil)) (.bi .len (.cons (.var 1) .nil)))) (.cons (.ret (.cst (.bl false))) .nil) .nil) (.cons (.for_ (.one 2) (.rng1 (.bi .len (.cons (.var 1) .nil))) (.cons (.ite (.or (.not (.bi .isTup (.cons (.ix (.var 0) (.var 2)) .nil))) (.cmp .ne (.bi .len (.cons (.ix (.var 0) (.var 2)) .nil)) (.bi .len (.cons (.var 1) .nil)))) (.cons (.ret (.cst (.bl false))) .nil) .nil) (.cons (.for_ (.one 3) (.seq (.ix (.var 0) (.var 2))) (.cons (.ite (.and (.notN (.var 3)) (.or (.not (.bi .isInt (.cons (.var 3) .nil))) (.bi .isBool (.cons (.var 3) .nil)))) (.cons (.ret (.cst (.bl false))) .nil) .nil) .nil)) .nil))) (.cons (.ret (.cmp .eq (.var 0) (.var 1))) .nil)))⟩
noncomputable def ad5:Df:=⟨"raised",4,3,(.cons (.asg (.one 4) (.var 2)) (.cons (.asg (.one 5) (.var 0)) (.cons (.asg (.one 6) (.var 1)) (.cons (.whl (.cmp .gt (.var 6) (.cst (.int 0))) (.cons (.ite (.cmp .eq (.bin .mod (.var 6) (.cst (.int 2))) (.cst (.int 1))) (.cons (.asg (.one 4) (.callV 3 (.cons (.var 4) (.cons (.var 5) .nil)))) .nil) .nil) (.cons (.asg (.one 6) (.bin .fdiv (.var 6) (.cst (.int 2)))) (.cons (.ite (.cmp .gt (.var 6) (.cst (.int 0))) (.cons (.asg (.one 5) (.callV 3 (.cons (.var 5) (.cons (.var 5) .nil)))) .nil) .nil) .nil)))) (.cons (.ret (.var 4)) .nil)))))⟩
noncomputable def ax3:Df:=⟨"power",2,0,(.cons (.ret (.call "raised" (.ex (.var 0) (.ex (.var 1) (.ex (.call "plain" (.ex (.bi .len (.cons (.var 0) .nil)) .nil)) (.ex (.glob "product") .nil)))))) .nil)⟩
noncomputable def aa5:Df:=⟨"letter_table",2,1,(.cons (.und 2) (.cons (.ret (.callC "grid" (.ex (.call "rooms_of" (.ex (.var 0) .nil)) (.lam "letter_table.least_fee" [0,1] .nil)))) .nil))⟩
noncomputable def aa3:Lm:=⟨"letter_table.least_fee",2,2,(.call "least" (.ex (.mk .list (.compIf (.tup [0,1,2,3]) (.seq (.call "doors_of" (.ex (.var 2) .nil))) (.cmp .eq (.tup (.cons (.var 0) (.cons (.var 1) (.cons (.var 2) .nil)))) (.tup (.cons (.var 4) (.cons (.var 5) (.cons (.var 6) .nil))))) (.var 3) [none,none,none,none,some 0,some 3,some 1])) .nil))⟩
noncomputable def aa9:Df:=⟨"word_table",2,3,(.cons (.asg (.one 2) (.dic .nil .nil)) (.cons (.asg (.one 3) (.call "plain" (.ex (.call "rooms_of" (.ex (.var 0) .nil)) .nil))) (.cons (.for_ (.one 4) (.seq (.var 1)) (.cons (.ite (.cmp .notin (.var 4) (.var 2)) (.cons (.setIx (.var 2) (.var 4) (.call "letter_table" (.ex (.var 0) (.ex (.var 4) .nil)))) .nil) .nil) (.cons (.asg (.one 3) (.call "product" (.ex (.var 3) (.ex (.ix (.var 2) (.var 4)) .nil)))) .nil))) (.cons (.ret (.var 3)) .nil))))⟩
noncomputable def aH9:Df:=⟨"_law_from_room",3,7,(.cons (.asg (.one 3) (.mk .list (.comp (.one 0) (.rng1 (.ix (.var 0) (.cst (.int 1)))) (.cst .non) [none]))) (.cons (.setIx (.var 3) (.var 2) (.cst (.int 0))) (.cons (.for_ (.one 4) (.seq (.var 1)) (.cons (.asg (.one 5) (.mk .list (.comp (.one 0) (.seq (.var 3)) (.cst .non) [none]))) (.cons (.for_ (.tup [6,7,8,9]) (.seq (.ix (.var 0) (.cst (.int 4)))) (.cons (.ite (.and (.cmp .eq (.var 7) (.var 4)) (.notN (.ix (.var 3) (.var 6)))) (.cons (.ite (.or (.isN (.ix (.var 5) (.var 8))) (.cmp .lt (.bin .add (.ix (.var 3) (.var 6)) (.var 9)) (.ix (.var 5) (.var 8)))) (.cons (.setIx (.var 5) (.var 8) (.bin .add (.ix (.var 3) (.var 6)) (.var 9))) .nil) .nil) .nil) .nil) .nil)) (.cons (.asg (.one 3) (.var 5)) .nil)))) (.cons (.ret (.mk .tuple (.seq (.var 3)))) .nil))))⟩
noncomputable def aX5:Df:=⟨"law",1,7,(.cons (.for_ (.one 1) (.rng1 (.bin .add (.bi .min2 (.cons (.bi .len (.cons (.var 0) .nil)) (.cons (.cst (.int 3)) .nil))) (.cst (.int 1)))) (.cons (.asg (.one 2) (.call "_law_bag" (.ex (.var 0) (.ex (.var 1) .nil)))) (.cons (.asg (.one 3) (.call "_law_machine" (.ex (.var 2) .nil))) (.cons (.asg (.one 4) (.call "_law_word" (.ex (.var 2) (.ex (.ix (.var 3) (.cst (.int 0))) (.ex (.ix (.lst (.cons (.cst (.int 10)) (.cons (.cst (.int 10)) (.cons (.cst (.int 10)) (.cons (.ix (.lst (.cons (.cst (.int 30)) (.cons (.cst (.int 200)) .nil))) (.bi .int (.cons (.cmp .eq (.var 1) (.cst (.int 0))) .nil))) .nil))))) (.call "_law_take" (.ex (.var 2) (.ex (.cst (.int 4)) .nil)))) .nil))))) (.cons (.asg (.one 5) (.lst (.cons (.var 4) (.cons (.cst (.str [])) (.cons (.rev (.var 4)) (.cons (.var 4) .nil)))))) (.cons (.ite (.cmp .gt (.bi .len (.cons (.var 4) .nil)) (.cst (.int 60))) (.cons (.asg (.one 5) (.lst (.cons (.var 4) .nil))) .nil) .nil) (.cons (.for_ (.one 6) (.seq (.var 5)) (.cons (.asg (.one 7) (.mk .tuple (.comp (.one 0) (.rng1 (.ix (.var 3) (.cst (.int 1)))) (.call "_law_from_room" (.ex (.var 1) (.ex (.var 2) (.ex (.var 0) .nil)))) [none,some 3,some 6]))) (.cons (.ite (.not (.call "_law_same" (.ex (.call "word_table" (.ex (.var 3) (.ex (.var 6) .nil))) (.ex (.var 7) .nil)))) (.cons (.ret (.cst (.bl false))) .nil) .nil) .nil))) .nil))))))) (.cons (.ret (.cst (.bl true))) .nil))⟩
noncomputable def zP:Df:=⟨"at_begins_and_ends",2,2,(.cons (.asg (.one 2) (.lst .nil)) (.cons (.for_ (.one 3) (.seq (.call "begins_of" (.ex (.var 0) .nil))) (.cons (.ex (.ext (.var 2) (.comp (.one 0) (.seq (.call "ends_of" (.ex (.var 0) .nil))) (.ix (.ix (.var 1) (.var 2)) (.var 0)) [none,some 1,some 3]))) .nil)) (.cons (.ret (.var 2)) .nil)))⟩
noncomputable def aJ4:Df:=⟨"price",2,0,(.cons (.ret (.call "least" (.ex (.call "at_begins_and_ends" (.ex (.var 0) (.ex (.call "word_table" (.ex (.var 0) (.ex (.var 1) .nil))) .nil))) .nil))) .nil)⟩
noncomputable def ae4:Df:=⟨"sign_of",1,0,(.cons (.ite (.isN (.var 0)) (.cons (.ret (.glob "NONE")) .nil) .nil) (.cons (.ret (.ite (.cmp .eq (.var 0) (.cst (.int 0))) (.glob "FREE") (.glob "SOME"))) .nil))⟩
noncomputable def ae2:Df:=⟨"reading",1,0,(.cons (.ret (.callC "grid" (.ex (.bi .len (.cons (.var 0) .nil)) (.lam "reading.0" [0] .nil)))) .nil)⟩
noncomputable def ac3:Lm:=⟨"reading.0",2,1,(.call "sign_of" (.ex (.ix (.ix (.var 2) (.var 0)) (.var 1)) .nil))⟩
noncomputable def ab6:Df:=⟨"plain_signs",1,0,(.cons (.ret (.callC "grid" (.ex (.var 0) (.lam "plain_signs.0" [] .nil)))) .nil)⟩
noncomputable def aa7:Lm:=⟨"plain_signs.0",2,0,(.ite (.cmp .eq (.var 0) (.var 1)) (.glob "FREE") (.glob "NONE"))⟩
noncomputable def ao0:Df:=⟨"_law_box",2,4,(.cons (.asg (.one 2) (.cst (.int 0))) (.cons (.ite (.cmp .lt (.var 1) (.bi .len (.cons (.var 0) .nil))) (.cons (.asg (.one 2) (.bi .abs (.cons (.ix (.var 0) (.var 1)) .nil))) .nil) .nil) (.cons (.ite (.cmp .ge (.var 2) (.bin .pow (.cst (.int 10)) (.cst (.int 18)))) (.cons (.ret (.lst (.cons (.var 2) .nil))) .nil) .nil) (.cons (.asg (.one 3) (.cst (.int 0))) (.cons (.for_ (.one 4) (.rng1 (.cst (.int 128))) (.cons (.asg (.one 5) (.bin .mod (.bin .mul (.bin .add (.bin .add (.bin .add (.bin .mod (.var 2) (.cst (.int 2147483647))) (.bin .mul (.cst (.int 7919)) (.var 1))) (.bin .mul (.cst (.int 104729)) (.var 4))) (.cst (.int 97))) (.cst (.int 48271))) (.cst (.int 2147483647)))) (.cons (.asg (.one 3) (.bin .add (.bin .mul (.var 3) (.cst (.int 2147483647))) (.bin .mod (.bin .add (.bin .add (.bin .mul (.var 5) (.var 5)) (.bin .mul (.cst (.int 31)) (.var 4))) (.bin .fdiv (.var 2) (.cst (.int 2147483647)))) (.cst (.int 2147483647))))) .nil))) (.cons (.ret (.lst (.cons (.var 3) .nil))) .nil))))))⟩
noncomputable def af3:Df:=⟨"_law_draw",2,1,(.cons (.asg (.one 2) (.bin .mod (.ix (.var 0) (.cst (.int 0))) (.var 1))) (.cons (.setIx (.var 0) (.cst (.int 0)) (.bin .fdiv (.ix (.var 0) (.cst (.int 0))) (.var 1))) (.cons (.ret (.var 2)) .nil)))⟩
noncomputable def ah1:Df:=⟨"_law_form",2,2,(.cons (.ite (.or (.not (.bi .isTup (.cons (.var 0) .nil))) (.cmp .ne (.bi .len (.cons (.var 0) .nil)) (.var 1))) (.cons (.ret (.cst (.bl false))) .nil) .nil) (.cons (.for_ (.one 2) (.seq (.var 0)) (.cons (.ite (.or (.not (.bi .isTup (.cons (.var 2) .nil))) (.cmp .ne (.bi .len (.cons (.var 2) .nil)) (.var 1))) (.cons (.ret (.cst (.bl false))) .nil) .nil) (.cons (.for_ (.one 3) (.seq (.var 2)) (.cons (.ite (.or (.not (.bi .isInt (.cons (.var 3) .nil))) (.bi .isBool (.cons (.var 3) .nil))) (.cons (.ret (.cst (.bl false))) .nil) .nil) .nil)) .nil))) (.cons (.ret (.cst (.bl true))) .nil)))⟩
noncomputable def aa4:Df:=⟨"sign_product",2,1,(.cons (.asg (.one 2) (.bi .len (.cons (.var 0) .nil))) (.cons (.ret (.callC "grid" (.ex (.var 2) (.lam "sign_product.0" [2,0,1] .nil)))) .nil))⟩
noncomputable def aa2:Lm:=⟨"sign_product.0",2,3,(.mk .min (.comp (.one 0) (.rng1 (.var 2)) (.bi .max2 (.cons (.ix (.ix (.var 1) (.var 2)) (.var 0)) (.cons (.ix (.ix (.var 3) (.var 0)) (.var 4)) .nil))) [none,some 3,some 0,some 4,some 1]))⟩
noncomputable def aI1:Df:=⟨"_law_signs",2,6,(.cons (.asg (.one 2) (.call "_law_draw" (.ex (.var 0) (.ex (.cst (.int 4)) .nil)))) (.cons (.asg (.one 3) (.lst .nil)) (.cons (.for_ (.one 4) (.rng1 (.var 1)) (.cons (.asg (.one 5) (.lst .nil)) (.cons (.for_ (.one 6) (.rng1 (.var 1)) (.cons (.asg (.one 7) (.call "_law_draw" (.ex (.var 0) (.ex (.cst (.int 4)) .nil)))) (.cons (.ite (.or (.and (.cmp .eq (.var 2) (.cst (.int 1))) (.cmp .gt (.call "_law_draw" (.ex (.var 0) (.ex (.cst (.int 3)) .nil))) (.cst (.int 0)))) (.and (.cmp .eq (.var 2) (.cst (.int 2))) (.cmp .gt (.var 4) (.var 6)))) (.cons (.asg (.one 7) (.cst (.int 3))) .nil) .nil) (.cons (.ite (.and (.cmp .eq (.var 2) (.cst (.int 3))) (.and (.cmp .ne (.var 6) (.bin .mod (.bin .add (.var 4) (.cst (.int 1))) (.var 1))) (.cmp .gt (.call "_law_draw" (.ex (.var 0) (.ex (.cst (.int 4)) .nil))) (.cst (.int 0))))) (.cons (.asg (.one 7) (.cst (.int 3))) .nil) .nil) (.cons (.ex (.meth .append (.var 5) (.cons (.var 7) .nil))) .nil))))) (.cons (.ex (.meth .append (.var 3) (.cons (.mk .tuple (.seq (.var 5))) .nil))) .nil)))) (.cons (.ret (.mk .tuple (.seq (.var 3)))) .nil))))⟩
noncomputable def ac0:Df:=⟨"_law_product",2,4,(.cons (.asg (.one 2) (.lst .nil)) (.cons (.for_ (.one 3) (.seq (.var 0)) (.cons (.asg (.one 4) (.mk .list (.comp (.one 0) (.seq (.var 3)) (.cst (.int 3)) [none]))) (.cons (.for_ (.one 5) (.rng1 (.bi .len (.cons (.var 3) .nil))) (.cons (.ite (.cmp .lt (.ix (.var 3) (.var 5)) (.cst (.int 3))) (.cons (.asg (.one 4) (.mk .list (.comp (.one 0) (.rng1 (.bi .len (.cons (.var 3) .nil))) (.bi .min2 (.cons (.ix (.var 1) (.var 0)) (.cons (.bi .max2 (.cons (.ix (.var 2) (.var 3)) (.cons (.ix (.ix (.var 4) (.var 3)) (.var 0)) .nil))) .nil))) [none,some 4,some 3,some 5,some 1]))) .nil) .nil) .nil)) (.cons (.ex (.meth .append (.var 2) (.cons (.mk .tuple (.seq (.var 4))) .nil))) .nil)))) (.cons (.ret (.mk .tuple (.seq (.var 2)))) .nil)))⟩
noncomputable def ac2:Df:=⟨"sign_power",2,0,(.cons (.ret (.call "raised" (.ex (.var 0) (.ex (.var 1) (.ex (.call "plain_signs" (.ex (.bi .len (.cons (.var 0) .nil)) .nil)) (.ex (.glob "sign_product") .nil)))))) .nil)⟩
noncomputable def af7:Df:=⟨"_law_unit",1,0,(.cons (.ret (.mk .tuple (.comp (.one 0) (.rng1 (.var 0)) (.mk .tuple (.comp (.one 0) (.rng1 (.var 1)) (.bin .mul (.cst (.int 3)) (.bi .int (.cons (.cmp .ne (.var 1) (.var 0)) .nil))) [none,some 0])) [none,some 0]))) .nil)⟩
noncomputable def aY4:Df:=⟨"_law_round",1,2,(.cons (.asg (.one 1) (.lst (.cons (.call "_law_unit" (.ex (.bi .len (.cons (.var 0) .nil)) .nil)) .nil))) (.cons (.whl (.cst (.bl true)) (.cons (.asg (.one 2) (.call "_law_product" (.ex (.ix (.var 1) (.neg (.cst (.int 1)))) (.ex (.var 0) .nil)))) (.cons (.ite (.cmp .isin (.var 2) (.var 1)) (.cons (.ret (.tup (.cons (.var 1) (.cons (.meth .index (.var 1) (.cons (.var 2) .nil)) .nil)))) .nil) .nil) (.cons (.ex (.meth .append (.var 1) (.cons (.var 2) .nil))) .nil)))) .nil))⟩
noncomputable def bx6:Df:=⟨"_law_due",3,0,(.cons (.ite (.cmp .lt (.var 2) (.bi .len (.cons (.var 0) .nil))) (.cons (.ret (.ix (.var 0) (.var 2))) .nil) .nil) (.cons (.ret (.ix (.var 0) (.bin .add (.var 1) (.bin .mod (.bin .sub (.var 2) (.var 1)) (.bin .sub (.bi .len (.cons (.var 0) .nil)) (.var 1)))))) .nil))⟩
noncomputable def aX2:Df:=⟨"law",1,9,(.cons (.for_ (.one 1) (.rng1 (.bin .add (.bi .min2 (.cons (.cst (.int 8)) (.cons (.bi .len (.cons (.var 0) .nil)) .nil))) (.cst (.int 1)))) (.cons (.asg (.one 2) (.call "_law_box" (.ex (.var 0) (.ex (.var 1) .nil)))) (.cons (.asg (.one 3) (.bin .add (.cst (.int 1)) (.call "_law_draw" (.ex (.var 2) (.ex (.cst (.int 5)) .nil))))) (.cons (.asg (.one 4) (.call "_law_signs" (.ex (.var 2) (.ex (.var 3) .nil)))) (.cons (.asg (.tup [5,6]) (.call "_law_round" (.ex (.var 4) .nil))) (.cons (.asg (.one 7) (.bin .mul (.call "_law_draw" (.ex (.var 2) (.ex (.bin .pow (.cst (.int 10)) (.cst (.int 30))) .nil))) (.bin .pow (.cst (.int 10)) (.cst (.int 29))))) (.cons (.ite (.cmp .gt (.var 1) (.cst (.int 0))) (.cons (.asg (.one 7) (.cst (.int 0))) .nil) .nil) (.cons (.for_ (.one 8) (.seq (.lst (.cons (.cst (.int 0)) (.cons (.cst (.int 1)) (.cons (.bin .add (.cst (.int 2)) (.call "_law_draw" (.ex (.var 2) (.ex (.cst (.int 30)) .nil)))) (.cons (.call "_law_draw" (.ex (.var 2) (.ex (.cst (.int 1000)) .nil))) (.cons (.bin .add (.var 7) (.call "_law_draw" (.ex (.var 2) (.ex (.cst (.int 1000)) .nil)))) .nil))))))) (.cons (.asg (.one 9) (.call "sign_power" (.ex (.var 4) (.ex (.var 8) .nil)))) (.cons (.ite (.or (.not (.call "_law_form" (.ex (.var 9) (.ex (.var 3) .nil)))) (.cmp .ne (.var 9) (.call "_law_due" (.ex (.var 5) (.ex (.var 6) (.ex (.var 8) .nil)))))) (.cons (.ret (.cst (.bl false))) .nil) .nil) (.cons (.ite (.cmp .ne (.call "sign_product" (.ex (.var 9) (.ex (.call "sign_power" (.ex (.var 4) (.ex (.cst (.int 7)) .nil))) .nil))) (.call "_law_due" (.ex (.var 5) (.ex (.var 6) (.ex (.bin .add (.var 8) (.cst (.int 7))) .nil))))) (.cons (.ret (.cst (.bl false))) .nil) .nil) .nil)))) .nil)))))))) (.cons (.ret (.cst (.bl true))) .nil))⟩
noncomputable def ab8:Df:=⟨"is_steady",1,0,(.cons (.ret (.cmp .eq (.call "sign_product" (.ex (.var 0) (.ex (.var 0) .nil))) (.var 0))) .nil)⟩
noncomputable def ac5:Df:=⟨"round_of",1,0,(.cons (.ite (.or (.cmp .eq (.var 0) (.glob "FREE")) (.cmp .eq (.var 0) (.glob "NONE"))) (.cons (.ret (.var 0)) .nil) .nil) (.cons (.ret (.glob "UNBOUND")) .nil))⟩
noncomputable def ac6:Df:=⟨"sharpened",1,2,(.cons (.ite (.not (.call "is_steady" (.ex (.var 0) .nil))) (.cons .raise .nil) .nil) (.cons (.asg (.one 1) (.bi .len (.cons (.var 0) .nil))) (.cons (.asg (.one 2) (.mk .list (.comp (.one 0) (.rng1 (.var 1)) (.call "round_of" (.ex (.ix (.ix (.var 1) (.var 0)) (.var 0)) .nil)) [none,some 0]))) (.cons (.ret (.callC "grid" (.ex (.var 1) (.lam "sharpened.0" [1,0,2] .nil)))) .nil))))⟩
noncomputable def ab3:Lm:=⟨"sharpened.0",2,3,(.mk .min (.comp (.one 0) (.rng1 (.var 2)) (.bi .max3 (.cons (.ix (.ix (.var 1) (.var 2)) (.var 0)) (.cons (.ix (.var 3) (.var 0)) (.cons (.ix (.ix (.var 1) (.var 0)) (.var 4)) .nil)))) [none,some 3,some 0,some 4,some 1]))⟩
noncomputable def aa8:Df:=⟨"steady_power",1,2,(.cons (.asg (.one 1) (.cst (.int 1))) (.cons (.asg (.one 2) (.var 0)) (.cons (.whl (.not (.call "is_steady" (.ex (.var 2) .nil))) (.cons (.aug 1 (.cst (.int 1))) (.cons (.asg (.one 2) (.call "sign_product" (.ex (.var 2) (.ex (.var 0) .nil)))) .nil))) (.cons (.ret (.tup (.cons (.var 1) (.cons (.var 2) .nil)))) .nil))))⟩
noncomputable def aJ2:Df:=⟨"_law_goes_with",2,4,(.cons (.for_ (.tup [2,3]) (.zip (.seq (.var 0)) (.seq (.var 1))) (.cons (.for_ (.tup [4,5]) (.zip (.seq (.var 2)) (.seq (.var 3))) (.cons (.ite (.or (.cmp .lt (.var 5) (.var 4)) (.or (.cmp .ne (.cmp .eq (.var 5) (.cst (.int 0))) (.cmp .eq (.var 4) (.cst (.int 0)))) (.cmp .ne (.cmp .eq (.var 5) (.cst (.int 3))) (.cmp .eq (.var 4) (.cst (.int 3)))))) (.cons (.ret (.cst (.bl false))) .nil) .nil) .nil)) .nil)) (.cons (.ret (.cmp .eq (.bi .len (.cons (.var 0) .nil)) (.bi .len (.cons (.var 1) .nil)))) .nil))⟩
noncomputable def bJ4:Df:=⟨"_law_right",1,3,(.cons (.asg (.tup [1,2]) (.call "steady_power" (.ex (.var 0) .nil))) (.cons (.asg (.one 3) (.call "sharpened" (.ex (.var 2) .nil))) (.cons (.ite (.or (.notB (.call "is_steady" (.ex (.var 3) .nil)) true) (.cmp .ne (.call "sharpened" (.ex (.var 3) .nil)) (.var 3))) (.cons (.ret (.cst (.bl false))) .nil) .nil) (.cons (.ite (.or (.cmp .ne (.call "sign_product" (.ex (.var 3) (.ex (.var 2) .nil))) (.var 3)) (.cmp .ne (.call "sign_product" (.ex (.var 2) (.ex (.var 3) .nil))) (.var 3))) (.cons (.ret (.cst (.bl false))) .nil) .nil) (.cons (.ret (.call "_law_goes_with" (.ex (.var 2) (.ex (.var 3) .nil)))) .nil)))))⟩
noncomputable def bc7:Df:=⟨"law",1,7,(.cons (.for_ (.one 1) (.rng1 (.bin .add (.bi .min2 (.cons (.cst (.int 12)) (.cons (.bi .len (.cons (.var 0) .nil)) .nil))) (.cst (.int 1)))) (.cons (.asg (.one 2) (.call "_law_box" (.ex (.var 0) (.ex (.var 1) .nil)))) (.cons (.asg (.one 3) (.bin .add (.cst (.int 1)) (.call "_law_draw" (.ex (.var 2) (.ex (.cst (.int 5)) .nil))))) (.cons (.asg (.one 4) (.call "_law_signs" (.ex (.var 2) (.ex (.var 3) .nil)))) (.cons (.asg (.one 5) (.call "_law_signs" (.ex (.var 2) (.ex (.var 3) .nil)))) (.cons (.asg (.one 6) (.call "sign_product" (.ex (.call "sharpened" (.ex (.ix (.call "steady_power" (.ex (.var 4) .nil)) (.cst (.int 1))) .nil)) (.ex (.var 5) .nil)))) (.cons (.for_ (.one 7) (.seq (.lst (.cons (.var 4) (.cons (.call "sign_product" (.ex (.var 4) (.ex (.var 5) .nil))) (.cons (.call "sign_product" (.ex (.var 5) (.ex (.var 4) .nil))) (.cons (.var 6) .nil)))))) (.cons (.ite (.not (.call "_law_right" (.ex (.var 7) .nil))) (.cons (.ret (.cst (.bl false))) .nil) .nil) .nil)) .nil))))))) (.cons (.ret (.cst (.bl true))) .nil))⟩
noncomputable def ac4:Df:=⟨"word_signs",2,0,(.cons (.ret (.call "reading" (.ex (.call "word_table" (.ex (.var 0) (.ex (.var 1) .nil))) .nil))) .nil)⟩
noncomputable def at4:Df:=⟨"end_sign",2,0,(.cons (.ret (.mkDs .min (.call "at_begins_and_ends" (.ex (.var 0) (.ex (.var 1) .nil))) (.glob "NONE"))) .nil)⟩
noncomputable def ae0:Df:=⟨"_law_machine",1,12,(.cons (.asg (.one 1) (.bin .add (.cst (.int 1)) (.call "_law_draw" (.ex (.var 0) (.ex (.cst (.int 3)) .nil))))) (.cons (.asg (.one 2) (.bin .add (.cst (.int 1)) (.call "_law_draw" (.ex (.var 0) (.ex (.cst (.int 5)) .nil))))) (.cons (.asg (.one 3) (.call "_law_draw" (.ex (.var 0) (.ex (.bin .add (.bin .mul (.cst (.int 3)) (.var 2)) (.cst (.int 2))) .nil)))) (.cons (.ite (.cmp .eq (.call "_law_draw" (.ex (.var 0) (.ex (.cst (.int 8)) .nil))) (.cst (.int 5))) (.cons (.asg (.one 3) (.call "_law_draw" (.ex (.var 0) (.ex (.cst (.int 76)) .nil)))) .nil) .nil) (.cons (.asg (.one 4) (.ix (.lst (.cons (.cst (.int 2)) (.cons (.cst (.int 2)) (.cons (.cst (.int 4)) (.cons (.cst (.int 1)) .nil))))) (.call "_law_draw" (.ex (.var 0) (.ex (.cst (.int 4)) .nil))))) (.cons (.asg (.one 5) (.lst .nil)) (.cons (.for_ (.one 6) (.rng1 (.var 3)) (.cons (.asg (.one 7) (.call "_law_draw" (.ex (.var 0) (.ex (.var 2) .nil)))) (.cons (.asg (.one 8) (.call "_law_draw" (.ex (.var 0) (.ex (.var 2) .nil)))) (.cons (.asg (.one 9) (.ix (.cst (.str [97,98,99])) (.call "_law_draw" (.ex (.var 0) (.ex (.var 1) .nil))))) (.cons (.ex (.meth .append (.var 5) (.cons (.tup (.cons (.var 7) (.cons (.var 9) (.cons (.var 8) (.cons (.call "_law_draw" (.ex (.var 0) (.ex (.var 4) .nil))) .nil))))) .nil))) .nil))))) (.cons (.asg (.one 10) (.call "_law_draw" (.ex (.var 0) (.ex (.bin .shl (.cst (.int 1)) (.var 2)) .nil)))) (.cons (.asg (.one 11) (.mk .tuple (.compIf (.one 0) (.rng1 (.var 2)) (.cmp .eq (.bin .mod (.bin .shr (.var 1) (.var 0)) (.cst (.int 2))) (.cst (.int 1))) (.var 0) [none,some 10]))) (.cons (.asg (.one 10) (.call "_law_draw" (.ex (.var 0) (.ex (.bin .shl (.cst (.int 1)) (.var 2)) .nil)))) (.cons (.asg (.one 12) (.mk .tuple (.compIf (.one 0) (.rng1 (.var 2)) (.cmp .eq (.bin .mod (.bin .shr (.var 1) (.var 0)) (.cst (.int 2))) (.cst (.int 1))) (.var 0) [none,some 10]))) (.cons (.ret (.tup (.cons (.var 1) (.cons (.var 2) (.cons (.var 11) (.cons (.var 12) (.cons (.mk .tuple (.seq (.var 5))) .nil))))))) .nil))))))))))))⟩
noncomputable def ac1:Df:=⟨"_law_letter_signs",2,6,(.cons (.asg (.one 2) (.ix (.var 0) (.cst (.int 1)))) (.cons (.asg (.one 3) (.mk .list (.comp (.one 0) (.rng1 (.var 2)) (.mk .list (.comp (.one 0) (.rng1 (.var 1)) (.cst (.int 3)) [none])) [none,some 2]))) (.cons (.for_ (.tup [4,5,6,7]) (.seq (.ix (.var 0) (.cst (.int 4)))) (.cons (.ite (.cmp .eq (.var 5) (.var 1)) (.cons (.setIx (.ix (.var 3) (.var 4)) (.var 6) (.bi .min2 (.cons (.ix (.ix (.var 3) (.var 4)) (.var 6)) (.cons (.bi .int (.cons (.cmp .gt (.var 7) (.cst (.int 0))) .nil)) .nil)))) .nil) .nil) .nil)) (.cons (.ret (.mk .tuple (.comp (.one 0) (.seq (.var 3)) (.mk .tuple (.seq (.var 0))) [none]))) .nil))))⟩
noncomputable def bh1:Df:=⟨"law",1,11,(.cons (.for_ (.one 1) (.rng1 (.bin .add (.bi .min2 (.cons (.cst (.int 3)) (.cons (.bi .len (.cons (.var 0) .nil)) .nil))) (.cst (.int 1)))) (.cons (.asg (.one 2) (.call "_law_box" (.ex (.var 0) (.ex (.var 1) .nil)))) (.cons (.asg (.one 3) (.call "_law_machine" (.ex (.var 2) .nil))) (.cons (.asg (.one 4) (.call "_law_draw" (.ex (.var 2) (.ex (.cst (.int 61)) .nil)))) (.cons (.ite (.and (.cmp .eq (.call "_law_draw" (.ex (.var 2) (.ex (.cst (.int 8)) .nil))) (.cst (.int 3))) (.cmp .eq (.var 1) (.cst (.int 0)))) (.cons (.asg (.one 4) (.call "_law_draw" (.ex (.var 2) (.ex (.cst (.int 201)) .nil)))) .nil) .nil) (.cons (.asg (.one 5) (.cst (.str []))) (.cons (.asg (.one 6) (.call "_law_unit" (.ex (.ix (.var 3) (.cst (.int 1))) .nil))) (.cons (.asg (.one 7) (.mk .list (.comp (.one 0) (.seq (.slU (.cst (.str [97,98,99])) (.ix (.var 3) (.cst (.int 0))))) (.call "_law_letter_signs" (.ex (.var 1) (.ex (.var 0) .nil))) [none,some 3]))) (.cons (.for_ (.one 8) (.rng1 (.var 4)) (.cons (.asg (.one 9) (.call "_law_draw" (.ex (.var 2) (.ex (.ix (.var 3) (.cst (.int 0))) .nil)))) (.cons (.asg (.one 5) (.bin .add (.var 5) (.ix (.cst (.str [97,98,99])) (.var 9)))) (.cons (.asg (.one 6) (.call "_law_product" (.ex (.var 6) (.ex (.ix (.var 7) (.var 9)) .nil)))) .nil)))) (.cons (.asg (.one 10) (.call "word_signs" (.ex (.var 3) (.ex (.var 5) .nil)))) (.cons (.ite (.or (.not (.call "_law_form" (.ex (.var 10) (.ex (.ix (.var 3) (.cst (.int 1))) .nil)))) (.or (.cmp .ne (.var 10) (.var 6)) (.cmp .ne (.call "reading" (.ex (.call "word_table" (.ex (.var 3) (.ex (.var 5) .nil))) .nil)) (.var 6)))) (.cons (.ret (.cst (.bl false))) .nil) .nil) (.cons (.asg (.one 11) (.call "_law_draw" (.ex (.var 2) (.ex (.bin .add (.var 4) (.cst (.int 1))) .nil)))) (.cons (.ite (.cmp .ne (.call "sign_product" (.ex (.call "word_signs" (.ex (.var 3) (.ex (.slU (.var 5) (.var 11)) .nil))) (.ex (.call "word_signs" (.ex (.var 3) (.ex (.slL (.var 5) (.var 11)) .nil))) .nil))) (.var 6)) (.cons (.ret (.cst (.bl false))) .nil) .nil) (.cons (.ite (.cmp .ne (.call "end_sign" (.ex (.var 3) (.ex (.var 10) .nil))) (.call "sign_of" (.ex (.call "price" (.ex (.var 3) (.ex (.var 5) .nil))) .nil))) (.cons (.ret (.cst (.bl false))) .nil) .nil) .nil)))))))))))))) (.cons (.ret (.cst (.bl true))) .nil))⟩
noncomputable def ae8:Df:=⟨"_law_sharp",1,8,(.cons (.asg (.one 1) (.bi .len (.cons (.var 0) .nil))) (.cons (.asg (.one 2) (.lst .nil)) (.cons (.for_ (.one 3) (.rng1 (.var 1)) (.cons (.asg (.one 4) (.lst .nil)) (.cons (.for_ (.one 5) (.rng1 (.var 1)) (.cons (.asg (.one 6) (.cst (.int 3))) (.cons (.for_ (.one 7) (.rng1 (.var 1)) (.cons (.asg (.one 8) (.ix (.ix (.var 0) (.var 7)) (.var 7))) (.cons (.ite (.cmp .eq (.var 8) (.cst (.int 1))) (.cons (.asg (.one 8) (.cst (.int 2))) .nil) .nil) (.cons (.asg (.one 6) (.bi .min2 (.cons (.var 6) (.cons (.bi .max3 (.cons (.ix (.ix (.var 0) (.var 3)) (.var 7)) (.cons (.var 8) (.cons (.ix (.ix (.var 0) (.var 7)) (.var 5)) .nil)))) .nil)))) .nil)))) (.cons (.ex (.meth .append (.var 4) (.cons (.var 6) .nil))) .nil)))) (.cons (.ex (.meth .append (.var 2) (.cons (.mk .tuple (.seq (.var 4))) .nil))) .nil)))) (.cons (.ret (.mk .tuple (.seq (.var 2)))) .nil))))⟩
noncomputable def ak0:Df:=⟨"as_times",2,0,(.cons (.ret (.mk .list (.comp (.one 0) (.seq (.var 0)) (.ite (.cmp .eq (.ix (.var 0) (.cst (.int 0))) (.cst (.str [115,104,97,114,112]))) (.tup (.cons (.cst (.str [116,105,109,101,115])) (.cons (.ix (.var 0) (.cst (.int 1))) (.cons (.var 1) .nil)))) (.var 0)) [none,some 1]))) .nil)⟩
noncomputable def ac9:Df:=⟨"folded",4,2,(.cons (.asg (.one 4) (.lst .nil)) (.cons (.for_ (.one 5) (.seq (.var 0)) (.cons (.ite (.cmp .eq (.ix (.var 5) (.cst (.int 0))) (.cst (.str [108,101,116,116,101,114]))) (.cons (.ex (.meth .append (.var 4) (.cons (.callV 1 (.cons (.ix (.var 5) (.cst (.int 1))) .nil)) .nil))) .nil) (.cons (.ite (.cmp .eq (.ix (.var 5) (.cst (.int 0))) (.cst (.str [112,97,105,114]))) (.cons (.ex (.meth .append (.var 4) (.cons (.callV 2 (.cons (.ix (.var 4) (.ix (.var 5) (.cst (.int 1)))) (.cons (.ix (.var 4) (.ix (.var 5) (.cst (.int 2)))) .nil))) .nil))) .nil) (.cons (.ex (.meth .append (.var 4) (.cons (.callV 3 (.cons (.ix (.var 4) (.ix (.var 5) (.cst (.int 1)))) (.cons (.ix (.var 5) (.cst (.int 2))) .nil))) .nil))) .nil)) .nil)) .nil)) (.cons (.ret (.var 4)) .nil)))⟩
noncomputable def an9:Df:=⟨"counted",2,0,(.cons (.ret (.callC "folded" (.ex (.var 0) (.lam "counted.2" [1] (.lam "counted.1" [] (.lam "counted.0" [] .nil)))))) .nil)⟩
noncomputable def jl:Lm:=⟨"counted.0",2,0,(.bin .mul (.var 0) (.var 1))⟩
noncomputable def ji:Lm:=⟨"counted.1",2,0,(.bin .add (.var 0) (.var 1))⟩
noncomputable def jq:Lm:=⟨"counted.2",1,1,(.var 1)⟩
noncomputable def at7:Df:=⟨"unrolled",3,0,(.cons (.ret (.call "as_times" (.ex (.var 1) (.ex (.bin .mul (.bin .add (.var 2) (.cst (.int 1))) (.call "rooms_of" (.ex (.var 0) .nil))) .nil)))) .nil)⟩
noncomputable def bI1:Df:=⟨"begun",1,0,(.cons (.ret (.slU (.var 0) (.bin .add (.glob "MOST_WRITTEN") (.cst (.int 1))))) .nil)⟩
noncomputable def av4:Df:=⟨"begun_times",2,1,(.cons (.asg (.one 2) (.bin .add (.bin .fdiv (.glob "MOST_WRITTEN") (.bi .len (.cons (.var 0) .nil))) (.cst (.int 1)))) (.cons (.ret (.call "begun" (.ex (.bin .mul (.var 0) (.bi .min2 (.cons (.var 1) (.cons (.var 2) .nil)))) .nil))) .nil))⟩
noncomputable def aJ8:Df:=⟨"last_word",1,1,(.cons (.asg (.one 1) (.ix (.callC "folded" (.ex (.var 0) (.lam "last_word.1" [] (.lam "last_word.0" [] (.ex (.glob "begun_times") .nil))))) (.neg (.cst (.int 1))))) (.cons (.ite (.cmp .gt (.bi .len (.cons (.var 1) .nil)) (.glob "MOST_WRITTEN")) (.cons .raise .nil) .nil) (.cons (.ret (.var 1)) .nil)))⟩
noncomputable def as3:Lm:=⟨"last_word.0",2,0,(.call "begun" (.ex (.bin .add (.var 0) (.var 1)) .nil))⟩
noncomputable def ar7:Lm:=⟨"last_word.1",1,0,(.var 0)⟩
noncomputable def ap5:Df:=⟨"word_unrolled",3,0,(.cons (.ret (.call "last_word" (.ex (.call "unrolled" (.ex (.var 0) (.ex (.var 1) (.ex (.var 2) .nil)))) .nil))) .nil)⟩
noncomputable def af5:Df:=⟨"_law_tall",3,2,(.cons (.asg (.one 3) (.lst (.cons (.tup (.cons (.cst (.str [108,101,116,116,101,114])) (.cons (.ix (.cst (.str [97,98,99])) (.call "_law_draw" (.ex (.var 0) (.ex (.var 1) .nil)))) .nil))) .nil))) (.cons (.for_ (.one 4) (.rng1 (.call "_law_draw" (.ex (.var 0) (.ex (.var 2) .nil)))) (.cons (.ex (.meth .append (.var 3) (.cons (.tup (.cons (.cst (.str [112,97,105,114])) (.cons (.var 4) (.cons (.bin .sub (.var 4) (.call "_law_draw" (.ex (.var 0) (.ex (.bin .add (.bi .min2 (.cons (.var 4) (.cons (.cst (.int 1)) .nil))) (.cst (.int 1))) .nil)))) .nil)))) .nil))) .nil)) (.cons (.ret (.mk .tuple (.seq (.var 3)))) .nil)))⟩
noncomputable def jp:Df:=⟨"last_table",2,0,(.cons (.ret (.ix (.callC "folded" (.ex (.var 1) (.lam "last_table.0" [0] (.ex (.glob "product") (.ex (.glob "power") .nil))))) (.neg (.cst (.int 1))))) .nil)⟩
noncomputable def qI:Lm:=⟨"last_table.0",1,1,(.call "letter_table" (.ex (.var 1) (.ex (.var 0) .nil)))⟩
noncomputable def am2:Df:=⟨"table_unrolled",3,0,(.cons (.ret (.call "last_table" (.ex (.var 0) (.ex (.call "unrolled" (.ex (.var 0) (.ex (.var 1) (.ex (.var 2) .nil)))) .nil)))) .nil)⟩
noncomputable def jn:Df:=⟨"_law_least",2,0,(.cons (.ite (.or (.isN (.var 0)) (.and (.notN (.var 1)) (.cmp .lt (.var 1) (.var 0)))) (.cons (.ret (.var 1)) .nil) .nil) (.cons (.ret (.var 0)) .nil))⟩
noncomputable def az1:Df:=⟨"_law_times",2,6,(.cons (.asg (.one 2) (.lst .nil)) (.cons (.for_ (.one 3) (.seq (.var 0)) (.cons (.asg (.one 4) (.lst .nil)) (.cons (.for_ (.one 5) (.rng1 (.bi .len (.cons (.var 0) .nil))) (.cons (.asg (.one 6) (.cst .non)) (.cons (.for_ (.one 7) (.rng1 (.bi .len (.cons (.var 0) .nil))) (.cons (.ite (.and (.notN (.ix (.var 3) (.var 7))) (.notN (.ix (.ix (.var 1) (.var 7)) (.var 5)))) (.cons (.asg (.one 6) (.call "_law_least" (.ex (.var 6) (.ex (.bin .add (.ix (.var 3) (.var 7)) (.ix (.ix (.var 1) (.var 7)) (.var 5))) .nil)))) .nil) .nil) .nil)) (.cons (.ex (.meth .append (.var 4) (.cons (.var 6) .nil))) .nil)))) (.cons (.ex (.meth .append (.var 2) (.cons (.mk .tuple (.seq (.var 4))) .nil))) .nil)))) (.cons (.ret (.mk .tuple (.seq (.var 2)))) .nil)))⟩
noncomputable def ao6:Df:=⟨"_law_power",2,1,(.cons (.asg (.one 2) (.cst .non)) (.cons (.whl (.cmp .gt (.var 1) (.cst (.int 0))) (.cons (.ite (.cmp .eq (.bin .mod (.var 1) (.cst (.int 2))) (.cst (.int 1))) (.cons (.asg (.one 2) (.ite (.isN (.var 2)) (.var 0) (.call "_law_times" (.ex (.var 2) (.ex (.var 0) .nil))))) .nil) .nil) (.cons (.asg (.one 1) (.bin .fdiv (.var 1) (.cst (.int 2)))) (.cons (.ite (.cmp .gt (.var 1) (.cst (.int 0))) (.cons (.asg (.one 0) (.call "_law_times" (.ex (.var 0) (.ex (.var 0) .nil)))) .nil) .nil) .nil)))) (.cons (.ret (.var 2)) .nil)))⟩
noncomputable def jg:Df:=⟨"_law_letter_table",2,6,(.cons (.asg (.one 2) (.ix (.var 0) (.cst (.int 1)))) (.cons (.asg (.one 3) (.mk .list (.comp (.one 0) (.rng1 (.var 2)) (.mk .list (.comp (.one 0) (.rng1 (.var 1)) (.cst .non) [none])) [none,some 2]))) (.cons (.for_ (.tup [4,5,6,7]) (.seq (.ix (.var 0) (.cst (.int 4)))) (.cons (.ite (.cmp .eq (.var 5) (.var 1)) (.cons (.setIx (.ix (.var 3) (.var 4)) (.var 6) (.call "_law_least" (.ex (.ix (.ix (.var 3) (.var 4)) (.var 6)) (.ex (.var 7) .nil)))) .nil) .nil) .nil)) (.cons (.ret (.mk .tuple (.comp (.one 0) (.seq (.var 3)) (.mk .tuple (.seq (.var 0))) [none]))) .nil))))⟩
noncomputable def bw9:Df:=⟨"_law_due",3,2,(.cons (.asg (.one 3) (.lst .nil)) (.cons (.for_ (.one 4) (.seq (.var 1)) (.cons (.ite (.cmp .eq (.ix (.var 4) (.cst (.int 0))) (.cst (.str [108,101,116,116,101,114]))) (.cons (.ex (.meth .append (.var 3) (.cons (.call "_law_letter_table" (.ex (.var 0) (.ex (.ix (.var 4) (.cst (.int 1))) .nil))) .nil))) .nil) (.cons (.ite (.cmp .eq (.ix (.var 4) (.cst (.int 0))) (.cst (.str [112,97,105,114]))) (.cons (.ex (.meth .append (.var 3) (.cons (.call "_law_times" (.ex (.ix (.var 3) (.ix (.var 4) (.cst (.int 1)))) (.ex (.ix (.var 3) (.ix (.var 4) (.cst (.int 2)))) .nil))) .nil))) .nil) (.cons (.ex (.meth .append (.var 3) (.cons (.call "_law_power" (.ex (.ix (.var 3) (.ix (.var 4) (.cst (.int 1)))) (.ex (.var 2) .nil))) .nil))) .nil)) .nil)) .nil)) (.cons (.ret (.ix (.var 3) (.neg (.cst (.int 1))))) .nil)))⟩
noncomputable def ai7:Df:=⟨"_law_recipe",4,6,(.cons (.asg (.one 4) (.lst .nil)) (.cons (.for_ (.one 5) (.rng1 (.bin .add (.cst (.int 1)) (.call "_law_draw" (.ex (.var 0) (.ex (.var 2) .nil))))) (.cons (.asg (.one 6) (.call "_law_draw" (.ex (.var 0) (.ex (.cst (.int 6)) .nil)))) (.cons (.asg (.one 7) (.call "_law_draw" (.ex (.var 0) (.ex (.bin .add (.var 5) (.cst (.int 1))) .nil)))) (.cons (.asg (.one 8) (.call "_law_draw" (.ex (.var 0) (.ex (.bin .add (.var 5) (.cst (.int 1))) .nil)))) (.cons (.asg (.one 9) (.bin .add (.cst (.int 1)) (.call "_law_draw" (.ex (.var 0) (.ex (.cst (.int 6)) .nil))))) (.cons (.ite (.cmp .eq (.call "_law_draw" (.ex (.var 0) (.ex (.cst (.int 3)) .nil))) (.cst (.int 2))) (.cons (.asg (.one 9) (.bin .add (.cst (.int 1)) (.call "_law_draw" (.ex (.var 0) (.ex (.bin .pow (.cst (.int 10)) (.cst (.int 30))) .nil))))) .nil) .nil) (.cons (.ite (.and (.cmp .gt (.var 5) (.cst (.int 0))) (.and (.cmp .lt (.var 6) (.cst (.int 3))) (.cmp .gt (.var 3) (.cst (.int 0))))) (.cons (.ex (.meth .append (.var 4) (.cons (.tup (.cons (.cst (.str [116,105,109,101,115])) (.cons (.bi .min2 (.cons (.var 7) (.cons (.bin .sub (.var 5) (.cst (.int 1))) .nil))) (.cons (.var 9) .nil)))) .nil))) (.cons (.asg (.one 3) (.bin .sub (.var 3) (.cst (.int 1)))) .nil)) (.cons (.ite (.and (.cmp .gt (.var 5) (.cst (.int 0))) (.cmp .lt (.var 6) (.cst (.int 5)))) (.cons (.ex (.meth .append (.var 4) (.cons (.tup (.cons (.cst (.str [112,97,105,114])) (.cons (.bi .min2 (.cons (.var 7) (.cons (.bin .sub (.var 5) (.cst (.int 1))) .nil))) (.cons (.bi .min2 (.cons (.var 8) (.cons (.bin .sub (.var 5) (.cst (.int 1))) .nil))) .nil)))) .nil))) .nil) (.cons (.ex (.meth .append (.var 4) (.cons (.tup (.cons (.cst (.str [108,101,116,116,101,114])) (.cons (.ix (.cst (.str [97,98,99])) (.bin .mod (.var 7) (.var 1))) .nil))) .nil))) .nil)) .nil)) .nil))))))) (.cons (.ret (.mk .tuple (.seq (.var 4)))) .nil)))⟩
noncomputable def av1:Df:=⟨"long_length",1,0,(.cons (.ret (.ix (.call "counted" (.ex (.var 0) (.ex (.cst (.int 1)) .nil))) (.neg (.cst (.int 1))))) .nil)⟩
noncomputable def aL1:Df:=⟨"letter_at",2,4,(.cons (.asg (.one 2) (.call "counted" (.ex (.var 0) (.ex (.cst (.int 1)) .nil)))) (.cons (.asg (.one 3) (.ix (.var 0) (.neg (.cst (.int 1))))) (.cons (.asg (.one 4) (.var 1)) (.cons (.whl (.cmp .ne (.ix (.var 3) (.cst (.int 0))) (.cst (.str [108,101,116,116,101,114]))) (.cons (.asg (.one 5) (.ix (.var 3) (.cst (.int 1)))) (.cons (.ite (.cmp .eq (.ix (.var 3) (.cst (.int 0))) (.cst (.str [116,105,109,101,115]))) (.cons (.asg (.one 4) (.bin .mod (.var 4) (.ix (.var 2) (.var 5)))) .nil) (.cons (.ite (.cmp .ge (.var 4) (.ix (.var 2) (.var 5))) (.cons (.asg (.one 4) (.bin .sub (.var 4) (.ix (.var 2) (.var 5)))) (.cons (.asg (.one 5) (.ix (.var 3) (.cst (.int 2)))) .nil)) .nil) .nil)) (.cons (.asg (.one 3) (.ix (.var 0) (.var 5))) .nil)))) (.cons (.ret (.ix (.var 3) (.cst (.int 1)))) .nil)))))⟩
noncomputable def aF0:Df:=⟨"long_table",2,0,(.cons (.ret (.call "last_table" (.ex (.var 0) (.ex (.var 1) .nil)))) .nil)⟩
noncomputable def aE9:Df:=⟨"long_price",2,0,(.cons (.ret (.call "least" (.ex (.call "at_begins_and_ends" (.ex (.var 0) (.ex (.call "long_table" (.ex (.var 0) (.ex (.var 1) .nil))) .nil))) .nil))) .nil)⟩
noncomputable def af1:Df:=⟨"_law_recipe",4,6,(.cons (.asg (.one 4) (.lst .nil)) (.cons (.for_ (.one 5) (.rng1 (.bin .add (.cst (.int 1)) (.call "_law_draw" (.ex (.var 0) (.ex (.var 2) .nil))))) (.cons (.asg (.one 6) (.call "_law_draw" (.ex (.var 0) (.ex (.cst (.int 6)) .nil)))) (.cons (.asg (.one 7) (.call "_law_draw" (.ex (.var 0) (.ex (.bin .add (.var 5) (.cst (.int 1))) .nil)))) (.cons (.asg (.one 8) (.call "_law_draw" (.ex (.var 0) (.ex (.bin .add (.var 5) (.cst (.int 1))) .nil)))) (.cons (.asg (.one 9) (.bin .add (.cst (.int 1)) (.call "_law_draw" (.ex (.var 0) (.ex (.cst (.int 6)) .nil))))) (.cons (.ite (.cmp .eq (.call "_law_draw" (.ex (.var 0) (.ex (.cst (.int 3)) .nil))) (.cst (.int 2))) (.cons (.asg (.one 9) (.bin .add (.cst (.int 1)) (.call "_law_draw" (.ex (.var 0) (.ex (.bin .pow (.cst (.int 10)) (.cst (.int 30))) .nil))))) .nil) .nil) (.cons (.ite (.and (.cmp .gt (.var 5) (.cst (.int 0))) (.and (.cmp .lt (.var 6) (.cst (.int 3))) (.cmp .gt (.var 3) (.cst (.int 0))))) (.cons (.ex (.meth .append (.var 4) (.cons (.tup (.cons (.cst (.str [116,105,109,101,115])) (.cons (.bi .min2 (.cons (.var 7) (.cons (.bin .sub (.var 5) (.cst (.int 1))) .nil))) (.cons (.var 9) .nil)))) .nil))) (.cons (.asg (.one 3) (.bin .sub (.var 3) (.cst (.int 1)))) .nil)) (.cons (.ite (.and (.cmp .gt (.var 5) (.cst (.int 0))) (.cmp .lt (.var 6) (.cst (.int 5)))) (.cons (.ex (.meth .append (.var 4) (.cons (.tup (.cons (.cst (.str [112,97,105,114])) (.cons (.bi .min2 (.cons (.var 7) (.cons (.bin .sub (.var 5) (.cst (.int 1))) .nil))) (.cons (.bi .min2 (.cons (.var 8) (.cons (.bin .sub (.var 5) (.cst (.int 1))) .nil))) .nil)))) .nil))) .nil) (.cons (.ex (.meth .append (.var 4) (.cons (.tup (.cons (.cst (.str [108,101,116,116,101,114])) (.cons (.ix (.cst (.str [97,98,99])) (.bin .mod (.var 7) (.var 1))) .nil))) .nil))) .nil)) .nil)) .nil))))))) (.cons (.ret (.mk .tuple (.seq (.var 4)))) .nil)))⟩
noncomputable def bF9:Df:=⟨"_law_due",2,2,(.cons (.asg (.one 2) (.lst .nil)) (.cons (.for_ (.one 3) (.seq (.var 1)) (.cons (.ite (.cmp .eq (.ix (.var 3) (.cst (.int 0))) (.cst (.str [108,101,116,116,101,114]))) (.cons (.ex (.meth .append (.var 2) (.cons (.call "_law_letter_table" (.ex (.var 0) (.ex (.ix (.var 3) (.cst (.int 1))) .nil))) .nil))) .nil) (.cons (.ite (.cmp .eq (.ix (.var 3) (.cst (.int 0))) (.cst (.str [112,97,105,114]))) (.cons (.ex (.meth .append (.var 2) (.cons (.call "_law_times" (.ex (.ix (.var 2) (.ix (.var 3) (.cst (.int 1)))) (.ex (.ix (.var 2) (.ix (.var 3) (.cst (.int 2)))) .nil))) .nil))) .nil) (.cons (.ex (.meth .append (.var 2) (.cons (.call "_law_power" (.ex (.ix (.var 2) (.ix (.var 3) (.cst (.int 1)))) (.ex (.ix (.var 3) (.cst (.int 2))) .nil))) .nil))) .nil)) .nil)) .nil)) (.cons (.ret (.ix (.var 2) (.neg (.cst (.int 1))))) .nil)))⟩
noncomputable def aZ7:Df:=⟨"_law_price",2,3,(.cons (.asg (.one 2) (.cst .non)) (.cons (.for_ (.one 3) (.seq (.ix (.var 0) (.cst (.int 2)))) (.cons (.for_ (.one 4) (.seq (.ix (.var 0) (.cst (.int 3)))) (.cons (.ite (.notN (.ix (.ix (.var 1) (.var 3)) (.var 4))) (.cons (.asg (.one 2) (.call "_law_least" (.ex (.ix (.ix (.var 1) (.var 3)) (.var 4)) (.ex (.var 2) .nil)))) .nil) .nil) .nil)) .nil)) (.cons (.ret (.var 2)) .nil)))⟩
noncomputable def ab2:Df:=⟨"signs_of_pair",2,0,(.cons (.ret (.tup (.cons (.call "sign_product" (.ex (.ix (.var 0) (.cst (.int 0))) (.ex (.ix (.var 1) (.cst (.int 0))) .nil))) (.cons (.bin .add (.ix (.var 0) (.cst (.int 1))) (.ix (.var 1) (.cst (.int 1)))) .nil)))) .nil)⟩
noncomputable def ab4:Df:=⟨"signs_of_times",3,5,(.cons (.asg (.one 3) (.ix (.var 0) (.cst (.int 0)))) (.cons (.asg (.one 4) (.ix (.var 0) (.cst (.int 1)))) (.cons (.asg (.one 5) (.call "steady_power" (.ex (.var 3) .nil))) (.cons (.asg (.one 6) (.ix (.var 5) (.cst (.int 0)))) (.cons (.asg (.one 7) (.bin .mod (.var 1) (.var 6))) (.cons (.ite (.cmp .lt (.bin .fdiv (.var 1) (.var 6)) (.var 2)) (.cons (.ret (.tup (.cons (.call "sign_power" (.ex (.var 3) (.ex (.var 1) .nil))) (.cons (.bin .mul (.var 1) (.var 4)) .nil)))) .nil) .nil) (.cons (.ret (.tup (.cons (.call "sign_product" (.ex (.call "sharpened" (.ex (.ix (.var 5) (.cst (.int 1))) .nil)) (.ex (.call "sign_power" (.ex (.var 3) (.ex (.var 7) .nil))) .nil))) (.cons (.bin .mul (.bin .add (.bin .mul (.cst (.int 2)) (.var 6)) (.var 7)) (.var 4)) .nil)))) .nil)))))))⟩
noncomputable def ad3:Df:=⟨"long_signs",3,1,(.cons (.asg (.one 3) (.bin .mul (.bin .add (.var 2) (.cst (.int 1))) (.call "rooms_of" (.ex (.var 0) .nil)))) (.cons (.ret (.ix (.callC "folded" (.ex (.var 1) (.lam "long_signs.1" [0] (.ex (.glob "signs_of_pair") (.lam "long_signs.0" [3] .nil))))) (.neg (.cst (.int 1))))) .nil))⟩
noncomputable def ad1:Lm:=⟨"long_signs.0",2,1,(.call "signs_of_times" (.ex (.var 0) (.ex (.var 1) (.ex (.var 2) .nil))))⟩
noncomputable def ad0:Lm:=⟨"long_signs.1",1,1,(.tup (.cons (.call "word_signs" (.ex (.var 1) (.ex (.var 0) .nil))) (.cons (.glob "LETTER_WEIGHT") .nil)))⟩
noncomputable def ae1:Df:=⟨"_law_steady",1,2,(.cons (.asg (.one 1) (.cst (.int 1))) (.cons (.asg (.one 2) (.var 0)) (.cons (.whl (.cmp .ne (.call "_law_product" (.ex (.var 2) (.ex (.var 2) .nil))) (.var 2)) (.cons (.asg (.one 2) (.call "_law_product" (.ex (.var 2) (.ex (.var 0) .nil)))) (.cons (.asg (.one 1) (.bin .add (.var 1) (.cst (.int 1)))) .nil))) (.cons (.ret (.tup (.cons (.var 1) (.cons (.var 2) .nil)))) .nil))))⟩
noncomputable def ae6:Df:=⟨"_law_power",2,3,(.cons (.asg (.one 2) (.lst (.cons (.call "_law_unit" (.ex (.bi .len (.cons (.var 0) .nil)) .nil)) .nil))) (.cons (.whl (.cmp .le (.bi .len (.cons (.var 2) .nil)) (.var 1)) (.cons (.asg (.one 3) (.call "_law_product" (.ex (.ix (.var 2) (.neg (.cst (.int 1)))) (.ex (.var 0) .nil)))) (.cons (.ite (.cmp .isin (.var 3) (.var 2)) (.cons (.asg (.one 4) (.meth .index (.var 2) (.cons (.var 3) .nil))) (.cons (.ret (.ix (.var 2) (.bin .add (.var 4) (.bin .mod (.bin .sub (.var 1) (.var 4)) (.bin .sub (.bi .len (.cons (.var 2) .nil)) (.var 4)))))) .nil)) .nil) (.cons (.ex (.meth .append (.var 2) (.cons (.var 3) .nil))) .nil)))) (.cons (.ret (.ix (.var 2) (.var 1))) .nil)))⟩
noncomputable def ad4:Df:=⟨"_law_many_times",4,3,(.cons (.asg (.tup [4,5]) (.call "_law_steady" (.ex (.var 0) .nil))) (.cons (.asg (.one 6) (.bin .mod (.var 2) (.var 4))) (.cons (.ite (.cmp .ge (.bin .fdiv (.var 2) (.var 4)) (.var 3)) (.cons (.ret (.tup (.cons (.call "_law_product" (.ex (.call "_law_sharp" (.ex (.var 5) .nil)) (.ex (.call "_law_power" (.ex (.var 0) (.ex (.var 6) .nil))) .nil))) (.cons (.bin .mul (.bin .add (.bin .mul (.cst (.int 2)) (.var 4)) (.var 6)) (.var 1)) .nil)))) .nil) .nil) (.cons (.ret (.tup (.cons (.call "_law_power" (.ex (.var 0) (.ex (.var 2) .nil))) (.cons (.bin .mul (.var 2) (.var 1)) .nil)))) .nil))))⟩
noncomputable def ag5:Df:=⟨"_law_due",3,6,(.cons (.asg (.one 3) (.lst .nil)) (.cons (.for_ (.one 4) (.seq (.var 1)) (.cons (.ite (.cmp .eq (.ix (.var 4) (.cst (.int 0))) (.cst (.str [108,101,116,116,101,114]))) (.cons (.ex (.meth .append (.var 3) (.cons (.tup (.cons (.call "_law_letter_signs" (.ex (.var 0) (.ex (.ix (.var 4) (.cst (.int 1))) .nil))) (.cons (.cst (.int 3)) .nil))) .nil))) .nil) (.cons (.ite (.cmp .eq (.ix (.var 4) (.cst (.int 0))) (.cst (.str [112,97,105,114]))) (.cons (.asg (.one 5) (.ix (.var 3) (.ix (.var 4) (.cst (.int 1))))) (.cons (.asg (.one 6) (.ix (.var 3) (.ix (.var 4) (.cst (.int 2))))) (.cons (.ex (.meth .append (.var 3) (.cons (.tup (.cons (.call "_law_product" (.ex (.ix (.var 5) (.cst (.int 0))) (.ex (.ix (.var 6) (.cst (.int 0))) .nil))) (.cons (.bin .add (.ix (.var 5) (.cst (.int 1))) (.ix (.var 6) (.cst (.int 1)))) .nil))) .nil))) .nil))) (.cons (.asg (.tup [7,8]) (.ix (.var 3) (.ix (.var 4) (.cst (.int 1))))) (.cons (.ex (.meth .append (.var 3) (.cons (.call "_law_many_times" (.ex (.var 7) (.ex (.var 8) (.ex (.ix (.var 4) (.cst (.int 2))) (.ex (.bin .mul (.bin .add (.var 2) (.cst (.int 1))) (.ix (.var 0) (.cst (.int 1)))) .nil))))) .nil))) .nil))) .nil)) .nil)) (.cons (.ret (.ix (.var 3) (.neg (.cst (.int 1))))) .nil)))⟩
noncomputable def ae3:Df:=⟨"law",1,7,(.cons (.for_ (.one 1) (.rng1 (.bin .add (.bi .min2 (.cons (.cst (.int 1)) (.cons (.bi .len (.cons (.var 0) .nil)) .nil))) (.cst (.int 1)))) (.cons (.asg (.one 2) (.call "_law_box" (.ex (.var 0) (.ex (.var 1) .nil)))) (.cons (.asg (.one 3) (.call "_law_machine" (.ex (.var 2) .nil))) (.cons (.asg (.one 4) (.call "_law_recipe" (.ex (.var 2) (.ex (.ix (.var 3) (.cst (.int 0))) (.ex (.cst (.int 10)) (.ex (.ix (.lst (.cons (.cst (.int 12)) (.cons (.cst (.int 4)) .nil))) (.bi .int (.cons (.cmp .gt (.ix (.var 3) (.cst (.int 1))) (.cst (.int 3))) .nil))) .nil)))))) (.cons (.ite (.cmp .eq (.call "_law_draw" (.ex (.var 2) (.ex (.cst (.int 8)) .nil))) (.cst (.int 3))) (.cons (.asg (.one 4) (.call "_law_tall" (.ex (.var 2) (.ex (.ix (.var 3) (.cst (.int 0))) (.ex (.cst (.int 60)) .nil))))) .nil) .nil) (.cons (.asg (.one 5) (.call "_law_draw" (.ex (.var 2) (.ex (.bin .add (.bin .pow (.cst (.int 10)) (.cst (.int 30))) (.cst (.int 1))) .nil)))) (.cons (.ite (.cmp .gt (.ix (.var 3) (.cst (.int 1))) (.cst (.int 3))) (.cons (.asg (.one 5) (.cst (.int 0))) .nil) .nil) (.cons (.for_ (.one 6) (.seq (.lst (.cons (.bin .add (.cst (.int 1)) (.call "_law_draw" (.ex (.var 2) (.ex (.cst (.int 4)) .nil)))) (.cons (.var 5) .nil)))) (.cons (.asg (.one 7) (.call "long_signs" (.ex (.var 3) (.ex (.var 4) (.ex (.var 6) .nil))))) (.cons (.ite (.or (.not (.bi .isTup (.cons (.var 7) .nil))) (.or (.cmp .ne (.bi .len (.cons (.var 7) .nil)) (.cst (.int 2))) (.cmp .ne (.var 7) (.call "_law_due" (.ex (.var 3) (.ex (.var 4) (.ex (.var 6) .nil))))))) (.cons (.ret (.cst (.bl false))) .nil) .nil) (.cons (.ite (.or (.not (.call "_law_form" (.ex (.ix (.var 7) (.cst (.int 0))) (.ex (.ix (.var 3) (.cst (.int 1))) .nil)))) (.or (.not (.bi .isInt (.cons (.ix (.var 7) (.cst (.int 1))) .nil))) (.bi .isBool (.cons (.ix (.var 7) (.cst (.int 1))) .nil)))) (.cons (.ret (.cst (.bl false))) .nil) .nil) .nil)))) .nil)))))))) (.cons (.ret (.cst (.bl true))) .nil))⟩
noncomputable def co0:Df:=⟨"_law_on",3,5,(.cons (.asg (.one 3) (.mk .list (.comp (.one 0) (.seq (.var 2)) (.cst .non) [none]))) (.cons (.for_ (.tup [4,5,6,7]) (.seq (.ix (.var 0) (.cst (.int 4)))) (.cons (.ite (.and (.cmp .eq (.var 5) (.var 1)) (.notN (.ix (.var 2) (.var 4)))) (.cons (.ite (.or (.isN (.ix (.var 3) (.var 6))) (.cmp .lt (.bin .add (.ix (.var 2) (.var 4)) (.var 7)) (.ix (.var 3) (.var 6)))) (.cons (.setIx (.var 3) (.var 6) (.bin .add (.ix (.var 2) (.var 4)) (.var 7))) .nil) .nil) .nil) .nil) .nil)) (.cons (.ret (.var 3)) .nil)))⟩
class Has (P:Pr)(d:Df):Prop where
 eq:P.df d.name=some d
class HasL (P:Pr)(d:Lm):Prop where
 eq:P.lm d.id=some d
class HasC (P:Pr)(x:String)(v:D):Prop where
 eq:P.con x=some v
noncomputable def fin (s:Sto)(c:Ct)(s':Sto):R D:=match c with
 | .ret v=>zW s v s'
 | .next _=>zW s .non s'
 | _=>.bad
@[simp] theorem zO (s:Sto) (v:D) (s':Sto):fin s (.ret v) s'=zW s v s':=rfl
@[simp] theorem fin_next (s:Sto) (ρ:Env) (s':Sto):fin s (.next ρ) s'=zW s .non s':=rfl
theorem zn {P:Pr}(d:Df)[h:Has P d]{n:Nat}{l:List D}{s:Sto}(hl:l.length=d.ps) :
  (aa0 P (n+1)).call d.name l s=(exs (aa0 P n) d.body (l.map some++ak d.vs none) s).bind (fin s):=by
 simp only[aa0,h.eq,hl,if_true]
 rfl
theorem qY {P:Pr}(d:Lm)[h:HasL P d]{n:Nat}{cs l:List D}{s:Sto}(hl:l.length=d.ps)(hc:cs.length=d.cs)(hn:(D.nclL l&&D.nclL cs&&s.all O.ncl)=true) :
  (aa0 P (n+1)).lam d.id cs l s=(ev (aa0 P n) d.body (l.map some++cs.map some) s).bind (zW s):=by
 simp only[aa0,h.eq,hl,hc,hn,and_self,if_true]
theorem aH5 {P:Pr}{x:String}{v:D}[h:HasC P x v]{n:Nat}:(aa0 P n).con x=some v:=by
 cases n<;>exact h.eq
theorem aF5 (s t:Sto):as0 s (s++t)=true:=by
 unfold as0
 rw[aM]
 intro i h
 rw[aR]at h
 rw[aG h]
 simp
theorem aD4 (s t:Sto)(r:Nat)(o:O)(h:o.bnd s.length=true):as0 s (s.set r o++t)=true:=by
 unfold as0
 rw[aM]
 intro i y
 rw[aR]at y
 rw[aG (by rw[bv];exact y)]
 by_cases e:r=i
 ·subst e;rw[aX y];simp[h]
 ·rw[a9 e];simp
theorem zQ {s t:Sto}{d:D}(h:∀ n,d.bnd n=true)(y:∀ r,d≠.ref r):zW s d (s++t)=.ok d s:=by
 unfold zW
 rw[aF5,if_pos rfl]
 cases d with
 | ref r=>exact absurd rfl (y r)
 | _=>simp[h]
theorem zq {s:Sto}{d:D}(h:∀ n,d.bnd n=true)(y:∀ r,d≠.ref r):zW s d s=.ok d s:=by
 have:=zQ (s:=s) (t:=[]) h y
 rwa [bC]at this
theorem ai3 {s t:Sto}{d:D}{r:Nat}{o:O}(h:∀ n,d.bnd n=true)(y:∀ r,d≠.ref r)(ho:o.bnd s.length=true):zW s d (s.set r o++t)=.ok d (s.set r o):=by
 unfold zW
 rw[aD4 s t r o ho,if_pos rfl]
 have e:(s.set r o++t).take s.length=s.set r o:=by rw[List.take_append_of_le_length (by simp),List.take_of_length_le (by simp)]
 cases d with
 | ref r=>exact absurd rfl (y r)
 | _=>simp only[h,if_true,e]
theorem aR2 {s:Sto}{d:D}{r:Nat}{o:O}(h:∀ n,d.bnd n=true)(y:∀ r,d≠.ref r)(ho:o.bnd s.length=true):zW s d (s.set r o)=.ok d (s.set r o):=by
 have:=ai3 (s:=s) (t:=[]) (r:=r) h y ho
 rwa [bC]at this
theorem aF3 {s t u:Sto}{o:O}(ho:o.bnd s.length=true):zW s (.ref (s.length+t.length)) (s++(t++o::u))=.ok (.ref s.length) (s++[o]):=by
 unfold zW
 rw[aF5,if_pos rfl]
 simp[ho,aj]
@[simp] theorem zR {s:Sto} {i:Int}:zW s (.int i) s=.ok (.int i) s:=zq (λ _=>rfl) (by nofun)
@[simp] theorem aO6 {s:Sto} {i:Bool}:zW s (.bl i) s=.ok (.bl i) s:=zq (λ _=>rfl) (by nofun)
@[simp] theorem ap6 {s:Sto}:zW s .non s=.ok .non s:=zq (λ _=>rfl) (by nofun)
@[simp] theorem bR5 {s:Sto} {x:List Nat}:zW s (.str x) s=.ok (.str x) s:=zq (λ _=>rfl) (by nofun)
theorem jj {c:Env->Sto->R D}{g:Env->Sto->R Ct}:∀ {n:Nat} {ρ:Env} {s:Sto},jK c g n ρ s≠.bad->jK c g (n+1) ρ s=jK c g n ρ s
 | 0,_,_,h=>absurd rfl h
 | n+1,ρ,s,h=>by
  rw[show jK c g (n+1+1) ρ s=tru (c ρ s) (λ b s=>if b then(g ρ s).bind λ y s=>match y with
   | .next ρ=>jK c g (n+1) ρ s|.cont ρ=>jK c g (n+1) ρ s|.brk ρ=>.ok (.next ρ) s|.ret d=>.ok (.ret d) s else .ok (.next ρ) s)from rfl]
  have e:jK c g (n+1) ρ s=tru (c ρ s) (λ b s=>if b then(g ρ s).bind λ y s=>match y with
   | .next ρ=>jK c g n ρ s|.cont ρ=>jK c g n ρ s|.brk ρ=>.ok (.next ρ) s|.ret d=>.ok (.ret d) s else .ok (.next ρ) s):=rfl
  rw[e]at h ⊢
  unfold tru at h ⊢
  cases hc:c ρ s with
  | exc _ _=>rfl
  | bad=>rfl
  | ok d s1 =>
   rw[hc]at h
   cases d with
   | bl b =>
    cases b with
    | false=>rfl
    | true =>
     simp only[R.bind_ok,if_true]at h ⊢
     cases hg:g ρ s1 with
     | exc _ _=>rfl
     | bad=>rfl
     | ok y s2 =>
      rw[hg]at h
      simp only[R.bind_ok]at h ⊢
      cases y with
      | next ρ'=>exact jj h
      | cont ρ'=>exact jj h
      | _=>rfl
   | _=>rfl
theorem qJ {c:Env->Sto->R D}{g:Env->Sto->R Ct}{n:Nat}{ρ:Env}{s:Sto}(h:jK c g n ρ s≠.bad):∀ k,jK c g (n+k) ρ s=jK c g n ρ s
 | 0=>rfl
 | k+1=>by
  have e:=qJ h k
  rw[<-Nat.add_assoc,jj (by rw[e];exact h),e]
theorem bt0 {c:Env->Sto->R D}{g:Env->Sto->R Ct}{n:Nat}{ρ:Env}{s:Sto}{r:Ct}{t:Sto}(h:jK c g n ρ s=.ok r t):whl c g ρ s=.ok r t:=by
 have hb:jK c g n ρ s≠.bad:=by rw[h];nofun
 have hx:∃ n,jK c g n ρ s≠.bad:=⟨n,hb⟩
 unfold whl
 rw[dif_pos hx]
 have B:=qJ hx.choose_spec n
 have y:=qJ hb hx.choose
 rw[<-B,fM,y,h]
theorem aL3 {c:Env->Sto->R D}{g:Env->Sto->R Ct}{ρ ρ':Env}{s s1 s':Sto}(hc:c ρ s=.ok (.bl true) s1)(y:g ρ s1=.ok (.next ρ') s'):whl c g ρ s=whl c g ρ' s':=by
 have key:∀ n,jK c g (n+1) ρ s=jK c g n ρ' s':=λ n=>by
  show tru (c ρ s) _=_
  rw[hc,zC,if_pos rfl,y];rfl
 unfold whl
 by_cases hx:∃ n,jK c g n ρ' s'≠.bad
 ·have hy:∃ n,jK c g n ρ s≠.bad:=⟨hx.choose+1,by rw[key];exact hx.choose_spec⟩
  rw[dif_pos hx,dif_pos hy]
  have B:=qJ hy.choose_spec (hx.choose+1)
  have h:=qJ (n:=hx.choose+1) (ρ:=ρ) (s:=s) (by rw[key];exact hx.choose_spec) hy.choose
  rw[<-B,fM,h,key]
 ·have hy:¬ ∃ n,jK c g n ρ s≠.bad:=λ⟨n,hn⟩=>by
   cases n with
   | zero=>exact hn rfl
   | succ n=>exact hx ⟨n,by rw[<-key];exact hn⟩
  rw[dif_neg hx,dif_neg hy]
theorem aH2 {c:Env->Sto->R D}{g:Env->Sto->R Ct}{ρ:Env}{s s1:Sto}(hc:c ρ s=.ok (.bl false) s1):whl c g ρ s=.ok (.next ρ) s1 :=
 bt0 (n:=1) (by show tru (c ρ s) _=_;rw[hc,zC];rfl)
theorem bc8 {c:Env->Sto->R D}{g:Env->Sto->R Ct}{ρ:Env}{s s1 s':Sto}{d:D}(hc:c ρ s=.ok (.bl true) s1)(h:g ρ s1=.ok (.ret d) s'):whl c g ρ s=.ok (.ret d) s' :=
 bt0 (n:=1) (by show tru (c ρ s) _=_;rw[hc,zC,if_pos rfl,h];rfl)
theorem qX {ok:Sto->Bool}{g:D->Env->Sto->R Ct}(P:Nat->Env->Sto->Prop):∀(l:List D) (k:Nat) (ρ:Env) (s:Sto),
  P k ρ s->(∀(j:Nat) (ρ:Env) (s:Sto),j<=l.length->P (k+j) ρ s->ok s=true)->(∀(j:Nat) (d:D) (ρ:Env) (s:Sto),l[j]?=some d->P (k+j) ρ s->∃ ρ' s',(g d ρ s=.ok (.next ρ') s'\/g d ρ s=.ok (.cont ρ') s')/\P (k+j+1) ρ' s') ->
  ∃ ρ' s',aS7 ok g l ρ s=.ok (.next ρ') s'/\P (k+l.length) ρ' s'
 | [],k,ρ,s,h,o,_=>⟨ρ,s,by show(if ok s then _ else _)=_;rw[if_pos (o 0 ρ s (ah _) h)],h⟩
 | d::l,k,ρ,s,h,o,t=>by
  have ho:=o 0 ρ s (cS _) h
  obtain⟨ρ1,s1,y,C⟩:=t 0 d ρ s rfl h
  obtain⟨ρ2,s2,e,G⟩:=qX P l (k+1) ρ1 s1 C (λ j ρ' s' hj B=>o (j+1) ρ' s' (by simpa using hj) (by rwa [show k+(j+1)=k+1+j by omega])) λ j d' ρ' s' hj B=>by
   have:=t (j+1) d' ρ' s' (by simpa using hj) (by rwa [show k+(j+1)=k+1+j by omega])
   rwa [show k+(j+1)+1=k+1+j+1 by omega]at this
  refine⟨ρ2,s2,?_,by rwa [aQ,show k+(l.length+1)=k+1+l.length by omega]⟩
  show(if ok s then _ else _)=_
  rw[if_pos ho]
  rcases y with y|y<;>(rw[y];exact e)
noncomputable def Nx (Q:Env->Sto->Prop):R Ct->Prop
 | .ok (.next ρ) s=>Q ρ s
 | .ok (.cont ρ) s=>Q ρ s
 | _=>False
@[simp] theorem aZ9 (Q:Env->Sto->Prop) (ρ:Env) (s:Sto):Nx Q (.ok (.next ρ) s)=Q ρ s:=rfl
@[simp] theorem cd9 (Q:Env->Sto->Prop) (ρ:Env) (s:Sto):Nx Q (.ok (.cont ρ) s)=Q ρ s:=rfl
theorem aC9 {Q:Env->Sto->Prop}{r:R Ct}{ρ:Env}{s:Sto}(e:r=.ok (.next ρ) s)(h:Q ρ s):Nx Q r:=by rw[e];exact h
theorem Nx.out {Q:Env->Sto->Prop}:∀ {r:R Ct},Nx Q r->∃ ρ s,(r=.ok (.next ρ) s\/r=.ok (.cont ρ) s)/\Q ρ s
 | .ok (.next ρ) s,h=>⟨ρ,s,.inl rfl,h⟩
 | .ok (.cont ρ) s,h=>⟨ρ,s,.inr rfl,h⟩
 | .ok (.ret _) _,h=>h.elim
 | .ok (.brk _) _,h=>h.elim
 | .exc _ _,h=>h.elim
 | .bad,h=>h.elim
noncomputable def Tst (A B:Sto->Prop):R D->Prop
 | .ok (.bl false) s=>A s
 | .ok (.bl true) s=>B s
 | _=>False
@[simp] theorem aW0 (A B:Sto->Prop) (b:Bool) (s:Sto):Tst A B (.ok (.bl b) s)=if b then B s else A s:=by cases b<;>rfl
theorem Tst.out {A B:Sto->Prop}:∀ {r:R D},Tst A B r->(∃ s,r=.ok (.bl false) s/\A s)\/∃ s,r=.ok (.bl true) s/\B s
 | .ok (.bl false) s,h=>.inl ⟨s,rfl,h⟩
 | .ok (.bl true) s,h=>.inr ⟨s,rfl,h⟩
 | .ok .non _,h=>h.elim
 | .ok (.int _) _,h=>h.elim
 | .ok (.str _) _,h=>h.elim
 | .ok (.tup _) _,h=>h.elim
 | .ok (.ref _) _,h=>h.elim
 | .ok (.fn _) _,h=>h.elim
 | .ok (.clo _ _) _,h=>h.elim
 | .exc _ _,h=>h.elim
 | .bad,h=>h.elim
theorem bq6 {c:Env->Sto->R D}{g:Env->Sto->R Ct}{ρ ρ':Env}{s s1 s':Sto}(hc:c ρ s=.ok (.bl true) s1)(y:g ρ s1=.ok (.cont ρ') s'):whl c g ρ s=whl c g ρ' s':=by
 have key:∀ n,jK c g (n+1) ρ s=jK c g n ρ' s':=λ n=>by
  show tru (c ρ s) _=_
  rw[hc,zC,if_pos rfl,y];rfl
 unfold whl
 by_cases hx:∃ n,jK c g n ρ' s'≠.bad
 ·have hy:∃ n,jK c g n ρ s≠.bad:=⟨hx.choose+1,by rw[key];exact hx.choose_spec⟩
  rw[dif_pos hx,dif_pos hy]
  have B:=qJ hy.choose_spec (hx.choose+1)
  have h:=qJ (n:=hx.choose+1) (ρ:=ρ) (s:=s) (by rw[key];exact hx.choose_spec) hy.choose
  rw[<-B,fM,h,key]
 ·have hy:¬ ∃ n,jK c g n ρ s≠.bad:=λ⟨n,hn⟩=>by
   cases n with
   | zero=>exact hn rfl
   | succ n=>exact hx ⟨n,by rw[<-key];exact hn⟩
  rw[dif_neg hx,dif_neg hy]
theorem bN4 {c:Env->Sto->R D}{g:Env->Sto->R Ct}(P:Nat->Env->Sto->Prop)(Q:Env->Sto->Prop)
  (step:∀ k ρ s,P k ρ s->Tst (λ s1=>Q ρ s1) (λ s1=>Nx (λ ρ' s'=>∃ y,y<k/\P y ρ' s') (g ρ s1)) (c ρ s)) :
  ∀(k:Nat) (ρ:Env) (s:Sto),P k ρ s->∃ ρ' s',whl c g ρ s=.ok (.next ρ') s'/\Q ρ' s':=by
 intro k
 induction k using f8 with
 | _ k ih =>
  intro ρ s h
  rcases(step k ρ s h).out with⟨s1,hc,hq⟩|⟨s1,hc,hn⟩
  ·exact⟨ρ,s1,aH2 hc,hq⟩
  ·obtain⟨ρ',s',B,y,hk,C⟩:=hn.out
   rcases B with B|B
   ·rw[aL3 hc B];exact ih y hk ρ' s' C
   ·rw[bq6 hc B];exact ih y hk ρ' s' C
theorem bn1 {c:Env->Sto->R D}{g:Env->Sto->R Ct}{ρ:Env}{s:Sto}{α:Type}{f:Ct->Sto->R α}{W:R α->Prop}(P:Nat->Env->Sto->Prop)(Q:Env->Sto->Prop)(k:Nat)(h:P k ρ s)
  (step:∀ k ρ s,P k ρ s->Tst (λ s1=>Q ρ s1) (λ s1=>Nx (λ ρ' s'=>∃ y,y<k/\P y ρ' s') (g ρ s1)) (c ρ s))
  (B:∀ ρ' s',Q ρ' s'->W (f (.next ρ') s')):W ((whl c g ρ s).bind f):=by
 obtain⟨ρ',s',e,q⟩:=bN4 P Q step k ρ s h
 rw[e]
 exact B ρ' s' q
theorem aw8 {c:Env->Sto->R D}{g:Env->Sto->R Ct}{ρ:Env}{s:Sto}{α:Type}{f:Ct->Sto->R α}{x:R α}(P:Nat->Env->Sto->Prop)(Q:Env->Sto->Prop)(k:Nat)(h:P k ρ s)
  (step:∀ k ρ s,P k ρ s->Tst (λ s1=>Q ρ s1) (λ s1=>Nx (λ ρ' s'=>∃ y,y<k/\P y ρ' s') (g ρ s1)) (c ρ s))
  (B:∀ ρ' s',Q ρ' s'->f (.next ρ') s'=x):(whl c g ρ s).bind f=x:=bn1 (W:=(·=x)) P Q k h step B
theorem jf {ok:Sto->Bool}{g:D->Env->Sto->R Ct}{l:List D}{ρ:Env}{s:Sto}{α:Type}{f:Ct->Sto->R α}{W:R α->Prop}(P:Nat->Env->Sto->Prop)(h:P 0 ρ s)
  (o:∀(j:Nat) (ρ:Env) (s:Sto),j<=l.length->P j ρ s->ok s=true) (step:∀(j:Nat) (d:D) (ρ:Env) (s:Sto),l[j]?=some d->P j ρ s->Nx (P (j+1)) (g d ρ s))
  (B:∀ ρ' s',P l.length ρ' s'->W (f (.next ρ') s')):W ((aS7 ok g l ρ s).bind f):=by
 obtain⟨ρ',s',e,q⟩:=qX P l 0 ρ s h (λ j ρ s hj y=>o j ρ s hj (by rwa [bA]at y)) (λ j d ρ s hj y=>by
  rw[bA]at y ⊢
  exact(step j d ρ s hj y).out)
 rw[e]
 rw[bA]at q
 exact B ρ' s' q
theorem aj4 {ok:Sto->Bool}{g:D->Env->Sto->R Ct}{l:List D}{ρ:Env}{s:Sto}{α:Type}{f:Ct->Sto->R α}{x:R α}(P:Nat->Env->Sto->Prop)(h:P 0 ρ s)
  (o:∀(j:Nat) (ρ:Env) (s:Sto),j<=l.length->P j ρ s->ok s=true) (step:∀(j:Nat) (d:D) (ρ:Env) (s:Sto),l[j]?=some d->P j ρ s->Nx (P (j+1)) (g d ρ s))
  (y:∀ ρ' s',P l.length ρ' s'->f (.next ρ') s'=x):(aS7 ok g l ρ s).bind f=x:=jf (W:=(·=x)) P h o step y
section
variable {F:Fns} {ρ:Env} {s:Sto}
@[simp] theorem zg (i:Nat):ev F (.var i) ρ s=aI8 ρ i s:=rfl
@[simp] theorem zE (c:Cn):ev F (.cst c) ρ s=.ok c.d s:=rfl
@[simp] theorem qh (op:BOp) (a b:E):ev F (.bin op a b) ρ s=(ev F a ρ s).bind λ x s=>(ev F b ρ s).bind λ y s=>qN op x y s:=rfl
@[simp] theorem ev_not (a:E):ev F (.not a) ρ s=tru (ev F a ρ s) λ b s=>.ok (.bl (!b)) s:=rfl
@[simp] theorem zH (op:COp) (a b:E):ev F (.cmp op a b) ρ s=(ev F a ρ s).bind λ x s=>(ev F b ρ s).bind λ y s=>qE op x y s:=rfl
@[simp] theorem bZ8 (o p:COp) (a b c:E):ev F (.chain o p a b c) ρ s=(ev F a ρ s).bind λ x s=>(ev F b ρ s).bind λ y s=>tru (qE o x y s) λ k s=>if k then(ev F c ρ s).bind λ z s=>qE p y z s else .ok (.bl false) s:=rfl
@[simp] theorem ev_isN (a:E):ev F (.isN a) ρ s=(ev F a ρ s).bind λ x s=>.ok (.bl (decide (x=.non))) s:=rfl
@[simp] theorem ev_notN (a:E):ev F (.notN a) ρ s=(ev F a ρ s).bind λ x s=>.ok (.bl (!decide (x=.non))) s:=rfl
@[simp] theorem ev_and (a b:E):ev F (.and a b) ρ s=tru (ev F a ρ s) λ c s=>if c then tru (ev F b ρ s) λ c s=>.ok (.bl c) s else .ok (.bl false) s:=rfl
@[simp] theorem ev_or (a b:E):ev F (.or a b) ρ s=tru (ev F a ρ s) λ c s=>if c then .ok (.bl true) s else tru (ev F b ρ s) λ c s=>.ok (.bl c) s:=rfl
@[simp] theorem ev_ite (c a b:E):ev F (.ite c a b) ρ s=tru (ev F c ρ s) λ k s=>if k then ev F a ρ s else ev F b ρ s:=rfl
@[simp] theorem ev_tup (es:Es):ev F (.tup es) ρ s=(evs F es ρ s).bind λ l s=>.ok (.tup l) s:=rfl
@[simp] theorem ev_lst (es:Es):ev F (.lst es) ρ s=(evs F es ρ s).bind λ l s=>ag0 (.lst l) s:=rfl
@[simp] theorem js (a b:E):ev F (.ix a b) ρ s=(ev F a ρ s).bind λ x s=>(ev F b ρ s).bind λ y s=>ixM x y s:=rfl
@[simp] theorem zS (f:String) (h:As):ev F (.call f h) ρ s=(ap0 F h ρ s).bind λ l s=>F.call f l s:=rfl
@[simp] theorem qL (f:String) (h:As):ev F (.callC f h) ρ s=(ap0 F h ρ s).bind λ l s=>(F.call f l s).bind λ d s'=>if(d.ncl&&s'.all O.ncl)=true then .ok d s' else .bad:=rfl
@[simp] theorem jo (b:Bi) (es:Es):ev F (.bi b es) ρ s=(evs F es ρ s).bind λ l s=>bi b l s:=rfl
@[simp] theorem ev_mk (k:Mk) (h:L):ev F (.mk k h) ρ s=(evL F h ρ s).bind λ q s=>mk k q s:=rfl
@[simp] theorem ev_mkD (k:Mk) (h:L) (d:E):ev F (.mkD k h d) ρ s=(evL F h ρ s).bind λ q s=>(ev F d ρ s).bind λ d s=>mkD k q d s:=rfl
@[simp] theorem ev_mks (k:Mk) (e:E):ev F (.mks k e) ρ s=(ev F e ρ s).bind λ x s=>(bK6 x s).bind λ q s=>mk k q s:=rfl
@[simp] theorem ev_mkDs (k:Mk) (e d:E):ev F (.mkDs k e d) ρ s=(ev F e ρ s).bind λ x s=>(ev F d ρ s).bind λ z s=>(bK6 x s).bind λ q s=>mkD k q z s:=rfl
@[simp] theorem qp (m:Mt) (o:E) (es:Es):ev F (.meth m o es) ρ s=(ev F o ρ s).bind λ x s=>(evs F es ρ s).bind λ l s=>meth m x l s:=rfl
@[simp] theorem ce7 (o e:E):ev F (.extS o e) ρ s=(ev F o ρ s).bind λ x s=>(ev F e ρ s).bind λ y s=>extS x y s:=rfl
@[simp] theorem cl2 (a:E):ev F (.rev a) ρ s=(ev F a ρ s).bind λ x s=>cl0 x s:=rfl
@[simp] theorem cl8 (o:E) (h:L):ev F (.ext o h) ρ s=(ev F o ρ s).bind λ x s=>(evL F h ρ s).bind λ q s=>bQ2 x q s:=rfl
@[simp] theorem zu:evs F .nil ρ s=.ok [] s:=rfl
@[simp] theorem zo (e:E) (es:Es):evs F (.cons e es) ρ s=(ev F e ρ s).bind λ d s=>(evs F es ρ s).bind λ l s=>.ok (d::l) s:=rfl
@[simp] theorem zB:ap0 F .nil ρ s=.ok [] s:=rfl
@[simp] theorem zI (e:E) (h:As):ap0 F (.ex e h) ρ s=(ev F e ρ s).bind λ d s=>(ap0 F h ρ s).bind λ l s=>.ok (d::l) s:=rfl
@[simp] theorem ch8 (f:String) (h:As):ap0 F (.fn f h) ρ s=(ap0 F h ρ s).bind λ l s=>.ok (.fn f::l) s:=rfl
@[simp] theorem evI_seq (e:E):evI F (.seq e) ρ s=(ev F e ρ s).bind λ d s=>aG1 d s:=rfl
@[simp] theorem bZ2 (es:Es):evL F (.disp es) ρ s=evs F es ρ s:=rfl
@[simp] theorem evL_seq (e:E):evL F (.seq e) ρ s=(ev F e ρ s).bind λ d s=>aM8 d s:=rfl
noncomputable def bq1 (x:D):M Sq:=λ s=>match x with|.int i=>if -W62<=i/\i<W62 then .ok ⟨jh 0 i,[]⟩ s else .bad|_=>.bad
@[simp] theorem z6 (a:E):evI F (.rng1 a) ρ s=(ev F a ρ s).bind λ x s=>bq1 x s:=rfl
theorem zN {i:Int}(h0:-W62<=i)(h:i<W62):bq1 (.int i) s=.ok ⟨jh 0 i,[]⟩ s:=by unfold bq1;simp only[h0,h,and_self,if_true]
noncomputable def nxt (F:Fns)(ss:Ss)(c:Ct)(s:Sto):R Ct:=match c with|.next ρ=>exs F ss ρ s|c=>.ok c s
@[simp] theorem zd (h:Ss) (ρ:Env) (s:Sto):nxt F h (.next ρ) s=exs F h ρ s:=rfl
@[simp] theorem zJ (h:Ss) (d:D) (s:Sto):nxt F h (.ret d) s=.ok (.ret d) s:=rfl
@[simp] theorem nxt_cont (h:Ss) (ρ:Env) (s:Sto):nxt F h (.cont ρ) s=.ok (.cont ρ) s:=rfl
@[simp] theorem zh:exs F .nil ρ s=.ok (.next ρ) s:=rfl
@[simp] theorem za (st:S) (h:Ss):exs F (.cons st h) ρ s=(ex F st ρ s).bind (nxt F h):=rfl
noncomputable def cc3 (ρ:Option Env)(s:Sto):R Ct:=match ρ with|some ρ=>.ok (.next ρ) s|none=>.bad
@[simp] theorem zr (ρ:Env) (s:Sto):cc3 (some ρ) s=.ok (.next ρ) s:=rfl
@[simp] theorem zU (tg:Tg) (e:E):ex F (.asg tg e) ρ s=(ev F e ρ s).bind λ d s=>cc3 (af2 ρ tg d) s:=rfl
@[simp] theorem ex_setIx (o i e:E):ex F (.setIx o i e) ρ s=(ev F e ρ s).bind λ d s=>(ev F o ρ s).bind λ x s=>(ev F i ρ s).bind λ y s=>(setIx x y d s).bind λ _ s=>.ok (.next ρ) s:=rfl
@[simp] theorem ex_ex (e:E):ex F (.ex e) ρ s=(ev F e ρ s).bind λ _ s=>.ok (.next ρ) s:=rfl
@[simp] theorem qf (e:E):ex F (.ret e) ρ s=(ev F e ρ s).bind λ d s=>.ok (.ret d) s:=rfl
@[simp] theorem cg5:ex F .retN ρ s=.ok (.ret .non) s:=rfl
@[simp] theorem zY (c:E) (a b:Ss):ex F (.ite c a b) ρ s=tru (ev F c ρ s) λ k s=>if k then exs F a ρ s else exs F b ρ s:=rfl
@[simp] theorem ex_whl (c:E) (b:Ss):ex F (.whl c b) ρ s=whl (ev F c) (exs F b) ρ s:=rfl
noncomputable def turn (F:Fns)(tg:Tg)(b:Ss)(d:D)(ρ:Env)(s:Sto):R Ct:=match af2 ρ tg d with
 | some ρ=>exs F b ρ s
 | none=>.bad
@[simp] theorem ex_for (tg:Tg) (h:I) (b:Ss):ex F (.for_ tg h b) ρ s=(evI F h ρ s).bind λ q s0=>aS7 (λ s=>chk s0 s q.src) (turn F tg b) q.its ρ s0:=rfl
@[simp] theorem ex_cont:ex F .cont ρ s=.ok (.cont ρ) s:=rfl
@[simp] theorem ex_und (i:Nat):ex F (.und i) ρ s=cc3 (ag8 ρ i) s:=rfl
@[simp] theorem ex_pass:ex F .pass ρ s=.ok (.next ρ) s:=rfl
@[simp] theorem zb (i:Nat) (d:D):af2 ρ (.one i) d=au6 ρ i d:=rfl
@[simp] theorem bindT_tup (is:List Nat) (l:List D):af2 ρ (.tup is) (.tup l)=al9 ρ is l:=rfl
@[simp] theorem setVs_nil:al9 ρ [] []=some ρ:=rfl
@[simp] theorem setVs_cons (i:Nat) (is:List Nat) (d:D) (l:List D):al9 ρ (i::is) (d::l)=(au6 ρ i d).bind λ ρ=>al9 ρ is l:=rfl
@[simp] theorem ze (d:D) (ρ:Env):aI8 (some d::ρ) 0 s=.ok d s:=rfl
@[simp] theorem zl (x:Option D) (ρ:Env) (i:Nat):aI8 (x::ρ) (i+1) s=aI8 ρ i s:=by unfold aI8;rw[List.getElem?_cons_succ]
@[simp] theorem zx (d:D) (x:Option D) (ρ:Env):au6 (x::ρ) 0 d=some (some d::ρ):=rfl
@[simp] theorem zD (d:D) (x:Option D) (ρ:Env) (i:Nat):au6 (x::ρ) (i+1) d=(au6 ρ i d).map (x::·):=by
 unfold au6
 by_cases h:i < ρ.length
 ·rw[if_pos (by simpa using h),if_pos h];rfl
 ·rw[if_neg (by simpa using h),if_neg h];rfl
@[simp] theorem unsetV_0 (x:Option D) (ρ:Env):ag8 (x::ρ) 0=some (none::ρ):=rfl
@[simp] theorem unsetV_s (x:Option D) (ρ:Env) (i:Nat):ag8 (x::ρ) (i+1)=(ag8 ρ i).map (x::·):=by
 unfold ag8
 by_cases h:i < ρ.length
 ·rw[if_pos (by simpa using h),if_pos h];rfl
 ·rw[if_neg (by simpa using h),if_neg h];rfl
@[simp] theorem zG (i:Int):(Cn.int i).d=.int i:=rfl
@[simp] theorem Cn_bl (i:Bool):(Cn.bl i).d=.bl i:=rfl
@[simp] theorem Cn_str (i:List Nat):(Cn.str i).d=.str i:=rfl
@[simp] theorem Cn_non:Cn.non.d=.non:=rfl
@[simp] theorem add_int (a b:Int):qN .add (.int a) (.int b) s=.ok (.int (a+b)) s:=rfl
@[simp] theorem sub_int (a b:Int):qN .sub (.int a) (.int b) s=.ok (.int (a - b)) s:=rfl
theorem ad8 {a b:Int}(h:mulOk a b=true):qN .mul (.int a) (.int b) s=.ok (.int (a*b)) s:=by show(if mulOk a b then _ else _:M D) s=_;rw[if_pos h];rfl
theorem qO {a b:Int}(h:a.natAbs<2^64):mulOk a b=true:=by unfold mulOk;simp[h]
theorem az0 {a b:Int}(h:b.natAbs<2^64):mulOk a b=true:=by unfold mulOk;simp[h]
theorem jm {a b:Int}(h:0<b):qN .mod (.int a) (.int b) s=.ok (.int (a % b)) s:=by show(if 0<b then _ else _:M D) s=_;rw[if_pos h];rfl
theorem bG2:(10:Int)^200<=(DIVL:Int):=by unfold DIVL;decide +kernel
theorem aj6 {a b:Int}(h:0<b)(y:b<10^200):qN .fdiv (.int a) (.int b) s=.ok (.int (a / b)) s:=by show(if 0<b/\b<(DIVL:Int)then _ else _:M D) s=_;rw[if_pos ⟨h,Int.lt_of_lt_of_le y bG2⟩];rfl
theorem ax0 {a b:Int}(h:0<=b/\b<=1000000/\a.natAbs<2^64):qN .pow (.int a) (.int b) s=.ok (.int (a^b.toNat)) s:=by show(if _ then _ else _:M D) s=_;rw[if_pos h];rfl
@[simp] theorem lt_int (a b:Int):qE .lt (.int a) (.int b) s=.ok (.bl (decide (a<b))) s:=rfl
@[simp] theorem le_int (a b:Int):qE .le (.int a) (.int b) s=.ok (.bl (decide (a<=b))) s:=rfl
@[simp] theorem gt_int (a b:Int):qE .gt (.int a) (.int b) s=.ok (.bl (decide (b<a))) s:=rfl
@[simp] theorem ge_int (a b:Int):qE .ge (.int a) (.int b) s=.ok (.bl (decide (b<=a))) s:=rfl
@[simp] theorem jB (a b:Int):qE .eq (.int a) (.int b) s=.ok (.bl (decide (a=b))) s:=rfl
@[simp] theorem ne_int (a b:Int):qE .ne (.int a) (.int b) s=.ok (.bl (!decide (a=b))) s:=rfl
@[simp] theorem qZ (o:O):ag0 o s=.ok (.ref s.length) (s++[o]):=rfl
@[simp] theorem aW8 (l:List D):bi .len [.tup l] s=.ok (.int l.length) s:=rfl
@[simp] theorem bF5 (l:List Nat):bi .len [.str l] s=.ok (.int l.length) s:=rfl
theorem bb5 {r:Nat}{l:List D}(h:s[r]?=some (.lst l)):bi .len [.ref r] s=.ok (.int l.length) s:=by simp only[bi,bi1,bD6,h]
theorem bs4 {r:Nat}{l:List D}(h:s[r]?=some (.ro l)):bi .len [.ref r] s=.ok (.int l.length) s:=by simp only[bi,bi1,bD6,h]
@[simp] theorem cb9 (i:Int):bi .abs [.int i] s=.ok (.int (if i<0 then -i else i)) s:=rfl
@[simp] theorem aj3 (a b:Int):bi .min2 [.int a,.int b] s=.ok (.int (if b<a then b else a)) s:=rfl
@[simp] theorem bo4 (a b:Int):bi .max2 [.int a,.int b] s=.ok (.int (if b > a then b else a)) s:=rfl
@[simp] theorem bc6 (a:Int):bi .isInt [.int a] s=.ok (.bl true) s:=rfl
@[simp] theorem aR7 (a:Int):bi .isBool [.int a] s=.ok (.bl false) s:=rfl
@[simp] theorem bR2 (l:List D):bi .isTup [.tup l] s=.ok (.bl true) s:=rfl
theorem ce1 {r:Nat}{l:List D}{j:Nat}{d:D}(h:s[r]?=some (.ro l))(hj:l[j]?=some d):ixM (.ref r) (.int (j:Int)) s=.ok d s:=by
 have hl:j<l.length:=(ab.mp hj).1
 have e:l[j]=d:=(ab.mp hj).2
 simp[ixM,h,ixn,hl,e]
theorem qM {r:Nat}{l:List D}{j:Nat}{d:D}(h:s[r]?=some (.lst l))(hj:l[j]?=some d):ixM (.ref r) (.int (j:Int)) s=.ok d s:=by
 have hl:j<l.length:=(ab.mp hj).1
 have e:l[j]=d:=(ab.mp hj).2
 simp[ixM,h,ixn,hl,e]
theorem ix_tup {l:List D}{j:Nat}{d:D}(hj:l[j]?=some d):ixM (.tup l) (.int (j:Int)) s=.ok d s:=by
 have hl:j<l.length:=(ab.mp hj).1
 have e:l[j]=d:=(ab.mp hj).2
 simp[ixM,ixn,hl,e]
theorem bI8 {r:Nat}{l:List D}{j:Nat}{v:D}(h:s[r]?=some (.lst l))(hl:j<l.length):setIx (.ref r) (.int (j:Int)) v s=.ok () (s.set r (.lst (l.set j v))):=by
 simp[setIx,h,ixn,hl]
theorem jz {r:Nat}{l:List D}{v:D}(h:s[r]?=some (.lst l))(hl:l.length<LIM):meth .append (.ref r) [v] s=.ok .non (s.set r (.lst (l++[v]))):=by
 simp[meth,h,hl]
end
theorem aI0 (s t:Sto)(b:Bool):∃ s',zW s (.bl b) t=.ok (.bl b) s':=by
 unfold zW
 by_cases h:as0 s t=true
 ·rw[if_pos h];exact⟨_,rfl⟩
 ·rw[if_neg h];exact⟨_,rfl⟩
def Yes (r:R D):Prop:=∃ s',r=.ok (.bl true) s'
theorem bg4 (s t:Sto):Yes (zW s (.bl true) t):=aI0 s t true
theorem aj8 {a b:Int}{j:Nat}{d:D}(h:(jh a b)[j]?=some d):(j:Int)<b - a/\d=.int (a+j):=by
 have hj:=(ab.mp h).1
 simp only[jh,aF,bT]at hj
 unfold jh at h
 rw[ax,aY hj]at h
 exact⟨by omega,(ao h).symm⟩
def cb2 (P:Pr)(k:Nat):Prop:=∀ ns:List Int,ns.length<=63->Yes ((aa0 P k).call "law" [.ref 0] [.ro (ns.map D.int)])
noncomputable def qR:Option Int->D
 | none=>.non
 | some i=>.int i
@[simp] theorem ai9:qR none=.non:=rfl
@[simp] theorem jr (i:Int):qR (some i)=.int i:=rfl
@[simp] theorem ja (p:Option Int) (n:Nat):(qR p).bnd n=true:=by cases p<;>rfl
theorem ay2 (p:Option Int)(r:Nat):qR p≠.ref r:=by cases p<;>nofun
@[simp] theorem aT2 {s:Sto} {p:Option Int}:zW s (qR p) s=.ok (qR p) s:=zq (ja p) (ay2 p)
noncomputable def cn5 (b:Nat×Nat):O:=.lst [.int b.1,.int b.2]
@[simp] theorem bZ0 (b:Nat×Nat) (n:Nat):(cn5 b).bnd n=true:=rfl
noncomputable def tkW (many:Nat):Nat->Nat->Nat->Nat->Nat×Nat
 | 0,mix,num,_=>(num,mix)
 | n+1,mix,num,room=>if room<many then tkW many n ((mix*48271+7919) % 2147483647) (num*1073741789+(mix*48271+7919) % 2147483647 / 8*69621 % 1073741789) (room*1073741789)else(num,mix)
noncomputable def tk (b:Nat×Nat)(many:Nat):Nat×(Nat×Nat) :=
 if 0<b.1 then(b.1 % many,(b.1 / many,b.2))else let r:=tkW many 12 b.2 0 1;(r.1 % many,(b.1,r.2))
theorem by6 {s t:Sto}{r:Nat}{o:O}(h:r<s.length):(s++t).set r o=s.set r o++t:=by rw[iT,if_pos h]
theorem aw5 {s t:Sto}{r:Nat}{o:O}(h:s[r]?=some o):(s++t)[r]?=some o:=by
 rw[aG (ab.mp h).1];exact h
theorem ba7 {s:Sto}{r:Nat}{o:O}(h:r<s.length):(s.set r o)[r]?=some o:=aX h
noncomputable def bd (b:Nat×Nat):Nat×(Nat×Nat) :=
 let x0:=tk b 3
 let x1:=tk x0.2 13
 let x2:=tk x1.2 1000000000
 let x3:=tk x2.2 1000000000000000000000000000000
 let i:=tk x3.2 4
 ([x0.1,x1.1,x2.1,x3.1].getD i.1 0,i.2)
section
variable {F:Fns} {ρ:Env} {s:Sto}
noncomputable def qj (F:Fns)(tg:Tg)(e:E)(d:D)(ρ:Env)(s:Sto):R (Option D×Env):=match af2 ρ tg d with
 | some ρ=>(ev F e ρ s).bind λ v s=>.ok (some v,ρ) s
 | none=>.bad
noncomputable def aF2 (F:Fns)(tg:Tg)(c e:E)(d:D)(ρ:Env)(s:Sto):R (Option D×Env):=match af2 ρ tg d with
 | some ρ=>tru (ev F c ρ s) λ k s=>if k then(ev F e ρ s).bind λ v s=>.ok (some v,ρ) s else .ok (none,ρ) s
 | none=>.bad
@[simp] theorem jb (tg:Tg) (y:I) (e:E) (h:List (Option Nat)):evL F (.comp tg y e h) ρ s=(evI F y ρ s).bind λ q s0=>if q.its.length<=LIM then qS (λ s=>chk s0 s q.src) (qj F tg e) q.its (zX ρ h) s0 else .bad:=rfl
@[simp] theorem jw (tg:Tg) (y:I) (c e:E) (h:List (Option Nat)):evL F (.compIf tg y c e h) ρ s=(evI F y ρ s).bind λ q s0=>if q.its.length<=LIM then qS (λ s=>chk s0 s q.src) (aF2 F tg c e) q.its (zX ρ h) s0 else .bad:=rfl
@[simp] theorem ck9 (a h:E):ev F (.slU a h) ρ s=(ev F a ρ s).bind λ x s=>(ev F h ρ s).bind λ y s=>match y with|.int i=>slM x none (some i) s|_=>.bad:=rfl
@[simp] theorem ck8 (a h:E):ev F (.slL a h) ρ s=(ev F a ρ s).bind λ x s=>(ev F h ρ s).bind λ y s=>match y with|.int i=>slM x (some i) none s|_=>.bad:=rfl
end
theorem aj1 {ok:Sto->Bool}{g:D->Env->Sto->R (Option D×Env)}(P:Env->Sto->Prop)(f:D->Option D):∀(l:List D) (ρ:Env) (s:Sto),P ρ s ->
  (∀ ρ s,P ρ s->ok s=true)->(∀ d∈l,∀ ρ s,P ρ s->∃ ρ' s',g d ρ s=.ok (f d,ρ') s'/\P ρ' s')->∃ ρ' s',qS ok g l ρ s=.ok (l.filterMap f) s'/\P ρ' s'
 | [],ρ,s,h,o,_=>⟨ρ,s,by unfold qS;rw[if_pos (o ρ s h)];rfl,h⟩
 | d::l,ρ,s,h,o,st=>by
  obtain⟨ρ1,s1,e1,B⟩:=st d (aD ..) ρ s h
  obtain⟨ρ2,s2,e2,y⟩:=aj1 P f l ρ1 s1 B o λ x hx=>st x (au _ hx)
  refine⟨ρ2,s2,?_,y⟩
  unfold qS
  rw[if_pos (o ρ s h),e1]
  simp only[R.bind_ok]
  rw[e2,br]
  cases f d<;>rfl
theorem qk {k:Int}(h:k<=1000):k<=10^90:=bS h (by decide)
theorem aW7 {k:Int}{s:Sto}(h:0<=k/\k<=1000000):qN .shl (.int 1) (.int k) s=.ok (.int (1*2^k.toNat)) s:=by
 show(if 0<=k/\k<=1000000/\(1:Int).natAbs<2^64 then _ else _:M D) s=_
 rw[if_pos ⟨h.1,h.2,by decide⟩];rfl
theorem z9 {l:List D}(h:∀ d∈l,∀ n,d.bnd n=true)(n:Nat):D.bndL n l=true:=by
 induction l with
 | nil=>rfl
 | cons d l ih=>unfold D.bndL;rw[h d (aD ..),ih λ x hx=>h x (au _ hx)];rfl
noncomputable def bi0 (bits:Nat):D->Option D
 | .int i=>if(bits:Int) / (1*2^i.toNat) % 2=1 then some (.int i)else none
 | _=>none
theorem aV0 {k:Nat}(h:k<3)(s:Sto):ixM (.str [97,98,99]) (.int (k:Int)) s=.ok (.str [97+k]) s:=by
 match k,h with
 | 0,_=>rfl
 | 1,_=>rfl
 | 2,_=>rfl
theorem bA6 {a b:List Nat}{s:Sto}(h:a.length+b.length<=LIM):qN .add (.str a) (.str b) s=.ok (.str (a++b)) s:=by
 show(if a.length+b.length<=LIM then _ else _:M D) s=_;rw[if_pos h];rfl
def Lts (L:Nat)(w:List Nat):Prop:=∀ c∈w,97<=c/\c<97+L
theorem rep_len (l:List Nat):∀ n,(rep n l).length=l.length*n
 | 0=>by simp[rep]
 | n+1=>by simp[rep,rep_len l n,gC];omega
noncomputable def bL0 (L:Nat)(d:D):Bool:=match d with
 | .str w=>decide (w.length<=200)&&w.all λ c=>decide (97<=c/\c<97+L)
 | _=>false
noncomputable def bE4 (s:Sto):D->Prop
 | .fn _=>False
 | .clo _ _=>False
 | .ref k=>∃ l,s[k]?=some (.lst l)
 | _=>True
theorem aK5 {P:Pr}{x:String}{v:D}[HasC P x v]{n:Nat}{ρ:Env}{s:Sto}:ev (aa0 P n) (.glob x) ρ s=.ok v s:=by
 show(match(aa0 P n).con x with|some d=>R.ok d s|none=>.bad)=_
 rw[aH5 (v:=v)]
@[simp] theorem ck5 {F:Fns} {ρ:Env} {s:Sto} (a:E):ev F (.neg a) ρ s=(ev F a ρ s).bind λ x s=>match x with|.int i=>.ok (.int (-i)) s|_=>.bad:=rfl
structure Dr where
 a:Nat
 l:Nat
 b:Nat
 t:Nat
noncomputable def Dr.d (x:Dr):D:=.tup [.int x.a,.str [x.l],.int x.b,.int x.t]
structure Mc where
 L:Nat
 R:Nat
 bg:List Nat
 en:List Nat
 ds:List Dr
noncomputable def by9 (l:List Nat):List D:=l.map λ(k:Nat)=>D.int (k:Int)
noncomputable def sg (w:List Nat):List D:=w.map λ c=>.str [c]
noncomputable def Mc.ps (m:Mc):List D:=[.int m.L,.int m.R,.tup (by9 m.bg),.tup (by9 m.en),.tup (m.ds.map Dr.d)]
noncomputable def Mc.d (m:Mc):D:=.tup m.ps
structure Dr.Ok (m:Mc)(x:Dr):Prop where
 a:x.a<m.R
 l:97<=x.l/\x.l<97+m.L
 b:x.b<m.R
 t:x.t<4
structure Mc.Ok (m:Mc):Prop where
 L1:1<=m.L
 L3:m.L<=3
 R1:1<=m.R
 R5:m.R<=5
 bg:(∀ k∈m.bg,k<m.R)/\m.bg.Pairwise (· < ·)
 en:(∀ k∈m.en,k<m.R)/\m.en.Pairwise (· < ·)
 ds:(∀ x∈m.ds,x.Ok m)/\m.ds.length<=75
theorem aN1 {l:List Nat}:∀ d∈by9 l,∀ n,d.bnd n=true:=λ d hd n=>by
 obtain⟨c,_,rfl⟩:=av.mp hd;rfl
theorem bb9 {l:List Dr}:∀ d∈l.map Dr.d,∀ n,d.bnd n=true:=λ d hd n=>by
 obtain⟨c,_,rfl⟩:=av.mp hd;rfl
theorem bJ6 {m:Mc}:∀ d∈m.ps,∀ n,d.bnd n=true:=λ d hd n=>by
 simp only[Mc.ps,az,bf,or_false]at hd
 rcases hd with rfl|rfl|rfl|rfl|rfl
 ·rfl
 ·rfl
 ·unfold D.bnd;exact z9 aN1 n
 ·unfold D.bnd;exact z9 aN1 n
 ·unfold D.bnd;exact z9 bb9 n
theorem bO4 (m:Mc)(n:Nat):m.d.bnd n=true:=by unfold Mc.d D.bnd;exact z9 bJ6 n
noncomputable def ah7 (bits k:Nat):List Nat:=(ae k).filter λ i=>decide (bits / 2^i % 2=1)
theorem aB3 (h k:Nat):(∀ i∈ah7 h k,i<k)/\(ah7 h k).Pairwise (· < ·) :=
 ⟨λ i y=>aR.mp (fV.mp y).1,kj _ List.pairwise_lt_range⟩
theorem bl9 (y:Nat)(k:Nat):(jh 0 (k:Int)).filterMap (bi0 y)=by9 (ah7 y k):=by
 unfold jh ah7 by9
 simp only[j9,dA]
 rw[eI]
 induction (ae k)with
 | nil=>rfl
 | cons i l ih =>
  rw[br,List.filter_cons]
  have e:((y:Int) / (1*2^((0:Int)+(i:Int)).toNat) % 2=1)↔(y / 2^i % 2=1):=by
   rw[Int.one_mul,show((0:Int)+(i:Int)).toNat=i by omega]
   have:((y:Int) / 2^i % 2)=((y / 2^i % 2:Nat):Int):=by simp
   rw[this];omega
  simp only[gZ,bi0]
  by_cases h:y / 2^i % 2=1
  ·rw[if_pos (e.mpr h)]
   simp only[h,decide_true,if_true,aI]
   rw[<-ih,fS]
  ·rw[if_neg λ z=>h (e.mp z)]
   simp only[h,decide_false]
   exact ih
section
variable {P:Pr}
theorem bA8 {l:List D}{s:Sto}(j:Nat){d:D}(h:l[j]?=some d):ixM (.tup l) (.int (j:Int)) s=.ok d s:=ix_tup h
theorem ixL (m:Mc)(s:Sto):ixM m.d (.int 0) s=.ok (.int m.L) s:=bA8 0 rfl
theorem ixR (m:Mc)(s:Sto):ixM m.d (.int 1) s=.ok (.int m.R) s:=bA8 1 rfl
theorem ixD (m:Mc)(s:Sto):ixM m.d (.int 4) s=.ok (.tup (m.ds.map Dr.d)) s:=bA8 4 rfl
theorem jH [Has P ab0](n:Nat)(m:Mc)(s:Sto):(aa0 P (n+1)).call "rooms_of" [m.d] s=.ok (.int m.R) s:=by
 refine(zn ab0 rfl).trans ?_
 simp -implicitDefEqProofs [ab0,ixR]
theorem ba1 {s:Sto}{l:List D}(h:∀ d∈l,∀ n,d.bnd n=true):zW s (.tup l) s=.ok (.tup l) s:=zq (λ n=>by unfold D.bnd;exact z9 h n) (by nofun)
theorem aI2 [Has P ab5](n:Nat)(m:Mc)(s:Sto):(aa0 P (n+1)).call "doors_of" [m.d] s=.ok (.tup (m.ds.map Dr.d)) s:=by
 refine(zn ab5 rfl).trans ?_
 simp -implicitDefEqProofs [ab5,ixD,ba1 bb9]
theorem aV2 {a b:Int}(h:a<b):jh a b=.int a::jh (a+1) b:=by
 unfold jh
 obtain⟨n,hn⟩:∃ n:Nat,(b - a).toNat=n+1:=⟨(b - a).toNat - 1,by omega⟩
 rw[hn,show(b - (a+1)).toNat=n by omega,dC,aI,cY]
 congr 1
 ·simp
 ·apply cz
  intro k _
  simp only[gZ]
  congr 1;omega
@[simp] theorem cc2 (a b:Nat) (s:Sto):qE .ne (.str [a]) (.str [b]) s=.ok (.bl (!decide (a=b))) s:=by
 show(match eqv s DEEP (.str [a]) (.str [b])with|some r=>R.ok (D.bl (!r)) s|none=>.bad)=_
 have:eqv s DEEP (.str [a]) (.str [b])=some ([a]==[b]):=rfl
 rw[this]
 have e:([a]==[b])=decide (a=b):=by rw[db];simp
 rw[e]
@[simp] theorem aX4 (a b:Nat) (s:Sto):qE .eq (.str [a]) (.str [b]) s=.ok (.bl (decide (a=b))) s:=by
 show(match eqv s DEEP (.str [a]) (.str [b])with|some r=>R.ok (D.bl r) s|none=>.bad)=_
 have:eqv s DEEP (.str [a]) (.str [b])=some ([a]==[b]):=rfl
 rw[this]
 have e:([a]==[b])=decide (a=b):=by rw[db];simp
 rw[e]
end
theorem good_of {L:Nat}{w:List Nat}(h:w.length<=200)(hw:Lts L w):bL0 L (.str w)=true:=by
 unfold bL0
 simp only[h,decide_true,dM,aM,decide_eq_true_eq]
 exact hw
@[simp] theorem cb0 {F:Fns} {ρ:Env} {s:Sto} (a B h:E):ev F (.slLU a B h) ρ s=(ev F a ρ s).bind λ x s=>(ev F B ρ s).bind λ y s=>match y with|.int i=>(ev F h ρ s).bind (λ z s=>match z with|.int j=>slM x (some i) (some j) s|_=>.bad)|_=>.bad:=rfl
noncomputable def qe (N:Int):O:=.lst [.int N]
theorem aO8 {s:Sto}{r:Nat}(h:∃ N,s[r]?=some (qe N)):r<s.length:=by obtain⟨b,hb⟩:=h;exact(ab.mp hb).1
theorem ar4 {s:Sto}{r:Nat}{b:Int}(h:r<s.length):∃ y,(s.set r (qe b))[r]?=some (qe y):=⟨b,ba7 h⟩
theorem qP {P:Pr}[Has P af3](n:Nat){s:Sto}{r:Nat}(hs:∃ N,s[r]?=some (qe N))(many:Int)(h0:0<many)(h:many<=10^90) :
  ∃(k:Nat) (N:Int),(k:Int)<many/\(aa0 P (n+1)).call "_law_draw" [.ref r,.int many] s=.ok (.int k) (s.set r (qe N)):=by
 obtain⟨N,hN⟩:=hs
 have C:(aa0 P (n+1)).call "_law_draw" [.ref r,.int many] s=_:=zn af3 (n:=n) rfl
 have B:many<10^200:=by
  have:(10:Int)^90<10^200:=by decide +kernel
  omega
 have J:=iU N (show many≠0 by omega)
 have G:=ij N h0
 refine⟨(N % many).toNat,N / many,by omega,?_⟩
 rw[C]
 have y:s[r]?=some (.lst [.int N]):=hN
 simp -implicitDefEqProofs [af3,ixM,y,ixn,jm h0,aj6 h0 B,setIx]
 rw[show max (N % many) 0=N % many by omega]
 exact aR2 (λ _=>rfl) (by nofun) rfl
def cl3 (s:Sto)(x:R D):Prop:=∃ N:Int,x=.ok (.ref s.length) (s++[qe N])
theorem bM7 {P:Pr}[Has P ao0](n:Nat)(ns:List Int)(k:Nat){s:Sto}{r:Nat}(hs:s[r]?=some (.ro (ns.map D.int))) :
  ∃ N:Int,(aa0 P (n+1)).call "_law_box" [.ref r,.int k] s=.ok (.ref s.length) (s++[qe N]):=by
 have Z:(aa0 P (n+1)).call "_law_box" [.ref r,.int k] s=_:=zn ao0 (n:=n) rfl
 have h:bi .len [.ref r] s=.ok (.int ns.length) s:=by rw[bs4 hs,aF]
 have m1:∀ a:Int,mulOk 7919 a=true:=λ a=>qO (by decide)
 have m2:∀ a:Int,mulOk a 48271=true:=λ a=>az0 (by decide)
 have Y:∀ a:Int,mulOk 104729 a=true:=λ a=>qO (by decide)
 have J:∀ a:Int,mulOk a 2147483647=true:=λ a=>az0 (by decide)
 have m5:∀ a:Int,mulOk 31 a=true:=λ a=>qO (by decide)
 have m6:∀ a:Int,mulOk (a % 2147483647) (a % 2147483647)=true:=λ a=>qO (by
  have h1:=iU a (show(2147483647:Int)≠0 by decide)
  have h2:=ij a (show(0:Int)<2147483647 by decide)
  omega)
 have G:∀ N:Int,zW s (.ref s.length) (s++[.lst [.int N]])=.ok (.ref s.length) (s++[qe N]):=λ N=>by
  have:=aF3 (s:=s) (t:=[]) (u:=[]) (o:=qe N) rfl
  simp only[dY,kb,fX]at this
  exact this
 have B:∀ c:Int,cl3 s ((exs (aa0 P n) (.cons (.ite (.cmp .ge (.var 2) (.bin .pow (.cst (.int 10)) (.cst (.int 18)))) (.cons (.ret (.lst (.cons (.var 2) .nil))) .nil) .nil) (.cons (.asg (.one 3) (.cst (.int 0))) (.cons (.for_ (.one 4) (.rng1 (.cst (.int 128))) (.cons (.asg (.one 5) (.bin .mod (.bin .mul (.bin .add (.bin .add (.bin .add (.bin .mod (.var 2) (.cst (.int 2147483647))) (.bin .mul (.cst (.int 7919)) (.var 1))) (.bin .mul (.cst (.int 104729)) (.var 4))) (.cst (.int 97))) (.cst (.int 48271))) (.cst (.int 2147483647)))) (.cons (.asg (.one 3) (.bin .add (.bin .mul (.var 3) (.cst (.int 2147483647))) (.bin .mod (.bin .add (.bin .add (.bin .mul (.var 5) (.var 5)) (.bin .mul (.cst (.int 31)) (.var 4))) (.bin .fdiv (.var 2) (.cst (.int 2147483647)))) (.cst (.int 2147483647))))) .nil))) (.cons (.ret (.lst (.cons (.var 3) .nil))) .nil))))
   [some (.ref r),some (.int k),some (.int c),none,none,none] s).bind (fin s)):=by
  intro c
  by_cases hc:(10:Int)^18<=c
  ·have C:(1000000000000000000:Int)<=c:=hc
   exact⟨c,by simp -implicitDefEqProofs [ax0,C,G]⟩
  ·have C:¬(1000000000000000000:Int)<=c:=hc
   simp -implicitDefEqProofs [ax0,C]
   rw[zN (by decide) (by decide)]
   simp only[R.bind_ok]
   refine jf (W:=cl3 s) (λ j ρ t=>t=s/\∃(N:Int) (x y:Option D),ρ=[some (.ref r),some (.int k),some (.int c),some (.int N),x,y]) ⟨rfl,0,_,_,rfl⟩ (λ _ _ _ _ _=>rfl) ?_ ?_
   ·rintro j d ρ t hj ⟨rfl,N,x,y,rfl⟩
    obtain⟨_,rfl⟩:=aj8 hj
    conv=>arg 2;simp -implicitDefEqProofs [turn,ad8 (m1 _),ad8 (m2 _),ad8 (Y _),ad8 (J _),ad8 (m5 _),ad8 (m6 _),jm,aj6]
    exact⟨rfl,_,_,_,rfl⟩
   ·rintro ρ t ⟨rfl,N,x,y,rfl⟩
    exact⟨N,by simp -implicitDefEqProofs [G]⟩
 rw[Z]
 by_cases hk:k<ns.length
 ·have hx:ixM (.ref r) (.int k) s=.ok (.int (ns.getD k 0)) s:=ce1 hs (by simp[hk])
  obtain⟨N,e⟩:=B (if ns.getD k 0<0 then -ns.getD k 0 else ns.getD k 0)
  refine⟨N,?_⟩
  rw[<-e]
  simp -implicitDefEqProofs [ao0,h,hk,hx]
 ·obtain⟨N,e⟩:=B 0
  refine⟨N,?_⟩
  rw[<-e]
  simp -implicitDefEqProofs [ao0,h,hk]
theorem bf1 {s:Sto}{d:D}(h:bE4 s d)(w:List Nat):∃ b:Bool,qE .eq d (.str w) s=.ok (.bl b) s/\(b=true↔d=.str w):=by
 cases d with
 | str v=>exact⟨v==w,rfl,by
   rw[beq_iff_eq]
   constructor
   ·intro h;rw[h]
   ·intro h;cases h;rfl⟩
 | ref k =>
  obtain⟨l,e⟩:=h
  refine⟨false,?_,by constructor<;>intro h<;>cases h⟩
  have:eqv s DEEP (.ref k) (.str w)=some false:=by
   show ae9 s (.ref k) (.str w)=_
   unfold ae9 aS6
   simp only[kd,e];rfl
  simp only[qE,eqM,this]
 | fn _=>exact h.elim
 | clo _ _=>exact h.elim
 | _=>exact⟨false,rfl,by constructor<;>intro h<;>cases h⟩
@[simp] theorem bZ1 {F:Fns} {ρ:Env} {s:Sto} (e:E):evI F (.enum (.seq e)) ρ s=(ev F e ρ s).bind λ d s=>(bo5 d s).bind λ q s=>.ok ⟨bB9 0 q.its,q.src⟩ s:=rfl
theorem ak3 (v w:List Nat)(s:Sto):qE .eq (.str v) (.str w) s=.ok (.bl (decide (v=w))) s:=by
 obtain⟨b,e,q⟩:=bf1 (s:=s) (d:=.str v) trivial w
 rw[e]
 congr 2
 rw[db,q,decide_eq_true_iff]
 constructor
 ·intro h;cases h;rfl
 ·intro h;rw[h]
theorem z7 {P:Pr}[Has P af3](n:Nat){s t:Sto}{r:Nat}(B:r<s.length)(b:Int)(many:Int)(h0:0<many)(h:many<=10^90) :
  ∃(k:Nat) (y:Int),(k:Int)<many/\(aa0 P (n+1)).call "_law_draw" [.ref r,.int many] (s.set r (qe b)++t)=.ok (.int k) (s.set r (qe y)++t):=by
 obtain⟨k,y,G,C⟩:=qP (P:=P) n (s:=s.set r (qe b)++t) (r:=r) ⟨b,aw5 (ba7 B)⟩ many h0 h
 refine⟨k,y,G,?_⟩
 rw[C,by6 (by rw[bv];exact B),d8]
theorem bb6 {s t:Sto}{r:Nat}{b:Int}{l:List D}{v:D}(h:l.length<LIM):meth .append (.ref s.length) [v] (s.set r (qe b)++(.lst l::t))=.ok .non (s.set r (qe b)++(.lst (l++[v])::t)):=by
 rw[jz (l:=l) (by rw[aj (by simp)];simp) h]
 congr 1
 rw[iT,if_neg (by simp)]
 simp
noncomputable def ah4:Ss:=(.cons (.ite (.and (.cmp .gt (.var 5) (.cst (.int 0))) (.and (.cmp .lt (.var 6) (.cst (.int 3))) (.cmp .gt (.var 3) (.cst (.int 0))))) (.cons (.ex (.meth .append (.var 4) (.cons (.tup (.cons (.cst (.str [116,105,109,101,115])) (.cons (.bi .min2 (.cons (.var 7) (.cons (.bin .sub (.var 5) (.cst (.int 1))) .nil))) (.cons (.var 9) .nil)))) .nil))) (.cons (.asg (.one 3) (.bin .sub (.var 3) (.cst (.int 1)))) .nil)) (.cons (.ite (.and (.cmp .gt (.var 5) (.cst (.int 0))) (.cmp .lt (.var 6) (.cst (.int 5)))) (.cons (.ex (.meth .append (.var 4) (.cons (.tup (.cons (.cst (.str [112,97,105,114])) (.cons (.bi .min2 (.cons (.var 7) (.cons (.bin .sub (.var 5) (.cst (.int 1))) .nil))) (.cons (.bi .min2 (.cons (.var 8) (.cons (.bin .sub (.var 5) (.cst (.int 1))) .nil))) .nil)))) .nil))) .nil) (.cons (.ex (.meth .append (.var 4) (.cons (.tup (.cons (.cst (.str [108,101,116,116,101,114])) (.cons (.ix (.cst (.str [97,98,99])) (.bin .mod (.var 7) (.var 1))) .nil))) .nil))) .nil)) .nil)) .nil)
noncomputable def row (m:Nat)(f:Nat->Int):List D:=(ae m).map λ j=>.int (f j)
noncomputable def gd (m:Nat)(f:Nat->Nat->Int):D:=.tup ((ae m).map λ i=>.tup (row m (f i)))
theorem jI {m:Nat}{f:Nat->Int}{j:Nat}(h:j<m):(row m f)[j]?=some (.int (f j)):=by
 unfold row;rw[ax,aY h];rfl
@[simp] theorem aw7 {m:Nat} {f:Nat->Int}:(row m f).length=m:=by unfold row;simp
theorem bA4 {m:Nat}{f:Nat->Int}{j:Nat}{d:D}(h:(row m f)[j]?=some d):j<m/\d=.int (f j):=by
 have hj:=(ab.mp h).1
 rw[aw7]at hj
 rw[jI hj]at h
 exact⟨hj,(ao h).symm⟩
theorem bD9 {m:Nat}{f:Nat->Int}(n:Nat):D.bndL n (row m f)=true:=z9 (λ d hd n=>by
 obtain⟨j,_,rfl⟩:=av.mp hd;rfl) n
theorem bi2 {m:Nat}{f g:Nat->Int}(h:∀ j,j<m->f j=g j):row m f=row m g:=by
 unfold row;exact cz λ j hj=>by rw[h j (aR.mp hj)]
theorem qx {m:Nat}{f:Nat->Nat->Int}(n:Nat):(gd m f).bnd n=true:=by
 unfold gd D.bnd
 exact z9 (λ d hd n=>by
  obtain⟨j,_,rfl⟩:=av.mp hd
  unfold D.bnd;exact bD9 n) n
theorem as8 {m:Nat}{f:Nat->Nat->Int}{i:Nat}(h:i<m)(s:Sto):ixM (gd m f) (.int (i:Int)) s=.ok (.tup (row m (f i))) s :=
 ix_tup (by rw[ax,aY h];rfl)
theorem qU {m:Nat}{f:Nat->Int}{j:Nat}(h:j<m)(s:Sto):ixM (.tup (row m f)) (.int (j:Int)) s=.ok (.int (f j)) s:=ix_tup (jI h)
theorem br8 {m:Nat}{f:Nat->Nat->Int}(s:Sto):aG1 (gd m f) s=.ok ⟨(ae m).map λ i=>.tup (row m (f i)),[]⟩ s:=rfl
theorem aq7 {l:List D}(s:Sto):aG1 (.tup l) s=.ok ⟨l,[]⟩ s:=rfl
theorem am8 {m:Nat}{f g:Nat->Nat->Int}(h:∀ i j,i<m->j<m->f i j=g i j):gd m f=gd m g:=by
 unfold gd
 congr 1
 exact cz λ i y=>by rw[bi2 λ j hj=>h i j (aR.mp y) hj]
theorem av6 {ok:Sto->Bool}{g:D->Env->Sto->R (Option D×Env)}(P:Env->Sto->Prop)(f:D->D)(l:List D)(ρ:Env)(s:Sto)(h:P ρ s)
  (o:∀ ρ s,P ρ s->ok s=true) (st:∀ d∈l,∀ ρ s,P ρ s->∃ ρ' s',g d ρ s=.ok (some (f d),ρ') s'/\P ρ' s'):∃ ρ' s',qS ok g l ρ s=.ok (l.map f) s'/\P ρ' s':=by
 obtain⟨ρ',s',e,p⟩:=aj1 P (λ d=>some (f d)) l ρ s h o st
 refine⟨ρ',s',?_,p⟩
 rw[e];congr 1;induction l<;>simp_all
theorem qB {ok:Sto->Bool}{g:D->Env->Sto->R (Option D×Env)}(P:Env->Sto->Prop)(f:Nat->D)(n:Nat)(ρ:Env)(s:Sto)(h:P ρ s)
  (o:∀ ρ s,P ρ s->ok s=true) (st:∀ j,j<n->∀ ρ s,P ρ s->∃ ρ' s',g (.int (j:Int)) ρ s=.ok (some (f j),ρ') s'/\P ρ' s'):∃ ρ' s',qS ok g (jh 0 (n:Int)) ρ s=.ok ((ae n).map f) s'/\P ρ' s':=by
 obtain⟨ρ',s',e,p⟩:=av6 (g:=g) P (λ d=>match d with|.int i=>f i.toNat|d=>d) (jh 0 (n:Int)) ρ s h o λ d hd ρ s y=>by
  obtain⟨j,hj⟩:=gD hd
  obtain⟨B,rfl⟩:=aj8 hj
  obtain⟨ρ',s',e,p⟩:=st j (by omega) ρ s y
  refine⟨ρ',s',?_,p⟩
  rw[fS,e];rfl
 refine⟨ρ',s',?_,p⟩
 rw[e]
 congr 1
 unfold jh
 rw[cY,show((n:Int) - 0).toNat=n by omega]
 exact cz λ j _=>by
  show f ((0:Int)+(j:Int)).toNat=f j
  congr 1;omega
theorem zM (n:Nat):(jh 0 (n:Int)).length=n:=by simp[jh]
theorem qi {n j:Nat}{d:D}(h:(jh 0 (n:Int))[j]?=some d):j<n/\d=.int (j:Int):=by
 obtain⟨y,rfl⟩:=aj8 h
 exact⟨by omega,by rw[fS]⟩
theorem be5 {m:Nat}{f:Nat->Int}{i:Int}:(row m f).map (λ _=>D.int i)=row m λ _=>i:=by
 unfold row;rw[cY];rfl
theorem aK2 {s t:Sto}{l:List D}{v:D}(h:l.length<LIM):meth .append (.ref s.length) [v] (s++.lst l::t)=.ok .non (s++.lst (l++[v])::t):=by
 rw[jz (l:=l) (by rw[aj (ah _)];simp) h,bW _ _ (ah _)]
 simp
theorem aw3 {s t:Sto}{o:O}{x:O}:(s++x::(t++[o]))[s.length+(t.length+1)]?=some o:=by
 rw[show(s++x::(t++[o]))=(s++x::t)++[o]by simp,aj (by simp)]
 simp
noncomputable def prN (f g:Nat->Nat->Int)(i j:Nat):Nat->Int
 | 0=>3
 | k+1=>if f i k<3 then(let b:=(if g k j > f i k then g k j else f i k);if b<prN f g i j k then b else prN f g i j k)else prN f g i j k
noncomputable def pr (m:Nat)(f g:Nat->Nat->Int)(i j:Nat):Int:=prN f g i j m
theorem qW {P:Pr}[Has P ac0](n:Nat){m:Nat}(Y:m<=5)(f g:Nat->Nat->Int)(s:Sto) :
  (aa0 P (n+1)).call "_law_product" [gd m f,gd m g] s=.ok (gd m (pr m f g)) s:=by
 have J:(aa0 P (n+1)).call "_law_product" [gd m f,gd m g] s=_:=zn ac0 (n:=n) rfl
 rw[J]
 conv=>lhs;simp only[ac0]
 simp -implicitDefEqProofs [br8]
 refine aj4 (λ i ρ t=>∃(T:Sto) (x y z:Option D),ρ=[some (gd m f),some (gd m g),some (.ref s.length),x,y,z]/\t=s++.lst ((ae i).map λ i=>.tup (row m (pr m f g i)))::T) ⟨[],none,none,none,rfl,rfl⟩ (λ _ _ _ _ _=>rfl) ?_ ?_
 ·rintro i d ρ t hi ⟨T,x,y,z,rfl,rfl⟩
  have G:i<m:=by have:=(ab.mp hi).1;simpa using this
  have hd:d=.tup (row m (f i)):=by rw[ax,aY G]at hi;exact(ao hi).symm
  subst hd
  conv=>arg 2;simp -implicitDefEqProofs [turn,aq7]
  rw[if_pos (by unfold LIM;omega)]
  obtain⟨ρ1,s1,e1,C⟩:=av6 (ok:=λ s1=>chk (s++.lst ((ae i).map λ i=>.tup (row m (pr m f g i)))::T) s1 []) (g:=qj (aa0 P n) (.one 0) (.cst (.int 3))) (λ ρ u=>u=s++.lst ((ae i).map λ i=>.tup (row m (pr m f g i)))::T/\∃ x,ρ=[x]) (λ _=>.int 3) (row m (f i)) (zX [some (gd m f),some (gd m g),some (.ref s.length),some (.tup (row m (f i))),y,z] [none]) _ ⟨rfl,none,rfl⟩ (λ _ _ _=>rfl) (by
   rintro d _ ρ u ⟨rfl,x,rfl⟩
   exact⟨_,_,rfl,rfl,_,rfl⟩)
  obtain⟨rfl,_⟩:=C
  rw[be5]at e1
  rw[e1]
  simp -implicitDefEqProofs [mk]
  rw[zN (by unfold W62;omega) (by unfold W62;omega)]
  simp only[R.bind_ok]
  refine jf (W:=Nx _) (λ k ρ t=>∃(T:Sto) (p:Nat) (z:Option D),ρ=[some (gd m f),some (gd m g),some (.ref s.length),some (.tup (row m (f i))),some (.ref p),z]/\t=s++.lst ((ae i).map λ i=>.tup (row m (pr m f g i)))::T/\t[p]?=some (.lst (row m λ j=>prN f g i j k))) ⟨T++[.lst (row m λ _=>3)],s.length+(T.length+1),z,rfl,rfl,aw3⟩ (λ _ _ _ _ _=>rfl) ?_ ?_
  ·rintro k d ρ t hk ⟨T,p,z,rfl,rfl,B⟩
   obtain⟨h,rfl⟩:=qi hk
   by_cases h3:f i k<3
   ·conv=>arg 2;simp -implicitDefEqProofs [turn,qU h,h3]
    rw[zN (by unfold W62;omega) (by unfold W62;omega)]
    simp only[R.bind_ok]
    rw[if_pos (by rw[zM];unfold LIM;omega)]
    obtain⟨ρ1,s1,e1,C⟩:=qB (ok:=λ s1=>chk (s++.lst ((ae i).map λ i=>.tup (row m (pr m f g i)))::T) s1 []) (g:=qj (aa0 P n) (.one 0) (.bi .min2 (.cons (.ix (.var 1) (.var 0)) (.cons (.bi .max2 (.cons (.ix (.var 2) (.var 3)) (.cons (.ix (.ix (.var 4) (.var 3)) (.var 0)) .nil))) .nil)))) (λ ρ u=>u=s++.lst ((ae i).map λ i=>.tup (row m (pr m f g i)))::T/\∃ x,ρ=[x,some (.ref p),some (.tup (row m (f i))),some (.int k),some (gd m g)]) (λ j=>.int (prN f g i j (k+1))) m (zX [some (gd m f),some (gd m g),some (.ref s.length),some (.tup (row m (f i))),some (.ref p),some (.int (k:Int))] [none,some 4,some 3,some 5,some 1]) _ ⟨rfl,none,rfl⟩ (λ _ _ _=>rfl) (by
     rintro j hj ρ u ⟨rfl,x,rfl⟩
     refine⟨[some (.int j),some (.ref p),some (.tup (row m (f i))),some (.int k),some (gd m g)],_,?_,rfl,_,rfl⟩
     simp -implicitDefEqProofs [qj,qU h,as8 h,qU hj,qM B (jI hj),prN,h3])
    obtain⟨rfl,_⟩:=C
    rw[e1]
    simp -implicitDefEqProofs [mk]
    rfl
   ·refine aC9 (ρ:=[some (gd m f),some (gd m g),some (.ref s.length),some (.tup (row m (f i))),some (.ref p),some (.int k)]) ?_ ⟨T,p,_,rfl,rfl,?_⟩
    ·simp -implicitDefEqProofs [turn,qU h,h3]
    ·rw[B];simp[prN,h3]
  ·rintro ρ t ⟨T,p,z,rfl,rfl,B⟩
   rw[zM]at B
   simp -implicitDefEqProofs [aM8,B,mk]
   rw[aK2 (by unfold LIM;simp;omega)]
   simp -implicitDefEqProofs
   rw[bU,bu];rfl
 ·rintro ρ t ⟨T,x,y,z,rfl,rfl⟩
  have h0:(s++.lst ((ae m).map λ i=>D.tup (row m (pr m f g i)))::T:Sto)[s.length]?=some (.lst ((ae m).map λ i=>D.tup (row m (pr m f g i)))):=by rw[aj (ah _)];simp
  simp -implicitDefEqProofs [aM8,h0,mk]
  exact zQ (d:=gd m (pr m f g)) qx (by nofun)
theorem bI4 {a b:Int}{s:Sto}(h:0<=b):qN .shr (.int a) (.int b) s=.ok (.int (a / 2^b.toNat)) s:=by
 show(if 0<=b then _ else _:M D) s=_
 rw[if_pos h];rfl
theorem aW5 {P:Pr}{n c h:Nat}(G:c<=5){s:Sto}{ρ:Env}(B:zX ρ [none,some 10]=[none,some (.int h)]) :
  qS (λ y=>chk s y []) (aF2 (aa0 P n) (.one 0) (.cmp .eq (.bin .mod (.bin .shr (.var 1) (.var 0)) (.cst (.int 2))) (.cst (.int 1))) (.var 0)) (jh 0 (c:Int)) (zX ρ [none,some 10]) s=.ok (by9 (ah7 h c)) s:=by
 have key:∃(ρ':Env) (s':Sto),qS (λ y=>chk s y []) (aF2 (aa0 P n) (.one 0) (.cmp .eq (.bin .mod (.bin .shr (.var 1) (.var 0)) (.cst (.int 2))) (.cst (.int 1))) (.var 0)) (jh 0 (c:Int)) (zX ρ [none,some 10]) s=.ok ((jh 0 (c:Int)).filterMap (bi0 h)) s'/\(s'=s/\∃ x,ρ'=[x,some (D.int h)]):=by
  refine aj1 (λ ρ u=>u=s/\∃ x,ρ=[x,some (.int h)]) (bi0 h) (jh 0 (c:Int)) _ _ ⟨rfl,none,B⟩ (λ _ _ _=>rfl) ?_
  rintro d hd ρ u ⟨rfl,x,rfl⟩
  obtain⟨j,hj⟩:=gD hd
  obtain⟨C,rfl⟩:=aj8 hj
  refine⟨[some (.int (0+j)),some (.int h)],_,?_,rfl,_,rfl⟩
  unfold aF2
  simp only[zb,zx,zH,qh,zg,zE,zG,ze,zl,R.bind_ok]
  rw[bI4 (by omega)]
  simp only[R.bind_ok]
  rw[jm (by decide)]
  simp only[R.bind_ok,jB,zC]
  simp[bi0]
  split<;>rfl
 obtain⟨_,_,e,rfl,_⟩:=key
 rw[e,bl9]
theorem bJ1 {s:Sto}{r:Nat}{b:Int}{o:O}{l:List D}{v:D}(h:l.length<LIM):meth .append (.ref (s.length+1)) [v] (s.set r (qe b)++[o,.lst l])=.ok .non (s.set r (qe b)++[o,.lst (l++[v])]):=by
 rw[jz (l:=l) (by rw[aj (by simp)];simp) h,bW _ _ (by simp)]
 simp
theorem cn7 {k:Nat}(h:k<=5):(0:Int)<1*2^((k:Int)).toNat/\(1:Int)*2^((k:Int)).toNat<=32:=by
 have B:(2:Nat)^k<=2^5:=dU (by decide) h
 have h3:((2^k:Nat):Int)<=32:=by exact_mod_cast B
 have C:0<(2:Nat)^k:=Nat.pow_pos (by decide)
 have y:(0:Int)<((2^k:Nat):Int):=by exact_mod_cast C
 rw[dA,Int.one_mul]
 push_cast at h3 y
 exact⟨y,h3⟩
def McB (s:Sto)(r:Nat)(x:R D):Prop:=∃(m:Mc) (b:Int),m.Ok/\x=.ok m.d (s.set r (qe b))
theorem aH3 {P : Pr} [Has P af3] [Has P ae0] (n : Nat) {s : Sto} {r : Nat} (hs : ∃ b, s[r]? = some (qe b)) : McB s r ((aa0 P (n + 2)).call "_law_machine" [.ref r] s) := by
  have e0 : (aa0 P (n + 2)).call "_law_machine" [.ref r] s = _ := zn ae0 (n := n + 1) rfl
  have hr := aO8 hs
  obtain⟨a, b1, ha, e1⟩ := qP (P := P) n hs 3 (by decide) (by decide)
  obtain⟨c, b2, hc, e2⟩ := qP (P := P) n (ar4 (b := b1) hr) 5 (by decide) (by decide)
  rw[d8]at e2
  obtain⟨m1, b3, hm1, e3⟩ := qP (P := P) n (ar4 (b := b2) hr) (3 * (1 + (c : Int)) + 2) (by omega) (qk (by omega))
  rw[d8]at e3
  obtain⟨m2, b4, hm2, e4⟩ := qP (P := P) n (ar4 (b := b3) hr) 8 (by decide) (by decide)
  rw[d8]at e4
  obtain⟨m3, b5, hm3, e5⟩ := qP (P := P) n (ar4 (b := b4) hr) 76 (by decide) (by decide)
  rw[d8]at e5
  rw[e0]
  have mo : ∀ x : Int, mulOk 3 x = true := λ x => qO (by decide)
  simp -implicitDefEqProofs [ae0, e1, e2, ad8 (mo _), e3, e4]
  obtain ⟨many, bb, hmany, hif⟩ : ∃ (many : Nat) (bb : Int), many <= 75 /\ (if (m2 : Int) = 5 then
                      ((aa0 P (n + 1)).call "_law_draw" [D.ref r, D.int 76] (List.set s r (qe b4))).bind λ d s =>
                        R.ok
                          (Ct.next [some (D.ref r), some (D.int (1 + ↑a)), some (D.int (1 + ↑c)), some d, none, none, none, none, none, none, none, none, none]) s
                    else
                      R.ok
                        (Ct.next
                          [some (D.ref r), some (D.int (1 + ↑a)), some (D.int (1 + ↑c)), some (D.int ↑m1), none, none, none, none, none, none, none, none, none])
                        (List.set s r (qe b4))) = .ok (.next [some (.ref r), some (.int (1 + a)), some (.int (1 + c)), some (.int many), none, none, none, none, none, none, none, none, none]) (s.set r (qe bb)) := by
    by_cases h7 : (m2 : Int) = 5
    · exact⟨m3, b5, by omega, by rw[if_pos h7, e5]; rfl⟩
    · exact⟨m1, b4, by omega, by rw[if_neg h7]⟩
  rw[hif]
  simp -implicitDefEqProofs
  obtain⟨h4, b6, hh4, e6⟩ := z7 (P := P) n (t := [.lst [.int 2, .int 2, .int 4, .int 1]]) hr bb 4 (by decide) (by decide)
  rw[e6]
  have hx : ∃ hi : Nat, 1 <= hi /\ hi <= 4 /\ ixM (.ref s.length) (.int h4) (s.set r (qe b6) ++ [.lst [.int 2, .int 2, .int 4, .int 1]]) = .ok (.int hi) (s.set r (qe b6) ++ [.lst [.int 2, .int 2, .int 4, .int 1]]) := by
    have hg : (s.set r (qe b6) ++ [O.lst [.int 2, .int 2, .int 4, .int 1]])[s.length]? = some (.lst [.int 2, .int 2, .int 4, .int 1]) := by rw[aj (by simp)]; simp
    match h4, hh4 with
    | 0, _ => exact⟨2, by decide, by decide, qM (j := 0) hg rfl⟩
    | 1, _ => exact⟨2, by decide, by decide, qM (j := 1) hg rfl⟩
    | 2, _ => exact⟨4, by decide, by decide, qM (j := 2) hg rfl⟩
    | 3, _ => exact⟨1, by decide, by decide, qM (j := 3) hg rfl⟩
    | k + 4, h => omega
  obtain⟨hi, hi1, hi4, hx⟩ := hx
  simp -implicitDefEqProofs [hx]
  rw[zN (by unfold W62; omega) (by unfold W62; omega)]
  simp -implicitDefEqProofs only[R.bind_ok]
  have hc1 : ((1 : Int) + (c : Int)) = ((c + 1 : Nat) : Int) := by omega
  have ha1 : ((1 : Int) + (a : Int)) = ((a + 1 : Nat) : Int) := by omega
  rw[hc1, ha1]
  generalize hH : O.lst [D.int 2, D.int 2, D.int 4, D.int 1] = H
  have hHb : ∀ b : Int, as0 s (s.set r (qe b) ++ [H]) = true := λ b => aD4 s [H] r (qe b) rfl
  refine jf (W := McB s r) (λ j ρ u => ∃(b : Int) (l : List Dr) (x y z v : Option D), (∀ d ∈ l, d.Ok ⟨a + 1, c + 1, [], [], []⟩) /\ l.length = j /\ ρ = [some (.ref r), some (.int (a + 1 : Nat)), some (.int (c + 1 : Nat)), some (.int many), some (.int hi), some (.ref (s.length + 1)), x, y, z, v, none, none, none] /\ u = s.set r (qe b) ++ [H, .lst (l.map Dr.d)]) ⟨b6, [], none, none, none, none, by simp, rfl, rfl, rfl⟩ (λ _ _ _ _ _ => rfl) ?_ ?_
  · rintro j d ρ u hj ⟨b, l, x, y, z, v, hl, hlen, rfl, rfl⟩
    obtain⟨hj2, rfl⟩ := aj8 hj
    obtain⟨k1, c1, hk1, f1⟩ := z7 (P := P) n (t := [H, .lst (l.map Dr.d)]) hr b (c + 1 : Nat) (by omega) (qk (by omega))
    obtain⟨k3, c2, hk3, f2⟩ := z7 (P := P) n (t := [H, .lst (l.map Dr.d)]) hr c1 (c + 1 : Nat) (by omega) (qk (by omega))
    obtain⟨k2, c3, hk2, f3⟩ := z7 (P := P) n (t := [H, .lst (l.map Dr.d)]) hr c2 (a + 1 : Nat) (by omega) (qk (by omega))
    obtain⟨k4, c4, hk4, f4⟩ := z7 (P := P) n (t := [H, .lst (l.map Dr.d)]) hr c3 hi (by omega) (qk (by omega))
    refine aC9 (ρ := [some (.ref r), some (.int (a + 1 : Nat)), some (.int (c + 1 : Nat)), some (.int many), some (.int hi), some (.ref (s.length + 1)), some (.int j), some (.int k1), some (.int k3), some (.str [97 + k2]), none, none, none]) (s := s.set r (qe c4) ++ [H, .lst ((l ++ [(⟨k1, 97 + k2, k3, k4⟩ : Dr)]).map Dr.d)]) ?_ ⟨c4, l ++ [(⟨k1, 97 + k2, k3, k4⟩ : Dr)], _, _, _, _, ?_, ?_, rfl, rfl⟩
    · simp -implicitDefEqProofs only[turn, fS, zb, zD, zx, aB, za, zh, zU, ex_ex, zS, zg, js, zE, qp, ev_tup, zo, zu, zI, zB, ze, zl, R.bind_ok, Cn_str, f1, f2, f3, f4, aV0 (show k2 < 3 by omega), zr, zd]
      rw[bJ1 (by unfold LIM; simp; omega)]
      simp -implicitDefEqProofs
      rfl
    · intro d hd
      rcases cc.mp hd with h|h
      · exact hl d h
      · rw[bN.mp h]; constructor <;> simp only <;> omega
    · simp[hlen]
  · rintro ρ u ⟨b, l, x, y, z, v, hl, hlen, rfl, rfl⟩
    have p5 := cn7 (k := c + 1) (by omega)
    obtain⟨k1, c1, hk1, f1⟩ := z7 (P := P) n (t := [H, .lst (l.map Dr.d)]) hr b _ p5.1 (qk (by omega))
    obtain⟨k2, c2, hk2, f2⟩ := z7 (P := P) n (t := [H, .lst (l.map Dr.d)]) hr c1 _ p5.1 (qk (by omega))
    have hl3 : (s.set r (qe c2) ++ [H, O.lst (l.map Dr.d)])[s.length + 1]? = some (.lst (l.map Dr.d)) := by rw[aj (by simp)]; simp
    have hll : l.length <= 75 := by
      rw[hlen]; simp[jh]; omega
    have hrl : (jh 0 ((c + 1 : Nat) : Int)).length <= LIM := by rw[zM]; unfold LIM; omega
    simp -implicitDefEqProofs only[zd, za, zh, zU, zS, zI, zB, zg, qh, zE, zG, ze, zl, R.bind_ok, aW7 ⟨show(0 : Int) <= ((c + 1 : Nat) : Int)by omega, by omega⟩, f1, zb, zD, zx, aB, zr, ev_mk, jw, z6]
    rw[zN (by unfold W62; omega) (by unfold W62; omega)]
    simp -implicitDefEqProofs only[R.bind_ok, if_pos hrl]
    rw[aW5 (by omega) rfl]
    simp -implicitDefEqProofs only[R.bind_ok, mk, f2, zr, zd, zb, zD, zx, aB, za, zS, zI, zB, zg, qh, zE, zG, ze, zl, zU, aW7 ⟨show(0 : Int) <= ((c + 1 : Nat) : Int)by omega, by omega⟩, ev_mk, jw, z6]
    rw[zN (by unfold W62; omega) (by unfold W62; omega)]
    simp -implicitDefEqProofs only[R.bind_ok, if_pos hrl]
    rw[aW5 (by omega) rfl]
    simp -implicitDefEqProofs only[R.bind_ok, mk, zr, zd, zJ, zb, zD, zx, aB, za, zh, qf, ev_tup, zo, zu, zg, ze, zl, ev_mk, evL_seq, aM8, hl3, zO]
    refine⟨⟨a + 1, c + 1, ah7 k1 (c + 1), ah7 k2 (c + 1), l⟩, c2, ⟨by simp, by simp; omega, by simp, by simp; omega, aB3 _ _, aB3 _ _, λ x hx => ?_, hll⟩, ?_⟩
    · have := hl x hx
      exact⟨this.a, this.l, this.b, this.t⟩
    · exact ai3 (bO4 ⟨a + 1, c + 1, ah7 k1 (c + 1), ah7 k2 (c + 1), l⟩) (by nofun) rfl
noncomputable def ah5 (m:Nat)(f:Nat->Nat->Int):Sto:=(ae m).map λ i=>.lst (row m (f i))
@[simp] theorem aX0 {m:Nat} {f:Nat->Nat->Int}:(ah5 m f).length=m:=by unfold ah5;simp
theorem ah6 {m i:Nat}{f:Nat->Nat->Int}(h:i<m):(ah5 m f)[i]?=some (.lst (row m (f i))):=by
 unfold ah5;rw[ax,aY h];rfl
theorem bD3 {m b:Nat}{f:Nat->Int}{v:Int}:(row m f).set b (.int v)=row m λ j=>if j=b then v else f j:=by
 apply iA
 intro j
 by_cases hj:j<m
 ·rw[jI hj]
  by_cases e:j=b
  ·subst e;rw[aX (by rw[aw7];exact hj),if_pos rfl]
  ·rw[a9 (λ z=>e z.symm),jI hj,if_neg e]
 ·rw[bJ (by simp;omega),bJ (by simp;omega)]
theorem be7 {m a b:Nat}{f:Nat->Nat->Int}{v:Int}:(ah5 m f).set a (.lst ((row m (f a)).set b (.int v)))=ah5 m λ i j=>if i=a/\j=b then v else f i j:=by
 apply iA
 intro i
 by_cases hi:i<m
 ·rw[ah6 hi]
  by_cases e:i=a
  ·subst e;rw[aX (by rw[aX0];exact hi),bD3]
   simp
  ·rw[a9 (λ z=>e z.symm),ah6 hi]
   simp[e]
 ·rw[bJ (by simp;omega),bJ (by simp;omega)]
noncomputable def aG8 (p m:Nat):List D:=(ae m).map λ i=>.ref (p+i)
theorem bq5 {p m i:Nat}(h:i<m):(aG8 p m)[i]?=some (.ref (p+i)):=by
 unfold aG8;rw[ax,aY h];rfl
theorem bf2 {ok:Sto->Bool}{g:D->Env->Sto->R (Option D×Env)}(P:Nat->Env->Sto->Prop)(f:Nat->D)(n:Nat)
  (o:∀ k ρ s,P k ρ s->ok s=true) (st:∀ j,j<n->∀ ρ s,P j ρ s->∃ ρ' s',g (.int (j:Int)) ρ s=.ok (some (f j),ρ') s'/\P (j+1) ρ' s') :
  ∀(k:Nat) (ρ:Env) (s:Sto),k<=n->P k ρ s->∃ ρ' s',qS ok g (jh (k:Int) (n:Int)) ρ s=.ok ((List.range' k (n - k)).map f) s'/\P n ρ' s':=by
 intro k
 induction h:n - k generalizing k with
 | zero =>
  intro ρ s hk y
  have e:k=n:=by omega
  subst e
  refine⟨ρ,s,?_,y⟩
  rw[show jh (k:Int) (k:Int)=[]by simp[jh]]
  unfold qS
  rw[if_pos (o _ _ _ y)];rfl
 | succ d ih =>
  intro ρ s hk y
  obtain⟨ρ1,s1,e1,C⟩:=st k (by omega) ρ s y
  obtain⟨ρ2,s2,e2,B⟩:=ih (k+1) (by omega) ρ1 s1 (by omega) C
  refine⟨ρ2,s2,?_,B⟩
  rw[aV2 (by omega),List.range'_succ,aI]
  unfold qS
  rw[if_pos (o _ _ _ y),e1]
  simp only[R.bind_ok]
  rw[show((k:Int)+1)=((k+1:Nat):Int)by omega,e2]
  rfl
noncomputable def sgF (ds:List Dr)(c i j:Nat):Nat->Int
 | 0=>3
 | k+1=>match ds[k]? with
  | some x=>if x.l=c/\i=x.a/\j=x.b then(if(if 0<x.t then(1:Int)else 0)<sgF ds c i j k then(if 0<x.t then(1:Int)else 0)else sgF ds c i j k)else sgF ds c i j k
  | none=>sgF ds c i j k
noncomputable def sgM (m:Mc)(c i j:Nat):Int:=sgF m.ds c i j m.ds.length
theorem aD7 {b:Bool}{s:Sto}:bi .int [.bl b] s=.ok (.int (if b then 1 else 0)) s:=rfl
theorem ao2 {P:Pr}[Has P ac1](n:Nat){m:Mc}(hm:m.Ok)(c:Nat)(s:Sto) :
  (aa0 P (n+1)).call "_law_letter_signs" [m.d,.str [c]] s=.ok (gd m.R (sgM m c)) s:=by
 have e0:(aa0 P (n+1)).call "_law_letter_signs" [m.d,.str [c]] s=_:=zn ac1 (n:=n) rfl
 have hR:=hm.R5
 rw[e0]
 simp -implicitDefEqProofs [ac1,ixR]
 rw[zN (by unfold W62;omega) (by unfold W62;omega)]
 simp only[R.bind_ok]
 rw[if_pos (by rw[zM];unfold LIM;omega)]
 obtain⟨ρ1,s1,e1,B⟩:=bf2 (ok:=λ s1=>chk s s1 []) (g:=qj (aa0 P n) (.one 0) (.mk .list (.comp (.one 0) (.rng1 (.var 1)) (.cst (.int 3)) [none]))) (λ k ρ u=>u=s++(ae k).map (λ _=>O.lst (row m.R λ _=>3))/\∃ x,ρ=[x,some (.int m.R)]) (λ i=>.ref (s.length+i)) m.R (λ _ _ _ _=>rfl) (by
  rintro j hj ρ u ⟨rfl,x,rfl⟩
  refine⟨[some (.int j),some (.int m.R)],_,?_,rfl,_,rfl⟩
  simp -implicitDefEqProofs [qj]
  rw[zN (by unfold W62;omega) (by unfold W62;omega)]
  simp only[R.bind_ok]
  rw[if_pos (by rw[zM];unfold LIM;omega)]
  obtain⟨ρ1,s1,e1,B⟩:=qB (ok:=λ s1=>chk (s++(ae j).map (λ _=>O.lst (row m.R λ _=>3))) s1 []) (g:=qj (aa0 P n) (.one 0) (.cst (.int 3))) (λ ρ u=>u=s++(ae j).map (λ _=>O.lst (row m.R λ _=>3))/\∃ x,ρ=[x]) (λ _=>.int 3) m.R (zX [some (.int (j:Int)),some (.int m.R)] [none]) _ ⟨rfl,none,rfl⟩ (λ _ _ _=>rfl) (by
   rintro i _ ρ u ⟨rfl,x,rfl⟩
   exact⟨_,_,rfl,rfl,_,rfl⟩)
  obtain⟨rfl,_⟩:=B
  rw[e1]
  simp -implicitDefEqProofs [mk,bU]
  rfl) 0 (zX [some m.d,some (.str [c]),some (.int m.R),none,none,none,none,none] [none,some 2]) s (cS _) ⟨by simp,none,rfl⟩
 obtain⟨rfl,_⟩:=B
 rw[show((0:Nat):Int)=0 from rfl]at e1
 rw[e1]
 have el:(ae m.R).map (λ _=>O.lst (row m.R λ _=>3))=ah5 m.R (λ i j=>sgF m.ds c i j 0):=rfl
 rw[el,Nat.sub_zero,<-List.range_eq_range']
 simp -implicitDefEqProofs [mk,ixD,aq7]
 refine aj4 (λ k ρ t=>∃(x y z w:Option D),ρ=[some m.d,some (.str [c]),some (.int m.R),some (.ref (s.length+m.R)),x,y,z,w]/\t=s++(ah5 m.R (λ i j=>sgF m.ds c i j k)++[.lst (aG8 s.length m.R)])) ⟨none,none,none,none,rfl,rfl⟩ (λ _ _ _ _ _=>rfl) ?_ ?_
 ·rintro k d ρ t hk ⟨x,y,z,w,rfl,rfl⟩
  rw[ax]at hk
  obtain⟨v,hv,rfl⟩:∃ v,m.ds[k]?=some v/\Dr.d v=d:=by
   cases e:m.ds[k]? with
   | none=>rw[e]at hk;cases hk
   | some v=>rw[e]at hk;exact⟨v,rfl,ao hk⟩
  have C:=hm.ds.1 v (aV hv)
  have ha:=C.a
  have hb:=C.b
  refine aC9 (ρ:=[some m.d,some (.str [c]),some (.int m.R),some (.ref (s.length+m.R)),some (.int v.a),some (.str [v.l]),some (.int v.b),some (.int v.t)]) (s:=s++(ah5 m.R (λ i j=>sgF m.ds c i j (k+1))++[.lst (aG8 s.length m.R)])) ?_ ⟨_,_,_,_,rfl,rfl⟩
  have Y:(s++(ah5 m.R (λ i j=>sgF m.ds c i j k)++[.lst (aG8 s.length m.R)]))[s.length+m.R]?=some (.lst (aG8 s.length m.R)):=by
   rw[aj (by omega),bF,aj (by simp)];simp
  have J:(s++(ah5 m.R (λ i j=>sgF m.ds c i j k)++[.lst (aG8 s.length m.R)]))[s.length+v.a]?=some (.lst (row m.R λ j=>sgF m.ds c v.a j k)):=by
   rw[aj (by omega),bF,aG (by simpa using ha),ah6 ha]
  have e5:=qM Y (bq5 ha)
  have e6:=qM J (jI hb)
  by_cases hl:v.l=c
  ·simp -implicitDefEqProofs only[turn,Dr.d,bindT_tup,setVs_cons,setVs_nil,zD,zx,aB,fB,za,zh,zY,zH,zg,ze,zl,R.bind_ok,aX4,hl,decide_true,zC,if_true,ex_setIx,jo,zo,zu,js,e5,e6,zE,zG,gt_int,aD7,aj3]
   rw[bI8 J (by rw[aw7];exact hb)]
   simp -implicitDefEqProofs only[R.bind_ok,zd,zh]
   congr 1
   rw[bW _ _ (by omega),bF,List.set_append_left _ _ (by simpa using ha)]
   congr 2
   rw[be7 (f:=λ i j=>sgF m.ds c i j k)]
   congr 1
   funext i j
   rw[sgF,hv]
   by_cases h2:i=v.a/\j=v.b
   ·obtain⟨rfl,rfl⟩:=h2
    simp[hl]
   ·simp[hl,h2]
  ·simp -implicitDefEqProofs only[turn,Dr.d,bindT_tup,setVs_cons,setVs_nil,zD,zx,aB,fB,za,zh,zY,zH,zg,ze,zl,R.bind_ok,aX4,hl,decide_false,zC,if_false,aH,zd]
   congr 3
   congr 1
   funext i j
   rw[sgF,hv]
   simp[hl]
 ·rintro ρ t ⟨x,y,z,w,rfl,rfl⟩
  rw[aF]
  have Y:(s++(ah5 m.R (sgM m c)++[.lst (aG8 s.length m.R)]))[s.length+m.R]?=some (.lst (aG8 s.length m.R)):=by
   rw[aj (by omega),bF,aj (by simp)];simp
  show(nxt _ _ _ (s++(ah5 m.R (sgM m c)++[.lst (aG8 s.length m.R)]))).bind _=_
  simp -implicitDefEqProofs [aG1,Y]
  rw[if_pos (by unfold aG8 LIM;simp;omega)]
  generalize Z:s++(ah5 m.R (sgM m c)++[.lst (aG8 s.length m.R)])=S
  obtain⟨ρ1,s1,e1,B⟩:=av6 (ok:=λ s1=>chk S s1 [s.length+m.R]) (g:=qj (aa0 P n) (.one 0) (.mk .tuple (.seq (.var 0)))) (λ ρ u=>u=S/\∃ x,ρ=[x]) (λ d=>match d with|.ref p=>.tup (row m.R (sgM m c (p - s.length)))|d=>d) (aG8 s.length m.R) (zX [some m.d,some (.str [c]),some (.int m.R),some (.ref (s.length+m.R)),x,y,z,w] [none]) S ⟨rfl,none,rfl⟩ (λ _ u h=>by obtain⟨rfl,_⟩:=h;simp[chk]) (by
   rintro d hd ρ u ⟨rfl,x,rfl⟩
   obtain⟨i,hi,rfl⟩:=av.mp hd
   have G:=aR.mp hi
   have J:u[s.length+i]?=some (.lst (row m.R (sgM m c i))):=by
    rw[<-Z,aj (by omega),bF,aG (by simpa using G),ah6 G]
   refine⟨[some (.ref (s.length+i))],u,?_,rfl,_,rfl⟩
   simp -implicitDefEqProofs [qj,aM8,J,mk])
  obtain⟨rfl,_⟩:=B
  rw[e1]
  simp -implicitDefEqProofs [mk]
  rw[<-Z]
  have:(aG8 s.length m.R).map (λ d=>match d with|.ref p=>D.tup (row m.R (sgM m c (p - s.length)))|d=>d)=(ae m.R).map λ i=>.tup (row m.R (sgM m c i)):=by
   unfold aG8
   rw[cY]
   exact cz λ i _=>by simp
  rw[this]
  exact zQ (d:=gd m.R (sgM m c)) qx (by nofun)
@[simp] theorem cc8 {F:Fns} {ρ:Env} {s:Sto} (a b:E):evI F (.zip (.seq a) (.seq b)) ρ s=(ev F a ρ s).bind λ x s=>(ev F b ρ s).bind λ y s=>(aS9 x s).bind λ p s=>(aS9 y s).bind λ q s=>.ok ⟨cb7 p.its q.its,p.src++q.src⟩ s:=rfl
theorem ix_str {l:List Nat}{j c:Nat}{s:Sto}(hj:l[j]?=some c):ixM (.str l) (.int (j:Int)) s=.ok (.str [c]) s:=by
 have hl:j<l.length:=(ab.mp hj).1
 have e:l[j]=c:=(ab.mp hj).2
 simp[ixM,ixn,hl,e]
theorem aV7 (s:Sto)(n:Nat)(a b:Int):eqv s n (.int a) (.int b)=some (a==b):=by cases n<;>rfl
noncomputable def shN (f:Nat->Nat->Int)(i j:Nat):Nat->Int
 | 0=>3
 | k+1=>let b:=max (max (f i k) (if f k k=1 then 2 else f k k)) (f k j);if b<shN f i j k then b else shN f i j k
noncomputable def sh (m:Nat)(f:Nat->Nat->Int)(i j:Nat):Int:=shN f i j m
theorem ax9 {a b c:Int}{s:Sto}:bi .max3 [.int a,.int b,.int c] s=.ok (.int (max (max a b) c)) s:=rfl
theorem at1 {m:Nat}{f:Nat->Nat->Int}{s:Sto}:bi .len [gd m f] s=.ok (.int m) s:=by
 show R.ok (D.int ((ae m).map λ i=>D.tup (row m (f i))).length) s=_
 simp
theorem jy {s:Sto}{l:List D}{v:D}(h:l.length<LIM):meth .append (.ref s.length) [v] (s++[.lst l])=.ok .non (s++[.lst (l++[v])]):=aK2 (t:=[]) h
theorem br0 {P:Pr}[Has P ae8](n:Nat){m:Nat}(hR:m<=5)(f:Nat->Nat->Int)(s:Sto) :
  (aa0 P (n+1)).call "_law_sharp" [gd m f] s=.ok (gd m (sh m f)) s:=by
 have Y:(aa0 P (n+1)).call "_law_sharp" [gd m f] s=_:=zn ae8 (n:=n) rfl
 rw[Y]
 simp -implicitDefEqProofs [ae8,at1]
 rw[zN (by unfold W62;omega) (by unfold W62;omega)]
 simp only[R.bind_ok]
 refine aj4 (λ i ρ t=>∃(T:Sto) (x y z u v w:Option D),ρ=[some (gd m f),some (.int m),some (.ref s.length),x,y,z,u,v,w]/\t=s++.lst ((ae i).map λ i=>.tup (row m (sh m f i)))::T) ⟨[],none,none,none,none,none,none,rfl,rfl⟩ (λ _ _ _ _ _=>rfl) ?_ ?_
 ·rintro i d ρ t hi ⟨T,x,y,z,u,v,w,rfl,rfl⟩
  have qq:=qi hi
  have C:=qq.1
  have hd:=qq.2
  rw[hd]
  simp -implicitDefEqProofs only[turn,zb,zD,zx,aB,za,zU,ev_lst,zu,R.bind_ok,qZ,zr,zd,ex_for,z6,zg,ze,zl,eR,dF,aZ,aQ]
  rw[zN (by unfold W62;omega) (by unfold W62;omega)]
  simp only[R.bind_ok]
  generalize J:(ae i).map (λ i=>D.tup (row m (sh m f i)))=X
  have Z:X.length=i:=by rw[<-J];simp
  refine jf (W:=Nx _) (λ j ρ t=>∃(z u v w:Option D),ρ=[some (gd m f),some (.int m),some (.ref s.length),some (.int i),some (.ref (s.length+(T.length+1))),z,u,v,w]/\t=s++.lst X::(T++[.lst ((ae j).map λ j=>.int (sh m f i j))])) ⟨z,u,v,w,rfl,rfl⟩ (λ _ _ _ _ _=>rfl) ?_ ?_
  ·rintro j d ρ t hj ⟨z,u,v,w,rfl,rfl⟩
   have B:=(qi hj).1
   rw[(qi hj).2]
   simp -implicitDefEqProofs only[turn,zb,zD,zx,aB,za,zU,zE,zG,R.bind_ok,zr,zd,ex_for,z6,zg,ze,zl]
   rw[zN (by unfold W62;omega) (by unfold W62;omega)]
   simp only[R.bind_ok]
   refine jf (W:=Nx _) (λ k ρ t=>∃(v w:Option D),ρ=[some (gd m f),some (.int m),some (.ref s.length),some (.int i),some (.ref (s.length+(T.length+1))),some (.int j),some (.int (shN f i j k)),v,w]/\t=s++.lst X::(T++[.lst ((ae j).map λ j=>.int (sh m f i j))])) ⟨v,w,rfl,rfl⟩ (λ _ _ _ _ _=>rfl) ?_ ?_
   ·rintro k d ρ t hk ⟨v,w,rfl,rfl⟩
    have h:=(qi hk).1
    rw[(qi hk).2]
    refine aC9 (ρ:=[some (gd m f),some (.int m),some (.ref s.length),some (.int i),some (.ref (s.length+(T.length+1))),some (.int j),some (.int (shN f i j (k+1))),some (.int k),some (.int (if f k k=1 then 2 else f k k))]) (s:=s++.lst X::(T++[.lst ((ae j).map λ j=>.int (sh m f i j))])) ?_ ⟨_,_,rfl,rfl⟩
    by_cases h1:f k k=1
    ·simp -implicitDefEqProofs [turn,as8 h,as8 C,qU h,qU B,h1,ax9,shN]
    ·simp -implicitDefEqProofs [turn,as8 h,as8 C,qU h,qU B,h1,ax9,shN]
   ·rintro ρ t ⟨v,w,rfl,rfl⟩
    rw[zM]
    have G:(s++.lst X::(T++[O.lst ((ae j).map λ j=>D.int (sh m f i j))]))[s.length+(T.length+1)]?=some (.lst ((ae j).map λ j=>.int (sh m f i j))):=aw3
    simp -implicitDefEqProofs only[zd,za,zh,ex_ex,qp,zo,zu,zg,ze,zl,R.bind_ok]
    rw[jz G (by unfold LIM;simp;omega)]
    simp -implicitDefEqProofs only[R.bind_ok,zd,zh,aZ9]
    refine⟨_,_,_,_,rfl,?_⟩
    rw[bW _ _ (by omega),bF,List.set_cons_succ,bW _ _ (ah _),fR,List.set_cons_zero,bU,bu]
    rfl
  ·rintro ρ t ⟨z,u,v,w,rfl,rfl⟩
   rw[zM]
   have G:(s++.lst X::(T++[O.lst ((ae m).map λ j=>D.int (sh m f i j))]))[s.length+(T.length+1)]?=some (.lst ((ae m).map λ j=>.int (sh m f i j))):=aw3
   simp -implicitDefEqProofs only[zd,za,zh,ex_ex,qp,zo,zu,zg,ze,zl,R.bind_ok,ev_mk,evL_seq,aM8,G,mk]
   rw[aK2 (by unfold LIM;omega)]
   simp -implicitDefEqProofs only[R.bind_ok,zd,zh,aZ9]
   refine⟨T++[O.lst (bp (λ j=>D.int (sh m f i j)) (ae m))],_,_,_,_,_,_,rfl,?_⟩
   rw[bU,bu,J]
   rfl
 ·rintro ρ t ⟨T,x,y,z,u,v,w,rfl,rfl⟩
  rw[zM]
  have h0:(s++.lst ((ae m).map λ i=>D.tup (row m (sh m f i)))::T:Sto)[s.length]?=some (.lst ((ae m).map λ i=>D.tup (row m (sh m f i)))):=by rw[aj (ah _)];simp
  simp -implicitDefEqProofs [aM8,h0,mk]
  exact zQ (d:=gd m (sh m f)) qx (by nofun)
theorem aW2 {s:Sto}{n m:Nat}{f g:Nat->Int}:∀ l:List Nat,eqL (eqv s n) (l.map λ j=>.int (f j)) (l.map λ j=>.int (g j))=some (l.all λ j=>f j==g j)
 | []=>rfl
 | a::l=>by
  rw[aI,aI]
  unfold eqL
  rw[aV7,aW2 (m:=m) l]
  simp
theorem bt1 {s:Sto}{n m:Nat}{f g:Nat->Nat->Int}:∀ l:List Nat,eqL (eqv s (n+1)) (l.map λ i=>.tup (row m (f i))) (l.map λ i=>.tup (row m (g i)))=some (l.all λ i=>(ae m).all λ j=>f i j==g i j)
 | []=>rfl
 | a::l=>by
  rw[aI,aI]
  unfold eqL
  rw[show eqv s (n+1) (.tup (row m (f a))) (.tup (row m (g a)))=eqL (eqv s n) (row m (f a)) (row m (g a))from rfl,row,row,aW2 (m:=m),bt1 l]
  simp
def EqG (m:Nat)(f g:Nat->Nat->Int):Prop:=∀ i j,i<m->j<m->f i j=g i j
theorem aN4 {s:Sto}{m:Nat}{f g:Nat->Nat->Int}:∃ b:Bool,eqv s DEEP (gd m f) (gd m g)=some b/\(b=true↔EqG m f g):=by
 refine⟨_,bt1 (n:=28) (ae m),?_⟩
 simp[EqG,aM]
 exact⟨λ h i j y hj=>h i y j hj,λ h i y j hj=>h i j y hj⟩
theorem cd6 {s:Sto}{m:Nat}{f g:Nat->Nat->Int}:∃ b:Bool,qE .eq (gd m f) (gd m g) s=.ok (.bl b) s/\(b=true↔EqG m f g):=by
 obtain⟨b,e,h⟩:=aN4 (s:=s) (m:=m) (f:=f) (g:=g)
 exact⟨b,by show(match eqv s DEEP (gd m f) (gd m g)with|some r=>R.ok (D.bl r) s|none=>.bad)=_;rw[e],h⟩
theorem cc0 {s:Sto}{m:Nat}{f g:Nat->Nat->Int}:∃ b:Bool,qE .ne (gd m f) (gd m g) s=.ok (.bl (!b)) s/\(b=true↔EqG m f g):=by
 obtain⟨b,e,h⟩:=aN4 (s:=s) (m:=m) (f:=f) (g:=g)
 exact⟨b,by show(match eqv s DEEP (gd m f) (gd m g)with|some r=>R.ok (D.bl (!r)) s|none=>.bad)=_;rw[e],h⟩
inductive Stp where
 | let_ (c:Nat)|pair (i j:Nat)|sharp (i:Nat)
noncomputable def cf4:List Nat:=[108,101,116,116,101,114]
noncomputable def bh7:List Nat:=[112,97,105,114]
noncomputable def aE3:List Nat:=[116,105,109,101,115]
noncomputable def Stp.d:Stp->D
 | .let_ c=>.tup [.str [108,101,116,116,101,114],.str [c]]
 | .pair i j=>.tup [.str [112,97,105,114],.int i,.int j]
 | .sharp i=>.tup [.str [115,104,97,114,112],.int i]
theorem zL {l:List D}(h:∀ d∈l,d.ncl=true):D.nclL l=true:=by
 induction l with
 | nil=>rfl
 | cons d l ih=>unfold D.nclL;rw[h d (aD ..),ih λ x hx=>h x (au _ hx)];rfl
theorem bj9 {l:List Nat}:D.nclL (by9 l)=true:=zL λ d hd=>by obtain⟨x,_,rfl⟩:=av.mp hd;rfl
theorem bj8 {l:List Int}:D.nclL (l.map D.int)=true:=zL λ d hd=>by obtain⟨x,_,rfl⟩:=av.mp hd;rfl
theorem aZ0 {m:Nat}{f:Nat->Int}:D.nclL (row m f)=true:=zL λ d hd=>by obtain⟨x,_,rfl⟩:=av.mp hd;rfl
theorem aq3 {m:Nat}{f:Nat->Nat->Int}:(gd m f).ncl=true:=by
 unfold gd D.ncl
 exact zL λ d hd=>by obtain⟨x,_,rfl⟩:=av.mp hd;unfold D.ncl;exact aZ0
theorem bA7 {s:Sto}{r:Nat}{o:O}(h:s.all O.ncl=true)(ho:o.ncl=true):(s.set r o).all O.ncl=true:=by
 rw[aM]at h ⊢
 intro x hx
 rcases eM hx with h1|h1
 ·exact h x h1
 ·rw[h1];exact ho
section
variable {s:Sto} {r:Nat} {b:Int} {A B C:List D} {T:Sto}
end
noncomputable def qg (m:Nat)(fs:List (Nat->Nat->Int)):List D:=fs.map (gd m)
theorem ax4 {m i:Nat}{fs:List (Nat->Nat->Int)}{f:Nat->Nat->Int}(h:fs[i]?=some f):(qg m fs)[i]?=some (gd m f):=by
 unfold qg;rw[ax,h];rfl
theorem ba4 {f g:Nat->Nat->Int}{i j:Nat}{x:Int}:∀ k,prN f g i j k<=x↔3<=x\/∃ l,l<k/\f i l<3/\f i l<=x/\g l j<=x
 | 0=>by unfold prN;exact⟨.inl,λ h=>h.elim id λ⟨l,hl,_⟩=>absurd hl (dZ _)⟩
 | k+1=>by
  have y:=ba4 (f:=f) (g:=g) (i:=i) (j:=j) (x:=x) k
  have key:prN f g i j (k+1)<=x↔prN f g i j k<=x\/(f i k<3/\f i k<=x/\g k j<=x):=by
   conv=>lhs;unfold prN
   simp only
   repeat' split
   all_goals omega
  rw[key,y]
  constructor
  ·rintro((h|⟨l,h1,h2⟩)|h)
   ·exact .inl h
   ·exact .inr ⟨l,by omega,h2⟩
   ·exact .inr ⟨k,by omega,h⟩
  ·rintro(h|⟨l,h1,h2⟩)
   ·exact .inl (.inl h)
   ·by_cases e:l=k
    ·subst e;exact .inr h2
    ·exact .inl (.inr ⟨l,by omega,h2⟩)
theorem bC7 {m:Nat}{f g:Nat->Nat->Int}{i j:Nat}{x:Int}(hx:x<3):pr m f g i j<=x↔∃ l,l<m/\f i l<=x/\g l j<=x:=by
 unfold pr
 rw[ba4]
 constructor
 ·rintro(h|⟨l,B,_,y,h3⟩)
  ·omega
  ·exact⟨l,B,y,h3⟩
 ·rintro⟨l,B,y,h3⟩
  exact .inr ⟨l,B,by omega,y,h3⟩
theorem cb6 {m:Nat}{f g:Nat->Nat->Int}{i j:Nat}:pr m f g i j<=3:=by
 unfold pr;exact(ba4 _).mpr (.inl (bO _))
theorem bx3 {a b:Int}(ha:a<=3)(hb:b<=3)(h:∀ x,x<3->(a<=x↔b<=x)):a=b:=by
 by_cases h1:a<3
 ·have:=(h a h1).mp (bO _)
  have:=(h b (by omega)).mpr (bO _)
  omega
 ·by_cases h2:b<3
  ·have:=(h b h2).mpr (bO _);omega
  ·omega
noncomputable def pw (m:Nat)(f:Nat->Nat->Int):Nat->Nat->Nat->Int
 | 0=>f
 | n+1=>pr m (pw m f n) f
theorem cn8 {m:Nat}{f:Nat->Nat->Int}(h:∀ i j,f i j<=3):∀ n i j,pw m f n i j<=3
 | 0,i,j=>h i j
 | n+1,i,j=>cb6
def Wlk (m:Nat)(f:Nat->Nat->Int)(x:Int)(n i j:Nat):Prop:=∃ w:Nat->Nat,w 0=i/\w n=j/\(∀ k,k<=n->w k<m)/\∀ k,k<n->f (w k) (w (k+1))<=x
section
variable {m:Nat} {f:Nat->Nat->Int} {x:Int}
theorem Wlk.app {a b i k j:Nat}:Wlk m f x a i k->Wlk m f x b k j->Wlk m f x (a+b) i j:=by
 rintro⟨w,G,C,w2,B⟩ ⟨v,v0,Y,J,Z⟩
 refine⟨λ t=>if t<a then w t else v (t - a),?_,?_,λ t ht=>?_,λ t ht=>?_⟩
 ·by_cases h:0<a
  ·simp only[h,if_true];exact G
  ·have:a=0:=by omega
   subst this
   simp only[bo,if_false]
   rw[v0,<-C,G]
 ·have:¬ a+b<a:=by omega
  simp only[this,if_false]
  rw[bF];exact Y
 ·by_cases h:t<a
  ·simp only[h,if_true];exact w2 t (by omega)
  ·simp only[h,if_false];exact J _ (by omega)
 ·by_cases h:t<a
  ·by_cases y:t+1<a
   ·simp only[h,y,if_true];exact B t h
   ·have e:t+1=a:=by omega
    simp only[h,y,if_true,if_false]
    rw[show t+1 - a=0 by omega,v0,<-C,<-e]
    exact B t h
  ·have y:¬ t+1<a:=by omega
   simp only[h,y,if_false]
   rw[show t+1 - a=t - a+1 by omega]
   exact Z _ (by omega)
theorem Wlk.split {a b i j:Nat}:Wlk m f x (a+b) i j->∃ k,k<m/\Wlk m f x a i k/\Wlk m f x b k j:=by
 rintro⟨w,B,y,w2,h⟩
 refine⟨w a,w2 a (by omega),⟨w,B,rfl,λ k hk=>w2 k (by omega),λ k hk=>h k (by omega)⟩,⟨λ t=>w (a+t),rfl,y,λ k hk=>w2 _ (by omega),λ k hk=>h (a+k) (by omega)⟩⟩
theorem Wlk.one {i j:Nat}(G:i<m)(hj:j<m):Wlk m f x 1 i j↔f i j<=x:=by
 constructor
 ·rintro⟨w,B,y,w2,C⟩
  have:=C 0 (by decide)
  rw[B,y]at this
  exact this
 ·intro h
  refine⟨λ t=>if t=0 then i else j,rfl,rfl,λ k _=>?_,λ k hk=>?_⟩
  ·show(if k=0 then i else j)<m
   split<;>assumption
  ·have:k=0:=by omega
   subst this;exact h
theorem am3 (hx:x<3):∀ n i j,i<m->j<m->(pw m f n i j<=x↔Wlk m f x (n+1) i j)
 | 0,i,j,hi,hj=>(Wlk.one hi hj).symm
 | n+1,i,j,hi,hj=>by
  show pr m (pw m f n) f i j<=x↔_
  rw[bC7 hx]
  constructor
  ·rintro⟨l,hl,B,y⟩
   exact((am3 hx n i l hi hl).mp B).app ((Wlk.one hl hj).mpr y)
  ·intro h
   obtain⟨k,hk,B,y⟩:=h.split
   exact⟨k,hk,(am3 hx n i k hi hk).mpr B,(Wlk.one hk hj).mp y⟩
theorem pig:∀(B:Nat) (f:Nat->Nat),(∀ i,i<=B->f i<B)->∃ i j,i<j/\j<=B/\f i=f j
 | 0,f,h=>absurd (h 0 (ah _)) (dZ _)
 | B+1,f,h=>by
  by_cases hx:∃ i,i<=B/\f i=f (B+1)
  ·obtain⟨i,C,y⟩:=hx
   exact⟨i,B+1,by omega,ah _,y⟩
  ·obtain⟨i,j,C,y,h3⟩:=pig B (λ i=>if f i=B then f (B+1)else f i) λ i Y=>by
    have G:=h i (by omega)
    have J:=h (B+1) (ah _)
    have Z:f i≠f (B+1):=λ e=>hx ⟨i,Y,e⟩
    show(if f i=B then f (B+1)else f i)<B
    split<;>omega
   refine⟨i,j,C,by omega,?_⟩
   have G:f i≠f (B+1):=λ e=>hx ⟨i,by omega,e⟩
   have J:f j≠f (B+1):=λ e=>hx ⟨j,y,e⟩
   have h3:(if f i=B then f (B+1)else f i)=(if f j=B then f (B+1)else f j):=h3
   split at h3<;>split at h3<;>omega
theorem Wlk.pump (hm:m<=5){n i j:Nat}(hn:5<=n):Wlk m f x n i j->Wlk m f x (n+60) i j:=by
 rintro⟨w,w0,J,w2,y⟩
 obtain⟨p,q,h1,h2,h3⟩:=pig 5 w λ k hk=>am (w2 k (by omega)) hm
 obtain⟨c,hc⟩:∃ c,q=p+c:=⟨q - p,by omega⟩
 have G:1<=c:=by omega
 have Y:c<=5:=by omega
 have a0:60 % c=0:=by
  have:c=1\/c=2\/c=3\/c=4\/c=5:=by omega
  rcases this with rfl|rfl|rfl|rfl|rfl<;>rfl
 have A:Wlk m f x p i (w p):=⟨w,w0,rfl,λ k hk=>w2 k (by omega),λ k hk=>y k (by omega)⟩
 have C:Wlk m f x c (w p) (w p):=⟨λ t=>w (p+t),rfl,by show w (p+c)=_;rw[<-hc,h3],λ k hk=>w2 _ (by omega),λ k hk=>y (p+k) (by omega)⟩
 have B:Wlk m f x (n - p) (w p) j:=⟨λ t=>w (p+t),rfl,by show w (p+(n - p))=_;rw[show p+(n - p)=n by omega];exact J,λ k hk=>w2 _ (by omega),λ k hk=>y (p+k) (by omega)⟩
 have Z:∀ t,Wlk m f x (c*t) (w p) (w p):=λ t=>by
  induction t with
  | zero=>exact⟨λ _=>w p,rfl,rfl,λ _ _=>w2 p (by omega),λ k hk=>by omega⟩
  | succ t ih=>exact ih.app C
 have h:c*(60 / c)=60:=by
  have:=Nat.div_add_mod 60 c
  omega
 have:=(A.app (Z (60 / c))).app B
 rw[h,show p+60+(n - p)=n+60 by omega]at this
 exact this
end
noncomputable def bo2 (m:Nat)(f:Nat->Nat->Int):Nat:=((ae m).map λ i=>((ae m).map λ j=>(f i j).toNat).sum).sum
theorem br6 {l:List Nat}{f g:Nat->Nat}(h:∀ i∈l,f i<=g i):(l.map f).sum<=(l.map g).sum/\((l.map f).sum=(l.map g).sum->∀ i∈l,f i=g i):=by
 induction l with
 | nil=>exact⟨ah _,λ _ i y=>by cases y⟩
 | cons a l ih =>
  obtain⟨C,B⟩:=ih λ i y=>h i (au _ y)
  have ha:=h a (aD ..)
  simp only[aI,jW]
  refine⟨by omega,λ e i y=>?_⟩
  rcases az.mp y with rfl|y
  ·omega
  ·exact B (by omega) i y
theorem bC6 {m:Nat}{f g:Nat->Nat->Int}(h0:∀ i j,i<m->j<m->0<=f i j)(h:∀ i j,i<m->j<m->f i j<=g i j):bo2 m f<=bo2 m g/\(bo2 m f=bo2 m g->EqG m f g):=by
 have row:∀ i,i<m->((ae m).map λ j=>(f i j).toNat).sum<=((ae m).map λ j=>(g i j).toNat).sum/\(((ae m).map λ j=>(f i j).toNat).sum=((ae m).map λ j=>(g i j).toNat).sum->∀ j∈ae m,(f i j).toNat=(g i j).toNat):=λ i y=>br6 λ j hj=>by
  have:=h i j y (aR.mp hj)
  omega
 obtain⟨C,B⟩:=br6 (l:=ae m) (f:=λ i=>((ae m).map λ j=>(f i j).toNat).sum) (g:=λ i=>((ae m).map λ j=>(g i j).toNat).sum) λ i y=>(row i (aR.mp y)).1
 refine⟨C,λ e i j y hj=>?_⟩
 have e1:=B e i (aR.mpr y)
 have e2:=(row i y).2 e1 j (aR.mpr hj)
 have:=h0 i j y hj
 have:=h i j y hj
 omega
theorem aE8 {l:List Nat}{f:Nat->Nat}{c:Nat}(h:∀ i∈l,f i<=c):(l.map f).sum<=l.length*c:=by
 induction l with
 | nil=>simp
 | cons a l ih =>
  have C:=ih λ i y=>h i (au _ y)
  have B:=h a (aD ..)
  simp only[aI,jW,aQ,j4]
  omega
theorem bB8 {m:Nat}(B:m<=5){f:Nat->Nat->Int}(h:∀ i j,f i j<=3):bo2 m f<=75:=by
 have y:bo2 m f<=(ae m).length*15:=aE8 λ i _=>by
  have:((ae m).map λ j=>(f i j).toNat).sum<=(ae m).length*3:=aE8 λ j _=>by have:=h i j;omega
  rw[bT]at this
  omega
 rw[bT]at y
 omega
theorem bg0 {m:Nat}(hm:m<=5){f:Nat->Nat->Int}(h0:∀ i j,0<=f i j)(h3:∀ i j,f i j<=3):∃ M,M<=5000/\EqG m (pr m (pw m f M) (pw m f M)) (pw m f M):=by
 have Y:=cn8 (m:=m) h3
 have p0:∀ n i j,i<m->j<m->0<=pw m f n i j:=λ n i j y hj=>by
  by_cases h:0<=pw m f n i j
  ·exact h
  ·obtain⟨w,w0,w1,w2,w3⟩:=(am3 (m:=m) (f:=f) (x:=-1) (by decide) n i j y hj).mp (by omega)
   have:=w3 0 (by omega)
   have:=h0 (w 0) (w (0+1))
   omega
 have Z:∀ t i j,i<m->j<m->pw m f (60*(t+1)+59) i j<=pw m f (60*t+59) i j:=λ t i j y hj=>by
  by_cases hx:pw m f (60*t+59) i j<3
  ·have:=(am3 hx _ i j y hj).mp (bO _)
   exact(am3 hx _ i j y hj).mpr (by
    have:=this.pump hm (by omega)
    rwa [show 60*t+59+1+60=60*(t+1)+59+1 by omega]at this)
  ·have:=Y (60*(t+1)+59) i j
   omega
 have ex:∃ t,t<=75/\EqG m (pw m f (60*(t+1)+59)) (pw m f (60*t+59)):=by
  by_cases hne:∃ t,t<=75/\EqG m (pw m f (60*(t+1)+59)) (pw m f (60*t+59))
  ·exact hne
  ·have G:∀ t,t<=76->bo2 m (pw m f (60*t+59))+t<=75:=by
    intro t
    induction t with
    | zero=>intro _;exact bB8 hm (Y _)
    | succ t ih =>
     intro ht
     have B:=ih (by omega)
     obtain⟨C,h4⟩:=bC6 (p0 (60*(t+1)+59)) (Z t)
     have:bo2 m (pw m f (60*(t+1)+59))≠bo2 m (pw m f (60*t+59)):=λ e=>hne ⟨t,by omega,h4 e⟩
     omega
   have:=G 76 (by omega)
   omega
 obtain⟨t,ht,he⟩:=ex
 refine⟨60*t+59,by omega,λ i j y hj=>?_⟩
 have same:∀ x,x<3->∀ i j,i<m->j<m->(Wlk m f x (60*(t+1)+60) i j↔Wlk m f x (60*(t+1)) i j):=λ x hx i j y hj=>by
  have B:=am3 (m:=m) (f:=f) hx (60*(t+1)+59) i j y hj
  have C:=am3 (m:=m) (f:=f) hx (60*t+59) i j y hj
  rw[he i j y hj]at B
  exact B.symm.trans C
 have J:∀ x,x<3->∀ s i j,i<m->j<m->(Wlk m f x (60*(t+1)+60*s) i j↔Wlk m f x (60*(t+1)) i j):=λ x hx s=>by
  induction s with
  | zero=>intro i j _ _;exact Iff.rfl
  | succ s ih =>
   intro i j y hj
   rw[<-ih i j y hj]
   constructor
   ·intro h
    rw[show 60*(t+1)+60*(s+1)=(60*(t+1)+60)+60*s by omega]at h
    obtain⟨k,hk,B,C⟩:=h.split
    exact((same x hx i k y hk).mp B).app C
   ·intro h
    obtain⟨k,hk,B,C⟩:=h.split
    have:=((same x hx i k y hk).mpr B).app C
    rwa [show(60*(t+1)+60)+60*s=60*(t+1)+60*(s+1)by omega]at this
 refine bx3 cb6 (Y _ i j) λ x hx=>?_
 rw[bC7 hx,am3 hx _ i j y hj]
 have key:=J x hx (t+1) i j y hj
 constructor
 ·rintro⟨l,hl,B,C⟩
  have:=((am3 hx _ i l y hl).mp B).app ((am3 hx _ l j hl hj).mp C)
  rw[show 60*t+59+1+(60*t+59+1)=60*(t+1)+60*(t+1)by omega]at this
  exact key.mp this
 ·intro h
  obtain⟨k,hk,B,C⟩:=(key.mpr h).split
  exact⟨k,hk,(am3 hx _ i k y hk).mpr B,(am3 hx _ k j hk hj).mpr C⟩
theorem ar2 {α:Type}{l:List α}{k:Nat}{x:α}(h:l[k]?=some x):l.take (k+1)=l.take k++[x]:=by
 rw[List.take_succ,h];rfl
noncomputable def TB:Int:=2^(2+104*99)
theorem jA {a b:Nat}(h:a<=b):(2:Int)^a<=2^b:=by
 have y:(2:Nat)^a<=2^b:=dU (by decide) h
 have:((2^a:Nat):Int)<=((2^b:Nat):Int):=by exact_mod_cast y
 simpa using this
theorem bu2 {v:Int}(h0:0<=v)(h:v<=TB+100000):v.natAbs<BIG:=by
 have B:TB+100000<2^11000:=by unfold TB;decide +kernel
 have y:(2:Nat)^11000<=BIG:=by unfold BIG;exact dU (by decide) (by decide)
 have h3:((2^11000:Nat):Int)=(2:Int)^11000:=by push_cast;rfl
 omega
theorem ce5 {c:Int}(h0:0<=c)(h:c<=2^103):c.natAbs<BIG:=bu2 h0 (bS h (by
 have:(2:Int)^103<=TB:=by unfold TB;exact jA (by omega)
 omega))
theorem ba3 {a b:Int}(y:a.natAbs<BIG)(h:b.natAbs<BIG):mulOk a b=true:=by
 unfold mulOk;simp[y,h]
section
variable {F:Fns} {ρ:Env} {s:Sto}
noncomputable def apV (F:Fns)(d:D)(l:List D)(s:Sto):R D:=match d with
 | .fn f=>F.call f l s
 | .clo id cs=>F.lam id cs l s
 | _=>.bad
theorem ju {i:Nat}{d:D}(es:Es)(h:ρ[i]?=some (some d)):ev F (.callV i es) ρ s=(evs F es ρ s).bind λ l s=>apV F d l s:=by
 show(evs F es ρ s).bind (λ l s=>match ρ[i]? with
  | some (some (.fn f))=>F.call f l s
  | some (some (.clo id cs))=>F.lam id cs l s
  | _=>.bad)=_
 rw[h]
 cases d<;>rfl
theorem qC {id:String}{y:List Nat}{cs:List D}(B:As)(h:ag7 ρ y=some cs):ap0 F (.lam id y B) ρ s=(ap0 F B ρ s).bind λ l s=>.ok (.clo id cs::l) s:=by
 show(match ag7 ρ y with
  | some cs=>(ap0 F B ρ s).bind λ l s=>R.ok (D.clo id cs::l) s
  | none=>.bad)=_
 rw[h]
end
theorem qz {s:Sto}{o:O}(h:s.all O.ncl=true)(ho:o.ncl=true):(s++[o]).all O.ncl=true:=by rw[List.all_append,h];simp[ho]
noncomputable def Stp.t (c:Int):Stp->D
 | .sharp i=>.tup [.str [116,105,109,101,115],.int i,.int c]
 | x=>x.d
theorem aV8 {s:Sto}{o:O}(ho:o.bnd s.length=true):zW s (.ref s.length) (s++[o])=.ok (.ref s.length) (s++[o]):=by
 have:=aF3 (s:=s) (t:=[]) (u:=[]) ho
 simpa using this
noncomputable def gdD (m:Nat)(W:Nat->Nat->D):D:=.tup ((ae m).map λ i=>.tup ((ae m).map λ j=>W i j))
theorem aY9 {m:Nat}{W:Nat->Nat->D}(h:∀ i j n,(W i j).bnd n=true)(n:Nat):(gdD m W).bnd n=true:=by
 unfold gdD D.bnd
 refine z9 (λ d hd n=>?_) n
 obtain⟨i,_,rfl⟩:=av.mp hd
 unfold D.bnd
 refine z9 (λ d hd n=>?_) n
 obtain⟨j,_,rfl⟩:=av.mp hd
 exact h i j n
theorem jE {P : Pr} [Has P ac8] (n : Nat) {m : Nat} (hm : m <= 1000) {d : D} {s : Sto} {W : Nat -> Nat -> D} (hW : ∀ i j n, (W i j).bnd n = true)
    (h : ∀ i j, i < m -> j < m -> apV (aa0 P n) d [.int i, .int j] (s ++ [.lst ((ae i).map λ i => .tup ((ae m).map λ j => W i j))]) = .ok (W i j) (s ++ [.lst ((ae i).map λ i => .tup ((ae m).map λ j => W i j))])) :
    (aa0 P (n + 1)).call "grid" [.int m, d] s = .ok (gdD m W) s := by
  have e0 : (aa0 P (n + 1)).call "grid" [.int m, d] s = _ := zn ac8 (n := n) rfl
  rw[e0, show(bp some [D.int m, d] ++ ak ac8.vs none) = [some (D.int m), some d, none, none]from rfl]
  simp -implicitDefEqProofs only[ac8]
  simp -implicitDefEqProofs only[za, zh, zU, ev_lst, zu, R.bind_ok, qZ, zb, zD, zx, aB, zr, zd, ex_for, z6, zg, ze, zl]
  rw[zN (by unfold W62; omega) (by unfold W62; omega)]
  simp only[R.bind_ok]
  rw[R.bind_assoc]
  refine aj4 (λ i ρ t => ∃(x : Option D), ρ = [some (D.int m), some d, some (.ref s.length), x] /\ t = s ++ [.lst ((ae i).map λ i => .tup ((ae m).map λ j => W i j))]) ⟨none, rfl, rfl⟩ (λ _ _ _ _ _ => rfl) ?_ ?_
  · rintro i dd ρ t hi ⟨x, rfl, rfl⟩
    have hi5 := (qi hi).1
    rw[(qi hi).2]
    generalize hS : s ++ [O.lst ((ae i).map λ i => D.tup ((ae m).map λ j => W i j))] = S
    have e1 : qS (λ s1 => chk S s1 []) (qj (aa0 P n) (.one 0) (.callV 1 (.cons (.var 2) (.cons (.var 0) .nil)))) (jh 0 (m : Int)) (zX [some (D.int m), some d, some (.ref s.length), some (.int (i : Int))] [none, some 1, some 3]) S = .ok ((ae m).map λ j => W i j) S := by
     obtain⟨ρ1, s1, e1, h1⟩ := qB (ok := λ s1 => chk S s1 []) (g := qj (aa0 P n) (.one 0) (.callV 1 (.cons (.var 2) (.cons (.var 0) .nil)))) (λ ρ u => u = S /\ ∃ x, ρ = [x, some d, some (.int i)]) (λ j => W i j) m (zX [some (D.int m), some d, some (.ref s.length), some (.int (i : Int))] [none, some 1, some 3]) S ⟨rfl, none, rfl⟩ (λ _ _ _ => rfl) (by
      rintro j hj ρ u ⟨rfl, x, rfl⟩
      refine⟨[some (.int j), some d, some (.int i)], u, ?_, rfl, _, rfl⟩
      have hc := h i j hi5 hj
      rw[hS]at hc
      unfold qj
      simp -implicitDefEqProofs only[zb, zx]
      rw[ju (d := d) _ rfl]
      simp -implicitDefEqProofs only[zo, zu, zg, ze, zl, R.bind_ok, hc])
     obtain⟨rfl, _⟩ := h1
     exact e1
    have e2 : turn (aa0 P n) (.one 3) (.cons (.ex (.meth .append (.var 2) (.cons (.mk .tuple (.comp (.one 0) (.rng1 (.var 0)) (.callV 1 (.cons (.var 2) (.cons (.var 0) .nil))) [none, some 1, some 3])) .nil))) .nil) (.int i) [some (D.int m), some d, some (.ref s.length), x] S = .ok (.next [some (D.int m), some d, some (.ref s.length), some (.int i)]) (s ++ [.lst ((ae (i + 1)).map λ i => .tup ((ae m).map λ j => W i j))]) := by
      unfold turn
      simp -implicitDefEqProofs only[zb, zD, zx, aB, za, zh, ex_ex, qp, zo, zu, ev_mk, jb, z6, zg, ze, zl, R.bind_ok]
      rw[zN (by unfold W62; omega) (by unfold W62; omega)]
      simp only[R.bind_ok]
      rw[if_pos (by rw[zM]; unfold LIM; omega), e1, <- hS]
      simp -implicitDefEqProofs only[R.bind_ok, mk]
      rw[jy (by unfold LIM; simp; omega), bU, bu]
      rfl
    rw[e2]
    show ∃ x, _
    exact⟨some (.int i), rfl, rfl⟩
  · rintro ρ t ⟨x, rfl, rfl⟩
    rw[zM]
    have h0 : (s ++ [O.lst ((ae m).map λ i => D.tup ((ae m).map λ j => W i j))])[s.length]? = some (.lst ((ae m).map λ i => D.tup ((ae m).map λ j => W i j))) := by rw[aj (ah _)]; simp
    simp -implicitDefEqProofs only[zd, za, zh, qf, ev_mk, evL_seq, zg, ze, zl, R.bind_ok, aM8, h0, mk, zJ, zO]
    exact zQ (d := gdD m W) (aY9 hW) (by nofun)
def InG (m:Nat)(f:Nat->Nat->Int):Prop:=∀ i j,i<m->j<m->0<=f i j/\f i j<=3
theorem jD {m:Nat}(C:1<=m){f g:Nat->Nat->Int}(h:InG m f)(y:InG m g){i j:Nat}(B:i<m)(hj:j<m){x:Int}:pr m f g i j<=x↔∃ l,l<m/\f i l<=x/\g l j<=x:=by
 by_cases hx:x<3
 ·exact bC7 hx
 ·refine⟨λ _=>⟨0,by omega,?_,?_⟩,λ _=>bS cb6 (by omega)⟩
  ·have:=h i 0 B (by omega);omega
  ·have:=y 0 j (by omega) hj;omega
theorem bm1 {m:Nat}(h:1<=m){f g:Nat->Nat->Int}(y:InG m f)(B:InG m g):EqG m (pr m f g) (L2.aU0 m f g):=λ i j C hj=>L2.ag6 λ x=>by
 rw[jD h y B C hj,L2.aw1 h]
theorem bt4 {f:Nat->Nat->Int}{i j:Nat}{x:Int}:∀ k,shN f i j k<=x↔3<=x\/∃ l,l<k/\f i l<=x/\(if f l l=1 then 2 else f l l)<=x/\f l j<=x
 | 0=>by unfold shN;exact⟨.inl,λ h=>h.elim id λ⟨l,hl,_⟩=>absurd hl (dZ _)⟩
 | k+1=>by
  have y:=bt4 (f:=f) (i:=i) (j:=j) (x:=x) k
  have key:shN f i j (k+1)<=x↔shN f i j k<=x\/(f i k<=x/\(if f k k=1 then 2 else f k k)<=x/\f k j<=x):=by
   conv=>lhs;unfold shN
   simp only
   generalize (if f k k=1 then(2:Int)else f k k)=z
   split<;>omega
  rw[key,y]
  constructor
  ·rintro((h|⟨l,h1,h2⟩)|h)
   ·exact .inl h
   ·exact .inr ⟨l,by omega,h2⟩
   ·exact .inr ⟨k,by omega,h⟩
  ·rintro(h|⟨l,h1,h2⟩)
   ·exact .inl (.inl h)
   ·by_cases e:l=k
    ·subst e;exact .inr h2
    ·exact .inl (.inr ⟨l,by omega,h2⟩)
theorem bt9 {y:Int}(h:0<=y)(h3:y<=3):(if y=1 then 2 else y)=L2.rnd y:=by
 unfold L2.rnd
 repeat' split
 all_goals omega
theorem aL9 {m:Nat}(J:1<=m){f:Nat->Nat->Int}(y:InG m f):EqG m (sh m f) (L2.sharp m f):=λ i j G hj=>L2.ag6 λ x=>by
 unfold sh
 rw[bt4,L2.an5 J]
 constructor
 ·rintro(h|⟨l,hl,C,B,h3⟩)
  ·refine⟨0,by omega,?_,?_,?_⟩
   ·have:=y i 0 G (by omega);omega
   ·have:=y 0 0 (by omega) (by omega)
    have:=(L2.bv4 this.1 this.2).2;omega
   ·have:=y 0 j (by omega) hj;omega
  ·exact⟨l,hl,C,by rw[<-bt9 (y l l hl hl).1 (y l l hl hl).2];exact B,h3⟩
 ·rintro⟨l,hl,C,B,h3⟩
  exact .inr ⟨l,hl,C,by rw[bt9 (y l l hl hl).1 (y l l hl hl).2];exact B,h3⟩
theorem aR1 {m:Nat}(C:1<=m){f g:Nat->Nat->Int}(h:InG m f)(y:InG m g):InG m (pr m f g):=λ i j B hj=>by
 rw[bm1 C h y i j B hj];exact L2.aM5 C h y B hj
theorem bX8 {m:Nat}(B:1<=m){f:Nat->Nat->Int}(h:InG m f):InG m (sh m f):=λ i j y hj=>by
 rw[aL9 B h i j y hj];exact L2.bp1 B h i j y hj
theorem al2 {x:Int}:∀(l:List Int) (a:Int),l.foldl min a<=x↔∃ y∈a::l,y<=x
 | [],a=>by simp
 | b::l,a=>by
  rw[cg,al2 l]
  constructor
  ·rintro⟨y,hy,hx⟩
   rcases az.mp hy with rfl|hy
   ·by_cases h:a<=b
    ·exact⟨a,by simp,by omega⟩
    ·exact⟨b,by simp,by omega⟩
   ·exact⟨y,by simp[hy],hx⟩
  ·rintro⟨y,hy,hx⟩
   simp only[az]at hy
   rcases hy with rfl|rfl|hy
   ·exact⟨min y b,by simp,by omega⟩
   ·exact⟨min a y,by simp,by omega⟩
   ·exact⟨y,by simp[hy],hx⟩
theorem bF3 {l:List Int}{m x:Int}(h:minI l=some m):m<=x↔∃ y∈l,y<=x:=by
 cases l with
 | nil=>cases h
 | cons a l=>rw[<-ao (show some (l.foldl min a)=some m from h)];exact al2 l a
theorem aS0 {l:List Nat}{f:Nat->Int}:qy (l.map λ k=>D.int (f k))=some (l.map f):=by
 induction l with
 | nil=>rfl
 | cons a l ih=>rw[aI];unfold qy;rw[ih];rfl
theorem bv2 {m:Nat}(h:1<=m){f:Nat->Int}{v:Int}(hv:∀ x,v<=x↔∃ k,k<m/\f k<=x)(s:Sto):mk .min ((ae m).map λ k=>D.int (f k)) s=.ok (.int v) s:=by
 obtain⟨w,hw⟩:∃ w,minI ((ae m).map f)=some w:=by
  obtain⟨m',rfl⟩:∃ m',m=m'+1:=⟨m - 1,by omega⟩
  rw[dC]
  exact⟨_,rfl⟩
 show(match(qy ((ae m).map λ k=>D.int (f k))).bind minI with|some m=>R.ok (D.int m) s|none=>.bad)=_
 rw[aS0]
 show(match minI ((ae m).map f)with|some m=>R.ok (D.int m) s|none=>.bad)=_
 rw[hw]
 have:w=v:=L2.ag6 λ x=>by
  rw[bF3 hw,hv]
  constructor
  ·rintro⟨y,hy,hx⟩
   obtain⟨k,hk,rfl⟩:=av.mp hy
   exact⟨k,aR.mp hk,hx⟩
  ·rintro⟨k,hk,hx⟩
   exact⟨_,av.mpr ⟨k,aR.mpr hk,rfl⟩,hx⟩
 rw[this]
section
variable {P:Pr} [Has P ac8] [Has P aa4] [HasL P aa2]
theorem z0 (n:Nat){m:Nat}(C:1<=m)(a0:m<=5){f g:Nat->Nat->Int}(Z:InG m f)(G:InG m g){s:Sto}(hs:s.all O.ncl=true) :
  (aa0 P (n+3)).call "sign_product" [gd m f,gd m g] s=.ok (gd m (pr m f g)) s:=by
 have J:(aa0 P (n+3)).call "sign_product" [gd m f,gd m g] s=_:=zn aa4 (n:=n+2) rfl
 have y:=jE (P:=P) (n+1) (m:=m) (by omega) (d:=.clo "sign_product.0" [.int m,gd m f,gd m g]) (s:=s) (W:=λ i j=>.int (pr m f g i j)) (λ _ _ _=>rfl) (λ i j B hj=>by
  generalize Y:s++[O.lst ((ae i).map λ i=>D.tup ((ae m).map λ j=>D.int (pr m f g i j)))]=S
  have nS:S.all O.ncl=true:=by
   rw[<-Y]
   refine qz hs (zL λ d hd=>?_)
   obtain⟨x,_,rfl⟩:=av.mp hd
   unfold D.ncl
   exact zL λ d hd=>by obtain⟨x,_,rfl⟩:=av.mp hd;rfl
  refine(qY aa2 (n:=n) rfl rfl (by rw[nS];simp[D.nclL,D.ncl,aq3])).trans ?_
  show(ev (aa0 P n) aa2.body [some (.int i),some (.int j),some (.int m),some (gd m f),some (gd m g)] S).bind (zW S)=_
  simp -implicitDefEqProofs only[aa2,ev_mk,jb,z6,zg,ze,zl,R.bind_ok]
  rw[zN (by unfold W62;omega) (by unfold W62;omega)]
  simp only[R.bind_ok]
  rw[if_pos (by rw[zM];unfold LIM;omega)]
  obtain⟨ρ1,s1,e1,h⟩:=qB (ok:=λ s1=>chk S s1 []) (g:=qj (aa0 P n) (.one 0) (.bi .max2 (.cons (.ix (.ix (.var 1) (.var 2)) (.var 0)) (.cons (.ix (.ix (.var 3) (.var 0)) (.var 4)) .nil)))) (λ ρ u=>u=S/\∃ x,ρ=[x,some (gd m f),some (.int i),some (gd m g),some (.int j)]) (λ k=>.int (if g k j > f i k then g k j else f i k)) m (zX [some (.int i),some (.int j),some (.int m),some (gd m f),some (gd m g)] [none,some 3,some 0,some 4,some 1]) S ⟨rfl,none,rfl⟩ (λ _ _ _=>rfl) (by
   rintro k hk ρ u ⟨rfl,x,rfl⟩
   refine⟨[some (.int k),some (gd m f),some (.int i),some (gd m g),some (.int j)],u,?_,rfl,_,rfl⟩
   unfold qj
   simp -implicitDefEqProofs only[zb,zx,jo,zo,zu,js,zg,ze,zl,R.bind_ok,as8 B,as8 hk,qU hk,qU hj,bo4])
  obtain⟨rfl,_⟩:=h
  rw[e1]
  simp only[R.bind_ok]
  rw[bv2 (v:=pr m f g i j) C (λ x=>by
   rw[jD C Z G B hj]
   constructor
   ·rintro⟨l,hl,h,h2⟩;exact⟨l,hl,by split<;>omega⟩
   ·rintro⟨l,hl,h⟩;exact⟨l,hl,by split at h<;>omega,by split at h<;>omega⟩)]
  exact zR)
 rw[J,show(bp some [gd m f,gd m g]++ak aa4.vs none)=[some (gd m f),some (gd m g),none]from rfl]
 simp -implicitDefEqProofs only[aa4,za,zh,zU,jo,zo,zu,zg,ze,zl,R.bind_ok,at1,zb,zD,zx,aB,zr,zd,qf,qL,zI]
 rw[qC (cs:=[.int m,gd m f,gd m g]) _ rfl]
 simp -implicitDefEqProofs only[zB,R.bind_ok,y]
 have e:gdD m (λ i j=>.int (pr m f g i j))=gd m (pr m f g):=rfl
 rw[e,if_pos (by rw[aq3,hs];rfl)]
 simp -implicitDefEqProofs only[R.bind_ok,zJ,zO]
 exact zq qx (by nofun)
end
def bB2 (m:Nat)(f:Nat->Nat->Int):Prop:=EqG m (pr m f f) f
section
variable {P:Pr} [Has P ac8] [Has P aa4] [HasL P aa2] [Has P ab8]
theorem ak9 (n:Nat){m:Nat}(G:1<=m)(y:m<=5){f:Nat->Nat->Int}(B:InG m f){s:Sto}(hs:s.all O.ncl=true) :
  ∃ b:Bool,(aa0 P (n+4)).call "is_steady" [gd m f] s=.ok (.bl b) s/\(b=true↔bB2 m f):=by
 have C:(aa0 P (n+4)).call "is_steady" [gd m f] s=_:=zn ab8 (n:=n+3) rfl
 obtain⟨b,e,h⟩:=cd6 (s:=s) (m:=m) (f:=pr m f f) (g:=f)
 refine⟨b,?_,h⟩
 rw[C,show(bp some [gd m f]++ak ab8.vs none)=[some (gd m f)]from rfl]
 simp -implicitDefEqProofs only[ab8,za,zh,qf,zH,zS,zI,zB,zg,ze,R.bind_ok,z0 n G y B B hs,e,zJ,zO]
 exact aO6
variable [Has P ac5] [Has P ac6] [HasL P ab3] [HasC P "FREE" (.int 0)] [HasC P "UNBOUND" (.int 2)] [HasC P "NONE" (.int 3)]
theorem aG5 {n:Nat}{x:String}{d:D}[HasC P x d](ρ:Env)(s:Sto):ev (aa0 P n) (.glob x) ρ s=.ok d s:=by
 show(match(aa0 P n).con x with|some d=>R.ok d s|none=>.bad)=_
 rw[aH5 (v:=d)]
theorem aJ9 (n:Nat)(x:Int)(s:Sto):(aa0 P (n+1)).call "round_of" [.int x] s=.ok (.int (L2.rnd x)) s:=by
 have y:(aa0 P (n+1)).call "round_of" [.int x] s=_:=zn ac5 (n:=n) rfl
 rw[y,show(bp some [D.int x]++ak ac5.vs none)=[some (D.int x)]from rfl]
 have g1:=λ ρ s=>aG5 (P:=P) (n:=n) (x := "FREE") (d:=.int 0) ρ s
 have h:=λ ρ s=>aG5 (P:=P) (n:=n) (x := "NONE") (d:=.int 3) ρ s
 have B:=λ ρ s=>aG5 (P:=P) (n:=n) (x := "UNBOUND") (d:=.int 2) ρ s
 by_cases h0:x=0
 ·have e:L2.rnd x=x:=by unfold L2.rnd;rw[if_pos (.inl h0)]
  simp -implicitDefEqProofs only[ac5,za,zh,zY,ev_or,zH,zg,ze,R.bind_ok,g1,jB,h0,decide_true,zC,if_true,qf,zJ,zO]
  rw[<-h0,e];exact zR
 ·by_cases h3:x=3
  ·have e:L2.rnd x=x:=by unfold L2.rnd;rw[if_pos (.inr h3)]
   simp -implicitDefEqProofs only[ac5,za,zh,zY,ev_or,zH,zg,ze,R.bind_ok,g1,h,jB,h0,h3,decide_true,decide_false,aH,if_false,zC,if_true,qf,zJ,zO]
   rw[<-h3,e]
   simp -implicitDefEqProofs only[show ¬((3:Int)=0)by decide,h3,decide_false,decide_true,aH,if_false,if_true,zC,R.bind_ok,zJ,zO]
   exact zR
  ·have e:L2.rnd x=2:=by unfold L2.rnd;rw[if_neg (by omega)]
   simp -implicitDefEqProofs only[ac5,za,zh,zY,ev_or,zH,zg,ze,R.bind_ok,g1,h,B,jB,h0,h3,decide_false,aH,if_false,zC,zd,qf,zJ,zO]
   rw[e];exact zR
theorem aE6 (n:Nat){m:Nat}(B:1<=m)(J:m<=5){f:Nat->Nat->Int}(hf:InG m f)(G:bB2 m f){s:Sto}(hs:s.all O.ncl=true) :
  (aa0 P (n+5)).call "sharpened" [gd m f] s=.ok (gd m (sh m f)) s:=by
 have e0:(aa0 P (n+5)).call "sharpened" [gd m f] s=_:=zn ac6 (n:=n+4) rfl
 obtain⟨b,eb,hb⟩:=ak9 (P:=P) n B J hf hs
 have C:b=true:=hb.mpr G
 subst C
 have nL:(O.lst (row m λ k=>L2.rnd (f k k))).ncl=true:=aZ0
 have y:(s++[O.lst (row m λ k=>L2.rnd (f k k))]).all O.ncl=true:=qz hs nL
 have gL:∀ t:Sto,(s++[O.lst (row m λ k=>L2.rnd (f k k))]++t)[s.length]?=some (.lst (row m λ k=>L2.rnd (f k k))):=λ t=>by rw[eR,aj (ah _)];simp
 have Y:=jE (P:=P) (n+3) (m:=m) (by omega) (d:=.clo "sharpened.0" [.int m,gd m f,.ref s.length]) (s:=s++[O.lst (row m λ k=>L2.rnd (f k k))]) (W:=λ i j=>.int (sh m f i j)) (λ _ _ _=>rfl) (λ i j Z hj=>by
  have g0:=gL [O.lst ((ae i).map λ i=>D.tup ((ae m).map λ j=>D.int (sh m f i j)))]
  generalize hS:s++[O.lst (row m λ k=>L2.rnd (f k k))]++[O.lst ((ae i).map λ i=>D.tup ((ae m).map λ j=>D.int (sh m f i j)))]=S at g0
  have nS:S.all O.ncl=true:=by
   rw[<-hS]
   refine qz y (zL λ d hd=>?_)
   obtain⟨x,_,rfl⟩:=av.mp hd
   unfold D.ncl
   exact zL λ d hd=>by obtain⟨x,_,rfl⟩:=av.mp hd;rfl
  refine(qY ab3 (n:=n+2) rfl rfl (by rw[nS];simp[D.nclL,D.ncl,aq3])).trans ?_
  show(ev (aa0 P (n+2)) ab3.body [some (.int i),some (.int j),some (.int m),some (gd m f),some (.ref s.length)] S).bind (zW S)=_
  simp -implicitDefEqProofs only[ab3,ev_mk,jb,z6,zg,ze,zl,R.bind_ok]
  rw[zN (by unfold W62;omega) (by unfold W62;omega)]
  simp only[R.bind_ok]
  rw[if_pos (by rw[zM];unfold LIM;omega)]
  have e1:qS (λ s1=>chk S s1 []) (qj (aa0 P (n+2)) (.one 0) (.bi .max3 (.cons (.ix (.ix (.var 1) (.var 2)) (.var 0)) (.cons (.ix (.var 3) (.var 0)) (.cons (.ix (.ix (.var 1) (.var 0)) (.var 4)) .nil))))) (jh 0 (m:Int)) (zX [some (.int i),some (.int j),some (.int m),some (gd m f),some (.ref s.length)] [none,some 3,some 0,some 4,some 1]) S=.ok ((ae m).map λ k=>.int (max (max (f i k) (L2.rnd (f k k))) (f k j))) S:=by
   obtain⟨ρ1,s1,e1,h⟩:=qB (ok:=λ s1=>chk S s1 []) (g:=qj (aa0 P (n+2)) (.one 0) (.bi .max3 (.cons (.ix (.ix (.var 1) (.var 2)) (.var 0)) (.cons (.ix (.var 3) (.var 0)) (.cons (.ix (.ix (.var 1) (.var 0)) (.var 4)) .nil))))) (λ ρ u=>u=S/\∃ x,ρ=[x,some (gd m f),some (.int i),some (.ref s.length),some (.int j)]) (λ k=>.int (max (max (f i k) (L2.rnd (f k k))) (f k j))) m (zX [some (.int i),some (.int j),some (.int m),some (gd m f),some (.ref s.length)] [none,some 3,some 0,some 4,some 1]) S ⟨rfl,none,rfl⟩ (λ _ _ _=>rfl) (by
    rintro k hk ρ u ⟨rfl,x,rfl⟩
    refine⟨[some (.int k),some (gd m f),some (.int i),some (.ref s.length),some (.int j)],u,?_,rfl,_,rfl⟩
    unfold qj
    simp -implicitDefEqProofs only[zb,zx,jo,zo,zu,js,zg,ze,zl,R.bind_ok,as8 Z,as8 hk,qU hk,qU hj,qM g0 (jI hk),ax9])
   obtain⟨rfl,_⟩:=h
   exact e1
  rw[e1]
  simp only[R.bind_ok]
  rw[bv2 (v:=sh m f i j) B (λ x=>by
   rw[aL9 B hf i j Z hj,L2.an5 B]
   constructor
   ·rintro⟨l,hl,h,h2,h3⟩;exact⟨l,hl,by omega⟩
   ·rintro⟨l,hl,h⟩;exact⟨l,hl,by omega,by omega,by omega⟩)]
  exact zR)
 have er:qS (λ s1=>chk s s1 []) (qj (aa0 P (n+4)) (.one 0) (.call "round_of" (.ex (.ix (.ix (.var 1) (.var 0)) (.var 0)) .nil))) (jh 0 (m:Int)) (zX [some (gd m f),some (.int m),none] [none,some 0]) s=.ok (row m λ k=>L2.rnd (f k k)) s:=by
  obtain⟨ρ1,s1,e1,h⟩:=qB (ok:=λ s1=>chk s s1 []) (g:=qj (aa0 P (n+4)) (.one 0) (.call "round_of" (.ex (.ix (.ix (.var 1) (.var 0)) (.var 0)) .nil))) (λ ρ u=>u=s/\∃ x,ρ=[x,some (gd m f)]) (λ k=>.int (L2.rnd (f k k))) m (zX [some (gd m f),some (.int m),none] [none,some 0]) s ⟨rfl,none,rfl⟩ (λ _ _ _=>rfl) (by
   rintro k hk ρ u ⟨rfl,x,rfl⟩
   refine⟨[some (.int k),some (gd m f)],u,?_,rfl,_,rfl⟩
   unfold qj
   simp -implicitDefEqProofs only[zb,zx,zS,zI,zB,js,zg,ze,zl,R.bind_ok,as8 hk,qU hk,aJ9 (n+3)])
  obtain⟨rfl,_⟩:=h
  exact e1
 rw[e0,show(bp some [gd m f]++ak ac6.vs none)=[some (gd m f),none,none]from rfl]
 simp -implicitDefEqProofs only[ac6,za,zh,zY,ev_not,zS,zI,zB,zg,ze,zl,R.bind_ok,eb,zC,c9,if_false,aH,zd,zU,jo,zo,zu,at1,zb,zD,zx,aB,zr,ev_mk,jb,z6]
 rw[zN (by unfold W62;omega) (by unfold W62;omega)]
 simp only[R.bind_ok]
 rw[if_pos (by rw[zM];unfold LIM;omega),er]
 simp -implicitDefEqProofs only[R.bind_ok,mk,qZ,zr,zd,zb,zD,zx,aB,za,zh,qf,qL,zI,zg,ze,zl]
 rw[qC (cs:=[.int m,gd m f,.ref s.length]) _ rfl]
 simp -implicitDefEqProofs only[zB,R.bind_ok,Y]
 have e:gdD m (λ i j=>.int (sh m f i j))=gd m (sh m f):=rfl
 rw[e,if_pos (by rw[aq3,y];rfl)]
 simp -implicitDefEqProofs only[R.bind_ok,zJ,zO]
 exact zQ qx (by nofun)
end
theorem pw_in {m:Nat}(y:1<=m){f:Nat->Nat->Int}(h:InG m f):∀ n,InG m (pw m f n)
 | 0=>h
 | n+1=>aR1 y (pw_in y h n) h
theorem EqG.pr {m:Nat}{f h g g':Nat->Nat->Int}(C:EqG m f h)(y:EqG m g g'):EqG m (DV.pr m f g) (DV.pr m h g'):=λ i j B hj=>by
 have key:∀ k,k<=m->prN f g i j k=prN h g' i j k:=λ k=>by
  induction k with
  | zero=>intro _;rfl
  | succ k ih=>intro hk;unfold prN;rw[C i k B (by omega),y k j (by omega) hj,ih (by omega)]
 exact key m (ah _)
section
variable {P:Pr} [Has P ac8] [Has P aa4] [HasL P aa2] [Has P ab8] [Has P aa8]
theorem aS3 {F:Fns}{ρ ρ':Env}{s:Sto}{i:Nat}{a b:Int}{e:E}(B:aI8 ρ i s=.ok (.int a) s)(h:ev F e ρ s=.ok (.int b) s)(h3:au6 ρ i (.int (a+b))=some ρ'):ex F (.aug i e) ρ s=.ok (.next ρ') s:=by
 show(aI8 ρ i s).bind (λ x s=>(ev F e ρ s).bind λ y s=>match x,y with
  | .int a,.int b=>match au6 ρ i (.int (a+b))with|some ρ=>R.ok (Ct.next ρ) s|none=>.bad
  | _,_=>.bad)=_
 rw[B]
 simp only[R.bind_ok]
 rw[h]
 simp only[R.bind_ok]
 rw[h3]
end
section
variable {P:Pr} [Has P af3]
variable [Has P aI1]
end
section
variable {m:Nat} (hm:1<=m) {g:Nat->Nat->Int} (hg:InG m g) (hst:bB2 m g)
include hm hg hst
end
theorem bb2 {m j:Nat}{f:Nat->D}{d:D}(h:((ae m).map f)[j]?=some d):j<m/\d=f j:=by
 have hj:=(ab.mp h).1
 simp at hj
 rw[ax,aY hj]at h
 exact⟨hj,(ao h).symm⟩
section
variable {P:Pr} [Has P af3] [Has P ac8] [Has P aa4] [HasL P aa2] [Has P ab8] [Has P ac5] [Has P ac6] [HasL P ab3] [HasC P "FREE" (.int 0)] [HasC P "UNBOUND" (.int 2)] [HasC P "NONE" (.int 3)] [Has P aa8] [Has P aJ2] [Has P bJ4]
variable [Has P ao0] [Has P aI1] [Has P bc7]
end
theorem ap9 {P:Pr}{n:Nat}{x:String}{d:D}[HasC P x d](ρ:Env)(s:Sto):ev (aa0 P n) (.glob x) ρ s=.ok d s:=by
 show(match(aa0 P n).con x with|some d=>R.ok d s|none=>.bad)=_
 rw[aH5 (v:=d)]
noncomputable def un (i j:Nat):Int:=if i=j then 0 else 3
noncomputable def qw (m:Nat)(f:Nat->Nat->Int):Nat->Nat->Nat->Int
 | 0=>un
 | n+1=>pr m (qw m f n) f
section
variable {m:Nat} (hm:1<=m)
theorem bB5:InG m un:=λ i j _ _=>by unfold un;split<;>decide
include hm
theorem ay3 {f:Nat->Nat->Int}(h:InG m f):∀ n,InG m (qw m f n)
 | 0=>bB5
 | n+1=>aR1 hm (ay3 h n) h
theorem bl3 {f g h:Nat->Nat->Int}(B:InG m f)(y:InG m g)(C:InG m h):EqG m (pr m (pr m f g) h) (pr m f (pr m g h)):=λ i j G hj=>L2.ag6 λ x=>by
 rw[jD hm (aR1 hm B y) C G hj,jD hm B (aR1 hm y C) G hj]
 constructor
 ·rintro⟨l,hl,Z,J⟩
  obtain⟨k,hk,h3,Y⟩:=(jD hm B y G hl).mp Z
  exact⟨k,hk,h3,(jD hm y C hk hj).mpr ⟨l,hl,Y,J⟩⟩
 ·rintro⟨k,hk,h3,Y⟩
  obtain⟨l,hl,Z,J⟩:=(jD hm y C hk hj).mp Y
  exact⟨l,hl,(jD hm B y G hl).mpr ⟨k,hk,h3,Z⟩,J⟩
theorem ca7 {f:Nat->Nat->Int}(y:InG m f):EqG m (pr m f un) f:=λ i j B hj=>L2.ag6 λ x=>by
 rw[jD hm y bB5 B hj]
 constructor
 ·rintro⟨l,hl,G,C⟩
  unfold un at C
  split at C
  ·rename_i e;subst e;exact G
  ·have:=(y i j B hj).2;omega
 ·intro h
  exact⟨j,hj,h,by unfold un;rw[if_pos rfl];have:=(y i j B hj).1;omega⟩
theorem bM6 {f:Nat->Nat->Int}(B:InG m f):EqG m (pr m un f) f:=λ i j y hj=>L2.ag6 λ x=>by
 rw[jD hm bB5 B y hj]
 constructor
 ·rintro⟨l,hl,C,G⟩
  unfold un at C
  split at C
  ·rename_i e;subst e;exact G
  ·have:=(B i j y hj).2;omega
 ·intro h
  exact⟨i,y,by unfold un;rw[if_pos rfl];have:=(B i j y hj).1;omega,h⟩
theorem aA3 {f:Nat->Nat->Int}(h:InG m f)(a:Nat):∀ b,EqG m (pr m (qw m f a) (qw m f b)) (qw m f (a+b))
 | 0=>ca7 hm (ay3 hm h a)
 | b+1=>λ i j y hj=>by
  show pr m (qw m f a) (pr m (qw m f b) f) i j=pr m (qw m f (a+b)) f i j
  rw[<-bl3 hm (ay3 hm h a) (ay3 hm h b) h i j y hj]
  exact EqG.pr (aA3 h a b) (λ _ _ _ _=>rfl) i j y hj
theorem bk8 {f:Nat->Nat->Int}(h:InG m f):∀ n,EqG m (qw m f (n+1)) (pw m f n)
 | 0=>bM6 hm h
 | n+1=>EqG.pr (bk8 h n) λ _ _ _ _=>rfl
theorem cd4 {f:Nat->Nat->Int}(B:InG m f){b p:Nat}(h:EqG m (qw m f (b+p)) (qw m f b))(t:Nat):EqG m (qw m f (b+p+t)) (qw m f (b+t)):=λ i j y hj=>by
 rw[<-aA3 hm B (b+p) t i j y hj,<-aA3 hm B b t i j y hj]
 exact EqG.pr h (λ _ _ _ _=>rfl) i j y hj
theorem bs3 {f:Nat->Nat->Int}(y:InG m f){b p:Nat}(h:EqG m (qw m f (b+p)) (qw m f b))(r:Nat):∀ s,EqG m (qw m f (b+(r+p*s))) (qw m f (b+r))
 | 0=>λ _ _ _ _=>rfl
 | s+1=>λ i j B hj=>by
  rw[show b+(r+p*(s+1))=b+p+(r+p*s)by rw[j6];omega,cd4 hm y h (r+p*s) i j B hj]
  exact bs3 y h r s i j B hj
end
theorem bg2 {m:Nat}(hm1:1<=m)(J:m<=5){f:Nat->Nat->Int}(C:InG m f):∃ M,M<=5000/\bB2 m (pw m f M):=by
 obtain⟨M,G,h⟩:=bg0 (m:=m) J (f:=λ i j=>if i<m/\j<m then f i j else 0) (λ i j=>by
  show 0<=(if i<m/\j<m then f i j else 0)
  split
  ·rename_i h;exact(C i j h.1 h.2).1
  ·decide) (λ i j=>by
  show(if i<m/\j<m then f i j else 0)<=3
  split
  ·rename_i h;exact(C i j h.1 h.2).2
  ·decide)
 have e:EqG m (λ i j=>if i<m/\j<m then f i j else 0) f:=λ i j y hj=>if_pos ⟨y,hj⟩
 have B:∀ n,EqG m (pw m (λ i j=>if i<m/\j<m then f i j else 0) n) (pw m f n):=λ n=>by
  induction n with
  | zero=>exact e
  | succ n ih=>exact EqG.pr ih e
 refine⟨M,G,λ i j y hj=>?_⟩
 rw[<-B M i j y hj,<-h i j y hj]
 exact(EqG.pr (B M) (B M) i j y hj).symm
theorem aG6 {m:Nat}(B:1<=m)(G:m<=5){f:Nat->Nat->Int}(y:InG m f):∃ M,M<=5001/\EqG m (qw m f (M+M)) (qw m f M)/\1<=M:=by
 obtain⟨M,J,h⟩:=bg2 B G y
 refine⟨M+1,by omega,λ i j C hj=>?_,by omega⟩
 rw[<-aA3 B y (M+1) (M+1) i j C hj,EqG.pr (bk8 B y M) (bk8 B y M) i j C hj,h i j C hj,bk8 B y M i j C hj]
section
variable {P:Pr} [Has P ac8] [Has P ab6] [HasL P aa7] [HasC P "FREE" (.int 0)] [HasC P "NONE" (.int 3)]
theorem ar6 (n:Nat){m:Nat}(Y:m<=5){s:Sto}(hs:s.all O.ncl=true) :
  (aa0 P (n+3)).call "plain_signs" [.int m] s=.ok (gd m un) s:=by
 have B:(aa0 P (n+3)).call "plain_signs" [.int m] s=_:=zn ab6 (n:=n+2) rfl
 have g1:=λ ρ s=>ap9 (P:=P) (n:=n) (x := "FREE") (d:=.int 0) ρ s
 have C:=λ ρ s=>ap9 (P:=P) (n:=n) (x := "NONE") (d:=.int 3) ρ s
 have y:=jE (P:=P) (n+1) (m:=m) (by omega) (d:=.clo "plain_signs.0" []) (s:=s) (W:=λ i j=>.int (un i j)) (λ _ _ _=>rfl) (λ i j Z hj=>by
  generalize J:s++[O.lst ((ae i).map λ i=>D.tup ((ae m).map λ j=>D.int (un i j)))]=S
  have G:S.all O.ncl=true:=by
   rw[<-J]
   refine qz hs (zL λ d hd=>?_)
   obtain⟨x,_,rfl⟩:=av.mp hd
   unfold D.ncl
   exact zL λ d hd=>by obtain⟨x,_,rfl⟩:=av.mp hd;rfl
  refine(qY aa7 (n:=n) rfl rfl (by rw[G];rfl)).trans ?_
  show(ev (aa0 P n) aa7.body [some (.int i),some (.int j)] S).bind (zW S)=_
  by_cases h:(i:Int)=(j:Int)
  ·have e:un i j=0:=by unfold un;rw[if_pos (by omega)]
   simp -implicitDefEqProofs only[aa7,ev_ite,zH,zg,ze,zl,R.bind_ok,jB,h,decide_true,zC,if_true,g1]
   rw[e];exact zR
  ·have e:un i j=3:=by unfold un;rw[if_neg (by omega)]
   simp -implicitDefEqProofs only[aa7,ev_ite,zH,zg,ze,zl,R.bind_ok,jB,h,decide_false,zC,if_false,aH,C]
   rw[e];exact zR)
 rw[B,show(bp some [D.int m]++ak ab6.vs none)=[some (.int m)]from rfl]
 simp -implicitDefEqProofs only[ab6,za,zh,zg,ze,R.bind_ok,qf,qL,zI]
 rw[qC (cs:=[]) _ rfl]
 simp -implicitDefEqProofs only[zB,R.bind_ok,y]
 have e:gdD m (λ i j=>.int (un i j))=gd m un:=rfl
 rw[e,if_pos (by rw[aq3,hs];rfl)]
 simp -implicitDefEqProofs only[R.bind_ok,zJ,zO]
 exact zq qx (by nofun)
variable [Has P ad5] [Has P aa4] [HasL P aa2]
theorem aV3 (n:Nat){m:Nat}(G:1<=m)(Z:m<=5){f:Nat->Nat->Int}(J:InG m f){s:Sto}(hs:s.all O.ncl=true)(many:Nat) :
  (aa0 P (n+4)).call "raised" [gd m f,.int many,gd m un,.fn "sign_product"] s=.ok (gd m (qw m f many)) s:=by
 have e0:(aa0 P (n+4)).call "raised" [gd m f,.int many,gd m un,.fn "sign_product"] s=_:=zn ad5 (n:=n+3) rfl
 have key:∀ a b,apV (aa0 P (n+3)) (.fn "sign_product") [gd m (qw m f a),gd m (qw m f b)] s=.ok (gd m (qw m f (a+b))) s:=λ a b=>by
  show(aa0 P (n+3)).call "sign_product" _ _=_
  rw[z0 n G Z (ay3 G J a) (ay3 G J b) hs,am8 (aA3 G J a b)]
 have h1:gd m f=gd m (qw m f 1):=am8 λ i j hi hj=>(bM6 G J i j hi hj).symm
 rw[e0,h1,show(bp some [gd m (qw m f 1),.int many,gd m un,.fn "sign_product"]++ak ad5.vs none)=[some (gd m (qw m f 1)),some (.int many),some (gd m un),some (.fn "sign_product"),none,none,none]from rfl]
 simp -implicitDefEqProofs only[ad5]
 simp -implicitDefEqProofs only[za,zh,zU,zg,ze,zl,R.bind_ok,zb,zD,zx,aB,zr,zd,ex_whl]
 rw[R.bind_assoc]
 refine aw8 (λ k ρ t=>∃(a b left:Nat),left=k/\a+b*left=many/\ρ=[some (gd m (qw m f 1)),some (.int many),some (gd m un),some (.fn "sign_product"),some (gd m (qw m f a)),some (gd m (qw m f b)),some (.int left)]/\t=s) (λ ρ t=>∃(b:Nat) (x:Option D),ρ=[some (gd m (qw m f 1)),some (.int many),some (gd m un),some (.fn "sign_product"),some (gd m (qw m f many)),some (gd m (qw m f b)),x]/\t=s) many ⟨0,1,many,rfl,by omega,rfl,rfl⟩ ?_ ?_
 ·rintro k ρ t ⟨a,b,left,rfl,hab,rfl,rfl⟩
  simp -implicitDefEqProofs only[zH,zg,zE,zG,ze,zl,R.bind_ok,gt_int,aW0]
  by_cases hl:(0:Int)<(left:Int)
  ·simp only[hl,decide_true,if_true]
   have h:qN .fdiv (.int left) (.int 2) t=.ok (.int ((left / 2:Nat):Int)) t:=by rw[aj6 (by decide) (by decide)];simp
   have y:qN .mod (.int left) (.int 2) t=.ok (.int ((left % 2:Nat):Int)) t:=by rw[jm (by decide)];simp
   obtain⟨B,ha',e1⟩:∃ B:Nat,B+b*(2*(left / 2))=many/\ex (aa0 P (n+3)) (.ite (.cmp .eq (.bin .mod (.var 6) (.cst (.int 2))) (.cst (.int 1))) (.cons (.asg (.one 4) (.callV 3 (.cons (.var 4) (.cons (.var 5) .nil)))) .nil) .nil) [some (gd m (qw m f 1)),some (.int many),some (gd m un),some (.fn "sign_product"),some (gd m (qw m f a)),some (gd m (qw m f b)),some (.int left)] t=.ok (.next [some (gd m (qw m f 1)),some (.int many),some (gd m un),some (.fn "sign_product"),some (gd m (qw m f B)),some (gd m (qw m f b)),some (.int left)]) t:=by
    by_cases ho:((left % 2:Nat):Int)=1
    ·refine⟨a+b,?_,?_⟩
     ·have:left=2*(left / 2)+1:=by omega
      rw[this,gC]at hab
      have e2:2*((2*(left / 2)+1) / 2)=2*(left / 2):=by omega
      omega
     ·simp -implicitDefEqProofs only[zY,zH,qh,zg,zE,zG,ze,zl,R.bind_ok,y,jB,ho,decide_true,zC,if_true,za,zh,zU]
      rw[ju (d:=.fn "sign_product") _ rfl]
      simp -implicitDefEqProofs only[zo,zu,zg,ze,zl,R.bind_ok,key a b,zb,zD,zx,aB,zr,zd,zh]
    ·refine⟨a,?_,?_⟩
     ·have:left=2*(left / 2):=by omega
      rw[<-this];exact hab
     ·simp -implicitDefEqProofs only[zY,zH,qh,zg,zE,zG,ze,zl,R.bind_ok,y,jB,ho,decide_false,zC,if_false,aH,zh]
   have e2:∃ C:Nat,B+C*(left / 2)=many/\exs (aa0 P (n+3)) (.cons (.asg (.one 6) (.bin .fdiv (.var 6) (.cst (.int 2)))) (.cons (.ite (.cmp .gt (.var 6) (.cst (.int 0))) (.cons (.asg (.one 5) (.callV 3 (.cons (.var 5) (.cons (.var 5) .nil)))) .nil) .nil) .nil)) [some (gd m (qw m f 1)),some (.int many),some (gd m un),some (.fn "sign_product"),some (gd m (qw m f B)),some (gd m (qw m f b)),some (.int left)] t=.ok (.next [some (gd m (qw m f 1)),some (.int many),some (gd m un),some (.fn "sign_product"),some (gd m (qw m f B)),some (gd m (qw m f C)),some (.int ((left / 2:Nat):Int))]) t:=by
    by_cases hl2:(0:Int)<((left / 2:Nat):Int)
    ·refine⟨b+b,?_,?_⟩
     ·rw[<-ha',Nat.add_mul,<-jX,j5 b 2,jX];omega
     ·simp -implicitDefEqProofs only[za,zU,qh,zg,zE,zG,ze,zl,R.bind_ok,h,zb,zD,zx,aB,zr,zd,zY,zH,gt_int,hl2,decide_true,zC,if_true,zh]
      rw[ju (d:=.fn "sign_product") _ rfl]
      simp -implicitDefEqProofs only[zo,zu,zg,ze,zl,R.bind_ok,key b b,zb,zD,zx,aB,zr,zd,zh]
    ·refine⟨b,?_,?_⟩
     ·have:left / 2=0:=by omega
      rw[this]at ha' ⊢
      exact ha'
     ·simp -implicitDefEqProofs only[za,zU,qh,zg,zE,zG,ze,zl,R.bind_ok,h,zb,zD,zx,aB,zr,zd,zY,zH,gt_int,hl2,decide_false,zC,if_false,aH,zh]
   obtain⟨C,Y,e2⟩:=e2
   have e3:exs (aa0 P (n+3)) (.cons (.ite (.cmp .eq (.bin .mod (.var 6) (.cst (.int 2))) (.cst (.int 1))) (.cons (.asg (.one 4) (.callV 3 (.cons (.var 4) (.cons (.var 5) .nil)))) .nil) .nil) (.cons (.asg (.one 6) (.bin .fdiv (.var 6) (.cst (.int 2)))) (.cons (.ite (.cmp .gt (.var 6) (.cst (.int 0))) (.cons (.asg (.one 5) (.callV 3 (.cons (.var 5) (.cons (.var 5) .nil)))) .nil) .nil) .nil))) [some (gd m (qw m f 1)),some (.int many),some (gd m un),some (.fn "sign_product"),some (gd m (qw m f a)),some (gd m (qw m f b)),some (.int left)] t=.ok (.next [some (gd m (qw m f 1)),some (.int many),some (gd m un),some (.fn "sign_product"),some (gd m (qw m f B)),some (gd m (qw m f C)),some (.int ((left / 2:Nat):Int))]) t:=by
    rw[za,e1,R.bind_ok,zd,e2]
   rw[e3]
   exact⟨left / 2,by omega,B,C,left / 2,rfl,Y,rfl,rfl⟩
  ·simp only[hl,decide_false,if_false,aH]
   have h0:left=0:=by omega
   subst h0
   have:a=many:=by omega
   subst this
   exact⟨b,_,rfl,trivial⟩
 ·rintro ρ t ⟨b,x,rfl,rfl⟩
  simp -implicitDefEqProofs only[zd,za,zh,qf,zg,ze,zl,R.bind_ok,zJ,zO]
  exact zq qx (by nofun)
variable [Has P ac2] [HasC P "sign_product" (.fn "sign_product")]
theorem ai8 (n:Nat){m:Nat}(C:1<=m)(h:m<=5){f:Nat->Nat->Int}(y:InG m f){s:Sto}(hs:s.all O.ncl=true)(many:Nat) :
  (aa0 P (n+5)).call "sign_power" [gd m f,.int many] s=.ok (gd m (qw m f many)) s:=by
 have B:(aa0 P (n+5)).call "sign_power" [gd m f,.int many] s=_:=zn ac2 (n:=n+4) rfl
 have e1:(aa0 P (n+4)).call "plain_signs" [.int m] s=_:=ar6 (P:=P) (n+1) h hs
 have g1:=λ ρ s=>ap9 (P:=P) (n:=n+4) (x := "sign_product") (d:=.fn "sign_product") ρ s
 rw[B,show(bp some [gd m f,D.int many]++ak ac2.vs none)=[some (gd m f),some (.int many)]from rfl]
 simp -implicitDefEqProofs only[ac2,za,zh,qf,zS,zI,zB,zg,jo,zo,zu,ze,zl,R.bind_ok,at1,e1,g1,aV3 n C h y hs,zJ,zO]
 exact zq qx (by nofun)
end
theorem by2 {P:Pr}[Has P af7](n:Nat){m:Nat}(Z:m<=5)(s:Sto):(aa0 P (n+1)).call "_law_unit" [.int m] s=.ok (gd m un) s:=by
 have Y:(aa0 P (n+1)).call "_law_unit" [.int m] s=_:=zn af7 (n:=n) rfl
 have hl:(jh 0 (m:Int)).length<=LIM:=by rw[zM];unfold LIM;omega
 have G:∀ s:Sto,bq1 (.int (m:Int)) s=.ok ⟨jh 0 (m:Int),[]⟩ s:=λ s=>zN (by unfold W62;omega) (by unfold W62;omega)
 have y:∀ i,i<m->∀ x,qS (λ s1=>chk s s1 []) (qj (aa0 P n) (.one 0) (.bin .mul (.cst (.int 3)) (.bi .int (.cons (.cmp .ne (.var 1) (.var 0)) .nil)))) (jh 0 (m:Int)) (zX [some (.int (i:Int)),x] [none,some 0]) s=.ok (row m (un i)) s:=λ i J x=>by
  obtain⟨ρ1,s1,e1,B⟩:=qB (ok:=λ s1=>chk s s1 []) (g:=qj (aa0 P n) (.one 0) (.bin .mul (.cst (.int 3)) (.bi .int (.cons (.cmp .ne (.var 1) (.var 0)) .nil)))) (λ ρ u=>u=s/\∃ x,ρ=[x,some (.int i)]) (λ j=>.int (un i j)) m (zX [some (.int (i:Int)),x] [none,some 0]) s ⟨rfl,none,rfl⟩ (λ _ _ _=>rfl) (by
   rintro j hj ρ u ⟨rfl,x,rfl⟩
   refine⟨[some (.int j),some (.int i)],u,?_,rfl,_,rfl⟩
   have C:∀ a:Int,mulOk 3 a=true:=λ a=>qO (by decide)
   unfold qj
   by_cases h:(i:Int)=(j:Int)
   ·have e:un i j=0:=by unfold un;rw[if_pos (by omega)]
    simp -implicitDefEqProofs only[zb,zx,qh,zE,zG,jo,zo,zu,zH,zg,ze,zl,R.bind_ok,ne_int,h,decide_true,c9,aD7,ad8 (C _)]
    rw[e];rfl
   ·have e:un i j=3:=by unfold un;rw[if_neg (by omega)]
    simp -implicitDefEqProofs only[zb,zx,qh,zE,zG,jo,zo,zu,zH,zg,ze,zl,R.bind_ok,ne_int,h,decide_false,gE,aD7,ad8 (C _)]
    rw[e];rfl)
  obtain⟨rfl,_⟩:=B
  exact e1
 obtain⟨ρ1,s1,e1,B⟩:=qB (ok:=λ s1=>chk s s1 []) (g:=qj (aa0 P n) (.one 0) (.mk .tuple (.comp (.one 0) (.rng1 (.var 1)) (.bin .mul (.cst (.int 3)) (.bi .int (.cons (.cmp .ne (.var 1) (.var 0)) .nil))) [none,some 0]))) (λ ρ u=>u=s/\∃ x,ρ=[x,some (.int m)]) (λ i=>.tup (row m (un i))) m (zX [some (.int (m:Int))] [none,some 0]) s ⟨rfl,none,rfl⟩ (λ _ _ _=>rfl) (by
  rintro i J ρ u ⟨rfl,x,rfl⟩
  refine⟨[some (.int i),some (.int m)],u,?_,rfl,_,rfl⟩
  unfold qj
  simp -implicitDefEqProofs only[zb,zx,ev_mk,jb,z6,zg,ze,zl,R.bind_ok,G,if_pos hl]
  rw[y i J]
  rfl)
 obtain⟨rfl,_⟩:=B
 rw[Y,show(bp some [D.int m]++ak af7.vs none)=[some (.int m)]from rfl]
 simp -implicitDefEqProofs only[af7,za,zh,qf,ev_mk,jb,z6,zg,ze,R.bind_ok,G,if_pos hl]
 rw[e1]
 simp -implicitDefEqProofs only[R.bind_ok,mk,zJ,zO]
 exact zq (d:=gd m un) qx (by nofun)
theorem bt7 {s:Sto}{m:Nat}{g:Nat->Nat->Int}:∀ fs:List (Nat->Nat->Int),∃ b:Bool,inL s (gd m g) (fs.map (gd m))=some b/\(b=true↔∃ f∈fs,EqG m f g)
 | []=>⟨false,rfl,by simp⟩
 | f::fs=>by
  obtain⟨b,e,h⟩:=bt7 (s:=s) (m:=m) (g:=g) fs
  obtain⟨c,e2,y⟩:=aN4 (s:=s) (m:=m) (f:=f) (g:=g)
  refine⟨c||b,?_,?_⟩
  ·rw[aI];unfold inL;rw[e2,e]
  ·rw[bD,h,y];simp
theorem bv1 {s:Sto}{m:Nat}{g:Nat->Nat->Int}:∀(fs:List (Nat->Nat->Int)) (k:Nat),(∃ f∈fs,EqG m f g)->∃(j:Nat) (f:Nat->Nat->Int),idx s (gd m g) k (fs.map (gd m))=some (k+j)/\fs[j]?=some f/\EqG m f g
 | [],k,h=>by obtain⟨f,G,_⟩:=h;cases G
 | f::fs,k,h=>by
  obtain⟨c,e2,B⟩:=aN4 (s:=s) (m:=m) (f:=f) (g:=g)
  rw[aI]
  unfold idx
  rw[e2]
  cases c with
  | true=>exact⟨0,f,rfl,rfl,B.mp rfl⟩
  | false =>
   obtain⟨f',y,C⟩:=h
   rcases az.mp y with rfl|y
   ·exact absurd (B.mpr C) (by decide)
   ·obtain⟨j,Z,e,J,Y⟩:=bv1 (s:=s) fs (k+1) ⟨f',y,C⟩
    exact⟨j+1,Z,by simp only[e];rw[show k+1+j=k+(j+1)by omega],J,Y⟩
noncomputable def qd (m:Nat)(f:Nat->Nat->Int)(k:Nat):List (Nat->Nat->Int):=(ae (k+1)).map (qw m f)
theorem jt {m k i:Nat}{f:Nat->Nat->Int}(h:i<=k):(qd m f k)[i]?=some (qw m f i):=by
 unfold qd;rw[ax,aY (by omega)];rfl
theorem aq2 {m k:Nat}{f:Nat->Nat->Int}:(qd m f k).length=k+1:=by unfold qd;simp
section
variable {P:Pr} [Has P ac0] [Has P af7] [Has P aY4]
theorem bc5 {F:Fns}{ρ:Env}{s:Sto}:ev F (.neg (.cst (.int 1))) ρ s=.ok (.int (-1)) s:=rfl
end
noncomputable def ch5:Ss:=(.cons (.ite (.or (.not (.bi .isInt (.cons (.var 3) .nil))) (.bi .isBool (.cons (.var 3) .nil))) (.cons (.ret (.cst (.bl false))) .nil) .nil) .nil)
noncomputable def cb8:Ss:=(.cons (.ite (.or (.not (.bi .isTup (.cons (.var 2) .nil))) (.cmp .ne (.bi .len (.cons (.var 2) .nil)) (.var 1))) (.cons (.ret (.cst (.bl false))) .nil) .nil) (.cons (.for_ (.one 3) (.seq (.var 2)) ch5) .nil))
theorem bG6 {P:Pr}[Has P ah1](n:Nat){m:Nat}(f:Nat->Nat->Int)(s:Sto):(aa0 P (n+1)).call "_law_form" [gd m f,.int m] s=.ok (.bl true) s:=by
 have Z:(aa0 P (n+1)).call "_law_form" [gd m f,.int m] s=_:=zn ah1 (n:=n) rfl
 have body:ah1.body=.cons (.ite (.or (.not (.bi .isTup (.cons (.var 0) .nil))) (.cmp .ne (.bi .len (.cons (.var 0) .nil)) (.var 1))) (.cons (.ret (.cst (.bl false))) .nil) .nil) (.cons (.for_ (.one 2) (.seq (.var 0)) cb8) (.cons (.ret (.cst (.bl true))) .nil)):=rfl
 have it:∀(l:List D) (s:Sto),bi .isTup [.tup l] s=.ok (.bl true) s:=λ _ _=>rfl
 have C:bi .isTup [gd m f] s=.ok (.bl true) s:=rfl
 have B:∀ i,i<m->∀ y h,∃ ρ' s',aS7 (λ s1=>chk s s1 []) (turn (aa0 P n) (.one 3) ch5) (row m (f i)) [some (gd m f),some (.int m),y,h] s=.ok (.next ρ') s'/\∃ h,ρ'=[some (gd m f),some (.int m),y,h]/\s'=s:=λ i J y h=>by
  refine qX (λ _ ρ t=>∃ h,ρ=[some (gd m f),some (.int m),y,h]/\t=s) _ 0 _ _ ⟨h,rfl,rfl⟩ (λ _ _ _ _ _=>rfl) ?_
  rintro j d ρ t hj ⟨h,rfl,rfl⟩
  obtain⟨Y,rfl⟩:=bA4 hj
  refine⟨[some (gd m f),some (.int m),y,some (.int (f i j))],t,.inl ?_,_,rfl,rfl⟩
  unfold turn ch5
  simp -implicitDefEqProofs only[zb,zD,zx,aB,za,zh,zY,ev_or,ev_not,jo,zo,zu,zg,ze,zl,R.bind_ok,bc6,aR7,zC,c9,if_false,aH,zd]
 have outer:=qX (ok:=λ s1=>chk s s1 []) (g:=turn (aa0 P n) (.one 2) cb8) (λ _ ρ t=>∃ y h,ρ=[some (gd m f),some (.int m),y,h]/\t=s) ((ae m).map λ i=>.tup (row m (f i))) 0 [some (gd m f),some (.int m),none,none] s ⟨none,none,rfl,rfl⟩ (λ _ _ _ _ _=>rfl) (by
  rintro i d ρ t J ⟨y,h,rfl,rfl⟩
  obtain⟨G,rfl⟩:=bb2 J
  obtain⟨ρ',s',e,y3,rfl,rfl⟩:=B i G (some (.tup (row m (f i)))) h
  refine⟨[some (gd m f),some (.int m),some (.tup (row m (f i))),y3],s',.inl ?_,_,_,rfl,rfl⟩
  unfold turn cb8
  simp -implicitDefEqProofs only[zb,zD,zx,aB,za,zh,zY,ev_or,ev_not,jo,zo,zu,zg,ze,zl,R.bind_ok,it,zC,c9,if_false,aH,zH,aW8,aw7,ne_int,decide_true,zd,ex_for,evI_seq,aq7]
  rw[e]
  rfl)
 obtain⟨ρ',s',e,y,h,rfl,rfl⟩:=outer
 rw[Z,body,show(bp some [gd m f,D.int m]++ak ah1.vs none)=[some (gd m f),some (.int m),none,none]from rfl]
 simp -implicitDefEqProofs only[za,zh,zY,ev_or,ev_not,jo,zo,zu,zg,ze,zl,R.bind_ok,C,zC,c9,if_false,aH,zH,at1,ne_int,decide_true,zd,ex_for,evI_seq,br8]
 rw[e]
 simp -implicitDefEqProofs only[R.bind_ok,zd,za,zh,qf,zE,Cn_bl,zJ,zO]
 exact aO6
section
variable {P:Pr} [Has P ao0] [Has P af3] [Has P aI1] [Has P ah1] [Has P ac0] [Has P af7] [Has P aY4] [Has P bx6] [Has P aX2] [Has P ac8] [Has P ad5] [Has P ab6] [HasL P aa7] [Has P aa4] [HasL P aa2] [Has P ac2] [HasC P "FREE" (.int 0)] [HasC P "NONE" (.int 3)] [HasC P "sign_product" (.fn "sign_product")]
end
noncomputable def ah9 (S:Int->Prop):Option Int->Prop
 | none=>∀ c,¬ S c
 | some c=>S c/\∀ c',S c'->c<=c'
theorem ah9.congr {S y:Int->Prop}{o:Option Int}(h:ah9 S o)(e:∀ c,S c↔y c):ah9 y o:=by
 cases o with
 | none=>exact λ c hc=>h c ((e c).mpr hc)
 | some c=>exact⟨(e c).mp h.1,λ B hc=>h.2 B ((e B).mpr hc)⟩
noncomputable def minO:Option Int->Option Int->Option Int
 | none,x=>x
 | some a,none=>some a
 | some a,some b=>if b<a then some b else some a
noncomputable def Wk (ds:List Dr):List Nat->Nat->Nat->Int->Prop
 | [],p,q,c=>p=q/\c=0
 | x::w,p,q,c=>∃ d∈ds,d.a=p/\d.l=x/\∃ c':Int,Wk ds w d.b q c'/\c=(d.t:Int)+c'
noncomputable def Dr.turn (x:Dr):Dr:=⟨x.b,x.l,x.a,x.t⟩
def Mc.Wk (m:Mc)(w:List Nat)(c:Int):Prop:=∃ p∈m.bg,∃ q∈m.en,DV.Wk m.ds w p q c
noncomputable def Mc.turn (m:Mc):Mc:=⟨m.L,m.R,m.en,m.bg,m.ds.map Dr.turn⟩
noncomputable def aQ9 (row:List (Option Int)):List D:=row.map qR
theorem bo7 (row:List (Option Int)):(aQ9 row).length=row.length:=aF ..
theorem at0:∀ l:List Int,qy (l.map D.int)=some l
 | []=>rfl
 | a::l=>by rw[aI];unfold qy;rw[at0 l];rfl
theorem aF8:∀(l:List Int) (a:Int),(l.foldl min a=a\/l.foldl min a∈l)/\l.foldl min a<=a/\∀ y∈l,l.foldl min a<=y
 | [],a=>⟨.inl rfl,bO _,λ y hy=>by cases hy⟩
 | b::l,a=>by
  obtain⟨B,C,h3⟩:=aF8 l (min a b)
  rw[cg]
  refine⟨?_,by omega,λ y hy=>?_⟩
  ·rcases B with h|h
   ·rw[h]
    rcases ka a b with z|z
    ·left;omega
    ·right;rw[show min a b=b by omega];exact aD ..
   ·exact .inr (au _ h)
  ·rcases az.mp hy with z|z
   ·rw[z];omega
   ·exact h3 y z
theorem aQ6 (l:List Int):ah9 (λ c=>c∈l) (minI l):=by
 cases l with
 | nil=>exact λ c hc=>by cases hc
 | cons a l =>
  obtain⟨C,B,h3⟩:=aF8 l a
  refine⟨?_,λ y hy=>?_⟩
  ·rcases C with h|h
   ·rw[h];exact aD ..
   ·exact au _ h
  ·rcases az.mp hy with z|z
   ·rw[z];exact B
   ·exact h3 y z
theorem bD8 (l:List Int)(s:Sto):mkD .min (l.map D.int) .non s=.ok (qR (minI l)) s:=by
 unfold mkD
 simp only[at0]
 cases minI l<;>rfl
theorem al1 {α β:Type}{f g:α->Option β}:∀ {l:List α},(∀ x∈l,f x=g x)->l.filterMap f=l.filterMap g
 | [],_=>rfl
 | a::l,h=>by rw[br,br,h a (aD ..),al1 λ x hx=>h x (au _ hx)]
end DV
end
local macro_rules | `(tactic| tbr_iter [$xs,*]) => `(tactic| simp -implicitDefEqProofs only [DV.za, DV.zh, DV.zU, DV.zY, DV.qf, DV.ex_ex, DV.ex_for, DV.ex_whl, DV.ex_setIx, DV.ex_cont, DV.ex_pass, DV.ex_und, DV.zg, DV.zE, DV.qh, DV.ev_not, DV.zH, DV.ev_and, DV.ev_or, DV.ev_ite, DV.ev_tup, DV.ev_lst, DV.js, DV.zS, DV.jo, DV.ev_mk, DV.ev_mkD, DV.ev_mks, DV.ev_mkDs, DV.qp, DV.ev_isN, DV.ev_notN, DV.zu, DV.zo, DV.zB, DV.zI, DV.evI_seq, DV.z6, DV.evL_seq, DV.Cn_bl, DV.zG, DV.Cn_non, DV.Cn_str, DV.R.bind_ok, DV.zb, DV.bindT_tup, DV.setVs_nil, DV.setVs_cons, DV.zD, DV.zx, DV.unsetV_s, DV.unsetV_0, DV.ze, DV.zl, Option.map_some, Option.bind_some, DV.zr, DV.zd, DV.zJ, DV.nxt_cont, DV.zO, DV.fin_next, DV.add_int, DV.sub_int, DV.lt_int, DV.le_int, DV.gt_int, DV.ge_int, DV.jB, DV.ne_int, DV.qZ, DV.zC, if_true, if_false, Bool.false_eq_true, decide_true, decide_false, Bool.not_true, Bool.not_false, $[$xs:term],*])
noncomputable section
namespace DV
noncomputable def gdO (m:Nat)(f:Nat->Nat->Option Int):D:=gdD m λ i j=>qR (f i j)
theorem an3 (o:Option Int):(qR o).ncl=true:=by cases o<;>rfl
theorem ay6 {m:Nat}{f:Nat->Nat->Option Int}(n:Nat):(gdO m f).bnd n=true:=aY9 (λ i j n=>ja _ n) n
theorem ak4 {m:Nat}{f:Nat->Nat->Option Int}:(gdO m f).ncl=true:=by
 unfold gdO gdD D.ncl
 refine zL λ d hd=>?_
 obtain⟨i,_,rfl⟩:=av.mp hd
 unfold D.ncl
 refine zL λ d hd=>?_
 obtain⟨j,_,rfl⟩:=av.mp hd
 exact an3 _
noncomputable def rowO (m:Nat)(f:Nat->Option Int):List D:=(ae m).map λ j=>qR (f j)
theorem bj7 {m j:Nat}{f:Nat->Option Int}(h:j<m):(rowO m f)[j]?=some (qR (f j)):=by unfold rowO;rw[ax,aY h];rfl
theorem aZ4 {m i:Nat}{f:Nat->Nat->Option Int}(h:i<m)(s:Sto):ixM (gdO m f) (.int (i:Int)) s=.ok (.tup (rowO m (f i))) s:=ix_tup (by rw[ax,aY h];rfl)
theorem aI4 {m j:Nat}{f:Nat->Option Int}(h:j<m)(s:Sto):ixM (.tup (rowO m f)) (.int (j:Int)) s=.ok (qR (f j)) s:=ix_tup (bj7 h)
theorem bb7 {m:Nat}{f:Nat->Nat->Option Int}{s:Sto}:bi .len [gdO m f] s=.ok (.int m) s:=by unfold gdO gdD;rw[aW8];simp
noncomputable def addO:Option Int->Option Int->Option Int
 | some a,some b=>some (a+b)
 | _,_=>none
theorem ao1:∀ l:List (Option Int),(aQ9 l).filterMap (λ d=>if d=D.non then none else some d)=(l.filterMap id).map D.int
 | []=>rfl
 | o::l=>by
  have h:=ao1 l
  unfold aQ9 at h ⊢
  cases o with
  | none=>rw[aI,br,br];simpa using h
  | some i=>rw[aI,br,br];simpa using h
theorem aO5 {P:Pr}[Has P ad2](n:Nat){s:Sto}{q:Nat}{l:List (Option Int)}(hq:s[q]?=some (.lst (aQ9 l)))(hl:l.length<=1000):(aa0 P (n+1)).call "least" [.ref q] s=.ok (qR (minI (l.filterMap id))) s:=by
 have B:(aa0 P (n+1)).call "least" [.ref q] s=_:=zn ad2 (n:=n) rfl
 rw[B,show(bp some [D.ref q]++ak ad2.vs none)=[some (D.ref q)]from rfl]
 have y:aG1 (.ref q) s=.ok ⟨aQ9 l,[q]⟩ s:=by simp only[aG1,hq]
 obtain⟨ρ1,s1,e1,rfl,_⟩:=aj1 (ok:=λ s1=>chk s s1 [q]) (g:=aF2 (aa0 P n) (.one 0) (.notN (.var 0)) (.var 0)) (λ ρ u=>u=s/\∃ x,ρ=[x]) (λ d=>if d=D.non then none else some d) (aQ9 l) [none] s ⟨rfl,none,rfl⟩ (λ _ u h=>by obtain⟨rfl,_⟩:=h;simp[chk]) (by
  rintro d hd ρ u ⟨rfl,x,rfl⟩
  refine⟨[some d],u,?_,rfl,_,rfl⟩
  unfold aF2
  by_cases hn:d=.non
  ·tbr_iter [hn]
  ·tbr_iter [hn])
 rw[ao1]at e1
 simp -implicitDefEqProofs only[ad2]
 tbr_iter [jw,y,if_pos (show(aQ9 l).length<=LIM by rw[bo7];unfold LIM;omega),show zX [some (D.ref q)] [none]=[none]from rfl,e1,bD8]
 exact aT2
theorem bm4 {P:Pr}[Has P ad6](n:Nat)(a b:Option Int)(s:Sto):(aa0 P (n+1)).call "added" [qR a,qR b] s=.ok (qR (addO a b)) s:=by
 have h:(aa0 P (n+1)).call "added" [qR a,qR b] s=_:=zn ad6 (n:=n) rfl
 rw[h,show(bp some [qR a,qR b]++ak ad6.vs none)=[some (qR a),some (qR b)]from rfl]
 simp -implicitDefEqProofs only[ad6]
 cases a with
 | none=>tbr_iter [ai9,show(D.non=D.non)=True from eq_self _];exact ap6
 | some a=>cases b with
  | none=>tbr_iter [ai9,jr,show(D.non=D.non)=True from eq_self _,show(D.int a=D.non)=False from eq_false (by nofun)];exact ap6
  | some b=>tbr_iter [jr,show(D.int a=D.non)=False from eq_false (by nofun),show(D.int b=D.non)=False from eq_false (by nofun)];exact zR
noncomputable def prO (m:Nat)(f g:Nat->Nat->Option Int)(i j:Nat):Option Int:=minI (((ae m).map λ k=>addO (f i k) (g k j)).filterMap id)
theorem an0 {s:Sto}(hs:s.all O.ncl=true){m i:Nat}{W:Nat->Nat->D}(h:∀ i j,(W i j).ncl=true):(s++[O.lst ((ae i).map λ i=>D.tup ((ae m).map λ j=>W i j))]).all O.ncl=true:=by
 refine qz hs (zL λ d hd=>?_)
 obtain⟨x,_,rfl⟩:=av.mp hd
 unfold D.ncl
 exact zL λ d hd=>by obtain⟨x,_,rfl⟩:=av.mp hd;exact h _ _
section
variable {P:Pr} [Has P ac8]
theorem bn3 [Has P ad9][HasL P ab1](n:Nat){m:Nat}(Y:m<=5){s:Sto}(hs:s.all O.ncl=true) :
  (aa0 P (n+3)).call "plain" [.int m] s=.ok (gdO m λ i j=>if i=j then some 0 else none) s:=by
 have y:(aa0 P (n+3)).call "plain" [.int m] s=_:=zn ad9 (n:=n+2) rfl
 have B:=jE (P:=P) (n+1) (m:=m) (by omega) (d:=.clo "plain.0" []) (s:=s) (W:=λ i j=>qR (if i=j then some 0 else none)) (λ _ _ n=>ja _ n) (λ i j J hj=>by
  generalize C:s++[O.lst ((ae i).map λ i=>D.tup ((ae m).map λ j=>qR (if i=j then some 0 else none)))]=S
  have G:S.all O.ncl=true:=by rw[<-C];exact an0 hs (W:=λ i j=>qR (if i=j then some 0 else none)) (λ _ _=>an3 _)
  refine(qY ab1 (n:=n) rfl rfl (by rw[G];rfl)).trans ?_
  show(ev (aa0 P n) ab1.body [some (.int i),some (.int j)] S).bind (zW S)=_
  simp -implicitDefEqProofs only[ab1]
  by_cases h:i=j
  ·tbr_iter [show((i:Int)=(j:Int))=True from eq_true (by omega),if_pos h,jr];exact zR
  ·tbr_iter [show((i:Int)=(j:Int))=False from eq_false (by omega),if_neg h,ai9];exact ap6)
 rw[y,show(bp some [D.int m]++ak ad9.vs none)=[some (D.int m)]from rfl]
 simp -implicitDefEqProofs only[ad9]
 tbr_iter [qL]
 rw[qC (cs:=[]) _ rfl]
 have e:gdD m (λ i j=>qR (if i=j then some 0 else none))=gdO m (λ i j=>if i=j then some 0 else none):=rfl
 tbr_iter [B,e,if_pos (show((gdO m λ i j=>if i=j then some 0 else none).ncl&&s.all O.ncl)=true by rw[ak4,hs];rfl)]
 exact zq ay6 (by nofun)
theorem ar0 [Has P ad2][Has P ad6][Has P ab7][HasL P aa6](n:Nat){m:Nat}(hm:m<=5)(f g:Nat->Nat->Option Int){s:Sto}(hs:s.all O.ncl=true) :
  (aa0 P (n+4)).call "product" [gdO m f,gdO m g] s=.ok (gdO m (prO m f g)) s:=by
 have C:(aa0 P (n+4)).call "product" [gdO m f,gdO m g] s=_:=zn ab7 (n:=n+3) rfl
 have B:=jE (P:=P) (n+2) (m:=m) (by omega) (d:=.clo "product.0" [.int m,gdO m f,gdO m g]) (s:=s) (W:=λ i j=>qR (prO m f g i j)) (λ _ _ n=>ja _ n) (λ i j J hj=>by
  generalize G:s++[O.lst ((ae i).map λ i=>D.tup ((ae m).map λ j=>qR (prO m f g i j)))]=S
  have Z:S.all O.ncl=true:=by rw[<-G];exact an0 hs (W:=λ i j=>qR (prO m f g i j)) (λ _ _=>an3 _)
  refine(qY aa6 (n:=n+1) rfl rfl (by rw[Z];simp[D.nclL,D.ncl,ak4])).trans ?_
  show(ev (aa0 P (n+1)) aa6.body [some (.int i),some (.int j),some (.int m),some (gdO m f),some (gdO m g)] S).bind (zW S)=_
  obtain⟨ρ1,s1,e1,rfl,_⟩:=qB (ok:=λ s1=>chk S s1 []) (g:=qj (aa0 P (n+1)) (.one 0) (.call "added" (.ex (.ix (.ix (.var 1) (.var 2)) (.var 0)) (.ex (.ix (.ix (.var 3) (.var 0)) (.var 4)) .nil)))) (λ ρ u=>u=S/\∃ x,ρ=[x,some (gdO m f),some (.int i),some (gdO m g),some (.int j)]) (λ k=>qR (addO (f i k) (g k j))) m [none,some (gdO m f),some (.int i),some (gdO m g),some (.int j)] S ⟨rfl,none,rfl⟩ (λ _ _ _=>rfl) (by
   rintro k hk ρ u ⟨rfl,x,rfl⟩
   refine⟨[some (.int k),some (gdO m f),some (.int i),some (gdO m g),some (.int j)],u,?_,rfl,_,rfl⟩
   unfold qj
   tbr_iter [aZ4 J,aZ4 hk,aI4 hk,aI4 hj,bm4 n])
  have y:((ae m).map λ k=>qR (addO (f i k) (g k j)))=aQ9 ((ae m).map λ k=>addO (f i k) (g k j)):=by unfold aQ9;rw[cY];rfl
  rw[y]at e1
  have h:∀ q (s:Sto),mk .list q s=.ok (.ref s.length) (s++[.lst q]):=λ _ _=>rfl
  have Y:=aO5 (P:=P) n (s:=s1++[O.lst (aQ9 ((ae m).map λ k=>addO (f i k) (g k j)))]) (q:=s1.length) (l:=(ae m).map λ k=>addO (f i k) (g k j)) (by rw[aj (ah _)];simp) (by simp;omega)
  simp -implicitDefEqProofs only[aa6]
  tbr_iter [jb,zN (s:=s1) (i:=(m:Int)) (by unfold W62;omega) (by unfold W62;omega),if_pos (show(jh 0 (m:Int)).length<=LIM by rw[zM];unfold LIM;omega),show zX [some (D.int (i:Int)),some (D.int (j:Int)),some (D.int (m:Int)),some (gdO m f),some (gdO m g)] [none,some 3,some 0,some 4,some 1]=[none,some (gdO m f),some (.int i),some (gdO m g),some (.int j)]from rfl,e1,h,Y]
  exact zQ (ja _) (ay2 _))
 rw[C,show(bp some [gdO m f,gdO m g]++ak ab7.vs none)=[some (gdO m f),some (gdO m g),none]from rfl]
 simp -implicitDefEqProofs only[ab7]
 tbr_iter [bb7,qL]
 rw[qC (cs:=[.int m,gdO m f,gdO m g]) _ rfl]
 have e:gdD m (λ i j=>qR (prO m f g i j))=gdO m (prO m f g):=rfl
 tbr_iter [B,e,if_pos (show((gdO m (prO m f g)).ncl&&s.all O.ncl)=true by rw[ak4,hs];rfl)]
 exact zq ay6 (by nofun)
end
theorem ah9.low {S:Int->Prop}{l:List Int}(C:∀ x∈l,S x)(B:∀ c,S c->∃ x∈l,x<=c):ah9 S (minI l):=by
 have h:=aQ6 l
 cases e:minI l with
 | none =>
  rw[e]at h
  exact λ c hc=>by obtain⟨x,hx,_⟩:=B c hc;exact h x hx
 | some i =>
  rw[e]at h
  refine⟨C i h.1,λ c hc=>?_⟩
  obtain⟨x,hx,y⟩:=B c hc
  exact bS (h.2 x hx) y
theorem aU8 {m:Nat}{A B:Nat->Nat->Int->Prop}{f g:Nat->Nat->Option Int}(C:∀ i j,i<m->j<m->ah9 (A i j) (f i j))(G:∀ i j,i<m->j<m->ah9 (B i j) (g i j)){i j:Nat}(J:i<m)(hj:j<m) :
  ah9 (λ c=>∃ k,k<m/\∃ a b,A i k a/\B k j b/\c=a+b) (prO m f g i j):=by
 unfold prO
 refine ah9.low (λ x hx=>?_) λ c hc=>?_
 ·obtain⟨o,ho,e⟩:=bX.mp hx
  obtain⟨k,hk,rfl⟩:=av.mp ho
  have hk:=aR.mp hk
  have y:=C i k J hk
  have h:=G k j hk hj
  cases e1:f i k with
  | none=>rw[e1]at e;cases e
  | some a =>
   cases e2:g k j with
   | none=>rw[e1,e2]at e;cases e
   | some b =>
    rw[e1]at y;rw[e2]at h
    rw[e1,e2]at e
    cases e
    exact⟨k,hk,a,b,y.1,h.1,rfl⟩
 ·obtain⟨k,hk,a,b,ha,hb,rfl⟩:=hc
  have y:=C i k J hk
  have h:=G k j hk hj
  cases e1:f i k with
  | none=>rw[e1]at y;exact absurd ha (y a)
  | some a' =>
   cases e2:g k j with
   | none=>rw[e2]at h;exact absurd hb (h b)
   | some b' =>
    rw[e1]at y;rw[e2]at h
    refine⟨a'+b',bX.mpr ⟨some (a'+b'),av.mpr ⟨k,aR.mpr hk,by rw[e1,e2];rfl⟩,rfl⟩,?_⟩
    have:=y.2 a ha
    have:=h.2 b hb
    omega
def aG2 (m:Mc)(w:List Nat)(f:Nat->Nat->Option Int):Prop:=∀ i j,i<m.R->j<m.R->ah9 (Wk m.ds w i j) (f i j)
theorem aX9 {y:List Dr}:∀ {v w:List Nat} {p q:Nat} {c:Int},Wk y (v++w) p q c↔∃ k a b,Wk y v p k a/\Wk y w k q b/\c=a+b
 | [],w,p,q,c=>by
  constructor
  ·intro h;exact⟨p,0,c,⟨rfl,rfl⟩,h,by omega⟩
  ·rintro⟨k,a,b,⟨rfl,rfl⟩,h,e⟩
   have:c=b:=by omega
   rw[this];exact h
 | x::v,w,p,q,c=>by
  show(∃ d∈y,_)↔_
  constructor
  ·rintro⟨d,hd,J,B,Z,h3,e⟩
   obtain⟨k,a,b,C,G,e2⟩:=aX9.mp h3
   exact⟨k,a+d.t,b,⟨d,hd,J,B,a,C,by omega⟩,G,by omega⟩
  ·rintro⟨k,a,b,⟨d,hd,J,B,Y,C,e⟩,G,e2⟩
   exact⟨d,hd,J,B,Y+b,aX9.mpr ⟨k,Y,b,C,G,rfl⟩,by omega⟩
theorem bW6 {m:Mc}(y:m.Ok):∀ {w:List Nat} {p q:Nat} {c:Int},p<m.R->Wk m.ds w p q c->q<m.R
 | [],p,q,c,hp,h=>by obtain⟨rfl,_⟩:=h;exact hp
 | x::w,p,q,c,hp,h=>by
  obtain⟨d,hd,_,_,B,h3,_⟩:=h
  exact bW6 y (y.ds.1 d hd).b h3
theorem aG2.nil {m:Mc}:aG2 m [] λ i j=>if i=j then some 0 else none:=λ i j y hj=>by
 show ah9 (Wk m.ds [] i j) (if i=j then some 0 else none)
 by_cases h:i=j
 ·rw[if_pos h];exact⟨⟨h,rfl⟩,λ c hc=>by have:=hc.2;omega⟩
 ·rw[if_neg h];exact λ c hc=>h hc.1
theorem aG2.mul {m:Mc}(G:m.Ok){v w:List Nat}{f g:Nat->Nat->Option Int}(h:aG2 m v f)(h':aG2 m w g):aG2 m (v++w) (prO m.R f g):=λ i j C hj=>(aU8 h h' C hj).congr λ c=>by
 rw[aX9]
 constructor
 ·rintro⟨k,_,a,b,y,B,e⟩;exact⟨k,a,b,y,B,e⟩
 ·rintro⟨k,a,b,y,B,e⟩;exact⟨k,bW6 G C y,a,b,y,B,e⟩
noncomputable def ltF (ds:List Dr)(c i j:Nat):Option Int:=minI (ds.filterMap λ d=>if d.a=i/\d.l=c/\d.b=j then some (d.t:Int)else none)
theorem al3 {B:List Dr}{x p q:Nat}{c:Int}:Wk B [x] p q c↔∃ d∈B,d.l=x/\d.a=p/\d.b=q/\c=d.t:=by
 constructor
 ·rintro⟨d,hd,y,h,G,⟨h3,C⟩,e⟩;exact⟨d,hd,h,y,h3,by omega⟩
 ·rintro⟨d,hd,y,h,h3,e⟩;exact⟨d,hd,h,y,0,⟨h3,rfl⟩,by omega⟩
theorem aG2.letter {m:Mc}(c:Nat):aG2 m [c] (ltF m.ds c):=λ i j C hj=>by
 unfold ltF
 refine ah9.low (λ x hx=>?_) λ x hx=>?_
 ·obtain⟨d,hd,e⟩:=bX.mp hx
  split at e
  ·rename_i h;cases e;exact al3.mpr ⟨d,hd,h.2.1,h.1,h.2.2,rfl⟩
  ·cases e
 ·obtain⟨d,hd,B,y,h3,e⟩:=al3.mp hx
  exact⟨x,bX.mpr ⟨d,hd,by rw[if_pos ⟨y,B,h3⟩,e]⟩,bO _⟩
theorem bf3 {a b i j l c:Nat}{s:Sto}:qE .eq (.tup [.int (a:Int),.str [l],.int (b:Int)]) (.tup [.int (i:Int),.str [c],.int (j:Int)]) s=.ok (.bl (decide (a=i/\l=c/\b=j))) s:=by
 have:eqv s DEEP (.tup [.int (a:Int),.str [l],.int (b:Int)]) (.tup [.int (i:Int),.str [c],.int (j:Int)])=some (((a:Int)==(i:Int))&&(([l]==[c])&&(((b:Int)==(j:Int))&&true))):=rfl
 show(match eqv s DEEP (.tup [.int (a:Int),.str [l],.int (b:Int)]) (.tup [.int (i:Int),.str [c],.int (j:Int)])with|some r=>R.ok (D.bl r) s|none=>.bad)=_
 rw[this]
 show R.ok (D.bl _) s=_
 congr 2
 rw[db]
 simp
 omega
section
variable {P:Pr} [Has P ac8] [Has P ad2] [Has P ab0] [Has P ab5] [Has P aa5] [HasL P aa3]
theorem bu8 {m:Mc}:m.d.ncl=true:=by
 unfold Mc.d Mc.ps D.ncl
 simp only[D.nclL,D.ncl,bj9,dM,dL]
 exact zL λ d hd=>by obtain⟨x,_,rfl⟩:=av.mp hd;rfl
theorem ar1 (n:Nat){m:Mc}(Z:m.Ok)(c:Nat){s:Sto}(hs:s.all O.ncl=true) :
  (aa0 P (n+4)).call "letter_table" [m.d,.str [c]] s=.ok (gdO m.R (ltF m.ds c)) s:=by
 have e0:(aa0 P (n+4)).call "letter_table" [m.d,.str [c]] s=_:=zn aa5 (n:=n+3) rfl
 have hR:=Z.R5
 have hD:=Z.ds.2
 have hg:=jE (P:=P) (n+2) (m:=m.R) (by omega) (d:=.clo "letter_table.least_fee" [m.d,.str [c]]) (s:=s) (W:=λ i j=>qR (ltF m.ds c i j)) (λ _ _ n=>ja _ n) (λ i j hi hj=>by
  generalize hS:s++[O.lst ((ae i).map λ i=>D.tup ((ae m.R).map λ j=>qR (ltF m.ds c i j)))]=S
  have nS:S.all O.ncl=true:=by rw[<-hS];exact an0 hs (W:=λ i j=>qR (ltF m.ds c i j)) (λ _ _=>an3 _)
  refine(qY aa3 (n:=n+1) rfl rfl (by rw[nS];simp[D.nclL,D.ncl,bu8])).trans ?_
  show(ev (aa0 P (n+1)) aa3.body [some (.int i),some (.int j),some m.d,some (.str [c])] S).bind (zW S)=_
  obtain⟨ρ1,s1,e1,rfl,_⟩:=aj1 (ok:=λ s1=>chk S s1 []) (g:=aF2 (aa0 P (n+1)) (.tup [0,1,2,3]) (.cmp .eq (.tup (.cons (.var 0) (.cons (.var 1) (.cons (.var 2) .nil)))) (.tup (.cons (.var 4) (.cons (.var 5) (.cons (.var 6) .nil))))) (.var 3)) (λ ρ u=>u=S/\∃ Y x1 B G,ρ=[Y,x1,B,G,some (.int (i:Int)),some (.str [c]),some (.int (j:Int))]) (λ d=>match d with|.tup [.int a,.str [l],.int b,.int t]=>if a=i/\l=c/\b=j then some (.int t)else none|_=>none) (m.ds.map Dr.d) [none,none,none,none,some (.int (i:Int)),some (.str [c]),some (.int (j:Int))] S ⟨rfl,none,none,none,none,rfl⟩ (λ _ _ _=>rfl) (by
   rintro d hd ρ u ⟨rfl,Y,x1,B,G,rfl⟩
   obtain⟨x,_,rfl⟩:=av.mp hd
   refine⟨[some (.int x.a),some (.str [x.l]),some (.int x.b),some (.int x.t),some (.int i),some (.str [c]),some (.int j)],u,?_,rfl,_,_,_,_,rfl⟩
   unfold aF2 Dr.d
   by_cases h:x.a=i/\x.l=c/\x.b=j
   ·tbr_iter [bf3,h]
    simp
   ·have h2:¬((x.a:Int)=(i:Int)/\x.l=c/\(x.b:Int)=(j:Int)):=by omega
    tbr_iter [bf3,h,if_neg h2])
  have er:(m.ds.map Dr.d).filterMap (λ d=>match d with|.tup [.int a,.str [l],.int b,.int t]=>if a=i/\l=c/\b=j then some (D.int t)else none|_=>none)=aQ9 ((m.ds.filterMap λ d=>if d.a=i/\d.l=c/\d.b=j then some (d.t:Int)else none).map some):=by
   unfold aQ9
   rw[cY,eI,List.map_filterMap]
   refine al1 λ x _=>?_
   unfold Dr.d
   simp only[gZ]
   by_cases h:x.a=i/\x.l=c/\x.b=j
   ·rw[if_pos h,if_pos (by omega)];rfl
   ·rw[if_neg h,if_neg (by omega)];rfl
  rw[er]at e1
  generalize C:(m.ds.filterMap λ d=>if d.a=i/\d.l=c/\d.b=j then some (d.t:Int)else none)=L at e1
  have a0:L.length<=75:=by rw[<-C];exact aw (List.length_filterMap_le _ _) hD
  have y:∀ q (s:Sto),mk .list q s=.ok (.ref s.length) (s++[.lst q]):=λ _ _=>rfl
  have J:=aO5 (P:=P) n (s:=s1++[O.lst (aQ9 (L.map some))]) (q:=s1.length) (l:=L.map some) (by rw[aj (ah _)];simp) (by simp;omega)
  have eL:(L.map some).filterMap id=L:=by rw[eI];exact List.filterMap_some
  rw[eL]at J
  simp -implicitDefEqProofs only[aa3]
  tbr_iter [aI2 n,aq7,jw,if_pos (show(m.ds.map Dr.d).length<=LIM by rw[aF];unfold LIM;omega),show zX [some (D.int (i:Int)),some (D.int (j:Int)),some m.d,some (D.str [c])] [none,none,none,none,some 0,some 3,some 1]=[none,none,none,none,some (.int (i:Int)),some (.str [c]),some (.int (j:Int))]from rfl,e1,y,J]
  rw[<-C]
  exact zQ (ja _) (ay2 _))
 rw[e0,show(bp some [m.d,D.str [c]]++ak aa5.vs none)=[some m.d,some (D.str [c]),none]from rfl]
 simp -implicitDefEqProofs only[aa5]
 tbr_iter [qL,jH (n+2)]
 rw[qC (cs:=[m.d,.str [c]]) _ rfl]
 have e:gdD m.R (λ i j=>qR (ltF m.ds c i j))=gdO m.R (ltF m.ds c):=rfl
 tbr_iter [hg,e,if_pos (show((gdO m.R (ltF m.ds c)).ncl&&s.all O.ncl)=true by rw[ak4,hs];rfl)]
 exact zq ay6 (by nofun)
end
theorem bi6 {s:Sto}{o:O}:(s++[o])[s.length]?=some o:=by rw[aj (ah _)];simp
theorem bS8 (a:List Nat):(sg a).length=a.length:=by unfold sg;exact aF _
theorem av2 (k a v:D):∀ l:List (D×D),look k (l++[(a,v)])=match look k l with|some x=>some x|none=>if a=k then some v else none
 | []=>by unfold look;rfl
 | (b,u)::l=>by
  rw[dF]
  unfold look
  by_cases h:b=k
  ·rw[if_pos h,if_pos h]
  ·rw[if_neg h,if_neg h];exact av2 k a v l
theorem aE7 {s:Sto}{r:Nat}{l:List (D×D)}{k:D}(h:s[r]?=some (.dic l))(hk:k.key=true):qE .notin k (.ref r) s=.ok (.bl (!(look k l).isSome)) s:=by
 show(inM k (.ref r) s).bind (λ r s=>R.ok (D.bl (!r)) s)=_
 simp only[inM,h,hk,if_true,R.bind_ok]
theorem bv8 {s:Sto}{r:Nat}{l:List (D×D)}{k v:D}(h:s[r]?=some (.dic l))(hk:k.key=true)(hv:look k l=some v):ixM (.ref r) k s=.ok v s:=by
 simp only[ixM,h,hk,if_true,hv]
theorem by7 {s:Sto}{r:Nat}{l:List (D×D)}{k v:D}(h:s[r]?=some (.dic l))(hk:k.key=true)(hl:l.length<LIM):setIx (.ref r) k v s=.ok () (s.set r (.dic (aT0 k v l))):=by
 simp[setIx,h,hk,hl]
theorem bK3 {F:Fns}{ρ:Env}{s:Sto}:ev F (.dic .nil .nil) ρ s=.ok (.ref s.length) (s++[.dic []]):=rfl
theorem bE5 {k v:D}{l:List (D×D)}(h:look k l=none):aT0 k v l=l++[(k,v)]:=by unfold aT0;rw[h];rfl
theorem bj1 {s:Sto}{o p:O}:(s++[o]).set s.length p=s++[p]:=by rw[bW _ _ (ah _)];simp
section
variable {P:Pr} [Has P ac8] [Has P ad2] [Has P ad6] [Has P ab0] [Has P ab5] [Has P aa5] [HasL P aa3] [Has P ad9] [HasL P ab1] [Has P ab7] [HasL P aa6] [Has P aa9]
def bC9 (m:Mc)(l:List (D×D)):Prop:=(∀ c v,look (.str [c]) l=some v->v=gdO m.R (ltF m.ds c))/\∀ p∈l,p.2.ncl=true
theorem bC9.nil {m:Mc}:bC9 m []:=⟨λ c v h=>(by cases h),λ p y=>(by cases y)⟩
theorem ax2 (n:Nat){m:Mc}(Y:m.Ok)(w:List Nat)(hw:w.length<=5000){s:Sto}(hs:s.all O.ncl=true) :
  ∃ f,aG2 m w f/\(aa0 P (n+5)).call "word_table" [m.d,.str w] s=.ok (gdO m.R f) s:=by
 have e0:(aa0 P (n+5)).call "word_table" [m.d,.str w] s=_:=zn aa9 (n:=n+4) rfl
 have J:=Y.R5
 have nd:∀ l:List (D×D),bC9 m l->(s++[O.dic l]).all O.ncl=true:=λ l h=>qz hs (zL λ d hd=>by
  obtain⟨p,Z,rfl⟩:=av.mp hd;exact h.2 p Z)
 have key:=qX (ok:=λ s1=>chk (s++[O.dic []]) s1 []) (g:=turn (aa0 P (n+4)) (.one 4) (.cons (.ite (.cmp .notin (.var 4) (.var 2)) (.cons (.setIx (.var 2) (.var 4) (.call "letter_table" (.ex (.var 0) (.ex (.var 4) .nil)))) .nil) .nil) (.cons (.asg (.one 3) (.call "product" (.ex (.var 3) (.ex (.ix (.var 2) (.var 4)) .nil)))) .nil)))
  (λ k ρ t=>∃ f l x,aG2 m (w.take k) f/\bC9 m l/\l.length<=k/\ρ=[some m.d,some (.str w),some (.ref s.length),some (gdO m.R f),x]/\t=s++[.dic l]) (sg w) 0 [some m.d,some (.str w),some (.ref s.length),some (gdO m.R λ i j=>if i=j then some 0 else none),none] (s++[O.dic []])
  ⟨_,[],none,by rw[jQ];exact aG2.nil,bC9.nil,ah _,rfl,rfl⟩ (λ _ _ _ _ _=>rfl) (by
  rintro k d ρ t hk ⟨f,l,x,B,hl,G,rfl,rfl⟩
  rw[bA]at B G ⊢
  unfold sg at hk
  rw[ax]at hk
  obtain⟨c,hc,rfl⟩:=cE.mp hk
  have a0:=(ab.mp hc).1
  have y:∀ l:List (D×D),(s++[O.dic l])[s.length]?=some (.dic l):=λ l=>by rw[aj (ah _)];simp
  have e1:=ar1 (P:=P) n Y c (nd l hl)
  have hT:aG2 m (w.take (k+1)) (prO m.R f (ltF m.ds c)):=by
   rw[ar2 hc];exact aG2.mul Y B (aG2.letter c)
  cases hlk:look (.str [c]) l with
  | none =>
   have hl2:bC9 m (l++[(.str [c],gdO m.R (ltF m.ds c))]):=by
    refine⟨λ c' v hv=>?_,λ p Z=>?_⟩
    ·rw[av2]at hv
     cases q:look (.str [c']) l with
     | none =>
      rw[q]at hv
      simp only at hv
      split at hv
      ·rename_i e;cases e;cases hv;rfl
      ·cases hv
     | some v'=>rw[q]at hv;cases hv;exact hl.1 c' v q
    ·rcases cc.mp Z with h|h
     ·exact hl.2 p h
     ·rw[bN.mp h];exact ak4
   have e2:=ar0 (P:=P) n J f (ltF m.ds c) (nd _ hl2)
   have C:=bv8 (y (l++[(.str [c],gdO m.R (ltF m.ds c))])) (k:=.str [c]) rfl (v:=gdO m.R (ltF m.ds c)) (by rw[av2,hlk];simp)
   have e4:=by7 (v:=gdO m.R (ltF m.ds c)) (y l) (k:=.str [c]) rfl (by unfold LIM;omega)
   rw[bE5 hlk,bj1]at e4
   refine⟨_,_,.inl ?_,_,_,some (.str [c]),hT,hl2,by simp;omega,rfl,rfl⟩
   unfold turn
   tbr_iter [aE7 (y l) (k:=.str [c]) rfl,hlk,hZ,e1,e4,C,e2]
  | some v =>
   have hv:=hl.1 c v hlk
   have e2:=ar0 (P:=P) n J f (ltF m.ds c) (nd _ hl)
   have C:=bv8 (y l) (k:=.str [c]) rfl hlk
   rw[hv]at C
   refine⟨_,_,.inl ?_,_,_,some (.str [c]),hT,hl,by omega,rfl,rfl⟩
   unfold turn
   tbr_iter [aE7 (y l) (k:=.str [c]) rfl,hlk,eD,C,e2])
 obtain⟨ρ',s',ek,f,l,x,B,hl,_,rfl,rfl⟩:=key
 rw[bA,bS8,iK]at B
 refine⟨f,B,?_⟩
 have e1:=bn3 (P:=P) (n+1) J (nd [] bC9.nil)
 have h2:∀ t,aG1 (.str w) t=.ok ⟨sg w,[]⟩ t:=λ _=>rfl
 rw[e0,show(bp some [m.d,D.str w]++ak aa9.vs none)=[some m.d,some (D.str w),none,none,none]from rfl]
 simp -implicitDefEqProofs only[aa9]
 tbr_iter [bK3,jH (n+3),e1,h2]
 rw[ek]
 tbr_iter []
 exact zQ ay6 (by nofun)
end
theorem an2 {f:D->D->Option Bool}:∀ {l:List D},(∀ d∈l,f d d=some true)->eqL f l l=some true
 | [],_=>rfl
 | d::l,h=>by
  show(match f d d,eqL f l l with|some x,some y=>some (x&&y)|_,_=>none)=_
  rw[h d (aD ..),an2 λ x hx=>h x (au _ hx)];rfl
section
variable {P:Pr} [Has P ac8] [Has P ad2] [Has P ad6] [Has P ab0] [Has P ab5] [Has P aa5] [HasL P aa3] [Has P ad9] [HasL P ab1] [Has P ab7] [HasL P aa6] [Has P aa9]
 [Has P cg4] [Has P bL7] [Has P bG7] [Has P aX6] [Has P bO9] [Has P bl7] [Has P aH9] [Has P aX5]
end
section
variable {P:Pr} [Has P je] [Has P ah8] [Has P zP]
variable [Has P ac8] [Has P ad2] [Has P ad6] [Has P ab0] [Has P ab5] [Has P aa5] [HasL P aa3] [Has P ad9] [HasL P ab1] [Has P ab7] [HasL P aa6] [Has P aa9] [Has P aJ4]
end
noncomputable def sgn:Option Int->Int
 | none=>3
 | some i=>if i=0 then 0 else 1
theorem bQ3 (o:Option Int):0<=sgn o/\sgn o<=3/\sgn o≠2:=by
 cases o with
 | none=>exact⟨by decide,by decide,by decide⟩
 | some i=>unfold sgn;simp only;split<;>exact⟨by decide,by decide,by decide⟩
theorem bR0 {y:List Dr}:∀ {w:List Nat} {p q:Nat} {c:Int},Wk y w p q c->0<=c
 | [],p,q,c,h=>by have:=h.2;omega
 | x::w,p,q,c,h=>by
  obtain⟨d,hd,_,_,B,h3,e⟩:=h
  have:=bR0 h3
  omega
structure SgW1 (S:Int->Prop)(x:Int):Prop where
 lo:0<=x
 hi:x<=3
 n2:x≠2
 z:x=0↔S 0
 t:x=3↔∀ c,¬ S c
theorem SgW1.eq {S:Int->Prop}{x y:Int}(h:SgW1 S x)(g:SgW1 S y):x=y:=by
 have C:=h.z.trans g.z.symm
 have B:=h.t.trans g.t.symm
 have:=h.lo;have:=h.hi;have:=h.n2;have:=g.lo;have:=g.hi;have:=g.n2
 by_cases a:x=0
 ·rw[a,C.mp a]
 ·by_cases b:x=3
  ·rw[b,B.mp b]
  ·have G:¬ y=0:=λ z=>a (C.mpr z)
   have J:¬ y=3:=λ z=>b (B.mpr z)
   omega
theorem bd5 {S:Int->Prop}{o:Option Int}(h:ah9 S o)(B:∀ c,S c->0<=c):SgW1 S (sgn o):=by
 obtain⟨h0,h3,y⟩:=bQ3 o
 refine⟨h0,h3,y,?_,?_⟩
 ·cases o with
  | none=>exact⟨λ z=>(by cases z),λ z=>absurd z (h 0)⟩
  | some i =>
   show(if i=0 then(0:Int)else 1)=0↔_
   constructor
   ·intro z
    split at z
    ·rename_i e;rw[<-e];exact h.1
    ·cases z
   ·intro z
    have C:=h.2 0 z
    have y:=B i h.1
    rw[if_pos (by omega)]
 ·cases o with
  | none=>exact⟨λ _=>h,λ _=>rfl⟩
  | some i =>
   show(if i=0 then(0:Int)else 1)=3↔_
   constructor
   ·intro z;split at z<;>cases z
   ·intro z;exact absurd h.1 (z i)
def SgW (m:Mc)(w:List Nat)(g:Nat->Nat->Int):Prop:=∀ i j,i<m.R->j<m.R->SgW1 (Wk m.ds w i j) (g i j)
theorem aG2.sg {m:Mc}{w:List Nat}{f:Nat->Nat->Option Int}(h:aG2 m w f):SgW m w λ i j=>sgn (f i j):=λ i j y hj=>bd5 (h i j y hj) λ c hc=>bR0 hc
theorem SgW.eqG {m:Mc}{w:List Nat}{f g:Nat->Nat->Int}(h:SgW m w f)(h':SgW m w g):EqG m.R f g:=λ i j y hj=>(h i j y hj).eq (h' i j y hj)
theorem SgW.inG {m:Mc}{w:List Nat}{f:Nat->Nat->Int}(h:SgW m w f):InG m.R f:=λ i j hi hj=>⟨(h i j hi hj).lo,(h i j hi hj).hi⟩
theorem aN7 (B:List Dr)(c i j:Nat):∀ k,k<=B.length->(sgF B c i j k=3/\∀ d∈B.take k,¬(d.l=c/\d.a=i/\d.b=j))\/(sgF B c i j k=1/\(∃ d∈B.take k,d.l=c/\d.a=i/\d.b=j)/\∀ d∈B.take k,d.l=c/\d.a=i/\d.b=j->d.t≠0)\/(sgF B c i j k=0/\∃ d∈B.take k,(d.l=c/\d.a=i/\d.b=j)/\d.t=0)
 | 0,_=>.inl ⟨rfl,λ d hd=>by rw[jQ]at hd;cases hd⟩
 | k+1,hk=>by
  have J:=aN7 B c i j k (by omega)
  have hx:=ag (show k<B.length by omega)
  have y:∀ d,d∈B.take (k+1)↔d∈B.take k\/d=B[k]:=λ d=>by rw[ar2 hx,cc,bN]
  have key:sgF B c i j (k+1)=if B[k].l=c/\i=B[k].a/\j=B[k].b then(if(if 0<B[k].t then(1:Int)else 0)<sgF B c i j k then(if 0<B[k].t then(1:Int)else 0)else sgF B c i j k)else sgF B c i j k:=by
   conv=>lhs;unfold sgF
   rw[hx]
  rw[key]
  generalize Y:B[k]=x at *
  by_cases hc:x.l=c/\i=x.a/\j=x.b
  ·rw[if_pos hc]
   have C:x.l=c/\x.a=i/\x.b=j:=⟨hc.1,hc.2.1.symm,hc.2.2.symm⟩
   by_cases ht:0<x.t
   ·rw[if_pos ht]
    rcases J with⟨e,h⟩|⟨e,h1,h2⟩|⟨e,d,hd,h1⟩
    ·rw[e,if_pos (by decide)]
     refine .inr (.inl ⟨rfl,⟨x,(y x).mpr (.inr rfl),C⟩,λ d hd G=>?_⟩)
     rcases(y d).mp hd with z|z
     ·exact absurd G (h d z)
     ·rw[z];omega
    ·rw[e,if_neg (by decide)]
     refine .inr (.inl ⟨rfl,⟨x,(y x).mpr (.inr rfl),C⟩,λ d hd G=>?_⟩)
     rcases(y d).mp hd with z|z
     ·exact h2 d z G
     ·rw[z];omega
    ·rw[e,if_neg (by decide)]
     exact .inr (.inr ⟨rfl,d,(y d).mpr (.inl hd),h1⟩)
   ·rw[if_neg ht]
    have hz:x.t=0:=by omega
    rcases J with⟨e,h⟩|⟨e,h1,h2⟩|⟨e,d,hd,h1⟩
    ·rw[e,if_pos (by decide)];exact .inr (.inr ⟨rfl,x,(y x).mpr (.inr rfl),C,hz⟩)
    ·rw[e,if_pos (by decide)];exact .inr (.inr ⟨rfl,x,(y x).mpr (.inr rfl),C,hz⟩)
    ·rw[e,if_neg (by decide)];exact .inr (.inr ⟨rfl,x,(y x).mpr (.inr rfl),C,hz⟩)
  ·rw[if_neg hc]
   have C:¬(x.l=c/\x.a=i/\x.b=j):=λ z=>hc ⟨z.1,z.2.1.symm,z.2.2.symm⟩
   rcases J with⟨e,h⟩|⟨e,⟨d,hd,h1⟩,h2⟩|⟨e,d,hd,h1⟩
   ·refine .inl ⟨e,λ d hd G=>?_⟩
    rcases(y d).mp hd with z|z
    ·exact h d z G
    ·rw[z]at G;exact C G
   ·refine .inr (.inl ⟨e,⟨d,(y d).mpr (.inl hd),h1⟩,λ d hd G=>?_⟩)
    rcases(y d).mp hd with z|z
    ·exact h2 d z G
    ·rw[z]at G;exact absurd G C
   ·exact .inr (.inr ⟨e,d,(y d).mpr (.inl hd),h1⟩)
theorem SgW.letter (m:Mc)(c:Nat):SgW m [c] (sgM m c):=λ i j B hj=>by
 have h:=aN7 m.ds c i j m.ds.length (ah _)
 rw[iK]at h
 unfold sgM
 rcases h with⟨e,h⟩|⟨e,⟨d,hd,h1⟩,h2⟩|⟨e,d,hd,h1,h3⟩
 ·rw[e]
  refine⟨by decide,by decide,by decide,⟨λ z=>(by cases z),λ z=>?_⟩,⟨λ _ x hx=>?_,λ _=>rfl⟩⟩
  ·obtain⟨d,hd,a,b,y,_⟩:=al3.mp z;exact absurd ⟨a,b,y⟩ (h d hd)
  ·obtain⟨d,hd,a,b,y,_⟩:=al3.mp hx;exact h d hd ⟨a,b,y⟩
 ·rw[e]
  refine⟨by decide,by decide,by decide,⟨λ z=>(by cases z),λ z=>?_⟩,⟨λ z=>(by cases z),λ z=>?_⟩⟩
  ·obtain⟨d,hd,a,b,y,e2⟩:=al3.mp z;have:=h2 d hd ⟨a,b,y⟩;omega
  ·exact absurd (al3.mpr ⟨d,hd,h1.1,h1.2.1,h1.2.2,rfl⟩) (z _)
 ·rw[e]
  refine⟨by decide,by decide,by decide,⟨λ _=>al3.mpr ⟨d,hd,h1.1,h1.2.1,h1.2.2,by rw[h3];rfl⟩,λ _=>rfl⟩,⟨λ z=>(by cases z),λ z=>?_⟩⟩
  exact absurd (al3.mpr ⟨d,hd,h1.1,h1.2.1,h1.2.2,rfl⟩) (z _)
section
variable {P:Pr} [HasC P "FREE" (.int 0)] [HasC P "SOME" (.int 1)] [HasC P "NONE" (.int 3)] [Has P ae4]
theorem aT3 (n:Nat)(o:Option Int)(s:Sto):(aa0 P (n+1)).call "sign_of" [qR o] s=.ok (.int (sgn o)) s:=by
 have y:(aa0 P (n+1)).call "sign_of" [qR o] s=_:=zn ae4 (n:=n) rfl
 have B:=λ ρ s=>(aK5 (P:=P) (n:=n) (x := "NONE") (v:=.int 3) (ρ:=ρ) (s:=s))
 have g0:=λ ρ s=>(aK5 (P:=P) (n:=n) (x := "FREE") (v:=.int 0) (ρ:=ρ) (s:=s))
 have g1:=λ ρ s=>(aK5 (P:=P) (n:=n) (x := "SOME") (v:=.int 1) (ρ:=ρ) (s:=s))
 rw[y,show(bp some [qR o]++ak ae4.vs none)=[some (qR o)]from rfl]
 simp -implicitDefEqProofs only[ae4]
 cases o with
 | none=>tbr_iter [ai9,B];exact zR
 | some i =>
  by_cases h:i=0
  ·subst h;tbr_iter [jr,show(D.int 0=D.non)=False from eq_false (by nofun),g0,sgn];exact zR
  ·tbr_iter [jr,show(D.int i=D.non)=False from eq_false (by nofun),h,g1,sgn];exact zR
variable [Has P ac8] [Has P ae2] [HasL P ac3]
theorem aQ7 (n:Nat){m:Nat}(J:m<=5)(f:Nat->Nat->Option Int){s:Sto}(hs:s.all O.ncl=true) :
  (aa0 P (n+4)).call "reading" [gdO m f] s=.ok (gd m λ i j=>sgn (f i j)) s:=by
 have h:(aa0 P (n+4)).call "reading" [gdO m f] s=_:=zn ae2 (n:=n+3) rfl
 have y:=jE (P:=P) (n+2) (m:=m) (by omega) (d:=.clo "reading.0" [gdO m f]) (s:=s) (W:=λ i j=>.int (sgn (f i j))) (λ _ _ n=>rfl) (λ i j C hj=>by
  generalize B:s++[O.lst ((ae i).map λ i=>D.tup ((ae m).map λ j=>.int (sgn (f i j))))]=S
  have G:S.all O.ncl=true:=by rw[<-B];exact an0 hs (W:=λ i j=>.int (sgn (f i j))) (λ _ _=>rfl)
  refine(qY ac3 (n:=n+1) rfl rfl (by rw[G];simp[D.nclL,D.ncl,ak4])).trans ?_
  show(ev (aa0 P (n+1)) ac3.body [some (.int i),some (.int j),some (gdO m f)] S).bind (zW S)=_
  simp -implicitDefEqProofs only[ac3]
  tbr_iter [aZ4 C,aI4 hj,aT3 n]
  exact zR)
 rw[h,show(bp some [gdO m f]++ak ae2.vs none)=[some (gdO m f)]from rfl]
 simp -implicitDefEqProofs only[ae2]
 tbr_iter [qL,bb7]
 rw[qC (cs:=[gdO m f]) _ rfl]
 have e:gdD m (λ i j=>.int (sgn (f i j)))=gd m (λ i j=>sgn (f i j)):=rfl
 tbr_iter [y,e,if_pos (show((gd m λ i j=>sgn (f i j)).ncl&&s.all O.ncl)=true by rw[aq3,hs];rfl)]
 exact zq qx (by nofun)
variable [Has P ad2] [Has P ad6] [Has P ab0] [Has P ab5] [Has P aa5] [HasL P aa3] [Has P ad9] [HasL P ab1] [Has P ab7] [HasL P aa6] [Has P aa9] [Has P ac4]
theorem ax8 (n:Nat){m:Mc}(h:m.Ok)(w:List Nat)(hw:w.length<=5000){s:Sto}(hs:s.all O.ncl=true) :
  ∃ g,SgW m w g/\(aa0 P (n+6)).call "word_signs" [m.d,.str w] s=.ok (gd m.R g) s:=by
 have B:(aa0 P (n+6)).call "word_signs" [m.d,.str w] s=_:=zn ac4 (n:=n+5) rfl
 obtain⟨f,y,e1⟩:=ax2 (P:=P) n h w hw hs
 refine⟨_,y.sg,?_⟩
 rw[B,show(bp some [m.d,D.str w]++ak ac4.vs none)=[some m.d,some (D.str w)]from rfl]
 simp -implicitDefEqProofs only[ac4]
 tbr_iter [e1,aQ7 (P:=P) (n+1) h.R5 f hs]
 exact zq qx (by nofun)
variable [Has P je] [Has P ah8] [Has P zP] [Has P at4]
end
inductive Rst where
 | let_ (c:Nat)|pair (i j:Nat)|times (i n:Nat)
noncomputable def Rst.d:Rst->D
 | .let_ c=>.tup [.str [108,101,116,116,101,114],.str [c]]
 | .pair i j=>.tup [.str [112,97,105,114],.int i,.int j]
 | .times i n=>.tup [.str [116,105,109,101,115],.int i,.int n]
theorem Rst.bnd (x:Rst)(n:Nat):x.d.bnd n=true:=by cases x<;>rfl
noncomputable def cd3 (k:Nat):Rst->Prop
 | .let_ c=>97<=c/\c<100
 | .pair i j=>i<k/\j<k
 | .times i n=>i<k/\1<=n/\n<=10^30
def ag3 (l:List Rst):Prop:=∀ k x,l[k]?=some x->cd3 k x
theorem ag3.nil:ag3 []:=λ k x h=>by cases h
theorem ag3.snoc {l:List Rst}{x:Rst}(h:ag3 l)(hx:cd3 l.length x):ag3 (l++[x]):=λ k y e=>by
 by_cases hk:k<l.length
 ·rw[aG hk]at e;exact h k y e
 ·have hk2:=(ab.mp e).1
  simp at hk2
  have:k=l.length:=by omega
  subst this
  rw[aj (ah _),fR]at e
  cases e;exact hx
noncomputable def az4:Ss->Ss:=λ t=>(.cons (.asg (.one 6) (.call "_law_draw" (.ex (.var 0) (.ex (.cst (.int 6)) .nil)))) (.cons (.asg (.one 7) (.call "_law_draw" (.ex (.var 0) (.ex (.bin .add (.var 5) (.cst (.int 1))) .nil)))) (.cons (.asg (.one 8) (.call "_law_draw" (.ex (.var 0) (.ex (.bin .add (.var 5) (.cst (.int 1))) .nil)))) (.cons (.asg (.one 9) (.bin .add (.cst (.int 1)) (.call "_law_draw" (.ex (.var 0) (.ex (.cst (.int 6)) .nil))))) (.cons (.ite (.cmp .eq (.call "_law_draw" (.ex (.var 0) (.ex (.cst (.int 3)) .nil))) (.cst (.int 2))) (.cons (.asg (.one 9) (.bin .add (.cst (.int 1)) (.call "_law_draw" (.ex (.var 0) (.ex (.bin .pow (.cst (.int 10)) (.cst (.int 30))) .nil))))) .nil) .nil) t)))))
def cj3 (s:Sto)(r most:Nat)(x:R D):Prop:=∃(l:List Rst) (b:Int),ag3 l/\1<=l.length/\l.length<=most/\x=.ok (.tup (l.map Rst.d)) (s.set r (qe b))
theorem rl0 {ch:Nat}{s:Sto}:ixM (Rst.let_ ch).d (.int 0) s=.ok (.str cf4) s:=rfl
theorem rl1 {ch:Nat}{s:Sto}:ixM (Rst.let_ ch).d (.int 1) s=.ok (.str [ch]) s:=rfl
theorem rp0 {i j:Nat}{s:Sto}:ixM (Rst.pair i j).d (.int 0) s=.ok (.str bh7) s:=rfl
theorem rp1 {i j:Nat}{s:Sto}:ixM (Rst.pair i j).d (.int 1) s=.ok (.int i) s:=rfl
theorem rp2 {i j:Nat}{s:Sto}:ixM (Rst.pair i j).d (.int 2) s=.ok (.int j) s:=rfl
theorem rt0 {i n:Nat}{s:Sto}:ixM (Rst.times i n).d (.int 0) s=.ok (.str aE3) s:=rfl
theorem rt1 {i n:Nat}{s:Sto}:ixM (Rst.times i n).d (.int 1) s=.ok (.int i) s:=rfl
theorem rt2 {i n:Nat}{s:Sto}:ixM (Rst.times i n).d (.int 2) s=.ok (.int n) s:=rfl
theorem bf9 {n:Nat}(h:n<=10^30):((n:Int)).natAbs<BIG:=ce5 (by omega) (by
 have:((n:Nat):Int)<=((10^30:Nat):Int):=by exact_mod_cast h
 exact bS this (by decide +kernel))
section
variable {P:Pr} [Has P ac9] [Has P an9] [HasL P jl] [HasL P ji] [HasL P jq]
end
theorem aV4 {F:Fns}{ρ:Env}{s:Sto}:ev F (.neg (.cst (.int 1))) ρ s=.ok (.int (-1)) s:=rfl
theorem az5 {s:Sto}{r:Nat}{l:List D}{d:D}(h:s[r]?=some (.lst l))(hd:l[l.length - 1]?=some d):ixM (.ref r) (.int (-1)) s=.ok d s:=by
 have hl:=(ab.mp hd).1
 have hx:ixn l.length (-1)=some (l.length - 1):=by
  unfold ixn
  rw[if_neg (by decide),if_pos (by omega)]
  congr 1;omega
 simp only[ixM,h,hx,fB,hd]
section
variable {P:Pr} [Has P ac9] [Has P an9] [HasL P jl] [HasL P ji] [HasL P jq] [Has P aL1] [Has P av1]
end
noncomputable def cg6:Ss:=(.cons (.ex (.meth .append (.var 3) (.cons (.tup (.cons (.cst (.str [112,97,105,114])) (.cons (.var 4) (.cons (.bin .sub (.var 4) (.call "_law_draw" (.ex (.var 0) (.ex (.bin .add (.bi .min2 (.cons (.var 4) (.cons (.cst (.int 1)) .nil))) (.cst (.int 1))) .nil)))) .nil)))) .nil))) .nil)
section
variable {α:Type} (d:α) (fl:Nat->α) (fp:α->α->α) (ft:α->Nat->α)
noncomputable def foV (vs:List α):Rst->α
 | .let_ c=>fl c
 | .pair i j=>fp (vs.getD i d) (vs.getD j d)
 | .times i n=>ft (vs.getD i d) n
noncomputable def foR (l:List Rst):List α:=l.foldl (λ vs x=>vs++[foV d fl fp ft vs x]) []
theorem aP5 {l:List Rst}{k:Nat}{x:Rst}(h:l[k]?=some x):foR d fl fp ft (l.take (k+1))=foR d fl fp ft (l.take k)++[foV d fl fp ft (foR d fl fp ft (l.take k)) x]:=by
 rw[ar2 h];unfold foR;rw[iB];rfl
theorem aG7 {l:List Rst}:∀ k,k<=l.length->(foR d fl fp ft (l.take k)).length=k
 | 0,_=>by simp[foR]
 | k+1,h=>by
  rw[aP5 d fl fp ft (ag (show k<l.length by omega)),aZ,aG7 k (by omega)];rfl
theorem aN8:∀(l:List Rst) (vs:List α),∃ t,l.foldl (λ vs x=>vs++[foV d fl fp ft vs x]) vs=vs++t
 | [],vs=>⟨[],by simp⟩
 | x::l,vs=>by
  obtain⟨t,e⟩:=aN8 l (vs++[foV d fl fp ft vs x])
  exact⟨foV d fl fp ft vs x::t,by rw[cg,e];simp⟩
theorem ax6 {l:List Rst}{k i:Nat}(hk:k<=l.length)(h:i<k):(foR d fl fp ft (l.take k)).getD i d=(foR d fl fp ft l).getD i d:=by
 obtain⟨t,e⟩:=aN8 d fl fp ft (l.drop k) (foR d fl fp ft (l.take k))
 have:foR d fl fp ft l=foR d fl fp ft (l.take k)++t:=by
  rw[<-e]
  conv=>lhs;rw[<-List.take_append_drop k l]
  unfold foR;rw[iB]
 have hl:=aG7 d fl fp ft (l:=l) k hk
 rw[this,aO,aO,aG (by omega)]
theorem bh4 {l:List Rst}{k:Nat}{x:Rst}(h:l[k]?=some x):(foR d fl fp ft l).getD k d=foV d fl fp ft (foR d fl fp ft (l.take k)) x:=by
 have hk:=(ab.mp h).1
 rw[<-ax6 d fl fp ft (k:=k+1) (by omega) (dH k),aP5 d fl fp ft h]
 have hl:=aG7 d fl fp ft (l:=l) k (by omega)
 rw[aO,aj (by omega),hl,fR];rfl
theorem cf3 {l:List Rst}{k c:Nat}(h:l[k]?=some (.let_ c)):(foR d fl fp ft l).getD k d=fl c:=bh4 d fl fp ft h
theorem ce6 {l:List Rst}{k i j:Nat}(h:l[k]?=some (.pair i j))(y:i<k)(hj:j<k):(foR d fl fp ft l).getD k d=fp ((foR d fl fp ft l).getD i d) ((foR d fl fp ft l).getD j d):=by
 have hk:=(ab.mp h).1
 rw[bh4 d fl fp ft h,<-ax6 d fl fp ft (k:=k) (by omega) y,<-ax6 d fl fp ft (k:=k) (by omega) hj];rfl
theorem ca2 {l:List Rst}{k i n:Nat}(h:l[k]?=some (.times i n))(y:i<k):(foR d fl fp ft l).getD k d=ft ((foR d fl fp ft l).getD i d) n:=by
 have hk:=(ab.mp h).1
 rw[bh4 d fl fp ft h,<-ax6 d fl fp ft (k:=k) (by omega) y];rfl
end
section
variable {P:Pr} [Has P ac8] [Has P ad2] [Has P ad6] [Has P ad9] [HasL P ab1] [Has P ab7] [HasL P aa6] [Has P ad5] [Has P ax3] [HasC P "product" (.fn "product")]
end
noncomputable def RsB (k:Nat):Rst->Prop
 | .let_ _=>True
 | .pair i j=>i<k/\j<k
 | .times i _=>i<k
def ck3 (l:List Rst):Prop:=∀ k x,l[k]?=some x->RsB k x
theorem ag3.b {l:List Rst}(h:ag3 l):ck3 l:=λ k x e=>by
 have:=h k x e
 cases x
 ·trivial
 ·exact this
 ·exact this.1
theorem aR0 {P:Pr}[Has P ac9](n:Nat){l:List Rst}(hl:l.length<=5100)(hk:ck3 l){s:Sto}{d0:D}{src:List Nat}(hsr:∀ r∈src,r<s.length)(Y:∀ t,aG1 d0 (s++t)=.ok ⟨l.map Rst.d,src⟩ (s++t))(d1 B C:D)(W:Nat->D)(hW:∀ k n,(W k).bnd n=true)
  (h1:∀ k ch,l[k]?=some (.let_ ch)->apV (aa0 P n) d1 [.str [ch]] (s++[.lst ((ae k).map W)])=.ok (W k) (s++[.lst ((ae k).map W)]))
  (h2:∀ k i j,l[k]?=some (.pair i j)->apV (aa0 P n) B [W i,W j] (s++[.lst ((ae k).map W)])=.ok (W k) (s++[.lst ((ae k).map W)]))
  (h3:∀ k i m,l[k]?=some (.times i m)->apV (aa0 P n) C [W i,.int (m:Nat)] (s++[.lst ((ae k).map W)])=.ok (W k) (s++[.lst ((ae k).map W)])) :
  (aa0 P (n+1)).call "folded" [d0,d1,B,C] s=.ok (.ref s.length) (s++[.lst ((ae l.length).map W)]):=by
 have e0:(aa0 P (n+1)).call "folded" [d0,d1,B,C] s=_:=zn ac9 (n:=n) rfl
 rw[e0,show(bp some [d0,d1,B,C]++ak ac9.vs none)=[some d0,some d1,some B,some C,none,none]from rfl]
 simp -implicitDefEqProofs only[ac9]
 simp -implicitDefEqProofs only[za,zh,zU,ev_lst,zu,R.bind_ok,qZ,zb,zD,zx,aB,zr,zd,ex_for,evI_seq,zg,ze,zl]
 rw[Y]
 simp only[R.bind_ok]
 rw[R.bind_assoc]
 refine aj4 (λ k ρ t=>∃(x:Option D),ρ=[some d0,some d1,some B,some C,some (.ref s.length),x]/\t=s++[.lst ((ae k).map W)]) ⟨none,rfl,rfl⟩ (λ _ _ _ _ h=>?_) ?_ ?_
 ·obtain⟨_,_,rfl⟩:=h
  unfold chk
  exact aM.mpr λ r Z=>by rw[aG (hsr r Z),aG (hsr r Z)];simp
 ·rintro k d ρ t hkk ⟨x,rfl,rfl⟩
  rw[ax]at hkk
  obtain⟨v,hv,hd⟩:∃ v,l[k]?=some v/\Rst.d v=d:=by
   cases e:l[k]? with
   | none=>rw[e]at hkk;cases hkk
   | some v=>rw[e]at hkk;exact⟨v,rfl,ao hkk⟩
  subst hd
  have a0:=(ab.mp hv).1
  have hok:=hk k v hv
  have L1:((ae k).map W).length<LIM:=by unfold LIM;rw[aF,bT];omega
  have g0:(s++[O.lst ((ae k).map W)])[s.length]?=some (.lst ((ae k).map W)):=by rw[aj (ah _)];simp
  have J:∀ i,i<k->ixM (.ref s.length) (.int (i:Int)) (s++[O.lst ((ae k).map W)])=.ok (W i) (s++[O.lst ((ae k).map W)]):=λ i G=>qM g0 (by rw[ax,aY G];rfl)
  refine aC9 (ρ:=[some d0,some d1,some B,some C,some (.ref s.length),some v.d]) (s:=s++[.lst ((ae (k+1)).map W)]) ?_ ⟨_,rfl,rfl⟩
  rw[bU,bu]
  unfold turn
  cases v with
  | let_ ch =>
   have y:=h1 k ch hv
   simp -implicitDefEqProofs only[zb,zD,zx,aB,za,zh,zY,zH,js,zg,zE,zG,Cn_str,ze,zl,R.bind_ok,rl0,ak3,show(cf4=[108,101,116,116,101,114])=True from eq_self _,decide_true,zC,if_true,ex_ex,qp,zo,zu]
   rw[ju (d:=d1) _ rfl]
   simp -implicitDefEqProofs only[zo,zu,js,zg,zE,zG,ze,zl,R.bind_ok,rl1,y]
   rw[jy L1];rfl
  | pair i j =>
   obtain⟨G,hj⟩:=hok
   have y:=h2 k i j hv
   simp -implicitDefEqProofs only[zb,zD,zx,aB,za,zh,zY,zH,js,zg,zE,zG,Cn_str,ze,zl,R.bind_ok,rp0,ak3,show(bh7=[108,101,116,116,101,114])=False by decide,show(bh7=[112,97,105,114])=True from eq_self _,decide_true,decide_false,aH,zC,if_true,if_false,ex_ex,qp,zo,zu]
   rw[ju (d:=B) _ rfl]
   simp -implicitDefEqProofs only[zo,zu,js,zg,zE,zG,ze,zl,R.bind_ok,rp1,rp2,J i G,J j hj,y]
   rw[jy L1];rfl
  | times i m =>
   have G:=hok
   have y:=h3 k i m hv
   simp -implicitDefEqProofs only[zb,zD,zx,aB,za,zh,zY,zH,js,zg,zE,zG,Cn_str,ze,zl,R.bind_ok,rt0,ak3,show(aE3=[108,101,116,116,101,114])=False by decide,show(aE3=[112,97,105,114])=False by decide,decide_false,aH,zC,if_false,ex_ex,qp,zo,zu]
   rw[ju (d:=C) _ rfl]
   simp -implicitDefEqProofs only[zo,zu,js,zg,zE,zG,ze,zl,R.bind_ok,rt1,rt2,J i G,y]
   rw[jy L1];rfl
 ·rintro ρ t ⟨x,rfl,rfl⟩
  rw[aF]
  simp -implicitDefEqProofs only[zd,za,zh,qf,zg,ze,zl,R.bind_ok,zJ,zO]
  exact aV8 (by unfold O.bnd;exact z9 (λ d hd n=>by obtain⟨x,_,rfl⟩:=av.mp hd;exact hW x n) _)
section
variable {P:Pr} [Has P ac9] [Has P an9] [HasL P jl] [HasL P ji] [HasL P jq] [Has P ak0]
end
section
variable {P:Pr} [Has P ac8] [Has P ad2] [Has P ad6] [Has P ab0] [Has P ab5] [Has P aa5] [HasL P aa3] [Has P ad9] [HasL P ab1] [Has P ab7] [HasL P aa6] [Has P ad5] [Has P ax3] [HasC P "product" (.fn "product")] [HasC P "power" (.fn "power")] [Has P ac9] [Has P jp] [HasL P qI]
theorem aQ0 {α:Type}{n:Nat}(h:1<=n)(W:Nat->α):((ae n).map W)[((ae n).map W).length - 1]?=some (W (n - 1)):=by
 rw[aF,bT,ax,aY (by omega)];rfl
theorem bd6 {s:Sto}(hs:s.all O.ncl=true){W:Nat->D}(h:∀ k,(W k).ncl=true)(k:Nat):(s++[O.lst ((ae k).map W)]).all O.ncl=true :=
 qz hs (zL λ d hd=>by obtain⟨x,_,rfl⟩:=av.mp hd;exact h x)
theorem bA9 {l:List Rst}{s:Sto}:∀ t,aG1 (.tup (l.map Rst.d)) (s++t)=.ok ⟨l.map Rst.d,[]⟩ (s++t):=λ _=>rfl
end
noncomputable def Stp.r (c:Nat):Stp->Rst
 | .let_ x=>.let_ x
 | .pair i j=>.pair i j
 | .sharp i=>.times i c
section
variable {P:Pr} [Has P ak0] [Has P ab0] [Has P at7]
variable [Has P ac8] [Has P ad2] [Has P ad6] [Has P ab5] [Has P aa5] [HasL P aa3] [Has P ad9] [HasL P ab1] [Has P ab7] [HasL P aa6] [Has P ad5] [Has P ax3] [HasC P "product" (.fn "product")] [HasC P "power" (.fn "power")] [Has P ac9] [Has P jp] [HasL P qI] [Has P am2]
end
noncomputable def bg (w:List Nat):List Nat:=w.take 2001
section
variable {P:Pr} [HasC P "MOST_WRITTEN" (.int 2000)] [Has P bI1] [Has P av4]
variable [HasC P "begun_times" (.fn "begun_times")] [Has P ac9] [Has P aJ8] [HasL P as3] [HasL P ar7]
variable [Has P ak0] [Has P ab0] [Has P at7] [Has P ap5]
end
section
variable {P:Pr} [Has P jn] [Has P az1]
end
section
variable {P:Pr} [Has P jn] [Has P az1] [Has P ao6]
end
noncomputable def bu3 (m:Nat)(f:Nat->Nat->Option Int):Sto:=(ae m).map λ i=>.lst (rowO m (f i))
@[simp] theorem bK7 {m:Nat} {f:Nat->Nat->Option Int}:(bu3 m f).length=m:=by unfold bu3;simp
section
variable {P:Pr} [Has P jn] [Has P az1] [Has P ao6] [Has P jg] [Has P bw9]
end
section
variable {P:Pr} [Has P jn] [Has P az1] [Has P ao6] [Has P jg] [Has P bF9]
end
section
variable {P:Pr} [Has P jn] [Has P aZ7]
end
noncomputable def bi5 (L:Nat)(s:Sto)(r:Nat)(most z:Int)(x5 x6 x7 x8 x9:Option D):Env:=[some (.ref r),some (.int (L:Int)),some (.int most),some (.int z),some (.ref s.length),x5,x6,x7,x8,x9]
theorem aI6 {F:Fns}{s:Sto}{r:Nat}{b most z:Int}{k way one other many:Nat}{l:List Rst}{L:Nat}(Y:1<=L)(a0:L<=3)(hl:l.length=k)(hk:k<1000)(h1:one<k+1)(h2:other<k+1)(hm:1<=many)(hm2:many<=10^30) :
  ∃(x:Rst) (z':Int),cd3 k x/\exs F ah4 (bi5 L s r most z (some (.int k)) (some (.int way)) (some (.int one)) (some (.int other)) (some (.int many))) (s.set r (qe b)++[.lst (l.map Rst.d)])=.ok (.next (bi5 L s r most z' (some (.int k)) (some (.int way)) (some (.int one)) (some (.int other)) (some (.int many)))) (s.set r (qe b)++[.lst ((l++[x]).map Rst.d)]):=by
 have J:∀ v,meth .append (.ref s.length) [v] (s.set r (qe b)++[.lst (l.map Rst.d)])=.ok .non (s.set r (qe b)++[.lst (l.map Rst.d++[v])]):=λ v=>bb6 (by unfold LIM;rw[aF];omega)
 have h:∀ a:Nat,0<k->(if(k:Int) - 1<(a:Int)then(k:Int) - 1 else(a:Int))=((min a (k - 1):Nat):Int):=λ a _=>by omega
 unfold ah4 bi5
 by_cases hA:0<k/\(way:Int)<3/\(0:Int)<z
 ·obtain⟨y,B,G⟩:=hA
  have C:(0:Int)<(k:Int):=by omega
  refine⟨.times (min one (k - 1)) many,z - 1,⟨by omega,hm,hm2⟩,?_⟩
  simp -implicitDefEqProofs only[za,zh,zY,ev_and,zH,zg,zE,zG,Cn_str,ze,zl,R.bind_ok,gt_int,lt_int,C,B,G,decide_true,zC,if_true,ex_ex,qp,zo,zu,ev_tup,jo,qh,sub_int,aj3,h one y,J,zd,zU,zb,zD,zx,aB,zr,bu]
  rfl
 ·have Z:ev F (.and (.cmp .gt (.var 5) (.cst (.int 0))) (.and (.cmp .lt (.var 6) (.cst (.int 3))) (.cmp .gt (.var 3) (.cst (.int 0))))) [some (.ref r),some (.int (L:Int)),some (.int most),some (.int z),some (.ref s.length),some (.int k),some (.int way),some (.int one),some (.int other),some (.int many)] (s.set r (qe b)++[.lst (l.map Rst.d)])=.ok (.bl false) (s.set r (qe b)++[.lst (l.map Rst.d)]):=by
   by_cases y:(0:Int)<(k:Int)
   ·by_cases B:(way:Int)<3
    ·have G:¬(0:Int)<z:=λ q=>hA ⟨by omega,B,q⟩
     simp -implicitDefEqProofs only[ev_and,zH,zg,zE,zG,ze,zl,R.bind_ok,gt_int,lt_int,y,B,G,decide_true,decide_false,zC,if_true]
    ·simp -implicitDefEqProofs only[ev_and,zH,zg,zE,zG,ze,zl,R.bind_ok,gt_int,lt_int,y,B,decide_true,decide_false,zC,if_true,if_false,aH]
   ·simp -implicitDefEqProofs only[ev_and,zH,zg,zE,zG,ze,zl,R.bind_ok,gt_int,y,decide_false,zC,if_false,aH]
  by_cases hB:0<k/\(way:Int)<5
  ·obtain⟨y,B⟩:=hB
   have C:(0:Int)<(k:Int):=by omega
   refine⟨.pair (min one (k - 1)) (min other (k - 1)),z,⟨by omega,by omega⟩,?_⟩
   rw[za,zY,Z]
   simp -implicitDefEqProofs only[zC,if_false,aH,za,zh,zY,ev_and,zH,zg,zE,zG,Cn_str,ze,zl,R.bind_ok,gt_int,lt_int,C,B,decide_true,if_true,ex_ex,qp,zo,zu,ev_tup,jo,qh,sub_int,aj3,h one y,h other y,J,zd,bu]
   rfl
  ·have c2:ev F (.and (.cmp .gt (.var 5) (.cst (.int 0))) (.cmp .lt (.var 6) (.cst (.int 5)))) [some (.ref r),some (.int (L:Int)),some (.int most),some (.int z),some (.ref s.length),some (.int k),some (.int way),some (.int one),some (.int other),some (.int many)] (s.set r (qe b)++[.lst (l.map Rst.d)])=.ok (.bl false) (s.set r (qe b)++[.lst (l.map Rst.d)]):=by
    by_cases y:(0:Int)<(k:Int)
    ·have B:¬(way:Int)<5:=λ q=>hB ⟨by omega,q⟩
     simp -implicitDefEqProofs only[ev_and,zH,zg,zE,zG,ze,zl,R.bind_ok,gt_int,lt_int,y,B,decide_true,decide_false,zC,if_true]
    ·simp -implicitDefEqProofs only[ev_and,zH,zg,zE,zG,ze,zl,R.bind_ok,gt_int,y,decide_false,zC,if_false,aH]
   have em:((one:Int) % (L:Int))=((one % L:Nat):Int):=rfl
   have a4:one % L<L:=fT _ Y
   refine⟨.let_ (97+one % L),z,⟨by omega,by omega⟩,?_⟩
   rw[za,zY,Z]
   simp -implicitDefEqProofs only[zC,if_false,aH,za,zh,zY,c2,ex_ex,qp,zo,zu,ev_tup,js,qh,zg,zE,zG,Cn_str,ze,zl,R.bind_ok,jm (show(0:Int)<(L:Int)by omega),em,aV0 (show one % L<3 by omega),J,zd,bu]
   rfl
theorem aQ4 {P:Pr}[Has P af3][Has P af1](n:Nat){s:Sto}{r:Nat}(hs:∃ b,s[r]?=some (qe b)){L:Nat}(a2:1<=L)(a0:L<=3)(most:Nat)(h0:1<=most)(hm:most<=500)(z:Int):cj3 s r most ((aa0 P (n+2)).call "_law_recipe" [.ref r,.int (L:Int),.int most,.int z] s):=by
 have e0:(aa0 P (n+2)).call "_law_recipe" [.ref r,.int (L:Int),.int most,.int z] s=_:=zn af1 (n:=n+1) rfl
 have body:af1.body=.cons (.asg (.one 4) (.lst .nil)) (.cons (.for_ (.one 5) (.rng1 (.bin .add (.cst (.int 1)) (.call "_law_draw" (.ex (.var 0) (.ex (.var 2) .nil))))) (az4 ah4)) (.cons (.ret (.mk .tuple (.seq (.var 4)))) .nil)):=rfl
 have h:=aO8 hs
 obtain⟨b0,a1⟩:=hs
 have es:s.set r (qe b0)=s:=by
  rw[show qe b0=s[r]from((ab.mp a1).2).symm,List.set_getElem_self]
 obtain⟨d,b1,hd,ed⟩:=z7 (P:=P) n (t:=[.lst []]) h b0 most (by omega) (qk (by omega))
 rw[es]at ed
 have key:=qX (ok:=λ s1=>chk (s.set r (qe b1)++[O.lst []]) s1 []) (g:=turn (aa0 P (n+1)) (.one 5) (az4 ah4)) (λ k ρ t=>∃(l:List Rst) (b:Int) (z:Int) (Z C Y J x9:Option D),ag3 l/\l.length=k/\ρ=bi5 L s r most z Z C Y J x9/\t=s.set r (qe b)++[.lst (l.map Rst.d)]) (jh 0 ((d+1:Nat):Int)) 0 (bi5 L s r most z none none none none none) (s.set r (qe b1)++[O.lst []]) ⟨[],b1,z,none,none,none,none,none,.nil,rfl,rfl,rfl⟩ (λ _ _ _ _ _=>rfl) (by
  rintro k dd ρ t hk ⟨l,b,z,Z,C,Y,J,x9,hl,hlk,rfl,rfl⟩
  have a4:=(qi hk).1
  rw[(qi hk).2,bA]at *
  obtain⟨way,c1,_,f1⟩:=z7 (P:=P) n (t:=[.lst (l.map Rst.d)]) h b 6 (by decide) (by decide)
  obtain⟨one,c2,h1,f2⟩:=z7 (P:=P) n (t:=[.lst (l.map Rst.d)]) h c1 ((k:Int)+1) (by omega) (qk (by omega))
  obtain⟨other,c3,h2,f3⟩:=z7 (P:=P) n (t:=[.lst (l.map Rst.d)]) h c2 ((k:Int)+1) (by omega) (qk (by omega))
  obtain⟨q4,c4,h4,f4⟩:=z7 (P:=P) n (t:=[.lst (l.map Rst.d)]) h c3 6 (by decide) (by decide)
  obtain⟨q5,c5,h5,f5⟩:=z7 (P:=P) n (t:=[.lst (l.map Rst.d)]) h c4 3 (by decide) (by decide)
  obtain⟨q6,c6,h6,f6⟩:=z7 (P:=P) n (t:=[.lst (l.map Rst.d)]) h c5 (10^30) (by decide) (by decide)
  have B:∀ s:Sto,qN .pow (.int 10) (.int 30) s=.ok (.int (10^30)) s:=λ s=>ax0 (by decide)
  obtain⟨many,G,hm1,hm2,eh⟩:∃(many:Nat) (G:Int),1<=many/\many<=10^30/\turn (aa0 P (n+1)) (.one 5) (az4 ah4) (.int k) (bi5 L s r most z Z C Y J x9) (s.set r (qe b)++[.lst (l.map Rst.d)])=exs (aa0 P (n+1)) ah4 (bi5 L s r most z (some (.int k)) (some (.int way)) (some (.int one)) (some (.int other)) (some (.int many))) (s.set r (qe G)++[.lst (l.map Rst.d)]):=by
   unfold turn az4 bi5
   generalize ah4=rt
   by_cases h52:(q5:Int)=2
   ·refine⟨q6+1,c6,by omega,by omega,?_⟩
    simp -implicitDefEqProofs only[zb,zD,zx,aB,za,zh,zU,zS,zI,zB,zg,qh,zE,zG,ze,zl,R.bind_ok,f1,f2,f3,f4,add_int,zr,zd,zY,zH,f5,jB,h52,decide_true,zC,if_true,B,f6,show((1:Int)+(q6:Int))=((q6+1:Nat):Int)by omega]
   ·refine⟨q4+1,c5,by omega,?_,?_⟩
    ·have:q4+1<=6:=by omega
     exact aw this (by decide)
    ·simp -implicitDefEqProofs only[zb,zD,zx,aB,za,zh,zU,zS,zI,zB,zg,qh,zE,zG,ze,zl,R.bind_ok,f1,f2,f3,f4,add_int,zr,zd,zY,zH,f5,jB,h52,decide_false,aH,zC,if_false,show((1:Int)+(q4:Int))=((q4+1:Nat):Int)by omega]
  obtain⟨x,z',hx,et⟩:=aI6 a2 a0 (F:=aa0 P (n+1)) (s:=s) (r:=r) (b:=G) (most:=most) (z:=z) (k:=k) (way:=way) (one:=one) (other:=other) (many:=many) (l:=l) hlk (by omega) (by omega) (by omega) hm1 hm2
  exact⟨_,_,.inl (eh.trans et),l++[x],G,z',_,_,_,_,_,hl.snoc (by rw[hlk];exact hx),by simp[hlk],rfl,rfl⟩)
 obtain⟨ρ',s',ek,l,b,z',Z,C,Y,J,x9,hl,hlk,rfl,rfl⟩:=key
 rw[zM,bA]at hlk
 have a3:(s.set r (qe b)++[O.lst (l.map Rst.d)])[s.length]?=some (.lst (l.map Rst.d)):=by rw[aj (by simp)];simp
 refine⟨l,b,hl,by omega,by omega,?_⟩
 rw[e0,body,show(bp some [D.ref r,.int (L:Int),.int most,.int z]++ak af1.vs none)=[some (D.ref r),some (.int (L:Int)),some (.int most),some (.int z),none,none,none,none,none,none]from rfl]
 simp -implicitDefEqProofs only[za,zh,zU,ev_lst,zu,R.bind_ok,qZ,zb,zD,zx,aB,zr,zd,ex_for,z6,qh,zE,zG,zS,zI,zB,zg,ze,zl,ed,add_int,show((1:Int)+(d:Int))=((d+1:Nat):Int)by omega]
 rw[zN (by unfold W62;omega) (by unfold W62;omega)]
 simp only[R.bind_ok]
 rw[show([some (D.ref r),some (.int (L:Int)),some (.int most),some (.int z),some (.ref s.length),none,none,none,none,none]:Env)=bi5 L s r most z none none none none none from rfl,ek]
 unfold bi5
 simp -implicitDefEqProofs only[R.bind_ok,zd,za,zh,qf,ev_mk,evL_seq,zg,ze,zl,aM8,a3,mk,zJ,zO]
 refine ai3 (λ m=>?_) (by nofun) rfl
 unfold D.bnd
 exact z9 (λ x hx n=>by obtain⟨y,_,rfl⟩:=av.mp hx;exact y.bnd n) m
theorem bp7 {P:Pr}[Has P af3][Has P af5](n:Nat){s:Sto}{r:Nat}(hs:∃ b,s[r]?=some (qe b)){L:Nat}(a2:1<=L)(a0:L<=3)(most:Nat)(h0:1<=most)(hm:most<=200):cj3 s r most ((aa0 P (n+2)).call "_law_tall" [.ref r,.int (L:Int),.int most] s):=by
 have e0:(aa0 P (n+2)).call "_law_tall" [.ref r,.int (L:Int),.int most] s=_:=zn af5 (n:=n+1) rfl
 have body:af5.body=.cons (.asg (.one 3) (.lst (.cons (.tup (.cons (.cst (.str [108,101,116,116,101,114])) (.cons (.ix (.cst (.str [97,98,99])) (.call "_law_draw" (.ex (.var 0) (.ex (.var 1) .nil)))) .nil))) .nil))) (.cons (.for_ (.one 4) (.rng1 (.call "_law_draw" (.ex (.var 0) (.ex (.var 2) .nil)))) cg6) (.cons (.ret (.mk .tuple (.seq (.var 3)))) .nil)):=rfl
 have hr:=aO8 hs
 obtain⟨c,b1,hc,e1⟩:=qP (P:=P) n hs (L:Int) (by omega) (qk (by omega))
 obtain⟨d,J,hd,e2⟩:=z7 (P:=P) n (t:=[.lst ([Rst.let_ (97+c)].map Rst.d)]) hr b1 most (by omega) (qk (by omega))
 have key:=qX (ok:=λ s1=>chk (s.set r (qe J)++[O.lst ([Rst.let_ (97+c)].map Rst.d)]) s1 []) (g:=turn (aa0 P (n+1)) (.one 4) cg6) (λ k ρ t=>∃(l:List Rst) (b:Int) (x:Option D),ag3 l/\l.length=k+1/\ρ=[some (D.ref r),some (.int (L:Int)),some (.int (most:Int)),some (.ref s.length),x]/\t=s.set r (qe b)++[.lst (l.map Rst.d)]) (jh 0 (d:Int)) 0 [some (D.ref r),some (.int (L:Int)),some (.int (most:Int)),some (.ref s.length),none] (s.set r (qe J)++[O.lst ([Rst.let_ (97+c)].map Rst.d)]) ⟨[.let_ (97+c)],J,none,ag3.nil.snoc (x:=.let_ (97+c)) ⟨by omega,by omega⟩,rfl,rfl,rfl⟩ (λ _ _ _ _ _=>rfl) (by
  rintro k dd ρ t hk ⟨l,b,x,hl,hlk,rfl,rfl⟩
  have a1:=(qi hk).1
  rw[(qi hk).2]
  rw[bA]at hlk ⊢
  have C:(if(1:Int)<(k:Int)then(1:Int)else(k:Int))+1=((min k 1+1:Nat):Int):=by omega
  obtain⟨q,B,hq,f1⟩:=z7 (P:=P) n (t:=[.lst (l.map Rst.d)]) hr b ((min k 1+1:Nat):Int) (by omega) (qk (by omega))
  have G:(k:Int) - (q:Int)=((k - q:Nat):Int):=by omega
  have ap:∀ v,meth .append (.ref s.length) [v] (s.set r (qe B)++[.lst (l.map Rst.d)])=.ok .non (s.set r (qe B)++[.lst (l.map Rst.d++[v])]):=λ v=>bb6 (by unfold LIM;rw[aF];omega)
  refine⟨[some (D.ref r),some (.int (L:Int)),some (.int (most:Int)),some (.ref s.length),some (.int (k:Int))],s.set r (qe B)++[.lst ((l++[Rst.pair k (k - q)]).map Rst.d)],.inl ?_,l++[Rst.pair k (k - q)],B,_,hl.snoc (x:=.pair k (k - q)) ⟨by omega,by omega⟩,by simp[hlk],rfl,rfl⟩
  unfold turn cg6
  simp -implicitDefEqProofs only[zb,zD,zx,aB,za,zh,ex_ex,qp,zo,zu,ev_tup,zE,Cn_str,zG,zg,qh,zS,zI,zB,jo,ze,zl,R.bind_ok,aj3,add_int,C,f1,sub_int,G,ap,zd,bu]
  rfl)
 obtain⟨ρ',s',Z,l,b,x,hl,hlk,rfl,rfl⟩:=key
 rw[zM,bA]at hlk
 have Y:(s.set r (qe b)++[O.lst (l.map Rst.d)])[s.length]?=some (.lst (l.map Rst.d)):=by rw[aj (by simp)];simp
 refine⟨l,b,hl,by omega,by omega,?_⟩
 rw[e0,body,show(bp some [D.ref r,.int (L:Int),.int most]++ak af5.vs none)=[some (D.ref r),some (.int (L:Int)),some (.int (most:Int)),none,none]from rfl]
 simp -implicitDefEqProofs only[za,zh,zU,ev_lst,zo,zu,ev_tup,zE,Cn_str,js,zS,zI,zB,zg,ze,zl,R.bind_ok,e1,aV0 (show c<3 by omega),qZ,bv,zb,zD,zx,aB,zr,zd,ex_for,z6]
 have h:[Rst.let_ (97+c)].map Rst.d=[D.tup [.str [108,101,116,116,101,114],.str [97+c]]]:=by simp only[aI,cy,Rst.d]
 rw[h]at e2 Z
 rw[e2]
 simp -implicitDefEqProofs only[R.bind_ok]
 rw[zN (by unfold W62;omega) (by unfold W62;omega)]
 simp -implicitDefEqProofs only[R.bind_ok]
 rw[Z]
 simp -implicitDefEqProofs only[R.bind_ok,zd,za,zh,qf,ev_mk,evL_seq,zg,ze,zl,aM8,Y,mk,zJ,zO]
 refine ai3 (λ m=>?_) (by nofun) rfl
 unfold D.bnd
 exact z9 (λ x hx n=>by obtain⟨y,_,rfl⟩:=av.mp hx;exact y.bnd n) m
section
variable {P:Pr} [Has P ac8] [Has P ad2] [Has P ad6] [Has P ab0] [Has P je] [Has P ah8] [Has P ab5] [Has P aa5] [HasL P aa3] [Has P ad9] [HasL P ab1] [Has P ab7] [HasL P aa6] [Has P ad5] [Has P ax3] [HasC P "product" (.fn "product")] [HasC P "power" (.fn "power")] [Has P ac9] [Has P jp] [HasL P qI] [Has P aF0] [Has P zP] [Has P aa9] [Has P aJ4] [Has P aE9]
end
theorem be9 {Q:Nat->Prop}:∀ {M:Nat},Q M->∃ L,L<=M/\Q L/\∀ k,k<L->¬ Q k:=by
 intro M
 induction M using f8 with
 | _ M ih =>
  intro h
  by_cases hk:∃ k,k<M/\Q k
  ·obtain⟨k,B,y⟩:=hk
   obtain⟨L,a,b,c⟩:=ih k B y
   exact⟨L,by omega,b,c⟩
  ·exact⟨M,ah _,h,λ k B y=>hk ⟨k,B,y⟩⟩
def IsL (m:Nat)(f:Nat->Nat->Int)(L:Nat):Prop:=L<=5000/\bB2 m (pw m f L)/\∀ k,k<L->¬ bB2 m (pw m f k)
noncomputable def stL (m:Nat)(f:Nat->Nat->Int):Nat:=Classical.epsilon λ L=>IsL m f L
theorem aA9 {m:Nat}(hm1:1<=m)(B:m<=5){f:Nat->Nat->Int}(y:InG m f):IsL m f (stL m f):=by
 refine Classical.epsilon_spec (p:=λ L=>IsL m f L) ?_
 obtain⟨M,C,h⟩:=bg2 hm1 B y
 obtain⟨L,a,b,c⟩:=be9 (Q:=λ M=>bB2 m (pw m f M)) h
 exact⟨L,by omega,b,c⟩
section
variable {P:Pr} [Has P ac8] [Has P aa4] [HasL P aa2] [Has P ab8] [Has P aa8]
theorem ay5 (n:Nat){m:Nat}(C:1<=m)(B:m<=5){f:Nat->Nat->Int}(G:InG m f){s:Sto}(hs:s.all O.ncl=true) :
  (aa0 P (n+5)).call "steady_power" [gd m f] s=.ok (.tup [.int ((stL m f+1:Nat):Int),gd m (pw m f (stL m f))]) s:=by
 have e0:(aa0 P (n+5)).call "steady_power" [gd m f] s=_:=zn aa8 (n:=n+4) rfl
 obtain⟨Y,Z,y⟩:=aA9 C B G
 generalize stL m f=M at Y Z y
 rw[e0,show(bp some [gd m f]++ak aa8.vs none)=[some (gd m f),none,none]from rfl]
 simp -implicitDefEqProofs only[aa8,za,zh,zU,zE,zG,zg,ze,zl,R.bind_ok,zb,zD,zx,aB,zr,zd,ex_whl]
 rw[R.bind_assoc]
 refine aw8 (λ k ρ t=>∃ L:Nat,L+k=M/\ρ=[some (gd m f),some (.int ((L+1:Nat):Int)),some (gd m (pw m f L))]/\t=s) (λ ρ t=>ρ=[some (gd m f),some (.int ((M+1:Nat):Int)),some (gd m (pw m f M))]/\t=s) M ⟨0,by omega,rfl,rfl⟩ ?_ ?_
 ·rintro k ρ t ⟨L,hL,rfl,rfl⟩
  obtain⟨b,eb,hb⟩:=ak9 (P:=P) n C B (pw_in C G L) hs
  simp -implicitDefEqProofs only[ev_not,zS,zI,zB,zg,ze,zl,R.bind_ok,eb,zC,aW0]
  cases b with
  | true =>
   have J:L=M:=by
    rcases fO L M with h|h
    ·exact absurd (hb.mp rfl) (y L h)
    ·omega
   subst J
   exact⟨rfl,trivial⟩
  | false =>
   have hne:L≠M:=λ e=>by subst e;exact absurd (hb.mpr Z) (by decide)
   simp only[gE,if_true]
   have ea:=aS3 (F:=aa0 P (n+4)) (ρ:=[some (gd m f),some (.int ((L+1:Nat):Int)),some (gd m (pw m f L))]) (ρ':=[some (gd m f),some (.int (((L+1:Nat):Int)+1)),some (gd m (pw m f L))]) (s:=t) (i:=1) (a:=((L+1:Nat):Int)) (b:=1) (e:=.cst (.int 1)) rfl rfl rfl
   have ep:(aa0 P (n+4)).call "sign_product" [gd m (pw m f L),gd m f] t=.ok (gd m (pw m f (L+1))) t:=z0 (P:=P) (n+1) C B (pw_in C G L) G hs
   refine aC9 (ρ:=[some (gd m f),some (.int ((L+1+1:Nat):Int)),some (gd m (pw m f (L+1)))]) (s:=t) ?_ ⟨k - 1,by omega,L+1,by omega,rfl,rfl⟩
   rw[za,ea]
   simp -implicitDefEqProofs only[R.bind_ok,zd,za,zh,zU,zS,zI,zB,zg,ze,zl,ep,zb,zD,zx,aB,zr,show(((L+1:Nat):Int)+1)=((L+1+1:Nat):Int)by omega]
 ·rintro ρ t ⟨rfl,rfl⟩
  simp -implicitDefEqProofs only[zd,za,zh,qf,ev_tup,zo,zu,zg,ze,zl,R.bind_ok,zJ,zO]
  refine zq (λ n=>?_) (by nofun)
  unfold D.bnd D.bndL D.bndL D.bndL
  rw[qx];rfl
end
section
variable {P:Pr} [Has P ac0] [Has P ae1]
theorem ay4 (n:Nat){m:Nat}(hm:1<=m)(B:m<=5){f:Nat->Nat->Int}(hf:InG m f)(s:Sto) :
  (aa0 P (n+2)).call "_law_steady" [gd m f] s=.ok (.tup [.int ((stL m f+1:Nat):Int),gd m (pw m f (stL m f))]) s:=by
 have Z:(aa0 P (n+2)).call "_law_steady" [gd m f] s=_:=zn ae1 (n:=n+1) rfl
 obtain⟨J,Y,y⟩:=aA9 hm B hf
 generalize stL m f=M at J Y y
 rw[Z,show(bp some [gd m f]++ak ae1.vs none)=[some (gd m f),none,none]from rfl]
 simp -implicitDefEqProofs only[ae1,za,zh,zU,zE,zG,zg,ze,zl,R.bind_ok,zb,zD,zx,aB,zr,zd,ex_whl]
 rw[R.bind_assoc]
 refine aw8 (λ k ρ t=>∃ L:Nat,L+k=M/\ρ=[some (gd m f),some (.int ((L+1:Nat):Int)),some (gd m (pw m f L))]/\t=s) (λ ρ t=>ρ=[some (gd m f),some (.int ((M+1:Nat):Int)),some (gd m (pw m f M))]/\t=s) M ⟨0,by omega,rfl,rfl⟩ ?_ ?_
 ·rintro k ρ t ⟨L,hL,rfl,rfl⟩
  obtain⟨b,eb,hb⟩:=cc0 (s:=t) (m:=m) (f:=pr m (pw m f L) (pw m f L)) (g:=pw m f L)
  have G:=qW (P:=P) n B (pw m f L) (pw m f L) t
  simp -implicitDefEqProofs only[zH,zS,zI,zB,zg,ze,zl,R.bind_ok,G,eb,zC,aW0]
  cases b with
  | true =>
   have C:L=M:=by
    rcases fO L M with h|h
    ·exact absurd (hb.mp rfl) (y L h)
    ·omega
   subst C
   exact⟨rfl,trivial⟩
  | false =>
   have hne:L≠M:=λ e=>by subst e;exact absurd (hb.mpr Y) (by decide)
   simp only[gE,if_true]
   have ep:(aa0 P (n+1)).call "_law_product" [gd m (pw m f L),gd m f] t=.ok (gd m (pw m f (L+1))) t:=qW (P:=P) n B (pw m f L) f t
   refine aC9 (ρ:=[some (gd m f),some (.int ((L+1+1:Nat):Int)),some (gd m (pw m f (L+1)))]) (s:=t) ?_ ⟨k - 1,by omega,L+1,by omega,rfl,rfl⟩
   simp -implicitDefEqProofs only[R.bind_ok,zd,za,zh,zU,zS,zI,zB,zg,ze,zl,ep,zb,zD,zx,aB,zr,qh,zE,zG,add_int,show(((L+1:Nat):Int)+1)=((L+1+1:Nat):Int)by omega]
 ·rintro ρ t ⟨rfl,rfl⟩
  simp -implicitDefEqProofs only[zd,za,zh,qf,ev_tup,zo,zu,zg,ze,zl,R.bind_ok,zJ,zO]
  refine zq (λ n=>?_) (by nofun)
  unfold D.bnd D.bndL D.bndL D.bndL
  rw[qx];rfl
end
noncomputable def bI6:Ss:=(.cons (.asg (.one 3) (.call "_law_product" (.ex (.ix (.var 2) (.neg (.cst (.int 1)))) (.ex (.var 0) .nil)))) (.cons (.ite (.cmp .isin (.var 3) (.var 2)) (.cons (.asg (.one 4) (.meth .index (.var 2) (.cons (.var 3) .nil))) (.cons (.ret (.ix (.var 2) (.bin .add (.var 4) (.bin .mod (.bin .sub (.var 1) (.var 4)) (.bin .sub (.bi .len (.cons (.var 2) .nil)) (.var 4)))))) .nil)) .nil) (.cons (.ex (.meth .append (.var 2) (.cons (.var 3) .nil))) .nil)))
noncomputable def bU5:E:=(.cmp .le (.bi .len (.cons (.var 2) .nil)) (.var 1))
theorem bG1:ae6.body=(.cons (.asg (.one 2) (.lst (.cons (.call "_law_unit" (.ex (.bi .len (.cons (.var 0) .nil)) .nil)) .nil))) (.cons (.whl bU5 bI6) (.cons (.ret (.ix (.var 2) (.var 1))) .nil))):=rfl
noncomputable def rS (m:Nat)(f:Nat->Nat->Int)(s:Sto)(k:Nat):Sto:=s++[.lst (qg m (qd m f k))]
section
variable {P:Pr} [Has P ac0] [Has P af7] [Has P ae6]
theorem bS1 {m:Nat}(G:1<=m){f:Nat->Nat->Int}(y:InG m f){k b many:Nat}(hb:b<=k)(hk:k+1<=many)(B:EqG m (qw m f (k+1)) (qw m f b)):gd m (qw m f (b+(many - b) % (k+1 - b)))=gd m (qw m f many):=by
 have h:=bs3 G y (b:=b) (p:=k+1 - b) (by rw[show b+(k+1 - b)=k+1 by omega];exact B) ((many - b) % (k+1 - b)) ((many - b) / (k+1 - b))
 rw[Nat.mod_add_div,show b+(many - b)=many by omega]at h
 exact am8 λ i j C hj=>(h i j C hj).symm
theorem p_step (n:Nat){m:Nat}(hm:1<=m)(J:m<=5){f:Nat->Nat->Int}(hf:InG m f){s:Sto}(k many:Nat)(hk:k<=11000)(Y:k+1<=many)(x y:Option D) :
  (exs (aa0 P (n+1)) bI6 [some (gd m f),some (.int (many:Int)),some (.ref s.length),x,y] (rS m f s k)=.ok (.ret (gd m (qw m f many))) (rS m f s k)) \/
  ((¬ ∃ g∈qd m f k,EqG m g (qw m f (k+1)))/\exs (aa0 P (n+1)) bI6 [some (gd m f),some (.int (many:Int)),some (.ref s.length),x,y] (rS m f s k)=.ok (.next [some (gd m f),some (.int (many:Int)),some (.ref s.length),some (gd m (qw m f (k+1))),y]) (rS m f s (k+1))):=by
 unfold rS
 have g0:(s++[O.lst (qg m (qd m f k))])[s.length]?=some (.lst (qg m (qd m f k))):=bi6
 have C:(qg m (qd m f k)).length=k+1:=by unfold qg;rw[aF,aq2]
 have ix:ixM (.ref s.length) (.int (-1)) (s++[O.lst (qg m (qd m f k))])=.ok (gd m (qw m f k)) (s++[O.lst (qg m (qd m f k))]) :=
  az5 g0 (by rw[C];exact ax4 (jt (ah k)))
 obtain⟨b,eb,hb⟩:=bt7 (s:=s++[O.lst (qg m (qd m f k))]) (m:=m) (g:=qw m f (k+1)) (qd m f k)
 have ein:qE .isin (gd m (qw m f (k+1))) (.ref s.length) (s++[O.lst (qg m (qd m f k))])=.ok (.bl b) (s++[O.lst (qg m (qd m f k))]):=by
  show(inM (gd m (qw m f (k+1))) (.ref s.length) (s++[O.lst (qg m (qd m f k))])).bind (λ r s=>R.ok (D.bl r) s)=_
  have:inM (gd m (qw m f (k+1))) (.ref s.length) (s++[O.lst (qg m (qd m f k))])=.ok b (s++[O.lst (qg m (qd m f k))]):=by
   simp only[inM,g0]
   unfold qg at eb ⊢
   rw[eb]
  rw[this];rfl
 have ep:(aa0 P (n+1)).call "_law_product" [gd m (qw m f k),gd m f] (s++[O.lst (qg m (qd m f k))])=.ok (gd m (qw m f (k+1))) _:=qW n J _ _ _
 cases b with
 | true =>
  obtain⟨j,g,e1,e2,e3⟩:=bv1 (s:=s++[O.lst (qg m (qd m f k))]) (qd m f k) 0 (hb.mp rfl)
  have hj:j<=k:=by have:=(ab.mp e2).1;rw[aq2]at this;omega
  rw[jt hj]at e2
  cases e2
  refine .inl ?_
  have em:meth .index (.ref s.length) [gd m (qw m f (k+1))] (s++[O.lst (qg m (qd m f k))])=.ok (.int (j:Int)) (s++[O.lst (qg m (qd m f k))]):=by
   simp only[meth,g0]
   unfold qg at eb e1 ⊢
   rw[eb,e1,bA]
  have hp:j+(many - j) % (k+1 - j)<=k:=by have:=fT (many - j) (show 0<k+1 - j by omega);omega
  have B:=qM (s:=s++[O.lst (qg m (qd m f k))]) g0 (ax4 (m:=m) (jt (f:=f) hp))
  rw[bS1 hm hf hj Y (λ i l hi hl=>(e3 i l hi hl).symm)]at B
  have h1:((k+1:Nat):Int) - (j:Int)=((k+1 - j:Nat):Int):=by omega
  have h2:(many:Int) - (j:Int)=((many - j:Nat):Int):=by omega
  have G:∀ u:Sto,qN .mod (.int ((many - j:Nat):Int)) (.int ((k+1 - j:Nat):Int)) u=.ok (.int (((many - j) % (k+1 - j):Nat):Int)) u:=λ u=>by
   rw[jm (by omega)];rfl
  have Z:=bb5 (s:=s++[O.lst (qg m (qd m f k))]) g0
  rw[C]at Z
  unfold bI6
  simp -implicitDefEqProofs only[za,zh,zU,zS,zI,zB,js,bc5,zg,ze,zl,R.bind_ok,ix,ep,zb,zD,zx,aB,zr,zd,zY,zH,ein,zC,if_true,qf,zo,zu,qp,em,qh,jo,Z,sub_int,h1,h2,G,add_int,show(j:Int)+(((many - j) % (k+1 - j):Nat):Int)=((j+(many - j) % (k+1 - j):Nat):Int)by omega,B,zJ]
 | false =>
  refine .inr ⟨λ h=>absurd (hb.mpr h) (by decide),?_⟩
  have ea:meth .append (.ref s.length) [gd m (qw m f (k+1))] (s++[O.lst (qg m (qd m f k))])=.ok .non (s++[O.lst (qg m (qd m f (k+1)))]):=by
   rw[jy (by rw[C];unfold LIM;omega)]
   unfold qg qd
   rw[bU (n:=k+1),bu,bu]
   rfl
  unfold bI6
  simp -implicitDefEqProofs only[za,zh,zU,zS,zI,zB,js,bc5,zg,ze,zl,R.bind_ok,ix,ep,zb,zD,zx,aB,zr,zd,zY,zH,ein,zC,if_false,aH,ex_ex,qp,zo,zu,ea]
theorem bw3 (n:Nat){m:Nat}{f:Nat->Nat->Int}{s:Sto}(k many:Nat)(x y:Option D) :
  ev (aa0 P (n+1)) bU5 [some (gd m f),some (.int (many:Int)),some (.ref s.length),x,y] (rS m f s k)=.ok (.bl (decide (k+1<=many))) (rS m f s k):=by
 have g0:(rS m f s k)[s.length]?=some (.lst (qg m (qd m f k))):=bi6
 have B:(qg m (qd m f k)).length=k+1:=by unfold qg;rw[aF,aq2]
 have h:=bb5 g0
 rw[B]at h
 unfold bU5
 simp -implicitDefEqProofs only[zH,jo,zo,zu,zg,ze,zl,R.bind_ok,h,le_int]
 congr 2
 exact decide_eq_decide.mpr (by omega)
theorem bR1 (n:Nat){m:Nat}(Y:1<=m)(B:m<=5){f:Nat->Nat->Int}(J:InG m f){s:Sto}{M many:Nat}(hM:M<=5001)(a0:1<=M)(C:EqG m (qw m f (M+M)) (qw m f M)) :
  ∀(d k:Nat) (x y:Option D),k<=many->k+1+d=M+M ->
   (∃ K,whl (ev (aa0 P (n+1)) bU5) (exs (aa0 P (n+1)) bI6) [some (gd m f),some (.int (many:Int)),some (.ref s.length),x,y] (rS m f s k)=.ok (.ret (gd m (qw m f many))) (rS m f s K)) \/
   ∃ x' y',whl (ev (aa0 P (n+1)) bU5) (exs (aa0 P (n+1)) bI6) [some (gd m f),some (.int (many:Int)),some (.ref s.length),x,y] (rS m f s k)=.ok (.next [some (gd m f),some (.int (many:Int)),some (.ref s.length),x',y']) (rS m f s many):=by
 intro d
 induction d with
 | zero =>
  intro k x y G hk
  have hc:=bw3 (P:=P) n (m:=m) (f:=f) (s:=s) k many x y
  by_cases h:k+1<=many
  ·rw[decide_eq_true h]at hc
   rcases p_step (P:=P) n Y B J (s:=s) k many (by omega) h x y with e|⟨hno,_⟩
   ·exact .inl ⟨k,bc8 hc e⟩
   ·refine absurd ⟨qw m f M,aV (jt (show M<=k by omega)),λ i j Z hj=>?_⟩ hno
    rw[show k+1=M+M by omega];exact(C i j Z hj).symm
  ·rw[decide_eq_false h]at hc
   have:k=many:=by omega
   subst this
   exact .inr ⟨x,y,aH2 hc⟩
 | succ d ih =>
  intro k x y G hk
  have hc:=bw3 (P:=P) n (m:=m) (f:=f) (s:=s) k many x y
  by_cases h:k+1<=many
  ·rw[decide_eq_true h]at hc
   rcases p_step (P:=P) n Y B J (s:=s) k many (by omega) h x y with e|⟨hno,e⟩
   ·exact .inl ⟨k,bc8 hc e⟩
   ·rw[aL3 hc e]
    exact ih (k+1) _ _ h (by omega)
  ·rw[decide_eq_false h]at hc
   have:k=many:=by omega
   subst this
   exact .inr ⟨x,y,aH2 hc⟩
theorem al7 (n:Nat){m:Nat}(G:1<=m)(h:m<=5){f:Nat->Nat->Int}(C:InG m f)(many:Nat)(s:Sto) :
  (aa0 P (n+2)).call "_law_power" [gd m f,.int (many:Int)] s=.ok (gd m (qw m f many)) s:=by
 have Z:(aa0 P (n+2)).call "_law_power" [gd m f,.int (many:Int)] s=_:=zn ae6 (n:=n+1) rfl
 obtain⟨M,Y,B,y⟩:=aG6 G h C
 have key:=bR1 (P:=P) n G h C (s:=s) (many:=many) Y y B (M+M - 1) 0 none none (cS _) (by omega)
 have hz:rS m f s 0=s++[.lst [gd m un]]:=by unfold rS qg qd;simp[bU,qw]
 rw[hz]at key
 rw[Z,bG1,show(bp some [gd m f,D.int (many:Int)]++ak ae6.vs none)=[some (gd m f),some (.int (many:Int)),none,none,none]from rfl]
 simp -implicitDefEqProofs only[za,zh,zU,ev_lst,zo,zu,zS,zI,zB,jo,zg,ze,zl,R.bind_ok,at1,by2 n h,qZ,zb,zD,zx,aB,zr,zd,ex_whl]
 rcases key with⟨K,e⟩|⟨x',y',e⟩
 ·rw[e]
  simp -implicitDefEqProofs only[R.bind_ok,zJ,zO]
  exact zQ qx (by nofun)
 ·rw[e]
  have J:=qM (s:=rS m f s many) (r:=s.length) bi6 (ax4 (m:=m) (jt (f:=f) (ah many)))
  simp -implicitDefEqProofs only[R.bind_ok,zd,za,zh,qf,js,zg,ze,zl,J,zJ,zO]
  exact zQ qx (by nofun)
end
noncomputable abbrev SV:=(Nat->Nat->Int)×Int
noncomputable def tmV (Z c:Nat)(a:SV)(q:Nat):SV :=
 if q / (stL Z a.1+1)<c then(qw Z a.1 q,(q:Int)*a.2)
 else(pr Z (sh Z (pw Z a.1 (stL Z a.1))) (qw Z a.1 (q % (stL Z a.1+1))),((2*(stL Z a.1+1)+q % (stL Z a.1+1):Nat):Int)*a.2)
noncomputable def sws (m:Mc)(c:Nat)(l:List Rst):List SV:=foR (un,0) (λ ch=>(sgM m ch,3)) (λ a b=>(pr m.R a.1 b.1,a.2+b.2)) (tmV m.R c) l
noncomputable def sw (m:Mc)(c:Nat)(l:List Rst)(k:Nat):SV:=(sws m c l).getD k (un,0)
section
variable {m:Mc} {c:Nat} {l:List Rst}
theorem cb1 {k ch:Nat}(h:l[k]?=some (.let_ ch)):sw m c l k=(sgM m ch,3):=cf3 _ _ _ _ h
theorem cg8 {k i j:Nat}(h:l[k]?=some (.pair i j))(y:i<k)(hj:j<k):sw m c l k=(pr m.R (sw m c l i).1 (sw m c l j).1,(sw m c l i).2+(sw m c l j).2):=ce6 _ _ _ _ h y hj
theorem ch4 {k i q:Nat}(h:l[k]?=some (.times i q))(y:i<k):sw m c l k=tmV m.R c (sw m c l i) q:=ca2 _ _ _ _ h y
end
theorem wbd {k i:Nat}(h:i<k){F w:Int}(h0:0<=F)(B:F<=2^103)(y:0<=w)(hw:w<=2^(2+104*i)):0<=F*w/\F*w<=2^(2+104*k):=by
 refine⟨Int.mul_nonneg h0 y,bS (Int.mul_le_mul B hw y (by decide)) ?_⟩
 rw[<-Int.pow_add]
 exact jA (by omega)
theorem cf6 {q:Nat}(h:q<=10^30):(q:Int)<=2^103:=by
 have:(q:Int)<=((10^30:Nat):Int):=by omega
 exact bS this (by decide)
theorem bP3 {Z c:Nat}(h:1<=Z)(B:Z<=5){a:SV}(y:InG Z a.1)(h0:0<=a.2){q k i:Nat}(hq:q<=10^30)(C:i<k)(hw:a.2<=2^(2+104*i)):InG Z (tmV Z c a q).1/\0<=(tmV Z c a q).2/\(tmV Z c a q).2<=2^(2+104*k):=by
 have G:=(aA9 h B y).1
 unfold tmV
 split
 ·exact⟨ay3 h y q,wbd C (by omega) (cf6 hq) h0 hw⟩
 ·have J:q % (stL Z a.1+1)<stL Z a.1+1:=fT _ (by omega)
  exact⟨aR1 h (bX8 h (pw_in h y _)) (ay3 h y _),wbd C (by omega) (bS (show _<=(20000:Int)by omega) (by decide)) h0 hw⟩
theorem bP5 {m:Mc}(y:m.Ok){c:Nat}{l:List Rst}(hl:ag3 l):∀ k,k<l.length->InG m.R (sw m c l k).1/\0<=(sw m c l k).2/\(sw m c l k).2<=2^(2+104*k):=by
 intro k
 induction k using f8 with
 | _ k ih =>
  intro hk
  have hx:=ag hk
  have hok:=hl k _ hx
  generalize l[k]=x at hx hok
  have h4:(4:Int)<=2^(2+104*k):=bS (show(4:Int)<=2^2 by decide) (jA (by omega))
  cases x with
  | let_ ch=>rw[cb1 hx];exact⟨(SgW.letter m ch).inG,by show(0:Int)<=3;decide,by show(3:Int)<=_;omega⟩
  | pair i j =>
   obtain⟨h,hj⟩:=hok
   obtain⟨B,G,C⟩:=ih i h (by omega)
   obtain⟨J,b2,Z⟩:=ih j hj (by omega)
   rw[cg8 hx h hj]
   refine⟨aR1 y.R1 B J,by show(0:Int)<=_+_;omega,?_⟩
   have Y:(2:Int)^(2+104*i)<=2^(1+104*k):=jA (by omega)
   have p2:(2:Int)^(2+104*j)<=2^(1+104*k):=jA (by omega)
   have p3:(2:Int)^(2+104*k)=2^(1+104*k)*2:=by rw[show 2+104*k=(1+104*k)+1 by omega,Int.pow_succ]
   show(sw m c l i).2+(sw m c l j).2<=_
   omega
  | times i q =>
   obtain⟨h,_,hq⟩:=hok
   obtain⟨B,G,C⟩:=ih i h (by omega)
   rw[ch4 hx h]
   exact bP3 y.R1 y.R5 B G hq h C
theorem bX4 {k:Nat}(hk:k<=90){v:Int}(h0:0<=v)(h:v<=2^(2+104*k)):v.natAbs<BIG:=bu2 h0 (bS h (bS (show(2:Int)^(2+104*k)<=TB from by unfold TB;exact jA (by omega)) (by omega)))
noncomputable def SD (Z:Nat)(v:SV):D:=.tup [gd Z v.1,.int v.2]
theorem jC {Z:Nat}{v:SV}(n:Nat):(SD Z v).bnd n=true:=by
 unfold SD D.bnd D.bndL D.bndL D.bndL
 rw[qx];rfl
theorem bs5 {Z:Nat}{v:SV}:(SD Z v).ncl=true:=by
 unfold SD D.ncl D.nclL D.nclL D.nclL
 rw[aq3];rfl
theorem sd0 {Z:Nat}{v:SV}{s:Sto}:ixM (SD Z v) (.int 0) s=.ok (gd Z v.1) s:=rfl
theorem sd1 {Z:Nat}{v:SV}{s:Sto}:ixM (SD Z v) (.int 1) s=.ok (.int v.2) s:=rfl
theorem aP6 (s:Sto)(n:Nat)(a:Int):eqv s n (.int a) (.int a)=some true:=by rw[aV7];simp
theorem cg1 {Z:Nat}{v:SV}{s:Sto}:qE .ne (SD Z v) (SD Z v) s=.ok (.bl false) s:=by
 have e:eqv s DEEP (SD Z v) (SD Z v)=some true:=by
  show eqL (eqv s 29) _ _=_
  refine an2 λ d hd=>?_
  rcases az.mp hd with rfl|hd
  ·show eqL (eqv s 28) _ _=_
   refine an2 λ d hd=>?_
   obtain⟨i,_,rfl⟩:=av.mp hd
   show eqL (eqv s 27) _ _=_
   refine an2 λ d hd=>?_
   obtain⟨j,_,rfl⟩:=av.mp hd
   exact aP6 _ _ _
  ·rw[bN.mp hd];exact aP6 _ _ _
 show(match eqv s DEEP (SD Z v) (SD Z v)with|some r=>R.ok (D.bl (!r)) s|none=>.bad)=_
 rw[e];rfl
section
variable {P:Pr} [Has P ac8] [Has P aa4] [HasL P aa2] [Has P ab8] [Has P aa8] [Has P ac5] [Has P ac6] [HasL P ab3] [HasC P "FREE" (.int 0)] [HasC P "SOME" (.int 1)] [HasC P "UNBOUND" (.int 2)] [HasC P "NONE" (.int 3)] [Has P ad5] [Has P ab6] [HasL P aa7] [Has P ac2] [HasC P "sign_product" (.fn "sign_product")] [Has P ab2] [Has P ab4]
theorem am1 (n:Nat){Z:Nat}(h:1<=Z)(y:Z<=5){a b:SV}(ha:InG Z a.1)(hb:InG Z b.1){s:Sto}(hs:s.all O.ncl=true) :
  (aa0 P (n+4)).call "signs_of_pair" [SD Z a,SD Z b] s=.ok (SD Z (pr Z a.1 b.1,a.2+b.2)) s:=by
 have B:(aa0 P (n+4)).call "signs_of_pair" [SD Z a,SD Z b] s=_:=zn ab2 (n:=n+3) rfl
 have e1:=z0 (P:=P) n h y ha hb hs
 rw[B,show(bp some [SD Z a,SD Z b]++ak ab2.vs none)=[some (SD Z a),some (SD Z b)]from rfl,show ab2.body=(.cons (.ret (.tup (.cons (.call "sign_product" (.ex (.ix (.var 0) (.cst (.int 0))) (.ex (.ix (.var 1) (.cst (.int 0))) .nil))) (.cons (.bin .add (.ix (.var 0) (.cst (.int 1))) (.ix (.var 1) (.cst (.int 1)))) .nil)))) .nil)from rfl]
 tbr_iter [sd0,sd1,e1]
 exact zq (d:=SD Z (pr Z a.1 b.1,a.2+b.2)) jC (by nofun)
theorem ak2 (n:Nat){Z:Nat}(B:1<=Z)(C:Z<=5){a:SV}(G:InG Z a.1)(hw:a.2.natAbs<BIG){q:Nat}(hq:q<=10^30)(c:Nat){s:Sto}(hs:s.all O.ncl=true) :
  (aa0 P (n+6)).call "signs_of_times" [SD Z a,.int (q:Int),.int (c:Int)] s=.ok (SD Z (tmV Z c a q)) s:=by
 have e0:(aa0 P (n+6)).call "signs_of_times" [SD Z a,.int (q:Int),.int (c:Int)] s=_:=zn ab4 (n:=n+5) rfl
 obtain⟨h5,a2,_⟩:=aA9 B C G
 have e1:=ay5 (P:=P) n B C G hs
 have e2:=ai8 (P:=P) n B C G hs q
 have e3:=ai8 (P:=P) n B C G hs (q % (stL Z a.1+1))
 have e4:=aE6 (P:=P) n B C (pw_in B G (stL Z a.1)) a2 hs
 have e5:(aa0 P (n+5)).call "sign_product" [gd Z (sh Z (pw Z a.1 (stL Z a.1))),gd Z (qw Z a.1 (q % (stL Z a.1+1)))] s=_:=z0 (P:=P) (n+2) B C (bX8 B (pw_in B G (stL Z a.1))) (ay3 B G (q % (stL Z a.1+1))) hs
 have em:∀ u:Sto,qN .mod (.int (q:Int)) (.int ((stL Z a.1+1:Nat):Int)) u=.ok (.int ((q % (stL Z a.1+1):Nat):Int)) u:=λ u=>by rw[jm (by omega)];rfl
 have ed:∀ u:Sto,qN .fdiv (.int (q:Int)) (.int ((stL Z a.1+1:Nat):Int)) u=.ok (.int ((q / (stL Z a.1+1):Nat):Int)) u:=λ u=>by rw[aj6 (by omega) (ik (show _<=(5001:Int)by omega) (by decide))];rfl
 have a3:mulOk (q:Int) a.2=true:=ba3 (bf9 hq) hw
 have a4:q % (stL Z a.1+1)<stL Z a.1+1:=fT _ (by omega)
 have Y:mulOk 2 ((stL Z a.1+1:Nat):Int)=true:=qO (by decide)
 have a1:mulOk (2*((stL Z a.1+1:Nat):Int)+((q % (stL Z a.1+1):Nat):Int)) a.2=true:=qO (by omega)
 rw[e0,show(bp some [SD Z a,D.int (q:Int),.int (c:Int)]++ak ab4.vs none)=[some (SD Z a),some (.int (q:Int)),some (.int (c:Int)),none,none,none,none,none]from rfl]
 simp -implicitDefEqProofs only[ab4]
 have J:∀(x y:D) (u:Sto),ixM (.tup [x,y]) (.int 0) u=.ok x u:=λ _ _ _=>rfl
 have a0:∀(x y:D) (u:Sto),ixM (.tup [x,y]) (.int 1) u=.ok y u:=λ _ _ _=>rfl
 by_cases h:q / (stL Z a.1+1)<c
 ·have hd:(((q / (stL Z a.1+1):Nat):Int)<(c:Int)):=by omega
  have hv:tmV Z c a q=(qw Z a.1 q,(q:Int)*a.2):=if_pos h
  tbr_iter [sd0,sd1,e1,J,em,ed,hd,e2,ad8 a3]
  rw[hv]
  exact zq (d:=SD Z (qw Z a.1 q,(q:Int)*a.2)) jC (by nofun)
 ·have hd:¬(((q / (stL Z a.1+1):Nat):Int)<(c:Int)):=by omega
  have hv:tmV Z c a q=_:=if_neg h
  tbr_iter [sd0,sd1,e1,J,a0,em,ed,hd,e3,e4,e5,ad8 Y,ad8 a1]
  rw[hv,show((2*(stL Z a.1+1)+q % (stL Z a.1+1):Nat):Int)=2*((stL Z a.1+1:Nat):Int)+((q % (stL Z a.1+1):Nat):Int)by omega]
  exact zq (d:=SD Z (pr Z (sh Z (pw Z a.1 (stL Z a.1))) (qw Z a.1 (q % (stL Z a.1+1))),_)) jC (by nofun)
end
section
variable {P:Pr} [Has P ac8] [Has P aa4] [HasL P aa2] [Has P ab8] [Has P aa8] [Has P ac5] [Has P ac6] [HasL P ab3] [HasC P "FREE" (.int 0)] [HasC P "SOME" (.int 1)] [HasC P "UNBOUND" (.int 2)] [HasC P "NONE" (.int 3)] [Has P ad5] [Has P ab6] [HasL P aa7] [Has P ac2] [HasC P "sign_product" (.fn "sign_product")] [Has P ab2] [Has P ab4]
 [Has P ae4] [Has P ae2] [HasL P ac3] [Has P ad2] [Has P ad6] [Has P ab0] [Has P ab5] [Has P aa5] [HasL P aa3] [Has P ad9] [HasL P ab1] [Has P ab7] [HasL P aa6] [Has P aa9] [Has P ac4] [Has P ac9] [Has P ad3] [HasL P ad1] [HasL P ad0] [HasC P "LETTER_WEIGHT" (.int 3)] [HasC P "signs_of_pair" (.fn "signs_of_pair")]
theorem az6 (n:Nat){m:Mc}(y:m.Ok){l:List Rst}(hl:l.length<=90)(h1:1<=l.length)(hk:ag3 l)(z:Nat){s:Sto}(hs:s.all O.ncl=true) :
  (aa0 P (n+10)).call "long_signs" [m.d,.tup (l.map Rst.d),.int (z:Int)] s=.ok (SD m.R (sw m ((z+1)*m.R) l (l.length - 1))) s:=by
 have e0:(aa0 P (n+10)).call "long_signs" [m.d,.tup (l.map Rst.d),.int (z:Int)] s=_:=zn ad3 (n:=n+9) rfl
 generalize hc:(z+1)*m.R=c
 have Y:((z:Int)+1)*(m.R:Int)=(c:Int):=by rw[<-hc];push_cast;rfl
 have B:=bd6 hs (W:=λ k=>SD m.R (sw m c l k)) (λ k=>bs5)
 have ok:=λ k (h:k<l.length)=>bP5 y (c:=c) hk k h
 have hf:=aR0 (P:=P) (n+8) (l:=l) (by omega) hk.b (s:=s) (d0:=.tup (l.map Rst.d)) (src:=[]) (λ _ h=>by cases h) (bA9 (l:=l)) (.clo "long_signs.1" [m.d]) (.fn "signs_of_pair") (.clo "long_signs.0" [.int (c:Int)]) (λ k=>SD m.R (sw m c l k)) (λ _ n=>jC n)
  (λ k ch hv=>by
   refine(qY ad0 (n:=n+7) rfl rfl (by rw[B k];unfold D.nclL;rw[bu8];rfl)).trans ?_
   obtain⟨g,hg,e1⟩:=ax8 (P:=P) (n+1) y [ch] (by simp) (B k)
   rw[am8 (hg.eqG (SgW.letter m ch))]at e1
   have g1:=λ ρ s=>ap9 (P:=P) (n:=n+7) (x := "LETTER_WEIGHT") (d:=.int 3) ρ s
   rw[cb1 hv]
   show(ev (aa0 P (n+7)) (.tup (.cons (.call "word_signs" (.ex (.var 1) (.ex (.var 0) .nil))) (.cons (.glob "LETTER_WEIGHT") .nil))) [some (.str [ch]),some m.d] _).bind (zW _)=_
   tbr_iter [e1,g1]
   exact zq (d:=SD m.R (sgM m ch,3)) jC (by nofun))
  (λ k i j hv=>by
   obtain⟨G,hj⟩:=hk k _ hv
   have J:=(ab.mp hv).1
   rw[cg8 hv G hj]
   exact am1 (P:=P) (n+4) y.R1 y.R5 (ok i (by omega)).1 (ok j (by omega)).1 (B k))
  (λ k i q hv=>by
   obtain⟨G,_,hq⟩:=hk k _ hv
   have J:=(ab.mp hv).1
   obtain⟨o1,o2,o3⟩:=ok i (by omega)
   have e1:=ak2 (P:=P) (n+1) y.R1 y.R5 o1 (bX4 (k:=i) (by omega) o2 o3) hq c (B k)
   rw[<-ch4 (m:=m) (c:=c) hv G]at e1
   refine(qY ad1 (n:=n+7) rfl rfl (by rw[B k];unfold D.nclL D.nclL D.nclL;rw[bs5];rfl)).trans ?_
   show(ev (aa0 P (n+7)) (.call "signs_of_times" (.ex (.var 0) (.ex (.var 1) (.ex (.var 2) .nil)))) [some (SD m.R (sw m c l i)),some (.int (q:Int)),some (.int (c:Int))] _).bind (zW _)=_
   tbr_iter [e1]
   exact zq jC (by nofun))
 have g1:=λ ρ s=>ap9 (P:=P) (n:=n+9) (x := "signs_of_pair") (d:=.fn "signs_of_pair") ρ s
 have il:=az5 (bi6 (s:=s)) (aQ0 h1 λ k=>SD m.R (sw m c l k))
 have Z:=jH (P:=P) (n+8) m s
 have C:mulOk ((z:Int)+1) (m.R:Int)=true:=az0 (by have:=y.R5;omega)
 rw[e0,show(bp some [m.d,D.tup (l.map Rst.d),.int (z:Int)]++ak ad3.vs none)=[some m.d,some (.tup (l.map Rst.d)),some (.int (z:Int)),none]from rfl,show ad3.body=(.cons (.asg (.one 3) (.bin .mul (.bin .add (.var 2) (.cst (.int 1))) (.call "rooms_of" (.ex (.var 0) .nil)))) (.cons (.ret (.ix (.callC "folded" (.ex (.var 1) (.lam "long_signs.1" [0] (.ex (.glob "signs_of_pair") (.lam "long_signs.0" [3] .nil))))) (.neg (.cst (.int 1))))) .nil))from rfl]
 tbr_iter [Z,ad8 C,Y,qL]
 rw[qC (cs:=[m.d]) _ rfl]
 tbr_iter [g1]
 rw[qC (cs:=[.int (c:Int)]) _ rfl]
 tbr_iter [hf]
 rw[if_pos (by rw[B l.length];rfl)]
 tbr_iter [aV4,il]
 exact zQ jC (by nofun)
end
noncomputable def du9:Ss:=(.cons (.ite (.cmp .eq (.ix (.var 4) (.cst (.int 0))) (.cst (.str [108,101,116,116,101,114]))) (.cons (.ex (.meth .append (.var 3) (.cons (.tup (.cons (.call "_law_letter_signs" (.ex (.var 0) (.ex (.ix (.var 4) (.cst (.int 1))) .nil))) (.cons (.cst (.int 3)) .nil))) .nil))) .nil) (.cons (.ite (.cmp .eq (.ix (.var 4) (.cst (.int 0))) (.cst (.str [112,97,105,114]))) (.cons (.asg (.one 5) (.ix (.var 3) (.ix (.var 4) (.cst (.int 1))))) (.cons (.asg (.one 6) (.ix (.var 3) (.ix (.var 4) (.cst (.int 2))))) (.cons (.ex (.meth .append (.var 3) (.cons (.tup (.cons (.call "_law_product" (.ex (.ix (.var 5) (.cst (.int 0))) (.ex (.ix (.var 6) (.cst (.int 0))) .nil))) (.cons (.bin .add (.ix (.var 5) (.cst (.int 1))) (.ix (.var 6) (.cst (.int 1)))) .nil))) .nil))) .nil))) (.cons (.asg (.tup [7,8]) (.ix (.var 3) (.ix (.var 4) (.cst (.int 1))))) (.cons (.ex (.meth .append (.var 3) (.cons (.call "_law_many_times" (.ex (.var 7) (.ex (.var 8) (.ex (.ix (.var 4) (.cst (.int 2))) (.ex (.bin .mul (.bin .add (.var 2) (.cst (.int 1))) (.ix (.var 0) (.cst (.int 1)))) .nil))))) .nil))) .nil))) .nil)) .nil)
theorem br3:ag5.body=(.cons (.asg (.one 3) (.lst .nil)) (.cons (.for_ (.one 4) (.seq (.var 1)) du9) (.cons (.ret (.ix (.var 3) (.neg (.cst (.int 1))))) .nil))):=rfl
section
variable {P:Pr} [Has P ac0] [Has P af7] [Has P ae6] [Has P ae1] [Has P ae8] [Has P ad4] [Has P ac1] [Has P ag5]
theorem ay0 (n:Nat){Z:Nat}(B:1<=Z)(y:Z<=5){a:SV}(C:InG Z a.1)(hw:a.2.natAbs<BIG){q:Nat}(hq:q<=10^30)(c:Nat)(s:Sto) :
  (aa0 P (n+3)).call "_law_many_times" [gd Z a.1,.int a.2,.int (q:Int),.int (c:Int)] s=.ok (SD Z (tmV Z c a q)) s:=by
 have e0:(aa0 P (n+3)).call "_law_many_times" [gd Z a.1,.int a.2,.int (q:Int),.int (c:Int)] s=_:=zn ad4 (n:=n+2) rfl
 obtain⟨h5,a1,_⟩:=aA9 B y C
 have e1:=ay4 (P:=P) n B y C s
 have e2:=al7 (P:=P) n B y C q s
 have e3:=al7 (P:=P) n B y C (q % (stL Z a.1+1)) s
 have e4:=br0 (P:=P) (n+1) y (pw Z a.1 (stL Z a.1)) s
 have e5:=qW (P:=P) (n+1) y (sh Z (pw Z a.1 (stL Z a.1))) (qw Z a.1 (q % (stL Z a.1+1))) s
 have em:∀ u:Sto,qN .mod (.int (q:Int)) (.int ((stL Z a.1+1:Nat):Int)) u=.ok (.int ((q % (stL Z a.1+1):Nat):Int)) u:=λ u=>by rw[jm (by omega)];rfl
 have ed:∀ u:Sto,qN .fdiv (.int (q:Int)) (.int ((stL Z a.1+1:Nat):Int)) u=.ok (.int ((q / (stL Z a.1+1):Nat):Int)) u:=λ u=>by rw[aj6 (by omega) (ik (show _<=(5001:Int)by omega) (by decide))];rfl
 have Y:mulOk (q:Int) a.2=true:=ba3 (bf9 hq) hw
 have a0:q % (stL Z a.1+1)<stL Z a.1+1:=fT _ (by omega)
 have G:mulOk 2 ((stL Z a.1+1:Nat):Int)=true:=qO (by decide)
 have J:mulOk (2*((stL Z a.1+1:Nat):Int)+((q % (stL Z a.1+1):Nat):Int)) a.2=true:=qO (by omega)
 rw[e0,show(bp some [gd Z a.1,D.int a.2,.int (q:Int),.int (c:Int)]++ak ad4.vs none)=[some (gd Z a.1),some (.int a.2),some (.int (q:Int)),some (.int (c:Int)),none,none,none]from rfl]
 simp -implicitDefEqProofs only[ad4]
 by_cases h:q / (stL Z a.1+1)<c
 ·have hd:¬((c:Int)<=((q / (stL Z a.1+1):Nat):Int)):=by omega
  have hv:tmV Z c a q=(qw Z a.1 q,(q:Int)*a.2):=if_pos h
  tbr_iter [e1,em,ed,hd,e2,ad8 Y]
  rw[hv]
  exact zq (d:=SD Z (qw Z a.1 q,(q:Int)*a.2)) jC (by nofun)
 ·have hd:((c:Int)<=((q / (stL Z a.1+1):Nat):Int)):=by omega
  have hv:tmV Z c a q=_:=if_neg h
  tbr_iter [e1,em,ed,hd,e3,e4,e5,ad8 G,ad8 J]
  rw[hv,show((2*(stL Z a.1+1)+q % (stL Z a.1+1):Nat):Int)=2*((stL Z a.1+1:Nat):Int)+((q % (stL Z a.1+1):Nat):Int)by omega]
  exact zq (d:=SD Z (pr Z (sh Z (pw Z a.1 (stL Z a.1))) (qw Z a.1 (q % (stL Z a.1+1))),_)) jC (by nofun)
theorem bG8 (n:Nat){m:Mc}(C:m.Ok){l:List Rst}(hl:l.length<=90)(h1:1<=l.length)(hk:ag3 l)(z:Nat)(s:Sto) :
  (aa0 P (n+4)).call "_law_due" [m.d,.tup (l.map Rst.d),.int (z:Int)] s=.ok (SD m.R (sw m ((z+1)*m.R) l (l.length - 1))) s:=by
 have e0:(aa0 P (n+4)).call "_law_due" [m.d,.tup (l.map Rst.d),.int (z:Int)] s=_:=zn ag5 (n:=n+3) rfl
 generalize hc:(z+1)*m.R=c
 have a0:((z:Int)+1)*(m.R:Int)=(c:Int):=by rw[<-hc];push_cast;rfl
 have J:mulOk ((z:Int)+1) (m.R:Int)=true:=az0 (by have:=C.R5;omega)
 have ok:=λ k (h:k<l.length)=>bP5 C (c:=c) hk k h
 rw[e0,br3,show(bp some [m.d,D.tup (l.map Rst.d),.int (z:Int)]++ak ag5.vs none)=[some m.d,some (.tup (l.map Rst.d)),some (.int (z:Int)),none,none,none,none,none,none]from rfl]
 have key:=qX (ok:=λ s1=>chk (s++[O.lst []]) s1 []) (g:=turn (aa0 P (n+3)) (.one 4) du9) (λ k ρ u=>u=s++[.lst ((ae k).map λ k=>SD m.R (sw m c l k))]/\∃ x4 x5 G Z Y,ρ=[some m.d,some (.tup (l.map Rst.d)),some (.int (z:Int)),some (.ref s.length),x4,x5,G,Z,Y]) (l.map Rst.d) 0 [some m.d,some (.tup (l.map Rst.d)),some (.int (z:Int)),some (.ref s.length),none,none,none,none,none] (s++[O.lst []]) ⟨rfl,_,_,_,_,_,rfl⟩ (λ _ _ _ _ _=>rfl) (by
  rintro k d ρ u hkk ⟨rfl,x4,x5,G,Z,Y,rfl⟩
  rw[bA]at *
  rw[ax,cE]at hkk
  obtain⟨y,hy,rfl⟩:=hkk
  have a1:=(ab.mp hy).1
  have hb:=hk k _ hy
  have gW:∀ i,i<k->ixM (.ref s.length) (.int (i:Int)) (s++[O.lst ((ae k).map λ k=>SD m.R (sw m c l k))])=.ok (SD m.R (sw m c l i)) (s++[O.lst ((ae k).map λ k=>SD m.R (sw m c l k))]):=λ i B=>qM bi6 (by rw[ax,aY B];rfl)
  have ha:meth .append (.ref s.length) [SD m.R (sw m c l k)] (s++[O.lst ((ae k).map λ k=>SD m.R (sw m c l k))])=.ok .non (s++[O.lst ((ae (k+1)).map λ k=>SD m.R (sw m c l k))]):=by
   rw[jy (by unfold LIM;rw[aF,bT];omega),bU,bu];rfl
  generalize hS:s++[O.lst ((ae k).map λ k=>SD m.R (sw m c l k))]=S at gW ha
  unfold turn du9
  cases y with
  | let_ ch =>
   have e1:=ao2 (P:=P) (n+2) C ch S
   have hv:D.tup [gd m.R (sgM m ch),.int 3]=SD m.R (sw m c l k):=by rw[cb1 hy];rfl
   refine⟨_,_,.inl ?_,rfl,some (Rst.let_ ch).d,x5,G,Z,Y,rfl⟩
   tbr_iter [rl0,rl1,ak3,show(cf4=[108,101,116,116,101,114])=True from eq_self _,e1,hv,ha]
  | pair i j =>
   obtain⟨B,hj⟩:=hb
   have e1:=qW (P:=P) (n+2) C.R5 (sw m c l i).1 (sw m c l j).1 S
   have hv:D.tup [gd m.R (pr m.R (sw m c l i).1 (sw m c l j).1),.int ((sw m c l i).2+(sw m c l j).2)]=SD m.R (sw m c l k):=by rw[cg8 hy B hj];rfl
   refine⟨_,_,.inl ?_,rfl,some (Rst.pair i j).d,some (SD m.R (sw m c l i)),some (SD m.R (sw m c l j)),Z,Y,rfl⟩
   tbr_iter [rp0,rp1,rp2,ak3,show(bh7=[108,101,116,116,101,114])=False by decide,show(bh7=[112,97,105,114])=True from eq_self _,gW i B,gW j hj,sd0,sd1,e1,hv,ha]
  | times i q =>
   obtain⟨B,_,hq⟩:=hb
   obtain⟨o1,o2,o3⟩:=ok i (by omega)
   have e1:=ay0 (P:=P) n C.R1 C.R5 o1 (bX4 (k:=i) (by omega) o2 o3) hq c S
   rw[<-ch4 (m:=m) (c:=c) hy B]at e1
   refine⟨_,_,.inl ?_,rfl,some (Rst.times i q).d,x5,G,some (gd m.R (sw m c l i).1),some (.int (sw m c l i).2),rfl⟩
   tbr_iter [rt0,rt1,rt2,ak3,show(aE3=[108,101,116,116,101,114])=False by decide,show(aE3=[112,97,105,114])=False by decide,gW i B,show ∀ ρ v,af2 ρ (.tup [7,8]) (SD m.R v)=al9 ρ [7,8] [gd m.R v.1,.int v.2]from λ _ _=>rfl,ixR,ad8 J,a0,e1,ha])
 obtain⟨ρ',u',ek,rfl,x4,x5,G,Z,Y,rfl⟩:=key
 rw[bA,aF]at ek
 have il:=az5 (bi6 (s:=s)) (aQ0 h1 λ k=>SD m.R (sw m c l k))
 tbr_iter [aq7]
 rw[ek]
 tbr_iter [aV4,il]
 exact zQ jC (by nofun)
end
structure Gx (ns:List Int)(r:Nat)(u:Sto):Prop where
 scr:u[0]?=some (.ro (ns.map D.int))
 ncl:u.all O.ncl=true
 box:∃ b,u[r]?=some (qe b)
 r0:r≠0
theorem Gx.put {ns:List Int}{r:Nat}{u:Sto}(h:Gx ns r u)(b:Int):Gx ns r (u.set r (qe b)):=⟨by rw[a9 h.r0];exact h.scr,bA7 h.ncl rfl,ar4 (aO8 h.box),h.r0⟩
theorem Gx.snoc {ns:List Int}{r:Nat}{u:Sto}(h:Gx ns r u){o:O}(ho:o.ncl=true):Gx ns r (u++[o]):=⟨aw5 h.scr,qz h.ncl ho,by obtain⟨b,hb⟩:=h.box;exact⟨b,aw5 hb⟩,h.r0⟩
section
variable {P:Pr} [HasC P "FREE" (.int 0)] [HasC P "SOME" (.int 1)] [HasC P "NONE" (.int 3)] [Has P ae4] [Has P ac8] [Has P ae2] [HasL P ac3] [Has P ad2] [Has P ad6] [Has P ab0] [Has P ab5] [Has P aa5] [HasL P aa3] [Has P ad9] [HasL P ab1] [Has P ab7] [HasL P aa6] [Has P aa9] [Has P ac4] [Has P je] [Has P ah8] [Has P zP] [Has P at4] [Has P aJ4] [Has P aa4] [HasL P aa2]
 [Has P ao0] [Has P af3] [Has P ah1] [Has P ac0] [Has P af7] [Has P ae0] [Has P ac1] [Has P bh1]
end
noncomputable def bY8:Ss:=(.cons (.asg (.one 7) (.call "long_signs" (.ex (.var 3) (.ex (.var 4) (.ex (.var 6) .nil))))) (.cons (.ite (.or (.not (.bi .isTup (.cons (.var 7) .nil))) (.or (.cmp .ne (.bi .len (.cons (.var 7) .nil)) (.cst (.int 2))) (.cmp .ne (.var 7) (.call "_law_due" (.ex (.var 3) (.ex (.var 4) (.ex (.var 6) .nil))))))) (.cons (.ret (.cst (.bl false))) .nil) .nil) (.cons (.ite (.or (.not (.call "_law_form" (.ex (.ix (.var 7) (.cst (.int 0))) (.ex (.ix (.var 3) (.cst (.int 1))) .nil)))) (.or (.not (.bi .isInt (.cons (.ix (.var 7) (.cst (.int 1))) .nil))) (.bi .isBool (.cons (.ix (.var 7) (.cst (.int 1))) .nil)))) (.cons (.ret (.cst (.bl false))) .nil) .nil) .nil)))
noncomputable def cd8:S:=(.for_ (.one 6) (.seq (.lst (.cons (.bin .add (.cst (.int 1)) (.call "_law_draw" (.ex (.var 2) (.ex (.cst (.int 4)) .nil)))) (.cons (.var 5) .nil)))) bY8)
noncomputable def cf8:E:=(.ix (.lst (.cons (.cst (.int 12)) (.cons (.cst (.int 4)) .nil))) (.bi .int (.cons (.cmp .gt (.ix (.var 3) (.cst (.int 1))) (.cst (.int 3))) .nil)))
noncomputable def bY7:S:=(.ite (.cmp .eq (.call "_law_draw" (.ex (.var 2) (.ex (.cst (.int 8)) .nil))) (.cst (.int 3))) (.cons (.asg (.one 4) (.call "_law_tall" (.ex (.var 2) (.ex (.ix (.var 3) (.cst (.int 0))) (.ex (.cst (.int 60)) .nil))))) .nil) .nil)
noncomputable def ca9:S:=(.ite (.cmp .gt (.ix (.var 3) (.cst (.int 1))) (.cst (.int 3))) (.cons (.asg (.one 5) (.cst (.int 0))) .nil) .nil)
theorem bX0:ae3.body=(.cons (.for_ (.one 1) (.rng1 (.bin .add (.bi .min2 (.cons (.cst (.int 1)) (.cons (.bi .len (.cons (.var 0) .nil)) .nil))) (.cst (.int 1)))) (.cons (.asg (.one 2) (.call "_law_box" (.ex (.var 0) (.ex (.var 1) .nil)))) (.cons (.asg (.one 3) (.call "_law_machine" (.ex (.var 2) .nil))) (.cons (.asg (.one 4) (.call "_law_recipe" (.ex (.var 2) (.ex (.ix (.var 3) (.cst (.int 0))) (.ex (.cst (.int 10)) (.ex cf8 .nil)))))) (.cons bY7 (.cons (.asg (.one 5) (.call "_law_draw" (.ex (.var 2) (.ex (.bin .add (.bin .pow (.cst (.int 10)) (.cst (.int 30))) (.cst (.int 1))) .nil)))) (.cons ca9 (.cons cd8 .nil)))))))) (.cons (.ret (.cst (.bl true))) .nil)):=rfl
section
variable {P:Pr} [Has P ac8] [Has P aa4] [HasL P aa2] [Has P ab8] [Has P aa8] [Has P ac5] [Has P ac6] [HasL P ab3] [HasC P "FREE" (.int 0)] [HasC P "SOME" (.int 1)] [HasC P "UNBOUND" (.int 2)] [HasC P "NONE" (.int 3)] [Has P ad5] [Has P ab6] [HasL P aa7] [Has P ac2] [HasC P "sign_product" (.fn "sign_product")] [Has P ab2] [Has P ab4]
 [Has P ae4] [Has P ae2] [HasL P ac3] [Has P ad2] [Has P ad6] [Has P ab0] [Has P ab5] [Has P aa5] [HasL P aa3] [Has P ad9] [HasL P ab1] [Has P ab7] [HasL P aa6] [Has P aa9] [Has P ac4] [Has P ac9] [Has P ad3] [HasL P ad1] [HasL P ad0] [HasC P "LETTER_WEIGHT" (.int 3)] [HasC P "signs_of_pair" (.fn "signs_of_pair")]
 [Has P ac0] [Has P af7] [Has P ae6] [Has P ae1] [Has P ae8] [Has P ad4] [Has P ac1] [Has P ag5] [Has P ao0] [Has P af3] [Has P ah1] [Has P ae0] [Has P ai7] [Has P af5] [Has P ae3]
theorem bj0:Has P af1:=(inferInstance:Has P ai7)
theorem bY0 (n:Nat){m:Mc}(G:m.Ok){l:List Rst}(hl:l.length<=90)(y:1<=l.length)(hk:ag3 l)(z:Nat){s:Sto}(hs:s.all O.ncl=true)(C x1 h B J x7:Option D) :
  turn (aa0 P (n+10)) (.one 6) bY8 (.int (z:Int)) [C,x1,h,some m.d,some (.tup (l.map Rst.d)),B,J,x7] s=.ok (.next [C,x1,h,some m.d,some (.tup (l.map Rst.d)),B,some (.int (z:Int)),some (SD m.R (sw m ((z+1)*m.R) l (l.length - 1)))]) s:=by
 have e1:=az6 (P:=P) n G hl y hk z hs
 have e2:=bG8 (P:=P) (n+6) G hl y hk z s
 have e3:=bG6 (P:=P) (n+9) (m:=m.R) (sw m ((z+1)*m.R) l (l.length - 1)).1 s
 have it:∀(v:SV) (s:Sto),bi .isTup [SD m.R v] s=.ok (.bl true) s:=λ _ _=>rfl
 have Z:∀(v:SV) (s:Sto),bi .len [SD m.R v] s=.ok (.int 2) s:=λ _ _=>rfl
 have ii:∀(i:Int) (s:Sto),bi .isInt [.int i] s=.ok (.bl true) s:=λ _ _=>rfl
 have Y:∀(i:Int) (s:Sto),bi .isBool [.int i] s=.ok (.bl false) s:=λ _ _=>rfl
 unfold turn bY8
 tbr_iter [e1,e2,it,Z,cg1,sd0,sd1,ixR,e3,ii,Y]
theorem bB1 (n:Nat){m:Mc}(hm:m.Ok){l:List Rst}(hl:l.length<=90)(h1:1<=l.length)(hk:ag3 l)(y:Nat){ns:List Int}{r:Nat}{s:Sto}(h:Gx ns r s)(Y x1 C G:Option D) :
  ∃(y6 y7:Option D) (u:Sto),Gx ns r u/\ex (aa0 P (n+10)) cd8 [Y,x1,some (.ref r),some m.d,some (.tup (l.map Rst.d)),some (.int (y:Int)),C,G] s=.ok (.next [Y,x1,some (.ref r),some m.d,some (.tup (l.map Rst.d)),some (.int (y:Int)),y6,y7]) u:=by
 obtain⟨Z,b1,_,e1⟩:=qP (P:=P) (n+9) h.box 4 (by decide) (by decide)
 have hG:=h.put b1
 generalize s.set r (qe b1)=t at e1 hG
 have c1:((1:Int)+(Z:Int))=((Z+1:Nat):Int):=by omega
 let B:List D:=[.int ((Z+1:Nat):Int),.int (y:Int)]
 have J:Gx ns r (t++[O.lst B]):=hG.snoc rfl
 have a0:aG1 (.ref t.length) (t++[O.lst B])=.ok ⟨B,[t.length]⟩ (t++[O.lst B]):=by
  have:(t++[O.lst B])[t.length]?=some (.lst B):=bi6
  simp only[aG1,this]
 have key:=qX (ok:=λ s1=>chk (t++[O.lst B]) s1 [t.length]) (g:=turn (aa0 P (n+10)) (.one 6) bY8) (λ _ ρ u=>u=t++[O.lst B]/\∃ C G,ρ=[Y,x1,some (.ref r),some m.d,some (.tup (l.map Rst.d)),some (.int (y:Int)),C,G]) B 0 [Y,x1,some (.ref r),some m.d,some (.tup (l.map Rst.d)),some (.int (y:Int)),C,G] (t++[O.lst B]) ⟨rfl,C,G,rfl⟩ (λ _ _ u _ h=>by obtain⟨rfl,_⟩:=h;simp[chk]) (by
  rintro k d ρ u hk2 ⟨rfl,C,G,rfl⟩
  obtain⟨z,rfl⟩:∃ z:Nat,d=.int (z:Int):=by
   have hd:=aV hk2
   simp only[B,az,bf,or_false]at hd
   rcases hd with rfl|rfl<;>exact⟨_,rfl⟩
  exact⟨_,_,.inl (bY0 (P:=P) n hm hl h1 hk z J.ncl Y x1 (some (.ref r)) (some (.int (y:Int))) C G),rfl,_,_,rfl⟩)
 obtain⟨ρ',s',ek,rfl,y6,y7,rfl⟩:=key
 refine⟨y6,y7,_,J,?_⟩
 unfold cd8
 tbr_iter [e1,c1]
 rw[show O.lst [D.int ((Z+1:Nat):Int),.int (y:Int)]=O.lst B from rfl,a0]
 simp only[R.bind_ok]
 exact ek
theorem bA2 (n:Nat){ns:List Int}{r:Nat}{u:Sto}(h:Gx ns r u){m:Mc}(hm:m.Ok){l:List Rst}(hl:l.length<=60)(h1:1<=l.length)(hk:ag3 l)(x0 x1 x5 Y x7:Option D) :
  ∃(y:List Rst) (Z:Sto),y.length<=60/\1<=y.length/\ag3 y/\Gx ns r Z/\ex (aa0 P (n+2)) bY7 [x0,x1,some (.ref r),some m.d,some (.tup (l.map Rst.d)),x5,Y,x7] u=.ok (.next [x0,x1,some (.ref r),some m.d,some (.tup (y.map Rst.d)),x5,Y,x7]) Z:=by
 obtain⟨q,b1,hq,e1⟩:=qP (P:=P) (n+1) h.box 8 (by decide) (by decide)
 have B:=h.put b1
 by_cases h3:(q:Int)=3
 ·obtain⟨y,b,J,G,C,e2⟩:=bp7 (P:=P) n B.box hm.L1 hm.L3 60 (by decide) (by decide)
  refine⟨y,_,C,G,J,B.put b,?_⟩
  rw[show((60:Nat):Int)=60 from rfl]at e2
  unfold bY7
  tbr_iter [e1,h3,ixL,e2]
 ·refine⟨l,_,hl,h1,hk,B,?_⟩
  unfold bY7
  tbr_iter [e1,h3]
theorem bA1 {F:Fns}{m:Mc}(u:Sto)(Z x1 C B Y G J:Option D):∃ z:Int,ev F cf8 [Z,x1,C,some m.d,B,Y,G,J] u=.ok (.int z) (u++[.lst [.int 12,.int 4]]):=by
 have y:∀ s,ixM m.d (.int 1) s=.ok (.int m.R) s:=λ s=>ixR m s
 unfold cf8
 by_cases g:(3:Int)<(m.R:Int)
 ·have h:=qM (s:=u++[O.lst [D.int 12,D.int 4]]) (r:=u.length) (j:=1) bi6 rfl
  exact⟨4,by tbr_iter [y,g,aD7];exact h⟩
 ·have h:=qM (s:=u++[O.lst [D.int 12,D.int 4]]) (r:=u.length) (j:=0) bi6 rfl
  exact⟨12,by tbr_iter [y,g,aD7];exact h⟩
theorem bJ0 {F:Fns}{m:Mc}(h:Nat)(u:Sto)(J x1 B y G C:Option D):∃ g:Nat,ex F ca9 [J,x1,B,some m.d,y,some (.int (h:Int)),G,C] u=.ok (.next [J,x1,B,some m.d,y,some (.int (g:Int)),G,C]) u:=by
 have Y:∀ s,ixM m.d (.int 1) s=.ok (.int m.R) s:=λ s=>ixR m s
 unfold ca9
 by_cases g:(3:Int)<(m.R:Int)
 ·exact⟨0,by tbr_iter [Y,g];rfl⟩
 ·exact⟨h,by tbr_iter [Y,g]⟩
theorem ch6 (n:Nat):cb2 P (n+11):=by
 intro ns hl
 haveI:Has P af1:=bj0 (P:=P)
 have e0:(aa0 P (n+11)).call "law" [.ref 0] [.ro (ns.map D.int)]=_:=zn ae3 (n:=n+10) rfl
 rw[e0,bX0,show(bp some [D.ref 0]++ak ae3.vs none)=[some (.ref 0),none,none,none,none,none,none,none]from rfl]
 have a1:([.ro (ns.map D.int)]:Sto)[0]?=some (.ro (ns.map D.int)):=rfl
 have Y:bi .len [.ref 0] [.ro (ns.map D.int)]=.ok (.int ns.length) [.ro (ns.map D.int)]:=by rw[bs4 a1,aF]
 have hk:(if(ns.length:Int)<1 then(ns.length:Int)else 1)+1=((min ns.length 1+1:Nat):Int):=by omega
 tbr_iter [Y,aj3,hk]
 rw[zN (by unfold W62;omega) (by unfold W62;omega)]
 simp only[R.bind_ok]
 rw[R.bind_assoc]
 refine jf (W:=Yes) (λ j ρ t=>t[0]?=some (.ro (ns.map D.int))/\t.all O.ncl=true/\∃ x1 x2 x3 Z G y C,ρ=[some (.ref 0),x1,x2,x3,Z,G,y,C]) ⟨rfl,by
   simp only[fi,j8,dL];exact bj8,_,_,_,_,_,_,_,rfl⟩ (λ _ _ _ _ _=>rfl) ?_ ?_
 ·rintro j d ρ t hj ⟨ht,hn,x1,x2,x3,Z,G,y,C,rfl⟩
  have hd:=(qi hj).2
  subst hd
  have a4:0<t.length:=(ab.mp ht).1
  obtain⟨N0,h⟩:=bM7 (P:=P) (n+9) ns j ht
  have G0:Gx ns t.length (t++[qe N0]):=⟨aw5 ht,qz hn rfl,⟨_,bi6⟩,by omega⟩
  generalize t++[qe N0]=S at h G0
  generalize t.length=r at h G0
  obtain⟨m,b1,hm,em⟩:=aH3 (P:=P) (n+8) G0.box
  have G1:=G0.put b1
  generalize S.set r (qe b1)=S1 at em G1
  obtain⟨z,ez⟩:=bA1 (F:=aa0 P (n+10)) (m:=m) S1 (some (.ref 0)) (some (.int (j:Int))) (some (.ref r)) Z G y C
  have B:=G1.snoc (o:=.lst [.int 12,.int 4]) rfl
  generalize S1++[O.lst [D.int 12,D.int 4]]=S2 at ez B
  obtain⟨l,b2,a0,h1,h2,er⟩:=aQ4 (P:=P) (n+8) B.box hm.L1 hm.L3 10 (by decide) (by decide) z
  have G2:=B.put b2
  generalize S2.set r (qe b2)=S3 at er G2
  obtain⟨l',u4,a5,a3,a2,G4,e4⟩:=bA2 (P:=P) (n+8) G2 hm (l:=l) (by omega) h1 a0 (some (.ref 0)) (some (.int (j:Int))) G y C
  obtain⟨q5,b5,_,e5⟩:=qP (P:=P) (n+9) G4.box (10^30+1) (by decide) (by decide)
  have G5:=G4.put b5
  generalize u4.set r (qe b5)=u5 at e5 G5
  obtain⟨g,eg⟩:=bJ0 (F:=aa0 P (n+10)) (m:=m) q5 u5 (some (.ref 0)) (some (.int (j:Int))) (some (.ref r)) (some (.tup (l'.map Rst.d))) y C
  obtain⟨y6,y7,u7,G7,e7⟩:=bB1 (P:=P) n hm (l:=l') (by omega) a3 a2 g G5 (some (.ref 0)) (some (.int (j:Int))) y C
  have J:∀ s:Sto,qN .pow (.int 10) (.int 30) s=.ok (.int (10^30)) s:=λ s=>ax0 (by decide)
  refine aC9 (ρ:=[some (.ref 0),some (.int (j:Int)),some (.ref r),some m.d,some (.tup (l'.map Rst.d)),some (.int (g:Int)),y6,y7]) (s:=u7) ?_ ⟨G7.scr,G7.ncl,_,_,_,_,_,_,_,rfl⟩
  rw[show((10:Nat):Int)=10 from rfl]at er
  unfold turn
  simp -implicitDefEqProofs only[zb,zD,zx,aB,za,zh,zU,js,zS,zI,zB,zg,ze,zl,R.bind_ok,h,em,zr,zd,zE,zG,ixL,ez,er,e4,qh,J,add_int,e5,eg,e7]
 ·rintro ρ t ⟨ht,hn,x1,x2,x3,Z,G,y,C,rfl⟩
  tbr_iter []
  exact bg4 _ _
end
end DV
end
local macro_rules | `(tactic| walk_at "sc") => `(tactic| exact ⟨rfl, rfl, rfl, by decide +kernel, rfl, by decide +kernel, by decide +kernel⟩)
local macro_rules | `(tactic| walk_at "df") => `(tactic| (dsimp only; exact ⟨_, _, _, _, _, _, _, _, _, _, by k_is, by k_is, by k_is, by k_is⟩))
noncomputable section
namespace My
open PySem L2
noncomputable def top (i:Nat):Stmt:=PySem.Challenge.pw_leasttolls_k41_signs_of_long_words.main.body.getD i (.Pass ⟨0,0,0,0⟩)
theorem bB4:aH0 ["i", "j"]:=λ params h _ _ _ _ _ _ _ _ us hl=>by
 obtain⟨args,rfl,ha⟩:=jc h
 revert us
 refine bd2 ?_
 intro C G
 rcases args with _|⟨⟨y,_,_⟩,_|⟨⟨B,_,_⟩,_|⟨_,_⟩⟩⟩
 all_goals simp only[aI,cy,f9,and_true,and_false,reduceCtorEq]at ha
 obtain⟨rfl,rfl⟩:=ha
 exact⟨rfl,λ _ _=>rfl⟩
theorem cm0:aH0 ["letter"]:=λ params h _ _ _ _ _ _ _ _ us hl=>by
 obtain⟨args,rfl,ha⟩:=jc h
 revert us
 refine bd1 ?_
 intro B
 rcases args with _|⟨⟨y,_,_⟩,_|⟨_,_⟩⟩
 all_goals simp only[aI,cy,f9,and_true,and_false,reduceCtorEq]at ha
 obtain rfl:=ha
 exact⟨rfl,λ _ _=>rfl⟩
theorem cn6:aH0 ["one", "many"]:=λ params h _ _ _ _ _ _ _ _ us hl=>by
 obtain⟨args,rfl,ha⟩:=jc h
 revert us
 refine bd2 ?_
 intro C G
 rcases args with _|⟨⟨y,_,_⟩,_|⟨⟨B,_,_⟩,_|⟨_,_⟩⟩⟩
 all_goals simp only[aI,cy,f9,and_true,and_false,reduceCtorEq]at ha
 obtain⟨rfl,rfl⟩:=ha
 exact⟨rfl,λ _ _=>rfl⟩
noncomputable def af0:List Str:=["plain", "product", "letter_table", "reading", "plain_signs", "sign_product", "sharpened", "long_signs"]
noncomputable abbrev as9:Stmt:=top 1
noncomputable abbrev au0:Stmt:=top 2
noncomputable abbrev br7:Stmt:=top 7
noncomputable abbrev aQ1:Stmt:=top 8
noncomputable abbrev be6:Stmt:=top 10
noncomputable abbrev aY3:Stmt:=top 11
noncomputable abbrev aW6:Stmt:=top 12
noncomputable abbrev aC3:Stmt:=top 13
noncomputable abbrev s_letter_table:Stmt:=top 14
noncomputable abbrev al0:Stmt:=top 15
noncomputable abbrev aC1:Stmt:=top 21
noncomputable abbrev aD6:Stmt:=top 22
noncomputable abbrev aj0:Stmt:=top 23
noncomputable abbrev af6:Stmt:=top 24
noncomputable abbrev al6:Stmt:=top 25
noncomputable abbrev ak7:Stmt:=top 26
noncomputable abbrev ap8:Stmt:=top 28
noncomputable abbrev at2:Stmt:=top 29
noncomputable abbrev aq6:Stmt:=top 30
noncomputable abbrev ah2:Stmt:=top 31
noncomputable abbrev aP9:Stmt:=top 34
noncomputable abbrev af4:Stmt:=top 36
noncomputable abbrev ag1:Stmt:=top 37
noncomputable abbrev ak5:Stmt:=top 38
noncomputable abbrev at6:Stmt:=top 40
noncomputable abbrev aq1:Stmt:=top 41
noncomputable abbrev ap7:Stmt:=top 42
noncomputable abbrev ah3:Stmt:=top 43
noncomputable abbrev ao8:Stmt:=top 44
noncomputable abbrev ah0:Stmt:=top 45
noncomputable abbrev s__law_letter_signs:Stmt:=top 46
noncomputable abbrev ai2:Stmt:=top 47
noncomputable abbrev al5:Stmt:=top 48
noncomputable abbrev ai6:Stmt:=top 49
noncomputable abbrev ak6:Stmt:=top 50
noncomputable abbrev af8:Stmt:=top 51
noncomputable abbrev au1:Stmt:=top 52
noncomputable abbrev ao3:Stmt:=top 53
noncomputable abbrev aC0:Stmt:=top 54
noncomputable def tb:List (String×lu×Stmt):=[("rooms_of",DV.ab0,as9),("doors_of",DV.ab5,au0),("grid",DV.ac8,br7),("raised",DV.ad5,aQ1),("least",DV.ad2,be6),("added",DV.ad6,aY3),("plain",DV.ad9,aW6),("product",DV.ab7,aC3),("letter_table",DV.aa5,s_letter_table),("word_table",DV.aa9,al0),("sign_of",DV.ae4,aC1),("reading",DV.ae2,aD6),("plain_signs",DV.ab6,aj0),("sign_product",DV.aa4,af6),("sign_power",DV.ac2,al6),("word_signs",DV.ac4,ak7),("is_steady",DV.ab8,ap8),("round_of",DV.ac5,at2),("sharpened",DV.ac6,aq6),("steady_power",DV.aa8,ah2),("folded",DV.ac9,aP9),("signs_of_pair",DV.ab2,af4),("signs_of_times",DV.ab4,ag1),("long_signs",DV.ad3,ak5),("_law_box",DV.ao0,at6),("_law_draw",DV.af3,aq1),("_law_form",DV.ah1,ap7),("_law_product",DV.ac0,ah3),("_law_unit",DV.af7,ao8),("_law_machine",DV.ae0,ah0),("_law_letter_signs",DV.ac1,s__law_letter_signs),("_law_steady",DV.ae1,ai2),("_law_sharp",DV.ae8,al5),("_law_recipe",DV.ai7,ai6),("_law_power",DV.ae6,ak6),("_law_many_times",DV.ad4,af8),("_law_due",DV.ag5,au1),("_law_tall",DV.af5,ao3),("law",DV.ae3,aC0)]
noncomputable def ch0:List (String×ko):=[("FREE",.int (0)),("SOME",.int (1)),("UNBOUND",.int (2)),("NONE",.int (3)),("LETTER_WEIGHT",.int (3)),("sign_product",.fn "sign_product"),("signs_of_pair",.fn "signs_of_pair")]
noncomputable def cm4:List (String×ls):=[("plain.0",DV.ab1),("product.0",DV.aa6),("letter_table.least_fee",DV.aa3),("reading.0",DV.ac3),("plain_signs.0",DV.aa7),("sign_product.0",DV.aa2),("sharpened.0",DV.ab3),("long_signs.0",DV.ad1),("long_signs.1",DV.ad0)]
noncomputable def tbl:List (String×lu):=tb.map λ p=>(p.1,p.2.1)
noncomputable def P:kI:=⟨λ f=>tbl.lookup f,λ f=>cm4.lookup f,λ x=>ch0.lookup x⟩
instance:DV.HasL P DV.ab1:=⟨rfl⟩
instance:DV.HasL P DV.aa6:=⟨rfl⟩
instance:DV.HasL P DV.aa3:=⟨rfl⟩
instance:DV.HasL P DV.ac3:=⟨rfl⟩
instance:DV.HasL P DV.aa7:=⟨rfl⟩
instance:DV.HasL P DV.aa2:=⟨rfl⟩
instance:DV.HasL P DV.ab3:=⟨rfl⟩
instance:DV.HasL P DV.ad1:=⟨rfl⟩
instance:DV.HasL P DV.ad0:=⟨rfl⟩
instance:DV.HasC P "FREE" (.int (0)):=⟨rfl⟩
instance:DV.HasC P "SOME" (.int (1)):=⟨rfl⟩
instance:DV.HasC P "UNBOUND" (.int (2)):=⟨rfl⟩
instance:DV.HasC P "NONE" (.int (3)):=⟨rfl⟩
instance:DV.HasC P "LETTER_WEIGHT" (.int (3)):=⟨rfl⟩
instance:DV.HasC P "sign_product" (.fn "sign_product"):=⟨rfl⟩
instance:DV.HasC P "signs_of_pair" (.fn "signs_of_pair"):=⟨rfl⟩
instance:DV.Has P DV.ab0:=⟨rfl⟩
instance:DV.Has P DV.ab5:=⟨rfl⟩
instance:DV.Has P DV.ac8:=⟨rfl⟩
instance:DV.Has P DV.ad5:=⟨rfl⟩
instance:DV.Has P DV.ad2:=⟨rfl⟩
instance:DV.Has P DV.ad6:=⟨rfl⟩
instance:DV.Has P DV.ad9:=⟨rfl⟩
instance:DV.Has P DV.ab7:=⟨rfl⟩
instance:DV.Has P DV.aa5:=⟨rfl⟩
instance:DV.Has P DV.aa9:=⟨rfl⟩
instance:DV.Has P DV.ae4:=⟨rfl⟩
instance:DV.Has P DV.ae2:=⟨rfl⟩
instance:DV.Has P DV.ab6:=⟨rfl⟩
instance:DV.Has P DV.aa4:=⟨rfl⟩
instance:DV.Has P DV.ac2:=⟨rfl⟩
instance:DV.Has P DV.ac4:=⟨rfl⟩
instance:DV.Has P DV.ab8:=⟨rfl⟩
instance:DV.Has P DV.ac5:=⟨rfl⟩
instance:DV.Has P DV.ac6:=⟨rfl⟩
instance:DV.Has P DV.aa8:=⟨rfl⟩
instance:DV.Has P DV.ac9:=⟨rfl⟩
instance:DV.Has P DV.ab2:=⟨rfl⟩
instance:DV.Has P DV.ab4:=⟨rfl⟩
instance:DV.Has P DV.ad3:=⟨rfl⟩
instance:DV.Has P DV.ao0:=⟨rfl⟩
instance:DV.Has P DV.af3:=⟨rfl⟩
instance:DV.Has P DV.ah1:=⟨rfl⟩
instance:DV.Has P DV.ac0:=⟨rfl⟩
instance:DV.Has P DV.af7:=⟨rfl⟩
instance:DV.Has P DV.ae0:=⟨rfl⟩
instance:DV.Has P DV.ac1:=⟨rfl⟩
instance:DV.Has P DV.ae1:=⟨rfl⟩
instance:DV.Has P DV.ae8:=⟨rfl⟩
instance:DV.Has P DV.ai7:=⟨rfl⟩
instance:DV.Has P DV.ae6:=⟨rfl⟩
instance:DV.Has P DV.ad4:=⟨rfl⟩
instance:DV.Has P DV.ag5:=⟨rfl⟩
instance:DV.Has P DV.af5:=⟨rfl⟩
instance:DV.Has P DV.ae3:=⟨rfl⟩
theorem aR5:DT af0 P "rooms_of" DV.ab0 as9:=⟨["machine"],["machine"],by walk_at "sc",rfl,rfl,λ _ _ _ _ _ _=>bd1 (λ _=>rfl),.inl (by decide +kernel)⟩
theorem aQ3:DT af0 P "doors_of" DV.ab5 au0:=⟨["machine"],["machine"],by walk_at "sc",rfl,rfl,λ _ _ _ _ _ _=>bd1 (λ _=>rfl),.inl (by decide +kernel)⟩
theorem bO6:DT af0 P "grid" DV.ac8 br7:=⟨["size", "entry", "rows", "i"],["size", "entry"],by walk_at "sc",rfl,rfl,λ _ _ _ _ _ _=>bd2 (λ _ _=>rfl),.inl (by decide +kernel)⟩
theorem bp8:DT af0 P "raised" DV.ad5 aQ1:=⟨["one", "many", "plain_one", "times", "answer", "square", "left"],["one", "many", "plain_one", "times"],by walk_at "sc",rfl,rfl,λ _ _ _ _ _ _=>bd4 (λ _ _ _ _=>rfl),.inl (by decide +kernel)⟩
theorem bI3:DT af0 P "least" DV.ad2 be6:=⟨["prices"],["prices"],by walk_at "sc",rfl,rfl,λ _ _ _ _ _ _=>bd1 (λ _=>rfl),.inl (by decide +kernel)⟩
theorem bJ8:DT af0 P "added" DV.ad6 aY3:=⟨["one", "other"],["one", "other"],by walk_at "sc",rfl,rfl,λ _ _ _ _ _ _=>bd2 (λ _ _=>rfl),.inl (by decide +kernel)⟩
theorem bz2:DT af0 P "plain" DV.ad9 aW6:=⟨["n"],["n"],by walk_at "sc",rfl,rfl,λ _ _ _ _ _ _=>bd1 (λ _=>rfl),.inr ⟨by decide,[("plain.0",DV.ab1,["i", "j"],[])],by decide +kernel,by decide +kernel,λ p h=>by
 simp only[az,bf,or_false]at h
 rcases h with rfl
 ·exact⟨rfl,bB4⟩⟩⟩
theorem bc9:DT af0 P "product" DV.ab7 aC3:=⟨["one", "other", "size"],["one", "other"],by walk_at "sc",rfl,rfl,λ _ _ _ _ _ _=>bd2 (λ _ _=>rfl),.inr ⟨by decide,[("product.0",DV.aa6,["i", "j"],["size", "one", "other"])],by decide +kernel,by decide +kernel,λ p h=>by
 simp only[az,bf,or_false]at h
 rcases h with rfl
 ·exact⟨rfl,bB4⟩⟩⟩
theorem as4:DT af0 P "letter_table" DV.aa5 s_letter_table:=⟨["machine", "letter", "least_fee"],["machine", "letter"],by walk_at "sc",rfl,rfl,λ _ _ _ _ _ _=>bd2 (λ _ _=>rfl),.inr ⟨by decide,[("letter_table.least_fee",DV.aa3,["i", "j"],["machine", "letter"])],by decide +kernel,by decide +kernel,λ p h=>by
 simp only[az,bf,or_false]at h
 rcases h with rfl
 ·exact⟨rfl,bB4⟩⟩⟩
theorem aB4:DT af0 P "word_table" DV.aa9 al0:=⟨["machine", "word", "made", "table", "letter"],["machine", "word"],by walk_at "sc",rfl,rfl,λ _ _ _ _ _ _=>bd2 (λ _ _=>rfl),.inl (by decide +kernel)⟩
theorem bb0:DT af0 P "sign_of" DV.ae4 aC1:=⟨["price"],["price"],by walk_at "sc",rfl,rfl,λ _ _ _ _ _ _=>bd1 (λ _=>rfl),.inl (by decide +kernel)⟩
theorem bg9:DT af0 P "reading" DV.ae2 aD6:=⟨["table"],["table"],by walk_at "sc",rfl,rfl,λ _ _ _ _ _ _=>bd1 (λ _=>rfl),.inr ⟨by decide,[("reading.0",DV.ac3,["i", "j"],["table"])],by decide +kernel,by decide +kernel,λ p h=>by
 simp only[az,bf,or_false]at h
 rcases h with rfl
 ·exact⟨rfl,bB4⟩⟩⟩
theorem ay9:DT af0 P "plain_signs" DV.ab6 aj0:=⟨["n"],["n"],by walk_at "sc",rfl,rfl,λ _ _ _ _ _ _=>bd1 (λ _=>rfl),.inr ⟨by decide,[("plain_signs.0",DV.aa7,["i", "j"],[])],by decide +kernel,by decide +kernel,λ p h=>by
 simp only[az,bf,or_false]at h
 rcases h with rfl
 ·exact⟨rfl,bB4⟩⟩⟩
theorem as7:DT af0 P "sign_product" DV.aa4 af6:=⟨["one", "other", "size"],["one", "other"],by walk_at "sc",rfl,rfl,λ _ _ _ _ _ _=>bd2 (λ _ _=>rfl),.inr ⟨by decide,[("sign_product.0",DV.aa2,["i", "j"],["size", "one", "other"])],by decide +kernel,by decide +kernel,λ p h=>by
 simp only[az,bf,or_false]at h
 rcases h with rfl
 ·exact⟨rfl,bB4⟩⟩⟩
theorem aB9:DT af0 P "sign_power" DV.ac2 al6:=⟨["signs", "many"],["signs", "many"],by walk_at "sc",rfl,rfl,λ _ _ _ _ _ _=>bd2 (λ _ _=>rfl),.inl (by decide +kernel)⟩
theorem aG0:DT af0 P "word_signs" DV.ac4 ak7:=⟨["machine", "word"],["machine", "word"],by walk_at "sc",rfl,rfl,λ _ _ _ _ _ _=>bd2 (λ _ _=>rfl),.inl (by decide +kernel)⟩
theorem aK8:DT af0 P "is_steady" DV.ab8 ap8:=⟨["signs"],["signs"],by walk_at "sc",rfl,rfl,λ _ _ _ _ _ _=>bd1 (λ _=>rfl),.inl (by decide +kernel)⟩
theorem aT4:DT af0 P "round_of" DV.ac5 at2:=⟨["sign"],["sign"],by walk_at "sc",rfl,rfl,λ _ _ _ _ _ _=>bd1 (λ _=>rfl),.inl (by decide +kernel)⟩
theorem aH6:DT af0 P "sharpened" DV.ac6 aq6:=⟨["signs", "size", "rounds"],["signs"],by walk_at "sc",rfl,rfl,λ _ _ _ _ _ _=>bd1 (λ _=>rfl),.inr ⟨by decide,[("sharpened.0",DV.ab3,["i", "j"],["size", "signs", "rounds"])],by decide +kernel,by decide +kernel,λ p h=>by
 simp only[az,bf,or_false]at h
 rcases h with rfl
 ·exact⟨rfl,bB4⟩⟩⟩
theorem ar9:DT af0 P "steady_power" DV.aa8 ah2:=⟨["signs", "many", "power"],["signs"],by walk_at "sc",rfl,rfl,λ _ _ _ _ _ _=>bd1 (λ _=>rfl),.inl (by decide +kernel)⟩
theorem bk9:DT af0 P "folded" DV.ac9 aP9:=⟨["steps", "of_letter", "of_pair", "of_times", "values", "step"],["steps", "of_letter", "of_pair", "of_times"],by walk_at "sc",rfl,rfl,λ _ _ _ _ _ _=>bd4 (λ _ _ _ _=>rfl),.inl (by decide +kernel)⟩
theorem ar3:DT af0 P "signs_of_pair" DV.ab2 af4:=⟨["one", "other"],["one", "other"],by walk_at "sc",rfl,rfl,λ _ _ _ _ _ _=>bd2 (λ _ _=>rfl),.inl (by decide +kernel)⟩
theorem al8:DT af0 P "signs_of_times" DV.ab4 ag1:=⟨["one", "many", "enough", "signs", "weight", "steady", "period", "rest"],["one", "many", "enough"],by walk_at "sc",rfl,rfl,λ _ _ _ _ _ _=>bd3 (λ _ _ _=>rfl),.inl (by decide +kernel)⟩
theorem aC7:DT af0 P "long_signs" DV.ad3 ak5:=⟨["machine", "recipe", "n", "enough"],["machine", "recipe", "n"],by walk_at "sc",rfl,rfl,λ _ _ _ _ _ _=>bd3 (λ _ _ _=>rfl),.inr ⟨by decide,[("long_signs.0",DV.ad1,["one", "many"],["enough"]),("long_signs.1",DV.ad0,["letter"],["machine"])],by decide +kernel,by decide +kernel,λ p h=>by
 simp only[az,bf,or_false]at h
 rcases h with rfl|rfl
 ·exact⟨rfl,cn6⟩
 ·exact⟨rfl,cm0⟩⟩⟩
theorem aT8:DT af0 P "_law_box" DV.ao0 at6:=⟨["_law_script", "_law_at", "_law_cell", "_law_number", "_law_j", "_law_part"],["_law_script", "_law_at"],by walk_at "sc",rfl,rfl,λ _ _ _ _ _ _=>bd2 (λ _ _=>rfl),.inl (by decide +kernel)⟩
theorem aL0:DT af0 P "_law_draw" DV.af3 aq1:=⟨["_law_box_here", "_law_many", "_law_found"],["_law_box_here", "_law_many"],by walk_at "sc",rfl,rfl,λ _ _ _ _ _ _=>bd2 (λ _ _=>rfl),.inl (by decide +kernel)⟩
theorem aK4:DT af0 P "_law_form" DV.ah1 ap7:=⟨["_law_found", "_law_size", "_law_line", "_law_sign"],["_law_found", "_law_size"],by walk_at "sc",rfl,rfl,λ _ _ _ _ _ _=>bd2 (λ _ _=>rfl),.inl (by decide +kernel)⟩
theorem as6:DT af0 P "_law_product" DV.ac0 ah3:=⟨["_law_one", "_law_other", "_law_found", "_law_line", "_law_new", "_law_k"],["_law_one", "_law_other"],by walk_at "sc",rfl,rfl,λ _ _ _ _ _ _=>bd2 (λ _ _=>rfl),.inl (by decide +kernel)⟩
theorem aJ6:DT af0 P "_law_unit" DV.af7 ao8:=⟨["_law_size"],["_law_size"],by walk_at "sc",rfl,rfl,λ _ _ _ _ _ _=>bd1 (λ _=>rfl),.inl (by decide +kernel)⟩
theorem ar5:DT af0 P "_law_machine" DV.ae0 ah0:=⟨["_law_box_here", "_law_letters", "_law_rooms", "_law_many", "_law_high", "_law_doors", "_law_k", "_law_start", "_law_goal", "_law_letter", "_law_bits", "_law_begins", "_law_ends"],["_law_box_here"],by walk_at "sc",rfl,rfl,λ _ _ _ _ _ _=>bd1 (λ _=>rfl),.inl (by decide +kernel)⟩
theorem jG:DT af0 P "_law_letter_signs" DV.ac1 s__law_letter_signs:=⟨["_law_machine_here", "_law_letter", "_law_rooms", "_law_lines", "_law_start", "_law_sign", "_law_goal", "_law_cost"],["_law_machine_here", "_law_letter"],by walk_at "sc",rfl,rfl,λ _ _ _ _ _ _=>bd2 (λ _ _=>rfl),.inl (by decide +kernel)⟩
theorem az3:DT af0 P "_law_steady" DV.ae1 ai2:=⟨["_law_signs", "_law_many", "_law_found"],["_law_signs"],by walk_at "sc",rfl,rfl,λ _ _ _ _ _ _=>bd1 (λ _=>rfl),.inl (by decide +kernel)⟩
theorem aE5:DT af0 P "_law_sharp" DV.ae8 al5:=⟨["_law_signs", "_law_size", "_law_found", "_law_i", "_law_line", "_law_j", "_law_best", "_law_k", "_law_here"],["_law_signs"],by walk_at "sc",rfl,rfl,λ _ _ _ _ _ _=>bd1 (λ _=>rfl),.inl (by decide +kernel)⟩
theorem aw4:DT af0 P "_law_recipe" DV.ai7 ai6:=⟨["_law_box_here", "_law_letters", "_law_most", "_law_times", "_law_steps", "_law_k", "_law_way", "_law_one", "_law_other", "_law_many"],["_law_box_here", "_law_letters", "_law_most", "_law_times"],by walk_at "sc",rfl,rfl,λ _ _ _ _ _ _=>bd4 (λ _ _ _ _=>rfl),.inl (by decide +kernel)⟩
theorem aB2:DT af0 P "_law_power" DV.ae6 ak6:=⟨["_law_signs", "_law_many", "_law_row", "_law_new", "_law_back"],["_law_signs", "_law_many"],by walk_at "sc",rfl,rfl,λ _ _ _ _ _ _=>bd2 (λ _ _=>rfl),.inl (by decide +kernel)⟩
theorem ak1:DT af0 P "_law_many_times" DV.ad4 af8:=⟨["_law_signs", "_law_weight", "_law_many", "_law_copies", "_law_period", "_law_steady_here", "_law_left"],["_law_signs", "_law_weight", "_law_many", "_law_copies"],by walk_at "sc",rfl,rfl,λ _ _ _ _ _ _=>bd4 (λ _ _ _ _=>rfl),.inl (by decide +kernel)⟩
theorem aT5:DT af0 P "_law_due" DV.ag5 au1:=⟨["_law_machine_here", "_law_recipe_here", "_law_n", "_law_told", "_law_step", "_law_one", "_law_other", "_law_signs", "_law_weight"],["_law_machine_here", "_law_recipe_here", "_law_n"],by walk_at "sc",rfl,rfl,λ _ _ _ _ _ _=>bd3 (λ _ _ _=>rfl),.inl (by decide +kernel)⟩
theorem aJ5:DT af0 P "_law_tall" DV.af5 ao3:=⟨["_law_box_here", "_law_letters", "_law_most", "_law_steps", "_law_k"],["_law_box_here", "_law_letters", "_law_most"],by walk_at "sc",rfl,rfl,λ _ _ _ _ _ _=>bd3 (λ _ _ _=>rfl),.inl (by decide +kernel)⟩
theorem bv7:FnScope ["_law_script", "_law_k", "_law_box_here", "_law_machine_here", "_law_recipe_here", "_law_great", "_law_n", "_law_found"] ["_law_script"] (defScope aC0):=by walk_at "sc"
theorem bP6:mSs ⟨["_law_script", "_law_k", "_law_box_here", "_law_machine_here", "_law_recipe_here", "_law_great", "_law_n", "_law_found"],defScope aC0,λ _ _ _=>false⟩ DV.ae3.body (qc aC0)=true:=by decide +kernel
theorem bQ5:ci9 "law" aC0 ["_law_script"]:=λ _ _ _ _ _ _=>bd1 λ _=>rfl
theorem ch1:DT af0 P "law" DV.ae3 aC0:=⟨_,_,bv7,rfl,rfl,bQ5,.inl bP6⟩
theorem ca3:∀ p∈tb,DT af0 P p.1 p.2.1 p.2.2:=by
 intro p h
 unfold tb at h
 simp only[az,bf,or_false]at h
 rcases h with rfl|rfl|rfl|rfl|rfl|rfl|rfl|rfl|rfl|rfl|rfl|rfl|rfl|rfl|rfl|rfl|rfl|rfl|rfl|rfl|rfl|rfl|rfl|rfl|rfl|rfl|rfl|rfl|rfl|rfl|rfl|rfl|rfl|rfl|rfl|rfl|rfl|rfl|rfl
 ·exact aR5
 ·exact aQ3
 ·exact bO6
 ·exact bp8
 ·exact bI3
 ·exact bJ8
 ·exact bz2
 ·exact bc9
 ·exact as4
 ·exact aB4
 ·exact bb0
 ·exact bg9
 ·exact ay9
 ·exact as7
 ·exact aB9
 ·exact aG0
 ·exact aK8
 ·exact aT4
 ·exact aH6
 ·exact ar9
 ·exact bk9
 ·exact ar3
 ·exact al8
 ·exact aC7
 ·exact aT8
 ·exact aL0
 ·exact aK4
 ·exact as6
 ·exact aJ6
 ·exact ar5
 ·exact jG
 ·exact az3
 ·exact aE5
 ·exact aw4
 ·exact aB2
 ·exact ak1
 ·exact aT5
 ·exact aJ5
 ·exact ch1
theorem bM4 {l:cF}{w:World}{K:ac}{h:Heap}{mg:Str->Option Value}{fa:Addr}(X:K.In h)(G:h.Ns aW mg)(a0:mg "law"=some (.ref fa))(hD:∀ p∈tb,ci8 K p.1 p.2.2)(hz:∀ x∈bNames,b7 K aW x=some none)
  {Y:Tok} (gc_FREE:b7 K aW "FREE"=some (some (.int (0) Y)))
  {J:Tok} (gc_SOME:b7 K aW "SOME"=some (some (.int (1) J)))
  {C:Tok} (gc_UNBOUND:b7 K aW "UNBOUND"=some (some (.int (2) C)))
  {Z:Tok} (gc_NONE:b7 K aW "NONE"=some (some (.int (3) Z)))
  {y:Tok} (gc_LETTER_WEIGHT:b7 K aW "LETTER_WEIGHT"=some (some (.int (3) y)))
  (hT:∀ x∈af0,(bh K x).isSome=true) (tnd:decide (((bG5 af0 K).map (·.1)).Nodup)=true)
  : ∃ fd:bz,(∀(s:af) (v:Value),iV s fd ⟨[v],[]⟩ [("_law_script",v)])/\∀ B:Heap,K.In B->B.Ns aW mg->BM mg B->bA5 K af0 B->FnOk l.prog w K mg B CX0 49 fa fd ["_law_script"] (spB af0 K):=by
 have hP:PrOk (bi8 af0 P K) (bK5 af0 K) P mg:=by
  refine⟨λ f d h=>aO3 (tbl:=tbl) (λ p hp=>?_) f d h,λ x d h=>bf5 (tbl:=ch0) ?_ x d h,λ x hx=>PySem.W.mg_none_of X G (hz x hx),cd7 X G,ce2,of_decide_eq_true tnd⟩
  ·obtain⟨r,hr,rfl⟩:=av.mp hp
   exact good_of X G hT (hD r hr) (ca3 r hr)
  ·intro p hp
   unfold ch0 at hp
   simp only[az,bf,or_false]at hp
   rcases hp with rfl|rfl|rfl|rfl|rfl|rfl|rfl
   ·exact ap3 (bP X G gc_FREE)
   ·exact ap3 (bP X G gc_SOME)
   ·exact ap3 (bP X G gc_UNBOUND)
   ·exact ap3 (bP X G gc_NONE)
   ·exact ap3 (bP X G gc_LETTER_WEIGHT)
   ·obtain⟨_,_,_,_,_,_,_,_,_,_,a,l,_⟩:=hD ("sign_product",DV.aa4,af6) (by unfold tb;simp)
    exact bt5 X G a l
   ·obtain⟨_,_,_,_,_,_,_,_,_,_,a,l,_⟩:=hD ("signs_of_pair",DV.ab2,af4) (by unfold tb;simp)
    exact bt5 X G a l
 obtain⟨f,od,an,sl,oc,kV,dc,pm,cd,ct,a,l0,c,k⟩:=hD ("law",DV.ae3,aC0) (by unfold tb;simp)
 have e:=a0.symm.trans (bP X G a)
 cases e
 have F:=br5 (st:=aC0) l0 c k
 refine⟨_,λ s v=>.of_eq rfl,λ B _ _ bm hk=>(bW0 hP (bs2 hT bm hk) 17 (aY7 hP (bs2 hT bm hk) 17) (d:=DV.ae3) (f := "law") rfl ⟨F,bP X G a,F.binds bQ5⟩ bv7 rfl rfl bP6 aV5).imp (λ vs H Q E q=>bY1 (λ ns h=>DV.ch6 (P:=P) 7 ns h) vs H Q E (bn0 hT q))⟩
end My
end
open PySem PySem.W PyProof.Rows
set_option maxRecDepth 100000 in
set_option maxHeartbeats 0 in
theorem PySem.Challenge.cw_leasttolls_k41_signs_of_long_words_holds : PySem.Challenge.rw_leasttolls_k41_signs_of_long_words.Holds := by
 refine My.GT.2 ?_
 delta My.GT
 dsimp only
 k_fill
 refine L2.ba8 (l:=PySem.Challenge.rw_leasttolls_k41_signs_of_long_words) (n:=63) (k:=49) (x := "_law_script") (sp:=L2.spB My.af0) My.af0 rfl (by decide) rfl ⟨rfl,by decide,by decide⟩ (λ w h Y=>⟨PySem.W.km_in_of Y,PySem.W.km_tabs_of Y⟩) (λ w=>?R) (λ w=>?NT) ?F (λ K H a ns hl hB hS hF=>L2.bM1 hl hB hS hF)
 case R=>kernel_rfl
 case NT=>kernel_rfl
 case F =>
  intro w mg fa h KX G hmg
  refine' My.bM4 KX G hmg ?hD ?hz ?gc_FREE ?gc_SOME ?gc_UNBOUND ?gc_NONE ?gc_LETTER_WEIGHT ?hT ?tnd
  case hD =>
   intro p hp
   unfold My.tb at hp
   simp only[az,bf,or_false]at hp
   rcases hp with rfl|rfl|rfl|rfl|rfl|rfl|rfl|rfl|rfl|rfl|rfl|rfl|rfl|rfl|rfl|rfl|rfl|rfl|rfl|rfl|rfl|rfl|rfl|rfl|rfl|rfl|rfl|rfl|rfl|rfl|rfl|rfl|rfl|rfl|rfl|rfl|rfl|rfl|rfl
   all_goals walk_at "df"
  case hz =>
   intro x hx
   unfold L2.bNames at hx
   simp only[az,bf,or_false]at hx
   rcases hx with rfl|rfl|rfl|rfl|rfl|rfl|rfl|rfl|rfl|rfl|rfl|rfl|rfl|rfl|rfl|rfl|rfl|rfl<;>k_is
  (case gc_FREE=>k_is)
  (case gc_SOME=>k_is)
  (case gc_UNBOUND=>k_is)
  (case gc_NONE=>k_is)
  (case gc_LETTER_WEIGHT=>k_is)
  case hT =>
   intro x hx
   simp only[My.af0,az,bf,or_false]at hx
   rcases hx with rfl|rfl|rfl|rfl|rfl|rfl|rfl|rfl<;>kernel_rfl
  (case tnd=>kernel_rfl)
