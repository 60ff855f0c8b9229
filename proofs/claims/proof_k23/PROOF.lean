import PyProof.Rows.All
import Wide.All
import OpenK.AllK
import Wide.FinOn
import PyProof.EqAt
import PyProof.EqKinds
import PyProof.TupleCall
import PyProof.MinMaxWalk
import PyProof.WalkInts
import PyProof.NeKinds
import PyProof.SliceStr2
import PyProof.StrBlockI
import PyProof.MaxThree
import PyProof.ZipIter
import PyProof.Draws
import PyProof.EnumMake
import PyProof.ListMulRoad
import PyProof.Rows.StrRev
import PyProof.DictItems
import PyProof.ListRange
import PyProof.AutoIntG2
import PyProof.FactsAll.int_6
import KE.IntBitsLaws
import PySem.Challenge.RW_leasttolls_k23_steady_or_not
set_option Elab.async false
set_option linter.all false
set_option maxRecDepth 100000
set_option maxHeartbeats 4000000
open PySem.W renaming Frag->ac,tabIn->a8,CodeHd->bt,kia_one->bz,kitOne->bA,findIn->bD,kla_fn->bI,mg_of->bJ,keepIn->bN,nsIn->bP,fnX->bS,fnOf->cj,envX->cq,OpenLaw->cr,specialIn->c4,tabObj->c9,KitX->dg,Looks->dB,looks_findIn->dF,takesIn->dJ,codeIn->d3,methodObj->ee,mroIn->eI,cellsFrom_some->fq,instObj->fG,lookIn->fT,kitAny->gf,kitx_tuple->gN,callWith_K->gO,kitx_list->g8,kitx_dict->g9,plainGet->ig,codeHdIn->ip,TabsAt->i5,noTabs->i6,WalkO->i8
open PySem renaming Shared->ae,wpAny_bind->ar,mem_of_lookup->ay,Program->aC,cellsFrom->aF,sizeLine->aH,wpAny_pure->aN,Around->aO,mainGlobals->aU,Arguments->a9,bootBuiltins->bf,starEach->bh,wpAny_mono->bv,FuncData->bw,NameKind->bE,binaryOp->bM,assignEach->bT,wpAny_Call_Name_kw->bU,wpAny_passesOwn->b7,wpAny_truthy_bool->b9,wpAny_newObj_type->cb,rawInt->cc,codeAmong->cf,wpAny_execs_nil->cu,pushCells_keeps->cy,foldedSetIterable->cE,sysModules->cH,backTo->cL,wpAny_holding->cN,isTrue->cU,wpAny_pyIter_list->cZ,compareOp->dk,pushCells->du,attributeBase->dw,relabel->dz,bindArgs->dC,letOwnedTupleGo->dI,codeAny_mono->dS,storeName->dW,swapsWith->dX,newFunctionEnv->d4,wpAny_binaryOp_repeat_ref->d6,sizeLine_eq->eh,InCallC->el,Paired->eG,wpAny_comprehension_free->eK,ExceptHandler->eM,noFill_tuple_add->eR,wpAny_callSpecial?_slot->eV,wpAny_call_entry->eW,builtinsNs->fh,assign->fi,codeAny->fj,wpAny_call->fm,name_of_addr->ft,typeIs_int->fx,codeAny_compStart_list->fB,wpAny_storeName_local->fK,codeAny_call_function->fL,wpAny_storeName_cell->fR,wpAny_loadName_local->fS,wpAny_field->f6,strIterType->f7,codeAny_call_builtin->f8,tupleKind->gi,Keyword->gj,callerA->gk,TriplesOk->gm,valueAt->gq,wpAny_loadName_cell->gr,wpAny_standAt->gC,swappedStores->gD,behindInMarks->gE,seq_tuple_add->gF,annotationsOf->gH,wpAny_pyIter_tuple->gM,call_meets->gP,tupleKind_room_in1->gT,wpAny_assign_Name->g7,concat_meets->hG,seqIndex_neg->hJ,notedBy->hU,wpAny_execs_cons->ie,typeOf->ik,noteFrame->io,seqSlot_of->iq,wpAny_Try_except->ir,seqIndex_of->iu,keywordEach->iw,holding->iJ,BindsTo->iK,argBest->iM,call->iO,wpAny_Name->iP,Operator->iQ,Result->iR,PlainAttrs->iT,defaultsOf->iV,qualnameIn->iW,quietNames->i3,setFlight->jd,Within->jf,pyIter->jg
open Bool renaming and_eq_true->af,false_ne_true->aP,false_eq_true->aW,or_eq_true->bK,not_true->cR,not_eq_true'->de,or_eq_false_iff->dE,and_true->eO,true_and->eP,eq_iff_iff->fJ,and_eq_true_iff->fQ,not_false->gh,false_or->gG
open List renaming getElem?_eq_some_iff->ag,mem_cons_of_mem->ah,getElem?_eq_getElem->aj,range->ao,mem_cons_self->aq,mem_cons->au,replicate->av,size_toArray->aB,all_eq_true->aD,getElem?_map->aE,mem_map->aG,getElem?_append_right->aI,map_cons->aJ,mem_append_right->aK,getElem?_append_left->aL,length_map->aM,length_cons->aQ,getElem?_set_self->aR,length_append->aV,lookup_cons->aX,length_set->aY,getD_eq_getElem?_getD->be,append_nil->bj,mem_map_of_mem->bn,getElem?_set_ne->bo,mem_range->bp,not_mem_nil->bq,mem_of_getElem?->br,replicate_succ->bB,filterMap_cons->bG,getElem?_eq_none->bH,getElem?_range->bO,mem_singleton->bW,mem_append->bZ,mem_append_left->b8,nodup_cons->cw,foldl_cons->cx,find?_cons->cz,map_append->cA,all_cons->cB,length_singleton->cC,contains_iff_mem->cD,flatten_cons->cF,length_range->cG,map->cS,of_mem_zip->cT,reverse_cons->c6,map_nil->c7,getElem?_toArray->dh,set_append_right->dj,length_take->dq,getElem_mem->dv,any_cons->dA,length_nil->dN,mem_filterMap->dZ,drop_eq_getElem_cons->d8,mem_or_eq_of_mem_set->d9,append_assoc->em,getElem?_replicate->eQ,cons_append->eT,length_eq_zero_iff->eZ,range_succ_eq_map->fD,drop_eq_nil_of_le->fF,nil_append->fH,length->fU,forIn_nil->fY,mem_iff_getElem->fZ,getElem?_take->gW,all_nil->hX,map_map->hZ,ext_getElem?->ic,mem_filter->iA,forIn_cons->iB,set_append->iG,range_succ->iI,foldl->iU,drop_zero->i4,sum_cons->ja,set_set->jn,lookup->jq
open Nat renaming le_refl->ai,lt_of_lt_of_le->am,le_trans->aw,ne_of_lt->ax,lt_irrefl->bu,le_of_lt->cI,ne_of_gt->cJ,lt_trans->c8,zero_add->db,zero_le->dD,le_succ->dG,not_lt_zero->dP,le_of_succ_le->et,lt_succ_of_lt->eA,lt_trichotomy->eD,lt_succ_self->eU,add_sub_cancel_left->fe,add_comm->fA,le_of_not_lt->il,mul_add->iz,strongRecOn->iE,succ_mul->jh,lt_or_ge->jk,add_zero->jl,sub_self->jm
open PySem.Heap renaming get?_push_of_some->ak,lt_size->aA,get?_push_size->aS,size_push->bQ,SameBut->cY,get?_update_other->fw,get?_update_self->fM,ExtBut->iy
open Option.some renaming inj->az
open False renaming elim->aZ
open Option renaming map_some->a7,isSome_iff_exists->eJ,map_eq_some_iff->fC,isSome_some->gR
open PySem.Str renaming ofString->bC
open PySem.Builtin.SmallTypes renaming nextOf->bF
open Ne renaming symm->bL
open Int renaming le_refl->bR,mul_le_mul_of_nonneg_left->dH,fdiv_eq_ediv_of_nonneg->d0,toNat_of_nonneg->gz,emod_lt_of_pos->gZ,toNat_natCast->hV,natCast_mul->iC,emod_nonneg->iH,le_trans->ji,zero_add->jo
open PySem.F renaming slot_tuple_iterator_next->bV,args_tuple_add_2->cO,slot_int_rmul->cV,entry_tuple_add->cW,slot_tuple_add->c5,slot_tuple_mul->da,attrBase_ValueError->di,args_tuple_iterator_next_1->dM,entry_tuple_iterator_next->dU,slot_dict_getitem->d7,slot_tuple_rmul->eX,plainAttrs_list->fc,slot_list_append->fN,args_int_rmul_2->fX,excBase_ValueError->gb,slot_int_index->gv,entry_int_rmul->gx,fills_int_mul->gQ
open PySem.W.Looks renaming andThen->bX,now->eB,tag->jv,ld->jw
open PySem.Builtin.Getset_descriptor renaming descrCheckInstance->cg,descrOwnerAndName->ci,descrGetter->cK,descrNameAndClass->fg,descrGetArgs->f9
open Array renaming toList_append->cM,getElem?_mapIdx->fO,length_toList->gu,append_assoc->gK,toList->g6
open PySem.Builtin.List renaming listTooLong->cQ
open PySem.Builtin.ObjectAttr renaming find->cX
open PyProof.Rows renaming kindOf->dm,envOfC->dL,AllBare->dQ,callWith_type1->dR,subscriptTail_builtinR->fu,IntsAre->iL
open PySem.Calls renaming Name_function_global->dY,callWith_builtin->fy,evalArgs_plain->fW
open PySem.Builtin.Tuple renaming tupleTooMany->d5,tupleItemsOf->iX,tupleIsExact->iY
open PySem.W.OpenLaw renaming wellSaid->eF
open Classical renaming propDecidable->eY
open PySem.Obj renaming mapSeq->fv,data_mapFields->gS
open PySem.SeqAt.EqAt renaming same->fI,int_str->gI,str_int->gJ,of_refs->gY
open PySem.Around renaming frames_deeper->fV
open PySem.Heap.SameBut renaming update->gy
open PySem.Paired renaming length->gA,snoc->js
open PySem.W.KF renaming slot_gs->gU
open PySem.SeqAt renaming EqAt->gX,RcNeAt->jj,RcAt->ju
open PySem.PassesOwn renaming never->iD
open PySem.Builtin renaming bitAnd->iZ
open PySem.Builtin.Str renaming tooLong->i7
open PySem.Value renaming isStrOf->i9,isInt->jp
open PySem.Builtin.Range renaming rangeSize->jb
open PyProof.Rows.IsTup renaming new->jc
open PySem.W.OpenRow renaming toRowW->je
open PySem.Heap.Ns renaming new->jr
open PySem.Walks renaming list->jt
noncomputable section
namespace L2
open PySem PySem.Spec PyProof.Rows
theorem head_of {l:cr}{q:aC}{loose:List Str}{H:PySem.W.Hook}{N:Nat}{d:DefRec}{kwd:List (Str×Expr)}
  (left:PySem.W.LeftO l.row.prog q loose (fun s=>PySem.W.xlAt q [] s&&PySem.W.recOk (PySem.W.RowW.records (je l.row)) s) H.obs H.val N)
  (hdef:PySem.W.defOf q l.row.name=some (d,kwd)) (hp:l.row.prog.theDef l.row.name=some (d.params,d.body,d.scope)) (hk:PySem.W.kwWritten? d.params.kwonlyargs d.params.kw_defaults=some kwd) (hwr:(!l.row.writes||l.row.records.isEmpty)=true)
  (k1:l.row.wellSaid=true) (ok:(PySem.W.chainsOk q&&PySem.W.opensWell l.row.prog&&(PySem.W.frees l.row.toRowW&&l.row.within.isEmpty))=true) (hb:l.row.prog.bare) (hw:l.row.toRowW.promised)
  (call:i8 q loose (PySem.W.XL q []) H.says l.row.toRowW d kwd fun f vs=>iO f vs):l.row.Holds :=
 PySem.W.holds_open left H.of H.keeps (fun s e=>PySem.W.xl_of s (fQ.mp e).1) PySem.W.XL.keeps hdef hp hk (fun s e=>PySem.W.recFacts_of (fQ.mp e).2) hwr k1 ok hb hw call
end L2
end
noncomputable section
namespace My
open PySem L2
noncomputable def nmS:Stmt->Bool
 | .Assign [.Name x _] _ _=>decide (x=("__name__":Str))
 | _=>false
noncomputable def vq:aC:={ PySem.Challenge.pw_leasttolls_k23_steady_or_not with main:={ (PySem.Challenge.pw_leasttolls_k23_steady_or_not).main with body:=(PySem.Challenge.pw_leasttolls_k23_steady_or_not).main.body.filter fun s=>!nmS s } }
inductive IsL:cr->Prop|mk:IsL PySem.Challenge.rw_leasttolls_k23_steady_or_not
theorem bw9 {l:cr}(h:IsL l):PySem.Challenge.rw_leasttolls_k23_steady_or_not=l:=by cases h;rfl
noncomputable def lwp:{ l:cr // IsL l }:=by
 refine⟨?p,?h⟩
 case h =>
  have e:PySem.Challenge.rw_leasttolls_k23_steady_or_not=?p:=by
   conv=>lhs;reduce
  exact e▸IsL.mk
theorem ws1:eF lwp.1=true:=by k_qdec
theorem ws:eF PySem.Challenge.rw_leasttolls_k23_steady_or_not=true:=by
 rw[bw9 lwp.2];exact ws1
end My
end
section
open PySem PySem.W PyProof.Rows
local macro_rules | `(tactic| o_head $H) => `(tactic| refine L2.head_of (q := My.vq) (loose := ["NoMaking", "NoPaper"]) (H := $H) (N := 4000) (fun w => by kernel_rfl) (by rfl) (by rfl) (by rfl) rfl (by assumption) (by decide +kernel) ⟨rfl, rfl, rfl, rfl, rfl, by decide +kernel⟩ ?_ ?_)
set_option maxRecDepth 100000 in
set_option maxHeartbeats 0 in
noncomputable def My.GT:{ G:Prop // G->PySem.Challenge.rw_leasttolls_k23_steady_or_not.Holds }:=by
 refine⟨?G,?h⟩
 case h =>
  intro g
  w_on;refine holds_law My.ws fun said=>?_;k_head;(focus w_witness2)
  exact g
end
noncomputable section
namespace L2
open PySem PySem.Spec PyProof.Rows
noncomputable abbrev Key:=Sum Int Str
noncomputable def aE4:Key->Value->Bool
 | .inl k,v=>jp k v
 | .inr x,v=>i9 x v
noncomputable def bU7 (w:World):Key->Int
 | .inl k=>hashInt k
 | .inr x=>hashStr w x
theorem zz:∀ {k:Key} {v:Value},aE4 k v=true->(∃ i t,k=Sum.inl i/\v=Value.int i t)\/(∃ x t,k=Sum.inr x/\v=Value.str x t)
 | .inl i,v,h=>by
  obtain⟨t,e⟩:=Value.isInt_shape (k:=i) (v:=v) h
  exact .inl ⟨i,t,rfl,e⟩
 | .inr x,v,h=>by
  obtain⟨t,e⟩:=Value.isStrOf_shape (x:=x) (v:=v) h
  exact .inr ⟨x,t,rfl,e⟩
theorem aN6 (i:Int)(t:Tok):aE4 (.inl i) (.int i t)=true:=by simp[aE4,jp]
theorem aH9 (x:Str)(t:Tok):aE4 (.inr x) (.str x t)=true:=by simp[aE4,i9]
theorem bB2 (a b:Int):decide ((Sum.inl a:Key)=Sum.inl b)=(a==b):=by
 by_cases e:a=b
 ·subst e;simp
 ·have h:¬(Sum.inl a:Key)=Sum.inl b:=fun q=>e (Sum.inl.inj q)
  rw[decide_eq_false h]
  exact(beq_eq_false_iff_ne.mpr e).symm
theorem bz2 (a b:Str):decide ((Sum.inr a:Key)=Sum.inr b)=decide (a=b):=by
 by_cases e:a=b
 ·subst e;simp
 ·have h:¬(Sum.inr a:Key)=Sum.inr b:=fun q=>e (Sum.inr.inj q)
  rw[decide_eq_false h,decide_eq_false e]
theorem bD3 (a:Int)(b:Str):decide ((Sum.inl a:Key)=Sum.inr b)=false:=decide_eq_false (fun q=>nomatch q)
theorem bE6 (a:Str)(b:Int):decide ((Sum.inr a:Key)=Sum.inl b)=false:=decide_eq_false (fun q=>nomatch q)
noncomputable def zQ (prog:aC)(w:World):PySem.KeyKind prog w Key where
 is:=aE4
 hash:=bU7 w
 inj:=fun v a b ha hb=>by
  rcases zz ha with⟨i,t,rfl,rfl⟩|⟨x,t,rfl,rfl⟩
  ·rcases zz hb with⟨j,u,rfl,e⟩|⟨y,u,rfl,e⟩
   ·injection e with e1 _;rw[e1]
   ·exact nomatch e
  ·rcases zz hb with⟨j,u,rfl,e⟩|⟨y,u,rfl,e⟩
   ·exact nomatch e
   ·injection e with e1 _;rw[e1]
 byValue:=fun k v h=>by
  rcases zz h with⟨i,t,rfl,rfl⟩|⟨x,t,rfl,rfl⟩<;>rfl
 pyHash:=fun hv h=>by
  rcases zz hv with⟨i,t,rfl,rfl⟩|⟨x,t,rfl,rfl⟩
  ·exact wpAny_pyHash_int h
  ·exact wpAny_pyHash_str h
 eqBool:=fun hu hv h=>by
  rcases zz hu with⟨i,t,rfl,rfl⟩|⟨x,t,rfl,rfl⟩
  ·rcases zz hv with⟨j,u,rfl,rfl⟩|⟨y,u,rfl,rfl⟩
   ·rw[bB2]at h;exact wpAny_eqBool_int h
   ·rw[bD3]at h;exact gI i t y u _ _ _ _ h
  ·rcases zz hv with⟨j,u,rfl,rfl⟩|⟨y,u,rfl,rfl⟩
   ·rw[bE6]at h;exact gJ x t j u _ _ _ _ h
   ·rw[bz2]at h;exact wpAny_eqBool_str h
 «strs»:=fun k x t v h=>by
  rcases zz h with⟨i,u,rfl,e⟩|⟨y,u,rfl,e⟩
  ·exact nomatch e
  ·injection e with e1 _
   subst e1
   cases v<;>rfl
theorem ax0 (prog:aC)(w:World)(i:Int)(t:Tok):(zQ prog w).is (.inl i) (.int i t)=true:=aN6 i t
theorem aw0 (prog:aC)(w:World)(x:Str)(t:Tok):(zQ prog w).is (.inr x) (.str x t)=true:=aH9 x t
inductive V where
 | non|bl (b:Bool)|int (i:Int)|str (x:Str)|byt (b:Array UInt8)|flt (b:UInt64)|ref (a:Addr)|ty (n:String)
 deriving DecidableEq
noncomputable def RelV:V->Value->Prop
 | .non,u=>u=Value.none
 | .bl b,u=>u=Value.bool b
 | .int i,u=>∃ t,u=Value.int i t
 | .str x,u=>∃ t,u=Value.str x t
 | .byt b,u=>∃ t,u=Value.bytes b t
 | .flt b,u=>∃ t,u=Value.float b t
 | .ref a,u=>u=Value.ref a
 | .ty n,u=>u=Value.type n
abbrev Vals:List V->List Value->Prop:=eG RelV
theorem Vals.length {xs:List V}{us:List Value}(r:Vals xs us):xs.length=us.length:=gA r
theorem Vals.get:∀ {xs:List V} {us:List Value} {i:Nat} {x:V},Vals xs us->xs[i]?=some x->∃ u,us[i]?=some u/\RelV x u
 | _,_,_,_,.nil,e=>by simp at e
 | _,_,0,_,.cons r _,e=>by simp at e;subst e;exact⟨_,rfl,r⟩
 | _,_,i+1,x,.cons _ t,e=>by
  obtain⟨u,h1,h2⟩:=Vals.get (i:=i) (x:=x) t (by simpa using e)
  exact⟨u,by simpa using h1,h2⟩
theorem Vals.set {x:V}{u:Value}(r:RelV x u):∀ {xs:List V} {us:List Value} (i:Nat),Vals xs us->Vals (xs.set i x) (us.set i u)
 | _,_,_,.nil=>.nil
 | _,_,0,.cons _ t=>.cons r t
 | _,_,i+1,.cons q t=>.cons q (Vals.set r i t)
theorem Vals.append:∀ {xs ys:List V} {us ws:List Value},Vals xs us->Vals ys ws->Vals (xs++ys) (us++ws)
 | _,_,_,_,.nil,s=>s
 | _,_,_,_,.cons r t,s=>.cons r (Vals.append t s)
theorem Vals.take:∀ {xs:List V} {us:List Value} (n:Nat),Vals xs us->Vals (xs.take n) (us.take n)
 | _,_,0,_=>.nil
 | _,_,_+1,.nil=>.nil
 | _,_,n+1,.cons r t=>.cons r (Vals.take n t)
theorem Vals.drop:∀ {xs:List V} {us:List Value} (n:Nat),Vals xs us->Vals (xs.drop n) (us.drop n)
 | _,_,0,r=>r
 | _,_,_+1,.nil=>.nil
 | _,_,n+1,.cons _ t=>Vals.drop n t
noncomputable def aF2:Option V->Option Value->Prop
 | some v,some u=>RelV v u
 | none,none=>True
 | _,_=>False
def KV {κ:Type}:List (κ×V)->List (κ×Value)->Prop:=eG fun(p:κ×V) (q:κ×Value)=>p.1=q.1/\RelV p.2 q.2
noncomputable def kV:Key->V
 | .inl i=>.int i
 | .inr x=>.str x
inductive HO where
 | lst (xs:List V)
 | tup (xs:List V)
 | dK (kvs:List (Key×V))|dT (kvs:List (List Key×V))
 | set (S:Int->Bool) (n:Nat)
 | ins (C dx:Addr) (fs:List (Str×V))
 | own (x:Addr)
 | xd (fs:List (Str×V))
 | met (f x:Addr)
 | rng (lo hi:Int)
 | frz (o:Obj) (u:HO)
 | tbl (ps:Array Value)
 | ext (φ:Heap->Prop)
noncomputable abbrev Hp:=Addr->Option HO
noncomputable def upd (H:Hp)(a:Addr)(o:HO):Hp:=fun b=>if b=a then some o else H b
theorem zb {H:Hp}{a:Addr}{o:HO}:upd H a o a=some o:=by unfold upd;rw[if_pos rfl]
theorem za {H:Hp}{a b:Addr}{o:HO}(h:b≠a):upd H a o b=H b:=by unfold upd;rw[if_neg h]
theorem bJ5 {H:Hp}{a b:Addr}{o u:HO}(h:H a=some o)(h':H b=some u)(d:o≠u):a≠b:=by
 intro e;subst e;rw[h]at h';exact d (az h')
theorem zu {H:Hp}{a b:Addr}{o:HO}(h:H a=some o)(h':H b=none):a≠b:=by
 intro e;subst e;rw[h]at h';cases h'
section
variable (P:aC) (w:World)
noncomputable def ab6 (H:Hp)(h:Heap)(a:Addr):HO->Prop
 | .lst xs=>xs.length<=aH/\∃(its:List Value) (n:Nat),Vals xs its/\h.get? a=some { cls:=.type "list",data:=.seq its.toArray n }
 | .tup xs=>xs.length<=aH/\∃ its:List Value,Vals xs its/\IsTup h a its.toArray
 | .dK kvs=>kvs.length<=aH/\(a==cH)=false/\∃ vs,KV kvs vs/\h.DictOf (zQ P w) a vs
 | .dT kvs=>kvs.length<=aH/\(a==cH)=false/\∃ xs:List (List Key×Addr×Value),
   eG (fun(p:List Key×V) (q:List Key×Addr×Value)=>p.1=q.1/\H q.2.1=some (.tup (p.1.map kV))/\RelV p.2 q.2.2) kvs xs /\
   ∃ o es ep,h.get? a=some o/\o.ExactDict/\o.data=.dict es ep/\es.toList=xs.map (entryOfKey (gi (zQ P w)))/\(xs.map (·.1)).Nodup
 | .set S n=>h.SetOf (intKind P w) a S n
 | .ins C dx fs=>H dx=some (.own a)/\fs.length<=1000/\dx≠a/\h.get? a=some (fG C dx) /\
   ∃ mA,h.Ns1 dx mA/\(∀ f,aF2 (fs.lookup f) (mA f))/\jf mA (fs.map (·.1))
 | .own _=>∃ o,h.get? a=some o
 | .xd fs=>∃ mA,h.Ns1 a mA/\∀ f,aF2 (fs.lookup f) (mA f)
 | .rng lo hi=>∃ t u v,h.get? a=some { cls:=.type "range",data:=.fields #[.int lo t,.int hi u,.int 1 v] }
 | .frz o u=>h.get? a=some o/\ab6 H h a u
 | .tbl ps=>h.get? a=some { cls:=.none,data:=.fields ps }
 | .met f x=>h.get? a=some (ee (.ref f) (.ref x))
 | .ext φ=>φ h/\(∃ o,h.get? a=some o)/\∀ h1 h2:Heap,φ h1->(∀ o,h1.get? a=some o->h2.get? a=some o)->φ h2
def HOk (H:Hp)(h:Heap):Prop:=∀ a o,H a=some o->ab6 P w H h a o
end
section
variable {P:aC} {w:World} {H H':Hp} {h h':Heap} {a:Addr} {o:HO}
theorem ab6.lt (x:ab6 P w H h a o):a<h.objs.size:=by
 cases o with
 | lst xs=>obtain⟨_,_,_,_,e⟩:=x;exact aA e
 | tup xs=>obtain⟨_,_,_,p⟩:=x;exact p.lt
 | dK kvs=>obtain⟨_,_,_,_,o,_,_,e,_⟩:=x;exact aA e
 | dT kvs=>obtain⟨_,_,_,_,o,_,_,e,_⟩:=x;exact aA e
 | set S n=>obtain⟨o,_,_,_,e,_⟩:=x;exact aA e
 | ins C dx fs=>obtain⟨_,_,_,e,_⟩:=x;exact aA e
 | own y=>obtain⟨_,e⟩:=x;exact aA e
 | xd fs=>obtain⟨_,⟨_,_,_,e,_⟩,_⟩:=x;exact aA e
 | rng lo hi=>obtain⟨_,_,_,e⟩:=x;exact aA e
 | frz ob u=>obtain⟨e,_⟩:=x;exact aA e
 | tbl ps=>exact aA (show h.get? a=some _ from x)
 | met f y=>exact aA (show h.get? a=some _ from x)
 | ext φ=>obtain⟨_,⟨_,e⟩,_⟩:=x;exact aA e
theorem eG.mapP {α β:Type}{F G:α->β->Prop}:∀ {l₁:List α} {l₂:List β},eG F l₁ l₂->(∀ a b,F a b->G a b)->eG G l₁ l₂
 | _,_,.nil,_=>.nil
 | _,_,.cons r t,f=>.cons (f _ _ r) (eG.mapP t f)
theorem ab6.stay (x:ab6 P w H h a o)(k:∀ b u,(b=a\/H b=some (.own a))->h.get? b=some u->h'.get? b=some u)
  (ho:∀ b,H b=some (.own a)->H' b=some (.own a)) (ht:∀ b xs,H b=some (.tup xs)->H' b=some (.tup xs)):ab6 P w H' h' a o:=by
 induction o with
 | lst xs=>obtain⟨z,its,n,r,e⟩:=x;exact⟨z,its,n,r,k _ _ (.inl rfl) e⟩
 | tup xs=>obtain⟨z,its,r,ob,e,c⟩:=x;exact⟨z,its,r,ob,k _ _ (.inl rfl) e,c⟩
 | dK kvs=>obtain⟨z,y,vs,r,ob,es,ep,e,c⟩:=x;exact⟨z,y,vs,r,ob,es,ep,k _ _ (.inl rfl) e,c⟩
 | dT kvs =>
  obtain⟨z,y,xs,r,ob,es,ep,e,c⟩:=x
  exact⟨z,y,xs,eG.mapP r fun p q z=>⟨z.1,ht _ _ z.2.1,z.2.2⟩,ob,es,ep,k _ _ (.inl rfl) e,c⟩
 | set S n=>obtain⟨ob,es,ep,t,e,c⟩:=x;exact⟨ob,es,ep,t,k _ _ (.inl rfl) e,c⟩
 | ins C dx fs =>
  obtain⟨d,z,ne,e,mA,⟨od,es,ep,e2,c⟩,r⟩:=x
  exact⟨ho _ d,z,ne,k _ _ (.inl rfl) e,mA,⟨od,es,ep,k _ _ (.inr d) e2,c⟩,r⟩
 | own y=>obtain⟨ob,e⟩:=x;exact⟨ob,k _ _ (.inl rfl) e⟩
 | xd fs=>obtain⟨mA,⟨od,es,ep,e,c⟩,r⟩:=x;exact⟨mA,⟨od,es,ep,k _ _ (.inl rfl) e,c⟩,r⟩
 | rng lo hi=>obtain⟨t,u,v,e⟩:=x;exact⟨t,u,v,k _ _ (.inl rfl) e⟩
 | frz ob u ih=>obtain⟨e,q⟩:=x;exact⟨k _ _ (.inl rfl) e,ih q⟩
 | tbl ps =>
  have e:h.get? a=some { cls:=.none,data:=.fields ps }:=x
  show h'.get? a=some { cls:=.none,data:=.fields ps }
  exact k a _ (.inl rfl) e
 | met f y =>
  have e:h.get? a=some (ee (.ref f) (.ref y)):=x
  show h'.get? a=some (ee (.ref f) (.ref y))
  exact k a _ (.inl rfl) e
 | ext φ=>obtain⟨p,⟨o,e⟩,st⟩:=x;exact⟨st _ _ p fun o q=>k _ _ (.inl rfl) q,⟨o,k _ _ (.inl rfl) e⟩,st⟩
theorem HOk.lt (x:HOk P w H h)(e:H a=some o):a<h.objs.size:=(x a o e).lt
theorem HOk.fresh (x:HOk P w H h)(e:h.objs.size<=a):H a=none:=by
 cases q:H a with
 | none=>rfl
 | some u=>exact absurd (am (x.lt q) e) (bu _)
theorem HOk.kept (x:HOk P w H h)(k:∀ b u,h.get? b=some u->h'.get? b=some u):HOk P w H h':=fun a o e =>
 (x a o e).stay (fun b u _ q=>k b u q) (fun _ q=>q) fun _ _ q=>q
theorem HOk.laid (x:HOk P w H h)(k:∀ b u,h.get? b=some u->h'.get? b=some u)(hp:h.objs.size<=a)(new:ab6 P w (upd H a o) h' a o):HOk P w (upd H a o) h':=fun b u e=>by
 have hn:=x.fresh hp
 by_cases hb:b=a
 ·subst hb;rw[zb]at e;cases e;exact new
 ·rw[za hb]at e
  exact(x b u e).stay (fun c v _ q=>k c v q) (fun c q=>by rw[za (zu q hn)];exact q) fun c xs q=>by rw[za (zu q hn)];exact q
end
def Rd (H:Hp)(a:Addr)(u:HO):Prop:=H a=some u\/∃ o,H a=some (.frz o u)
theorem Rd.ok {P:aC}{w:World}{H:Hp}{h:Heap}{a:Addr}{u:HO}(r:Rd H a u)(x:HOk P w H h):ab6 P w H h a u:=by
 rcases r with r|⟨o,r⟩
 ·exact x a u r
 ·obtain⟨_,q⟩:=x a _ r
  exact q
noncomputable def Mut:Option HO->Prop
 | some (.lst _)=>True
 | some (.dK _)=>True
 | some (.dT _)=>True
 | some (.set _ _)=>True
 | some (.ins _ _ _)=>True
 | some (.ext _)=>True
 | _=>False
section
variable {P:aC} {w:World} {H:Hp} {h h':Heap} {x e:Addr} {o':HO}
theorem HOk.write (ok:HOk P w H h)(mu:Mut (H x))(he:e=x\/H e=some (.own x))(k:∀ b u,b≠e->h.get? b=some u->h'.get? b=some u)(heo:∃ u,h'.get? e=some u)
  (new:ab6 P w (upd H x o') h' x o'):HOk P w (upd H x o') h':=fun b u q=>by
 have nown:∀ c y,H c=some (.own y)->c≠x:=fun c y r z=>by subst z;rw[r]at mu;exact mu
 have ntup:∀ c xs,H c=some (.tup xs)->c≠x:=fun c xs r z=>by subst z;rw[r]at mu;exact mu
 by_cases hb:b=x
 ·subst hb;rw[zb]at q;cases q;exact new
 ·rw[za hb]at q
  by_cases hbe:b=e
  ·have q':H b=some (.own x):=by
    rcases he with z|z
    ·exact absurd (hbe.trans z) hb
    ·rw[hbe];exact z
   rw[q]at q';cases q'
   obtain⟨v,hv⟩:=heo
   exact⟨v,by rw[hbe];exact hv⟩
  ·refine(ok b u q).stay (fun c v hc r=>k c v ?_ r) (fun c r=>by rw[za (nown c b r)];exact r) fun c xs r=>by rw[za (ntup c xs r)];exact r
   rcases hc with rfl|hc
   ·exact hbe
   ·rintro rfl
    rcases he with z|z
    ·exact nown c b hc z
    ·rw[hc]at z;cases z;exact hb rfl
end
structure Un (fs ex:List Addr)(H H':Hp)(h h':Heap):Prop where
 keep:∀ b o,h.get? b=some o->H b=none->b ∉ fs->b ∉ ex->h'.get? b=some o
 slot:∀ b o,h.get? b=some o->H b=none->b∈fs->b ∉ ex->∃ sl,h'.get? b=some { o with slots:=sl }
 free:∀ b o,h.get? b=some o->H b=none->b ∉ ex->H' b=none
 there:∀ b o,h.get? b=some o->b ∉ ex->∃ o',h'.get? b=some o'
 tups:∀ b xs,H b=some (.tup xs)->H' b=some (.tup xs)
 frzs:∀ b o u,H b=some (.frz o u)->H' b=some (.frz o u)
 tbls:∀ b ps,H b=some (.tbl ps)->∃ more,H' b=some (.tbl (ps++more))
section
variable {fs fs' ex ex':List Addr} {H H1 H2:Hp} {h h1 h2 h':Heap} {a x e:Addr} {o:HO}
theorem Un.any (u:Un fs ex H H1 h h1){b:Addr}{ob:Obj}(q:h.get? b=some ob)(n:H b=none)(hx:b ∉ ex):∃ sl,h1.get? b=some { ob with slots:=sl }:=by
 by_cases hb:b∈fs
 ·exact u.slot b ob q n hb hx
 ·exact⟨ob.slots,u.keep b ob q n hb hx⟩
theorem Un.kept (k:∀ b u,h.get? b=some u->h'.get? b=some u):Un fs ex H H h h' :=
 ⟨fun b ob q _ _ _=>k b ob q,fun b ob q _ _ _=>⟨ob.slots,k b ob q⟩,fun _ _ _ n _=>n,fun b ob q _=>⟨ob,k b ob q⟩,fun _ _ q=>q,fun _ _ _ q=>q,fun _ ps q=>⟨#[],by rw[q];simp⟩⟩
theorem Un.refl:Un fs ex H H h h:=Un.kept fun _ _ q=>q
theorem Un.laid (k:∀ b u,h.get? b=some u->h'.get? b=some u)(hp:h.objs.size<=a)(hn:H a=none):Un fs ex H (upd H a o) h h' where
 keep:=fun b u q _ _ _=>k b u q
 slot:=fun b u q _ _ _=>⟨u.slots,k b u q⟩
 free:=fun b u q n _=>by rw[za (ax (am (aA q) hp))];exact n
 there:=fun b u q _=>⟨u,k b u q⟩
 tups:=fun b xs q=>by rw[za (zu q hn)];exact q
 frzs:=fun b u xs q=>by rw[za (zu q hn)];exact q
 tbls:=fun b ps q=>⟨#[],by rw[za (zu q hn),q];simp⟩
theorem Un.write (mu:Mut (H x))(he:e=x\/H e=some (.own x))(k:∀ b u,b≠e->h.get? b=some u->h'.get? b=some u)(heo:∃ u,h'.get? e=some u):Un fs ex H (upd H x o) h h':=by
 have hx:∀ b,H b=none->b≠x:=fun b n z=>by subst z;rw[n]at mu;exact mu
 have hb:∀ b,H b=none->b≠e:=fun b n z=>by
  subst z
  rcases he with r|r
  ·exact hx b n r
  ·rw[n]at r;cases r
 have hm:∀ b u,H b=some u->¬ Mut (some u)->b≠x:=fun b u q nm z=>by subst z;rw[q]at mu;exact nm mu
 refine⟨fun b u q n _ _=>k b u (hb b n) q,fun b u q n _ _=>⟨u.slots,k b u (hb b n) q⟩,fun b u q n _=>by rw[za (hx b n)];exact n,fun b u q _=>?_,
  fun b xs q=>by rw[za (hm b _ q fun z=>z)];exact q,fun b u xs q=>by rw[za (hm b _ q fun z=>z)];exact q,fun b ps q=>⟨#[],by rw[za (hm b _ q fun z=>z),q];simp⟩⟩
 by_cases hbe:b=e
 ·subst hbe;exact heo
 ·exact⟨u,k b u hbe q⟩
end
noncomputable def trk (h:Heap)(H:Hp):List Addr:=(ao h.objs.size).filter fun a=>(H a).isSome
noncomputable def aS9 (h:Heap)(H:Hp):Heap:=PySem.W.hideAll h (trk h H)
theorem aK9 (h:Heap)(H:Hp):(aS9 h H).objs.size=h.objs.size:=PySem.W.hideAll_size _ _
theorem ai3 {h:Heap}{H:Hp}{b:Addr}{o:Obj}(e:h.get? b=some o)(n:H b=none):(aS9 h H).get? b=some o :=
 PySem.W.hideAll_get _ e fun hm=>by
  have q:(H b).isSome=true:=(iA.mp hm).2
  rw[n]at q;simp at q
theorem bs0 {h:Heap}{H:Hp}{b:Addr}{o:Obj}(e:(aS9 h H).get? b=some o):h.get? b=some o/\H b=none:=by
 have e':h.get? b=some o:=PySem.W.of_hideAll (trk h H) e
 refine⟨e',?_⟩
 cases q:H b with
 | none=>rfl
 | some x =>
  have hm:b∈trk h H:=iA.mpr ⟨bp.mpr (aA e'),by simp[q]⟩
  have z:(aS9 h H).get? b=none:=PySem.W.hideAll_none (trk h H) hm
  rw[z]at e;cases e
noncomputable def bm1 (g h:Heap)(L:Addr):List (Addr×Obj):=(ao h.objs.size).filterMap fun a=>if a=L\/(g.get? a).isSome=true then none else(h.get? a).map fun o=>(a,o)
noncomputable def rest (g h:Heap)(L d:Addr):List (Addr×Obj):=(bm1 g h L).filter fun p=>decide (p.1≠d)
structure Mod (K:ac)(mg:Str->Option Value)(base:Heap):Prop where
 kin:K.In base
 glob:base.Ns aU mg
 blt:∃ mb,base.Ns fh mb/\∀ x:Str,x ≠ "__name__"->mb x=bf x
 nolimit:base.NoLimit
structure Cx where
 prog:aC
 w:World
 K:ac
 mg:Str->Option Value
 base:Heap
 A:aO
 N:List Str
 s₀:ae
 H₀:Hp
 env:Env
 outer:List Env
 stack:List Env
 ex:List Addr
 fn:Str->Bool
 calm:Bool
 pn:List (Addr×Obj)
 xe:Value->ae->Prop
noncomputable def frs (l:List Env):List Addr:=l.filterMap (·.frame)
noncomputable abbrev Cx.fs (X:Cx):List Addr:=frs X.outer
def Vis (sc:Scope)(x:Str):Prop:=sc.names.lookup x=some .local\/sc.names.lookup x=some .cell\/sc.names.lookup x=some .free
def Loc (sc:Scope)(x:Str):Prop:=sc.names.lookup x=some .local\/sc.names.lookup x=some .cell
def Look (env:Env)(h:Heap)(m:Str->Option Value)(x:Str)(u:Value):Prop :=
 (env.kindOf x=some .local/\m x=some u)\/((env.kindOf x=some .cell\/env.kindOf x=some .free)/\∃ c,env.cells.lookup x=some c/\h.IsCell c (some u))
structure Cx.Ok (X:Cx):Prop where
 mod:Mod X.K X.mg X.base
 kind:X.env.scope.kind=.function
 glob:X.env.globals=aU
 blt:X.env.builtins=fh
 above:X.s₀.heap.objs.size<=X.env.locals
 inj:∀ x y c,X.env.cells.lookup x=some c->X.env.cells.lookup y=some c->x=y
 has:∀ x,(X.env.kindOf x=some .cell\/X.env.kindOf x=some .free)->∃ c,X.env.cells.lookup x=some c
 cab:∀ x c,X.fn x=true->X.env.cells.lookup x=some c->X.s₀.heap.objs.size<=c
 hd:X.calm=true->X.A.handled=none
 frames:X.A.frames=some X.stack
 stk:X.stack=X.outer\/(X.stack=X.env::X.outer/\X.env.frame=some X.env.locals)
 exf:∀ b∈X.ex,b≠X.env.locals/\∀ x c,X.env.cells.lookup x=some c->c≠b
 bs:∀ b o,X.base.get? b=some o->X.s₀.heap.get? b=some o/\X.H₀ b=none
 bsz:X.base.objs.size<=X.s₀.heap.objs.size
 noex:∀ b o,X.base.get? b=some o->b ∉ X.ex
 exfs:∀ b∈X.ex,b ∉ X.fs
 funs:X.s₀.heap.FunFrames X.base X.outer
 frf:∀ b∈X.fs,X.H₀ b=none
structure Inv (X:Cx)(pins:List (Addr×Obj))(σ:List (Option V))(H:Hp)(s:ae):Prop where
 ok:X.Ok
 os:s.os=X.s₀.os
 bare:dQ s.gens
 base:Un X.fs X.ex X.H₀ H X.s₀.heap s.heap
 loc:∃ m,s.heap.Ns X.env.locals m/\∀(i:Nat) (x:Str) (v:V),X.N[i]?=some x->σ[i]?=some (some v)->Vis X.env.scope x->∃ u,RelV v u/\Look X.env s.heap m x u
 cell:∀ x c,X.env.cells.lookup x=some c->∃ v,s.heap.IsCell c v
 free:H X.env.locals=none
 freeC:∀ x c,X.env.cells.lookup x=some c->H c=none
 pin:∀ p∈X.pn++pins,s.heap.get? p.1=some p.2/\H p.1=none/\p.1≠X.env.locals/\p.1 ∉ X.fs/\∀ v,p.2.data≠.cell v
 hok:HOk X.prog X.w H s.heap
 len:σ.length=X.N.length
section
variable {X:Cx} {pins:List (Addr×Obj)} {σ:List (Option V)} {H H':Hp} {s:ae} {h':Heap}
theorem Cx.Ok.nofr (ok:X.Ok){b:Addr}{o:Obj}(e:X.base.get? b=some o):b ∉ X.fs:=fun hb=>by
 have:=(ok.funs.mem hb).1
 rw[e]at this;cases this
theorem Inv.bs (I:Inv X pins σ H s):∀ b o,X.base.get? b=some o->s.heap.get? b=some o/\H b=none:=fun b o e =>
 ⟨I.base.keep b o (I.ok.bs b o e).1 (I.ok.bs b o e).2 (I.ok.nofr e) (I.ok.noex b o e),I.base.free b o (I.ok.bs b o e).1 (I.ok.bs b o e).2 (I.ok.noex b o e)⟩
theorem Inv.bk (I:Inv X pins σ H s):∀ b o,X.base.get? b=some o->s.heap.get? b=some o:=fun b o e=>(I.bs b o e).1
theorem Inv.mod (I:Inv X pins σ H s):Mod X.K X.mg X.base:=I.ok.mod
theorem Inv.kIn (I:Inv X pins σ H s):X.K.In s.heap:=I.ok.mod.kin.keeps I.bk
theorem Inv.lt (I:Inv X pins σ H s):X.env.locals<s.heap.objs.size:=let⟨_,hn,_⟩:=I.loc;hn.lt
theorem Inv.sz (I:Inv X pins σ H s):X.s₀.heap.objs.size<=s.heap.objs.size:=aw I.ok.above (cI I.lt)
theorem Inv.nofs (I:Inv X pins σ H s){a:Addr}(h:s.heap.objs.size<=a):a ∉ X.fs:=fun hb=>by
 obtain⟨_,o,ho,_⟩:=I.ok.funs.mem hb
 exact absurd (am (aA ho) (aw I.sz h)) (bu _)
theorem Inv.cne (I:Inv X pins σ H s):∀ x c,X.env.cells.lookup x=some c->c≠X.env.locals:=fun x c e z=>by
 obtain⟨v,o,ho,hd⟩:=I.cell x c e
 obtain⟨m,⟨o',es,ep,ho',hd',_⟩,_⟩:=I.loc
 rw[z,ho']at ho;cases ho;rw[hd']at hd;cases hd
theorem Inv.funs (I:Inv X pins σ H s):s.heap.FunFrames X.base X.outer:=by
 have all:∀(l:List Env),(∀ b∈frs l,b∈X.fs)->X.s₀.heap.FunFrames X.base l->s.heap.FunFrames X.base l:=by
  intro l
  induction l with
  | nil=>intro _ _;trivial
  | cons env r ih =>
   intro hs hl
   obtain⟨hk,⟨L,o,hf,hn,ho,hd⟩,hr⟩:=hl
   have hL:L∈X.fs:=hs L (by unfold frs;rw[bG,hf];exact aq)
   obtain⟨sl,e⟩:=I.base.slot L o ho (I.ok.frf L hL) hL fun z=>I.ok.exfs L z hL
   exact⟨hk,⟨L,_,hf,hn,e,hd⟩,ih (fun b hb=>hs b (by unfold frs;rw[bG,hf];exact ah _ hb)) hr⟩
 exact all X.outer (fun _ hb=>hb) I.ok.funs
theorem Inv.stack (I:Inv X pins σ H s):s.heap.FunFrames X.base X.stack:=by
 rcases I.ok.stk with e|⟨e,hf⟩
 ·rw[e];exact I.funs
 ·rw[e]
  obtain⟨m,hn,_⟩:=I.loc
  refine .cons (by rw[I.ok.kind];decide) hf hn ?_ I.funs
  exact Heap.get?_none_of_le (aw I.ok.bsz I.ok.above)
theorem Inv.stkSub (I:Inv X pins σ H s):∀ b∈frs X.stack,b∈X.env.locals::X.fs:=fun b hb=>by
 rcases I.ok.stk with e|⟨e,hf⟩
 ·rw[e]at hb;exact ah _ hb
 ·rw[e]at hb
  unfold frs at hb
  rw[bG,hf]at hb
  exact hb
theorem Inv.stkFree (I:Inv X pins σ H s):∀ b∈frs X.stack,H b=none:=fun b hb=>by
 rcases au.mp (I.stkSub b hb)with e|hb
 ·rw[e];exact I.free
 ·obtain⟨_,o,ho,_⟩:=I.ok.funs.mem hb
  exact I.base.free b o ho (I.ok.frf b hb) fun z=>I.ok.exfs b z hb
theorem Inv.step {g':Array GenState}{t':Nat}{d':Drawn}{ch:List Addr}(I:Inv X pins σ H s)
  (hch:∀ b∈ch,(b∈X.ex\/X.s₀.heap.objs.size<=b)/\b≠X.env.locals/\(∀ x c,X.env.cells.lookup x=some c->c≠b)/\∀ p∈X.pn++pins,p.1≠b)
  (keep:∀ b o,b≠X.env.locals->b ∉ X.fs->b ∉ ch->s.heap.get? b=some o->H b=none->h'.get? b=some o)
  (slot:∀ b o,b≠X.env.locals->b∈X.fs->b ∉ ch->s.heap.get? b=some o->H b=none->∃ sl,h'.get? b=some { o with slots:=sl }) (free:∀ b o,b ∉ ch->s.heap.get? b=some o->H b=none->H' b=none)
  (there:∀ b o,b ∉ ch->s.heap.get? b=some o->∃ o',h'.get? b=some o')
  (tups:∀ b xs,H b=some (.tup xs)->H' b=some (.tup xs)) (frzs:∀ b o u,H b=some (.frz o u)->H' b=some (.frz o u)) (tbls:∀ b ps,H b=some (.tbl ps)->∃ more,H' b=some (.tbl (ps++more)))
  (ns:∀ m,s.heap.Ns X.env.locals m->h'.Ns X.env.locals m) (hok:HOk X.prog X.w H' h') (hg:dQ g') :
  Inv X pins σ H' { s with heap:=h',gens:=g',drawn:=d',toks:=t' }:=by
 have neL:∀ b o,X.s₀.heap.get? b=some o->b≠X.env.locals:=fun b o e=>ax (am (aA e) I.ok.above)
 have neC:∀ b o,X.s₀.heap.get? b=some o->b ∉ X.ex->b ∉ ch:=fun b o e hx hb=>by
  rcases(hch b hb).1 with z|z
  ·exact hx z
  ·exact absurd (am (aA e) z) (bu _)
 have cellK:∀ x c,X.env.cells.lookup x=some c->∀ v,s.heap.IsCell c v->h'.IsCell c v:=fun x c e v ⟨o,ho,hd⟩=>by
  have nch:c ∉ ch:=fun z=>(hch c z).2.2.1 x c e rfl
  by_cases hc:c∈X.fs
  ·obtain⟨sl,q⟩:=slot c o (I.cne x c e) hc nch ho (I.freeC x c e)
   exact⟨_,q,hd⟩
  ·exact⟨o,keep c o (I.cne x c e) hc nch ho (I.freeC x c e),hd⟩
 refine⟨I.ok,I.os,hg,⟨fun b o e n hb hx=>?_,fun b o e n hb hx=>?_,fun b o e n hx=>?_,fun b o e hx=>?_,fun b xs e=>tups b xs (I.base.tups b xs e),fun b o xs e=>frzs b o xs (I.base.frzs b o xs e),fun b ps e=>?_⟩,?_,fun x c e=>?_,?_,fun x c e=>?_,fun p hp=>?_,hok,I.len⟩
 ·exact keep b o (neL b o e) hb (neC b o e hx) (I.base.keep b o e n hb hx) (I.base.free b o e n hx)
 ·obtain⟨sl,e1⟩:=I.base.slot b o e n hb hx
  obtain⟨sl',e2⟩:=slot b _ (neL b o e) hb (neC b o e hx) e1 (I.base.free b o e n hx)
  exact⟨sl',e2⟩
 ·obtain⟨o',e1⟩:=I.base.there b o e hx
  exact free b o' (neC b o e hx) e1 (I.base.free b o e n hx)
 ·obtain⟨o',e1⟩:=I.base.there b o e hx
  exact there b o' (neC b o e hx) e1
 ·obtain⟨m1,e1⟩:=I.base.tbls b ps e
  obtain⟨m2,e2⟩:=tbls b _ e1
  exact⟨m1++m2,by rw[e2,gK]⟩
 ·obtain⟨m,hn,hl⟩:=I.loc
  refine⟨m,ns m hn,fun i x v e1 e2 e3=>?_⟩
  obtain⟨u,r,l⟩:=hl i x v e1 e2 e3
  refine⟨u,r,?_⟩
  rcases l with l|⟨k,c,e,z⟩
  ·exact .inl l
  ·exact .inr ⟨k,c,e,cellK x c e _ z⟩
 ·obtain⟨v,z⟩:=I.cell x c e
  exact⟨v,cellK x c e v z⟩
 ·obtain⟨m,⟨o,_,_,ho,_⟩,_⟩:=I.loc
  exact free _ o (fun z=>(hch _ z).2.1 rfl) ho I.free
 ·obtain⟨v,o,ho,hd⟩:=I.cell x c e
  exact free c o (fun z=>(hch c z).2.2.1 x c e rfl) ho (I.freeC x c e)
 ·obtain⟨e,n,ne,nf,d⟩:=I.pin p hp
  have nch:p.1 ∉ ch:=fun z=>(hch p.1 z).2.2.2 p hp rfl
  exact⟨keep p.1 p.2 ne nf nch e n,free p.1 p.2 nch e n,ne,nf,d⟩
theorem Inv.un {t':Nat}(I:Inv X pins σ H s)(u:Un X.fs [] H H' s.heap h')(hok:HOk X.prog X.w H' h'):Inv X pins σ H' { s with heap:=h',toks:=t' }:=by
 obtain⟨m,⟨o,es,ep,ho,r⟩,_⟩:=id I.loc
 obtain⟨sl,hL⟩:=u.any ho I.free (by simp)
 exact I.step (g':=s.gens) (d':=s.drawn) (ch:=[]) (fun _ z=>nomatch z) (fun b o _ hb _ e n=>u.keep b o e n hb (by simp)) (fun b o _ hb _ e n=>u.slot b o e n hb (by simp)) (fun b o _ e n=>u.free b o e n (by simp)) (fun b o _ e=>u.there b o e (by simp)) u.tups u.frzs u.tbls (fun m' hm=>by
  obtain⟨o',es',ep',ho',r'⟩:=hm
  rw[ho]at ho';cases ho'
  exact⟨_,es',ep',hL,r'⟩) hok I.bare
theorem Inv.call {g':Array GenState}{t':Nat}{d':Drawn}{ch:List Addr}(I:Inv X pins σ H s)(u:Un (frs X.stack) ch H H' s.heap h')(hok:HOk X.prog X.w H' h')(hg:dQ g')
  (hch:∀ b∈ch,(b∈X.ex\/X.s₀.heap.objs.size<=b)/\b≠X.env.locals/\(∀ x c,X.env.cells.lookup x=some c->c≠b)/\∀ p∈X.pn++pins,p.1≠b) :
  Inv X pins σ H' { s with heap:=h',gens:=g',drawn:=d',toks:=t' }:=by
 obtain⟨m,⟨o,es,ep,ho,r⟩,_⟩:=id I.loc
 obtain⟨sl,hL⟩:=u.any ho I.free fun z=>(hch _ z).2.1 rfl
 exact I.step (ch:=ch) hch (fun b o hL hb hc e n=>u.keep b o e n (fun z=>(au.mp (I.stkSub b z)).elim hL hb) hc) (fun b o _ _ hc e n=>u.any e n hc) (fun b o hc e n=>u.free b o e n hc) (fun b o hc e=>u.there b o e hc) u.tups u.frzs u.tbls (fun m' hm=>by
  obtain⟨o',es',ep',ho',r'⟩:=hm
  rw[ho]at ho';cases ho'
  exact⟨_,es',ep',hL,r'⟩) hok hg
theorem Inv.turned {t':Nat}{it:Addr}(I:Inv X pins σ H s)(k:∀ b o,b≠it->s.heap.get? b=some o->h'.get? b=some o)(hn:H it=none)(hL:it≠X.env.locals)
  (h1:it∈X.ex\/X.s₀.heap.objs.size<=it) (h2:∀ x c,X.env.cells.lookup x=some c->c≠it) (h3:∀ p∈X.pn++pins,p.1≠it):Inv X pins σ H { s with heap:=h',toks:=t' }:=by
 have nit:∀ b u,H b=some u->b≠it:=fun b u e z=>by rw[z,hn]at e;cases e
 refine I.step (g':=s.gens) (d':=s.drawn) (ch:=[it]) (fun b hb=>?_) (fun b o _ _ hc e _=>k b o (fun z=>hc (by simp[z])) e) (fun b o _ _ hc e _=>⟨o.slots,k b o (fun z=>hc (by simp[z])) e⟩) (fun _ _ _ _ n=>n)
  (fun b o hc e=>⟨o,k b o (fun z=>hc (by simp[z])) e⟩) (fun _ _ e=>e) (fun _ _ _ e=>e) (fun b ps e=>⟨#[],by rw[e];simp⟩) (fun m hm=>?_) (fun b u e=>?_) I.bare
 ·have e:b=it:=by simpa using hb
  subst e
  exact⟨h1,hL,h2,h3⟩
 ·obtain⟨o,es,ep,ho,r⟩:=hm
  exact⟨o,es,ep,k _ o (bL hL) ho,r⟩
 ·refine(I.hok b u e).stay (fun c v hc q=>k c v ?_ q) (fun _ q=>q) fun _ _ q=>q
  rcases hc with z|z
  ·rw[z];exact nit b u e
  ·exact nit c _ z
theorem Inv.tok (I:Inv X pins σ H s)(t:Nat):Inv X pins σ H { s with toks:=t }:=I.un (h':=s.heap) (t':=t) Un.refl I.hok
theorem Inv.kept {t':Nat}(I:Inv X pins σ H s)(k:∀ b u,s.heap.get? b=some u->h'.get? b=some u):Inv X pins σ H { s with heap:=h',toks:=t' }:=I.un (Un.kept k) (I.hok.kept k)
theorem Inv.laid {a:Addr}{o:HO}{t':Nat}(I:Inv X pins σ H s)(k:∀ b u,s.heap.get? b=some u->h'.get? b=some u)(hp:s.heap.objs.size<=a)(new:ab6 X.prog X.w (upd H a o) h' a o) :
  Inv X pins σ (upd H a o) { s with heap:=h',toks:=t' }:=I.un (Un.laid k hp (I.hok.fresh hp)) (I.hok.laid k hp new)
theorem Inv.write {x e:Addr}{o:HO}{t':Nat}(I:Inv X pins σ H s)(mu:Mut (H x))(he:e=x\/H e=some (.own x))(k:∀ b u,b≠e->s.heap.get? b=some u->h'.get? b=some u)(heo:∃ u,h'.get? e=some u)
  (new:ab6 X.prog X.w (upd H x o) h' x o):Inv X pins σ (upd H x o) { s with heap:=h',toks:=t' }:=I.un (Un.write mu he k heo) (I.hok.write mu he k heo new)
theorem Inv.pins_of {pins':List (Addr×Obj)}(I:Inv X pins σ H s)(h:∀ p∈pins',s.heap.get? p.1=some p.2/\H p.1=none/\p.1≠X.env.locals/\p.1 ∉ X.fs/\∀ v,p.2.data≠.cell v):Inv X pins' σ H s :=
 ⟨I.ok,I.os,I.bare,I.base,I.loc,I.cell,I.free,I.freeC,fun p hp=>(bZ.mp hp).elim (fun z=>I.pin p (b8 _ z)) (h p),I.hok,I.len⟩
theorem ap3 {N:List Str}(hN:N.Nodup){i j:Nat}{x:Str}(a:N[i]?=some x)(b:N[j]?=some x):i=j:=by
 obtain⟨h1,e1⟩:=ag.mp a
 obtain⟨h2,e2⟩:=ag.mp b
 exact(List.getElem_inj hN).mp (e1.trans e2.symm)
theorem at9 {M:Model}{A:aO}{E:Value->ae->Prop}{i:Nat}{x:Str}{v:V}{u:Value}{Q:Unit->ae->Prop}(I:Inv X pins σ H s)(hN:X.N.Nodup)(hi:X.N[i]?=some x)(hx:Loc X.env.scope x)(r:RelV v u)
  (h:∀ s',Inv X pins (σ.set i (some v)) H s'->(∃ a,cY a s.heap s'.heap/\(a=X.env.locals\/X.env.cells.lookup x=some a))->Q () s') (hf:X.fn x=true\/X.env.scope.names.lookup x=some .local:=by first|exact .inl rfl|exact .inr rfl|assumption):wpAny M A (dW X.env x u) Q E s:=by
 obtain⟨m,hn,hl⟩:=id I.loc
 have hcls:(X.env.scope.kind==.class||(X.env.scope.kind==.module&&X.env.locals != X.env.globals))=false:=by rw[I.ok.kind];rfl
 have hiσ:i < σ.length:=by rw[I.len];exact(ag.mp hi).1
 have cne:=I.cne
 have tracked:∀ {a:Addr} {h':Heap},(∃ o,s.heap.get? a=some o/\H a=none)->cY a s.heap h'->HOk X.prog X.w H h':=fun {a h'} ha hs b ob e=>by
  obtain⟨_,_,hfree⟩:=ha
  refine(I.hok b ob e).stay (fun c w' hc q=>(hs.2 c ?_).trans q) (fun _ q=>q) fun _ _ q=>q
  rintro rfl
  rcases hc with rfl|hc
  ·rw[hfree]at e;cases e
  ·rw[hfree]at hc;cases hc
 rcases hx with hk|hk
 ·refine fK hk hn (fun h' hn' hs=>?_) hcls
  obtain⟨oL,_,_,hoL,_⟩:=id hn
  refine h _ ⟨I.ok,I.os,I.bare,⟨fun b o e n hb hx=>?_,fun b o e n hb hx=>?_,I.base.free,fun b o e hx=>?_,I.base.tups,I.base.frzs,I.base.tbls⟩,⟨_,hn',fun j y v' e1 e2 e3=>?_⟩,fun y c e=>?_,I.free,I.freeC,fun p hp=>?_,tracked ⟨oL,hoL,I.free⟩ hs,by simpa using I.len⟩ ⟨_,hs,.inl rfl⟩
  ·exact(hs.2 b (ax (am (aA e) I.ok.above))).trans (I.base.keep b o e n hb hx)
  ·obtain⟨sl,e1⟩:=I.base.slot b o e n hb hx
   exact⟨sl,(hs.2 b (ax (am (aA e) I.ok.above))).trans e1⟩
  ·obtain⟨o',e1⟩:=I.base.there b o e hx
   exact⟨o',(hs.2 b (ax (am (aA e) I.ok.above))).trans e1⟩
  ·by_cases hj:j=i
   ·subst hj
    rw[hi]at e1;cases e1
    rw[aR hiσ]at e2
    cases e2
    exact⟨u,r,.inl ⟨hk,by simp⟩⟩
   ·rw[bo (bL hj)]at e2
    obtain⟨u',r',q⟩:=hl j y v' e1 e2 e3
    refine⟨u',r',?_⟩
    rcases q with⟨k,e⟩|⟨k,c,e,z⟩
    ·refine .inl ⟨k,?_⟩
     have:y≠x:=fun e=>hj (ap3 hN e1 (e▸hi))
     simp[this,e]
    ·exact .inr ⟨k,c,e,z.sameBut hs (cne y c e)⟩
  ·obtain⟨w',z⟩:=I.cell y c e
   exact⟨w',z.sameBut hs (cne y c e)⟩
  ·obtain⟨e,n,ne,nf,d⟩:=I.pin p hp
   exact⟨(hs.2 p.1 ne).trans e,n,ne,nf,d⟩
 ·have hfn:X.fn x=true:=by
   rcases hf with z|z
   ·exact z
   ·rw[z]at hk;cases hk
  obtain⟨c,hc⟩:=I.ok.has x (.inl hk)
  obtain⟨w',z⟩:=I.cell x c hc
  refine fR I.ok.kind hk hc z (fun h' hc' hs=>?_)
  obtain⟨oc,hoc,hocd⟩:=id z
  refine h { s with heap:=h' } ⟨I.ok,I.os,I.bare,⟨fun b o e n hb hx=>?_,fun b o e n hb hx=>?_,I.base.free,fun b o e hx=>?_,I.base.tups,I.base.frzs,I.base.tbls⟩,⟨m,hn.sameBut hs (bL (cne x c hc)),fun j y v' e1 e2 e3=>?_⟩,fun y c' e=>?_,I.free,I.freeC,fun p hp=>?_,tracked ⟨oc,hoc,I.freeC x c hc⟩ hs,by simpa using I.len⟩ ⟨c,hs,.inr hc⟩
  ·exact(hs.2 b (ax (am (aA e) (I.ok.cab x c hfn hc)))).trans (I.base.keep b o e n hb hx)
  ·obtain⟨sl,e1⟩:=I.base.slot b o e n hb hx
   exact⟨sl,(hs.2 b (ax (am (aA e) (I.ok.cab x c hfn hc)))).trans e1⟩
  ·obtain⟨o',e1⟩:=I.base.there b o e hx
   exact⟨o',(hs.2 b (ax (am (aA e) (I.ok.cab x c hfn hc)))).trans e1⟩
  ·by_cases hj:j=i
   ·subst hj
    rw[hi]at e1;cases e1
    rw[aR hiσ]at e2
    cases e2
    exact⟨u,r,.inr ⟨.inl hk,c,hc,hc'⟩⟩
   ·rw[bo (bL hj)]at e2
    obtain⟨u',r',q⟩:=hl j y v' e1 e2 e3
    refine⟨u',r',?_⟩
    rcases q with q|⟨k,c',e,z'⟩
    ·exact .inl q
    ·refine .inr ⟨k,c',e,z'.sameBut hs ?_⟩
     rintro rfl
     exact hj (ap3 hN e1 (I.ok.inj _ _ _ e hc▸hi))
  ·by_cases hcc:c'=c
   ·subst hcc;exact⟨_,hc'⟩
   ·obtain⟨w2,z2⟩:=I.cell y c' e
    exact⟨w2,z2.sameBut hs hcc⟩
  ·obtain⟨e,n,ne,nf,d⟩:=I.pin p hp
   refine⟨(hs.2 p.1 ?_).trans e,n,ne,nf,d⟩
   intro q
   rw[q,hoc]at e
   have q':oc=p.2:=az e
   exact d w' (by rw[<-q'];exact hocd)
theorem qN {M:Model}{A:aO}{E:Value->ae->Prop}{i:Nat}{x:Str}{v:V}{u:Value}{Q:Unit->ae->Prop}(I:Inv X pins σ H s)(hN:X.N.Nodup)(hi:X.N[i]?=some x)(hx:Loc X.env.scope x)(r:RelV v u)
  (h:∀ s',Inv X pins (σ.set i (some v)) H s'->Q () s') (hf:X.fn x=true\/X.env.scope.names.lookup x=some .local:=by first|exact .inl rfl|exact .inr rfl|assumption):wpAny M A (dW X.env x u) Q E s :=
 at9 I hN hi hx r (fun s' I' _=>h s' I') hf
theorem Inv.call' {s':ae}{ch:List Addr}(I:Inv X pins σ H s)(ho:s'.os=s.os)(u:Un (frs X.stack) ch H H' s.heap s'.heap)(hok:HOk X.prog X.w H' s'.heap)(hg:dQ s'.gens)
  (hch:∀ b∈ch,(b∈X.ex\/X.s₀.heap.objs.size<=b)/\b≠X.env.locals/\(∀ x c,X.env.cells.lookup x=some c->c≠b)/\∀ p∈X.pn++pins,p.1≠b):Inv X pins σ H' s':=by
 obtain⟨h',g',d',t',o'⟩:=s'
 have e:o'=s.os:=ho
 subst e
 exact I.call (g':=g') (t':=t') (d':=d') u hok hg hch
end
abbrev XK:=Value->Option Addr->Hp->Prop
noncomputable abbrev St:=List (Option V)
abbrev VK:=V->Hp->Prop
abbrev TE:=St->Hp->VK->Prop
abbrev TT:=St->Hp->(Bool->Hp->Prop)->Prop
abbrev TA:=St->Hp->(List V->Hp->Prop)->Prop
structure Ends where
 nx:St->Hp->Prop
 rt:VK
 bk:St->Hp->Prop:=fun _ _=>False
 ct:St->Hp->Prop:=fun _ _=>False
abbrev TS:=Ends->St->Hp->Prop
def EP (X:Cx)(pins:List (Addr×Obj))(σ:St)(Q:VK)(u:Value)(s':ae):Prop:=∃ v H',Inv X pins σ H' s'/\RelV v u/\Q v H'
def TP (X:Cx)(pins:List (Addr×Obj))(σ:St)(Q:Bool->Hp->Prop)(b:Bool)(s':ae):Prop:=∃ H',Inv X pins σ H' s'/\Q b H'
def AP (X:Cx)(pins:List (Addr×Obj))(σ:St)(Q:List V->Hp->Prop)(us:List Value)(s':ae):Prop:=∃ vs H',Inv X pins σ H' s'/\Vals vs us/\Q vs H'
def SP (X:Cx)(pins:List (Addr×Obj))(D:Ends)(f:Flow)(s':ae):Prop :=
 match f with
 | .next=>∃ σ' H',Inv X pins σ' H' s'/\D.nx σ' H'
 | .brk=>∃ σ' H',Inv X pins σ' H' s'/\D.bk σ' H'
 | .cont=>∃ σ' H',Inv X pins σ' H' s'/\D.ct σ' H'
 | .ret u=>∃ v σ' H',Inv X pins σ' H' s'/\RelV v u/\D.rt v H'
def PE (X:Cx)(e:Expr)(t:TE):Prop :=
 ∀(pins:List (Addr×Obj)) (s:ae) (σ:St) (H:Hp) (Q:VK),Inv X pins σ H s->t σ H Q->wpAny (model X.prog X.w) X.A (eval e X.env) (EP X pins σ Q) X.xe s
def PT (X:Cx)(e:Expr)(t:TT):Prop :=
 ∀(pins:List (Addr×Obj)) (s:ae) (σ:St) (H:Hp) (Q:Bool->Hp->Prop),Inv X pins σ H s->t σ H Q->wpAny (model X.prog X.w) X.A (cU e X.env (eval e X.env)) (TP X pins σ Q) X.xe s
def PW (X:Cx)(e:Expr)(t:TT):Prop :=
 ∀(whole:Sem Value) (pins:List (Addr×Obj)) (s:ae) (σ:St) (H:Hp) (Q:Bool->Hp->Prop),Inv X pins σ H s->t σ H Q->wpAny (model X.prog X.w) X.A (cU e X.env whole) (TP X pins σ Q) X.xe s
theorem PW.pt {X:Cx}{e:Expr}{t:TT}(h:PW X e t):PT X e t:=h _
def PA (X:Cx)(es:List Expr)(t:TA):Prop :=
 ∀(pos:Pos) (pins:List (Addr×Obj)) (s:ae) (σ:St) (H:Hp) (Q:List V->Hp->Prop),Inv X pins σ H s->t σ H Q->wpAny (model X.prog X.w) X.A (spliced (cL pos (bh es X.env))) (AP X pins σ Q) X.xe s
def PS (X:Cx)(st:Stmt)(t:TS):Prop :=
 ∀(pins:List (Addr×Obj)) (s:ae) (σ:St) (H:Hp) (D:Ends),Inv X pins σ H s->t D σ H->wpAny (model X.prog X.w) X.A (exec st X.env) (SP X pins D) X.xe s
def PSs (X:Cx)(st:List Stmt)(t:TS):Prop :=
 ∀(pins:List (Addr×Obj)) (s:ae) (σ:St) (H:Hp) (D:Ends),Inv X pins σ H s->t D σ H->wpAny (model X.prog X.w) X.A (execs st X.env) (SP X pins D) X.xe s
theorem thn {α:Type}{t:Sem α}{Q Q':α->ae->Prop}{M:Model}{A:aO}{E:Value->ae->Prop}{s:ae}(h:wpAny M A t Q E s)(hQ:∀ a s,Q a s->Q' a s):wpAny M A t Q' E s:=bv h hQ fun _ _ x=>x
section
variable {X:Cx}
theorem bin {a b:Expr}{ta tb:TE}(ha:PE X a ta)(hb:PE X b tb){pins:List (Addr×Obj)}{s:ae}{σ:St}{H:Hp}{R:V->V->Hp->Prop}(I:Inv X pins σ H s)(h:ta σ H fun x H1=>tb σ H1 fun y H2=>R x y H2)
  {α:Type} {Q:α->ae->Prop} {f:Value->Value->Sem α}
  (hf:∀ v u s2 x y H2,Inv X pins σ H2 s2->RelV x v->RelV y u->R x y H2->wpAny (model X.prog X.w) X.A (f v u) Q X.xe s2) :
  wpAny (model X.prog X.w) X.A (eval a X.env) (fun v s₁=>wpAny (model X.prog X.w) X.A (eval b X.env) (fun u s₂=>wpAny (model X.prog X.w) X.A (f v u) Q X.xe s₂) X.xe s₁) X.xe s:=by
 refine thn (ha pins s σ H _ I h) fun v s1 ⟨x,H1,I1,r1,q1⟩=>?_
 refine thn (hb pins s1 σ H1 _ I1 q1) fun u s2 ⟨y,H2,I2,r2,q2⟩=>?_
 exact hf v u s2 x y H2 I2 r1 r2 q2
def aS8 (i:Nat):TE:=fun σ H Q=>∃ v,σ[i]?=some (some v)/\Q v H
def tC (v:V):TE:=fun _ H Q=>Q v H
theorem au9 {i:Nat}{x:Str}{pos:Pos}(hN:X.N[i]?=some x)(hv:Vis X.env.scope x)(hd:(x==("__debug__":Str))=false:=by decide)(hcd:(x==("__classdict__":Str))=false:=by decide):PE X (.Name x pos) (aS8 i):=by
 intro pins s σ H Q I h
 obtain⟨v,e,h⟩:=h
 obtain⟨m,hn,hl⟩:=I.loc
 obtain⟨u,r,l⟩:=hl i x v hN e hv
 have fin:EP X pins σ Q u s:=⟨v,H,I,r,h⟩
 rcases l with⟨hk,hm⟩|⟨hk,c,hc,hcell⟩
 ·exact iP (fS I.ok.kind hk hn hm fin) hd
 ·rcases hk with hk|hk
  ·exact iP (gr I.ok.kind hk hc hcell fin) hd
  ·exact iP (wpAny_loadName_free I.ok.kind hk hc hcell fin hcd) hd
theorem by7 {i j pos}:PE X (.Constant (.int i) j pos) (tC (.int i)):=fun _ _ _ H _ I h=>wpAny_Constant_int ⟨.int i,H,I.tok _,⟨_,rfl⟩,h⟩
theorem bG9 {b j pos}:PE X (.Constant (.bool b) j pos) (tC (.bl b)):=fun _ _ _ H _ I h=>Constant_bool ⟨.bl b,H,I,rfl,h⟩
theorem bF5 {j pos}:PE X (.Constant .none j pos) (tC .non):=fun _ _ _ H _ I h=>Constant_none ⟨.non,H,I,rfl,h⟩
theorem bg3 {x j pos}:PE X (.Constant (.str x) j pos) (tC (.str x)):=fun _ _ _ H _ I h=>Calls.Constant_str ⟨.str x,H,I.tok _,⟨_,rfl⟩,h⟩
def Gl (X:Cx)(x:Str):Prop:=X.env.kindOf x=some .globalImplicit
theorem ao8 {E:Value->ae->Prop}{pins:List (Addr×Obj)}{s:ae}{σ:St}{H:Hp}{x:Str}{u:Value}{pos:Pos}{Q:Value->ae->Prop}(I:Inv X pins σ H s)(hg:Gl X x)(hm:X.mg x=some u)(h:Q u s)
  (hd:(x==("__debug__":Str))=false:=by decide):wpAny (model X.prog X.w) X.A (eval (.Name x pos) X.env) Q E s :=
 dY I.ok.kind hg (Calls.loadGlobal_global (by rw[I.ok.glob];exact I.mod.glob.keeps I.bk) hm h) hd
theorem az8 {E:Value->ae->Prop}{pins:List (Addr×Obj)}{s:ae}{σ:St}{H:Hp}{x:Str}{u:Value}{pos:Pos}{Q:Value->ae->Prop}(I:Inv X pins σ H s)(hg:Gl X x)(hm:X.mg x=none)(hv:bf x=some u)(h:Q u s)
  (hn:x ≠ "__name__":=by decide) (hd:(x==("__debug__":Str))=false:=by decide):wpAny (model X.prog X.w) X.A (eval (.Name x pos) X.env) Q E s:=by
 obtain⟨mb,h1,h2⟩:=I.mod.blt
 exact dY I.ok.kind hg (Calls.loadGlobal_builtin (by rw[I.ok.glob];exact I.mod.glob.keeps I.bk) hm (by rw[I.ok.blt];exact h1.keeps I.bk) ((h2 x hn).trans hv) h) hd
theorem aj4 {x:Str}{v:V}{u:Value}{pos:Pos}(hg:Gl X x)(hm:X.mg x=some u)(r:RelV v u)(hd:(x==("__debug__":Str))=false:=by decide):PE X (.Name x pos) (tC v) :=
 fun _ _ _ H _ I h=>ao8 I hg hm ⟨v,H,I,r,h⟩ hd
theorem bi6 {x:Str}{v:V}{u:Value}{pos:Pos}(hg:Gl X x)(hm:X.mg x=none)(hv:bf x=some u)(r:RelV v u)(hn:x ≠ "__name__":=by decide)(hd:(x==("__debug__":Str))=false:=by decide):PE X (.Name x pos) (tC v) :=
 fun _ _ _ H _ I h=>az8 I hg hm hv ⟨v,H,I,r,h⟩ hn hd
variable {a b:Expr} {ta tb:TE} {pos:Pos}
def tB (t:TE):TT:=fun σ H Q=>t σ H fun x H1=>∃ c,x=.bl c/\Q c H1
theorem aR9 {e:Expr}{t:TE}(h:PE X e t)(he:∀ whole,cU e X.env whole=(do let v <- whole;standAt e.pos;iJ [v] (truthy v)):=by intro _;rfl):PT X e (tB t):=by
 intro pins s σ H Q I hw
 refine isTrue_plain (thn (h pins s σ H _ I hw) fun v s1 ⟨x,H1,I1,r1,q1⟩=>?_) (he _)
 obtain⟨d,rfl,q⟩:=q1
 cases r1
 exact b9 ⟨H1,I1,q⟩
variable {tA tB':TT} {rest:List Expr}
def bR9 (t u:TT):TT:=fun σ H Q=>t σ H fun c H1=>if c=true then u σ H1 Q else Q false H1
def tOr (t u:TT):TT:=fun σ H Q=>t σ H fun c H1=>if c=true then Q true H1 else u σ H1 Q
def bS5 (t:TT):TT:=fun σ H Q=>t σ H fun c H1=>Q (!c) H1
theorem bn7 (ha:PT X a tA):PW X (.BoolOp .And [a] pos) tA:=by
 intro wh pins s σ H Q I h
 refine isTrue_and (thn (ha pins s σ H Q I h) fun c s1 e=>?_)
 cases c with
 | true=>exact isTrue_and_nil e
 | false=>exact e
theorem bd5 (ha:PT X a tA):PW X (.BoolOp .Or [a] pos) tA:=by
 intro wh pins s σ H Q I h
 refine isTrue_or (thn (ha pins s σ H Q I h) fun c s1 e=>?_)
 cases c with
 | false=>exact isTrue_or_nil e
 | true=>exact e
theorem bd7 (ha:PT X a tA)(hb:PW X (.BoolOp .And (b::rest) pos) tB'):PW X (.BoolOp .And (a::b::rest) pos) (bR9 tA tB'):=by
 intro wh pins s σ H Q I h
 refine isTrue_and (thn (ha pins s σ H _ I h) fun c s1 ⟨H1,I1,q1⟩=>?_)
 cases c with
 | true=>exact hb wh pins s1 σ H1 Q I1 q1
 | false=>exact⟨H1,I1,q1⟩
theorem bs6 (ha:PT X a tA)(hb:PW X (.BoolOp .Or (b::rest) pos) tB'):PW X (.BoolOp .Or (a::b::rest) pos) (tOr tA tB'):=by
 intro wh pins s σ H Q I h
 refine isTrue_or (thn (ha pins s σ H _ I h) fun c s1 ⟨H1,I1,q1⟩=>?_)
 cases c with
 | true=>exact⟨H1,I1,q1⟩
 | false=>exact hb wh pins s1 σ H1 Q I1 q1
theorem bc5 (ha:PT X a tA):PT X (.UnaryOp .Not a pos) (bS5 tA):=by
 intro pins s σ H Q I h
 exact isTrue_not (ha pins s σ H (fun c H1=>Q (!c) H1) I h)
def bC8 (ta tb:TE):TE:=fun σ H Q=>ta σ H fun x H1=>∃ c,x=.bl c/\if c=true then tb σ H1 Q else Q (.bl false) H1
def bT1 (ta tb:TE):TE:=fun σ H Q=>ta σ H fun x H1=>∃ c,x=.bl c/\if c=true then Q (.bl true) H1 else tb σ H1 Q
def bx2 (ta:TE):TE:=fun σ H Q=>ta σ H fun x H1=>∃ c,x=.bl c/\Q (.bl (!c)) H1
theorem aM9 {op}{t:TE}(h:PE X a t):PE X (.BoolOp op [a] pos) t:=fun pins s σ H Q I hw=>BoolOp_one (h pins s σ H Q I hw)
theorem bd4 (ha:PE X a ta)(hb:PE X (.BoolOp .And (b::rest) pos) tb):PE X (.BoolOp .And (a::b::rest) pos) (bC8 ta tb):=by
 intro pins s σ H Q I h
 refine BoolOp_and (thn (ha pins s σ H _ I h) fun v s1 ⟨x,H1,I1,r1,q1⟩=>?_)
 obtain⟨c,rfl,q1⟩:=q1
 cases r1
 refine b9 ?_
 cases c with
 | true=>exact hb pins s1 σ H1 Q I1 q1
 | false=>exact⟨.bl false,H1,I1,rfl,q1⟩
theorem bn5 (ha:PE X a ta)(hb:PE X (.BoolOp .Or (b::rest) pos) tb):PE X (.BoolOp .Or (a::b::rest) pos) (bT1 ta tb):=by
 intro pins s σ H Q I h
 refine BoolOp_or (thn (ha pins s σ H _ I h) fun v s1 ⟨x,H1,I1,r1,q1⟩=>?_)
 obtain⟨c,rfl,q1⟩:=q1
 cases r1
 refine b9 ?_
 cases c with
 | false=>exact hb pins s1 σ H1 Q I1 q1
 | true=>exact⟨.bl true,H1,I1,rfl,q1⟩
theorem bf0 (ha:PE X a ta):PE X (.UnaryOp .Not a pos) (bx2 ta):=by
 intro pins s σ H Q I h
 refine UnaryOp_ (thn (ha pins s σ H _ I h) fun v s1 ⟨x,H1,I1,r1,q1⟩=>?_)
 obtain⟨c,rfl,q1⟩:=q1
 cases r1
 exact not_of (b9 ⟨.bl (!c),H1,I1,rfl,q1⟩)
def tIf (t:TT)(ta tb:TE):TE:=fun σ H Q=>t σ H fun c H1=>if c=true then ta σ H1 Q else tb σ H1 Q
theorem aU4 {c:Expr}(hc:PT X c tA)(ha:PE X a ta)(hb:PE X b tb):PE X (.IfExp c a b pos) (tIf tA ta tb):=by
 intro pins s σ H Q I h
 refine wpAny_IfExp (thn (hc pins s σ H _ I h) fun d s1 ⟨H1,I1,q1⟩=>?_)
 cases d with
 | true=>exact ha pins s1 σ H1 Q I1 q1
 | false=>exact hb pins s1 σ H1 Q I1 q1
end
def SqL (K:ac)(H:Hp)(a:Addr)(xs:List V):Prop :=
 Rd H a (.lst xs) \/
  ∃(o:Obj) (its:Array Value) (n:Nat),K.lookup a=some o/\o.cls=.type "list"/\o.dict=none/\o.data=.seq its n/\its.size<=aH/\Vals xs its.toList
def SqT (K:ac)(H:Hp)(a:Addr)(xs:List V):Prop :=
 Rd H a (.tup xs) \/
  ∃(o:Obj) (its:Array Value) (n:Nat),K.lookup a=some o/\o.cls=.type "tuple"/\o.data=.seq its n/\its.size<=aH/\Vals xs its.toList
noncomputable def bV5:Value->Option V
 | .none=>some .non
 | .bool b=>some (.bl b)
 | .int i _=>some (.int i)
 | .str x _=>some (.str x)
 | .bytes b _=>some (.byt b)
 | .float b _=>some (.flt b)
 | .ref a=>some (.ref a)
 | .type n=>some (.ty n)
 | _=>none
theorem RelV.abs {x:V}{u:Value}(r:RelV x u):bV5 u=some x:=by
 cases x with
 | non=>cases r;rfl
 | bl _=>cases r;rfl
 | int _=>obtain⟨t,rfl⟩:=r;rfl
 | str _=>obtain⟨t,rfl⟩:=r;rfl
 | byt _=>obtain⟨t,rfl⟩:=r;rfl
 | flt _=>obtain⟨t,rfl⟩:=r;rfl
 | ref _=>cases r;rfl
 | ty _=>cases r;rfl
theorem RelV.inj {x y:V}{u:Value}(r:RelV x u)(q:RelV y u):x=y:=az (r.abs.symm.trans q.abs)
theorem Vals.inj:∀ {xs ys:List V} {us:List Value},Vals xs us->Vals ys us->xs=ys
 | _,_,_,.nil,.nil=>rfl
 | _,_,_,.cons r t,.cons r' t'=>by rw[r.inj r',Vals.inj t t']
section
variable {X:Cx} {pins:List (Addr×Obj)} {σ:St} {H:Hp} {s:ae} {a:Addr} {xs ys:List V}
theorem SqL.of {K:ac}(h:H a=some (.lst xs)):SqL K H a xs:=.inl (.inl h)
theorem SqT.of {K:ac}(h:H a=some (.tup xs)):SqT K H a xs:=.inl (.inl h)
theorem Inv.list (I:Inv X pins σ H s)(h:SqL X.K H a xs):∃ its:List Value,Vals xs its/\PlainL s.heap a its.toArray/\xs.length<=aH:=by
 rcases h with h|⟨o,its,n,hk,hc,hd,hs,hz,r⟩
 ·obtain⟨z,its,n,r,e⟩:=h.ok I.hok
  exact⟨its,r,⟨_,n,e,rfl,rfl,rfl⟩,z⟩
 ·refine⟨its.toList,r,⟨o,n,I.kIn a o hk,hc,hd,by simpa using hs⟩,?_⟩
  have e:=r.length
  simp only[gu]at e
  omega
theorem Inv.tuple (I:Inv X pins σ H s)(h:SqT X.K H a xs):∃ its:List Value,Vals xs its/\IsTup s.heap a its.toArray/\xs.length<=aH:=by
 rcases h with h|⟨o,its,n,hk,hc,hs,hz,r⟩
 ·obtain⟨z,its,r,p⟩:=h.ok I.hok
  exact⟨its,r,p,z⟩
 ·refine⟨its.toList,r,⟨o,I.kIn a o hk,hc,n,by simpa using hs⟩,?_⟩
  have e:=r.length
  simp only[gu]at e
  omega
theorem Inv.list_inj (I:Inv X pins σ H s)(h:SqL X.K H a xs)(h':SqL X.K H a ys):xs=ys:=by
 obtain⟨its,r,⟨o,n,e,_,_,d⟩,_⟩:=I.list h
 obtain⟨its',r',⟨o',n',e',_,_,d'⟩,_⟩:=I.list h'
 rw[e]at e';cases e'
 rw[d]at d'
 injection d' with d1 _
 have:its=its':=by simpa using congrArg g6 d1
 subst this
 exact r.inj r'
theorem Inv.tuple_inj (I:Inv X pins σ H s)(h:SqT X.K H a xs)(h':SqT X.K H a ys):xs=ys:=by
 obtain⟨its,r,⟨o,e,_,n,d⟩,_⟩:=I.tuple h
 obtain⟨its',r',⟨o',e',_,n',d'⟩,_⟩:=I.tuple h'
 rw[e]at e';cases e'
 rw[d]at d'
 injection d' with d1 _
 have:its=its':=by simpa using congrArg g6 d1
 subst this
 exact r.inj r'
end
noncomputable abbrev Cx.wish (X:Cx)(E:Value->ae->Prop):Cx:={ X with xe:=E }
noncomputable abbrev Cx.nox (X:Cx):Cx:=X.wish fun _ _=>False
theorem Cx.Ok.wish {X:Cx}(ok:X.Ok)(E:Value->ae->Prop):(X.wish E).Ok :=
 ⟨ok.mod,ok.kind,ok.glob,ok.blt,ok.above,ok.inj,ok.has,ok.cab,ok.hd,ok.frames,ok.stk,ok.exf,ok.bs,ok.bsz,ok.noex,ok.exfs,ok.funs,ok.frf⟩
theorem Cx.Ok.unwish {X:Cx}{E:Value->ae->Prop}(ok:(X.wish E).Ok):X.Ok :=
 ⟨ok.mod,ok.kind,ok.glob,ok.blt,ok.above,ok.inj,ok.has,ok.cab,ok.hd,ok.frames,ok.stk,ok.exf,ok.bs,ok.bsz,ok.noex,ok.exfs,ok.funs,ok.frf⟩
section
variable {X:Cx} {pins:List (Addr×Obj)} {σ:St} {H:Hp} {s:ae} {E:Value->ae->Prop}
theorem Inv.wish (I:Inv X pins σ H s)(E:Value->ae->Prop):Inv (X.wish E) pins σ H s:=⟨I.ok.wish E,I.os,I.bare,I.base,I.loc,I.cell,I.free,I.freeC,I.pin,I.hok,I.len⟩
theorem Inv.unwish (I:Inv (X.wish E) pins σ H s):Inv X pins σ H s:=⟨I.ok.unwish,I.os,I.bare,I.base,I.loc,I.cell,I.free,I.freeC,I.pin,I.hok,I.len⟩
theorem SP.unwish {D:Ends}{f:Flow}{s':ae}(h:SP (X.wish E) pins D f s'):SP X pins D f s':=by
 cases f with
 | next=>obtain⟨σ',H',I,q⟩:=h;exact⟨σ',H',I.unwish,q⟩
 | brk=>obtain⟨σ',H',I,q⟩:=h;exact⟨σ',H',I.unwish,q⟩
 | cont=>obtain⟨σ',H',I,q⟩:=h;exact⟨σ',H',I.unwish,q⟩
 | ret u=>obtain⟨v,σ',H',I,r,q⟩:=h;exact⟨v,σ',H',I.unwish,r,q⟩
theorem PT.nox {e:Expr}{t:TT}(h:PT X.nox e t):PT X e t:=fun pins s σ H Q I hw =>
 bv (h pins s σ H Q (I.wish _) hw) (fun _ _ ⟨H',I',q⟩=>⟨H',I'.unwish,q⟩) fun _ _ z=>aZ z
theorem PSs.nox {st:List Stmt}{t:TS}(h:PSs X.nox st t):PSs X st t:=fun pins s σ H D I hw =>
 bv (h pins s σ H D (I.wish _) hw) (fun _ _ q=>q.unwish) fun _ _ z=>aZ z
end
section
variable {X:Cx} {st:Stmt} {rest:List Stmt} {t u:TS} {e:Expr} {te:TE} {pos:Pos}
def bx0:TS:=fun D σ H=>D.nx σ H
noncomputable def bS2 (t u:TS):TS:=fun D σ H=>t { D with nx:=u D } σ H
theorem aj7:PSs X [] bx0:=fun _ _ σ H _ I h=>cu ⟨σ,H,I,h⟩
theorem zO (h1:PS X st t)(h2:PSs X rest u):PSs X (st::rest) (bS2 t u):=by
 intro pins s σ H D I h
 refine ie (thn (h1 pins s σ H { D with nx:=u D } I h) fun f s1 q=>?_)
 cases f with
 | next =>
  obtain⟨σ',H',I',q⟩:=q
  exact h2 pins s1 σ' H' D I' q
 | ret v=>exact q
 | brk=>exact q
 | cont=>exact q
theorem aN8 (h1:PS X st t):PSs X [st] t:=by
 intro pins s σ H D I h
 refine ie (thn (h1 pins s σ H D I h) fun f s1 q=>?_)
 cases f with
 | next=>exact cu q
 | ret v=>exact q
 | brk=>exact q
 | cont=>exact q
theorem Inv.quiet {pins:List (Addr×Obj)}{σ:St}{H:Hp}{s:ae}(I:Inv X pins σ H s):interactive X.env=false:=by simp[interactive,I.ok.kind]
def bA9 (te:TE):TS:=fun D σ H=>te σ H fun _ H1=>D.nx σ H1
theorem aP7 (he:PE X e te)(hs:dX e none pos.line X.env=pure false:=by rfl):PS X (.Expr e pos) (bA9 te):=by
 intro pins s σ H D I h
 exact wpAny_Expr_any (thn (he pins s σ H _ I h) fun v s1 ⟨x,H1,I1,r1,q1⟩=>⟨σ,H1,I1,q1⟩) I.quiet hs
def bS4 (te:TE):TS:=fun D σ H=>te σ H D.rt
theorem am3 (he:PE X e te):PS X (.Return (some e) pos) (bS4 te):=by
 intro pins s σ H D I h
 exact wpAny_Return_some (thn (he pins s σ H _ I h) fun v s1 ⟨x,H1,I1,r1,q1⟩=>⟨x,σ,H1,I1,r1,q1⟩)
def bT6 (c:TT)(t u:TS):TS:=fun D σ H=>c σ H fun b H1=>if b=true then t D σ H1 else u D σ H1
theorem bn6 {c:Expr}{a b:List Stmt}{tc:TT}(hc:PT X c tc)(ha:PSs X a t)(hb:PSs X b u):PS X (.If c a b pos) (bT6 tc t u):=by
 intro pins s σ H D I h
 refine wpAny_If (thn (hc pins s σ H _ I h) fun d s1 ⟨H1,I1,q1⟩=>?_)
 cases d with
 | true=>exact ha pins s1 σ H1 D I1 q1
 | false=>exact hb pins s1 σ H1 D I1 q1
def bb6:TS:=fun _ _ _=>False
theorem aX8:PS X st bb6:=fun _ _ _ _ _ _ h=>h.elim
theorem af2 {sts:List Stmt}:PSs X sts bb6:=fun _ _ _ _ _ _ h=>h.elim
end
abbrev TG:=V->St->Hp->(St->Hp->Prop)->Prop
abbrev TGs:=List V->St->Hp->(St->Hp->Prop)->Prop
def PG (X:Cx)(target:Expr)(t:TG):Prop :=
 ∀(pins:List (Addr×Obj)) (s:ae) (σ:St) (H:Hp) (v:V) (u:Value) (Q:St->Hp->Prop),Inv X pins σ H s->RelV v u->t v σ H Q ->
  wpAny (model X.prog X.w) X.A (fi target X.env u) (fun _ s'=>∃ σ' H',Inv X pins σ' H' s'/\Q σ' H') X.xe s
def PGs (X:Cx)(ts:List Expr)(t:TGs):Prop :=
 ∀(pins:List (Addr×Obj)) (s:ae) (σ:St) (H:Hp) (vs:List V) (us:List Value) (Q:St->Hp->Prop),Inv X pins σ H s->Vals vs us->t vs σ H Q ->
  wpAny (model X.prog X.w) X.A (assignInOrder ((bT ts X.env).map (·.2)) us) (fun _ s'=>∃ σ' H',Inv X pins σ' H' s'/\Q σ' H') X.xe s
abbrev bI7:=V->V->V->Hp->(Hp->Prop)->Prop
def bK0 (X:Cx)(t:bI7):Prop :=
 ∀(pins:List (Addr×Obj)) (s:ae) (σ:St) (H:Hp) (o i v:V) (ov iv u:Value) (Q:Hp->Prop),Inv X pins σ H s->RelV o ov->RelV i iv->RelV v u->t o i v H Q ->
  wpAny (model X.prog X.w) X.A (setItem ov iv u) (fun _ s'=>∃ H',Inv X pins σ H' s'/\Q H') X.xe s
abbrev TIp:=V->V->Hp->VK->Prop
def PIp (X:Cx)(op:iQ)(t:TIp):Prop :=
 ∀(pins:List (Addr×Obj)) (s:ae) (σ:St) (H:Hp) (x y:V) (v u:Value) (Q:VK),Inv X pins σ H s->RelV x v->RelV y u->t x y H Q ->
  wpAny (model X.prog X.w) X.A (inplaceOp op v u) (EP X pins σ Q) X.xe s
section
variable {X:Cx} {pos:Pos}
def av0 (i:Nat):TG:=fun v σ H Q=>Q (σ.set i (some v)) H
theorem aQ3 {i:Nat}{x:Str}(hN:X.N.Nodup)(hi:X.N[i]?=some x)(hx:Loc X.env.scope x)(hf:X.fn x=true\/X.env.scope.names.lookup x=some .local:=by first|exact .inl rfl|exact .inr rfl|assumption):PG X (.Name x pos) (av0 i):=by
 intro pins s σ H v u Q I r h
 exact g7 (qN I hN hi hx r (fun s' I'=>⟨_,H,I',h⟩) hf)
def bS6:TGs:=fun vs σ H Q=>vs=[]/\Q σ H
def bw8 (t:TG)(u:TGs):TGs:=fun vs σ H Q=>∃ v r,vs=v::r/\t v σ H fun σ' H'=>u r σ' H' Q
theorem bj1:PGs X [] bS6:=by
 intro pins s σ H vs us Q I r h
 obtain⟨e,h⟩:=h
 subst e
 cases r
 exact assignInOrder_nil ⟨σ,H,I,h⟩
theorem aW2 {e:Expr}{es:List Expr}{t:TG}{u:TGs}(h1:PG X e t)(h2:PGs X es u)
  (hs:(bT (e::es) X.env).map (·.2)=fi e X.env::(bT es X.env).map (·.2):=by rfl):PGs X (e::es) (bw8 t u):=by
 intro pins s σ H vs us Q I r h
 obtain⟨v,vr,e1,h⟩:=h
 subst e1
 cases r with
 | cons r rr =>
  rw[hs]
  refine assignInOrder_cons (thn (h1 pins s σ H _ _ _ I r h) fun _ s1 ⟨σ1,H1,I1,q1⟩=>?_)
  exact h2 pins s1 σ1 H1 _ _ Q I1 rr q1
def bO0 (K:ac)(n:Nat)(t:TGs):TG:=fun v σ H Q=>∃ a xs,v=.ref a/\SqT K H a xs/\xs.length=n/\t xs σ H Q
theorem bA7 {es:List Expr}{k:Nat}{t:TGs}{n:Nat}(hc:X.calm=true)(h:PGs X es t)
  (hn:(bT es X.env).length=n:=by rfl) (hst:(bT es X.env).findIdx? (·.1)=none:=by rfl):PG X (.Tuple es k pos) (bO0 X.K n t):=by
 intro pins s σ H v u Q I r hw
 obtain⟨a,xs,e1,hq,hl,hw⟩:=hw
 subst e1
 cases r
 obtain⟨its,rv,ht,hz⟩:=I.tuple hq
 refine assign_Tuple_tuple (I.ok.hd hc) ht (by simp[hn,<-hl,rv.length]) hst fun h' hx=>?_
 have I1:Inv X pins σ H { s with heap:=h' }:=I.kept (t':=s.toks) fun b o e=>hx b o (ax (aA e)) e
 exact h pins _ σ H xs _ Q I1 (by simpa using rv) hw
def bS1 (to ti:TE)(t:bI7):TG:=fun v σ H Q=>to σ H fun o H1=>ti σ H1 fun i H2=>t o i v H2 fun H3=>Q σ H3
theorem bC2 {o i:Expr}{to ti:TE}{t:bI7}(ho:PE X o to)(hi:PE X i ti)(hs:bK0 X t)
  (ha:∀ v,fi (.Subscript o i pos) X.env v=(do
   let ov <- iJ [v] (eval o X.env)
   let iv <- iJ [v,ov] (eval i X.env)
   standAt pos
   iJ [v,ov,iv] (setItem ov iv v)
   release [v,ov,iv] []):=by intro _;rfl):PG X (.Subscript o i pos) (bS1 to ti t):=by
 intro pins s σ H v u Q I r h
 rw[ha]
 refine ar (cN (thn (ho pins s σ H _ I h) fun ov s1 ⟨x,H1,I1,r1,q1⟩=>?_))
 refine ar (cN (thn (hi pins s1 σ H1 _ I1 q1) fun iv s2 ⟨y,H2,I2,r2,q2⟩=>?_))
 refine ar (gC (ar (cN (thn (hs pins s2 σ H2 x y v ov iv u _ I2 r1 r2 r q2) fun _ s3 ⟨H3,I3,q3⟩=>?_))))
 exact wpAny_release ⟨σ,H3,I3,q3⟩
def aU5 (te:TE)(g:TG):TS:=fun D σ H=>te σ H fun x H1=>g x σ H1 D.nx
theorem bg2 {tg e:Expr}{te:TE}{g:TG}(he:PE X e te)(hg:PG X tg g)(hs:swapsWithSole [tg] e pos.line X.env=pure false:=by rfl)(hw:gD [tg] e X.env=pure none:=by rfl)
  (h1:(bT [tg] X.env).map (·.2)=[fi tg X.env]:=by rfl):PS X (.Assign [tg] e pos) (aU5 te g):=by
 intro pins s σ H D I h
 refine wpAny_Assign_stores (thn (he pins s σ H _ I h) fun v s1 ⟨x,H1,I1,r1,q1⟩=>?_) hs hw
 rw[h1]
 exact thn (hg pins s1 σ H1 x v _ I1 r1 q1) fun _ s2 q=>q
theorem bd9 {i:Nat}{x:Str}{e:Expr}{te:TE}{pos':Pos}(hN:X.N.Nodup)(hi:X.N[i]?=some x)(hx:Loc X.env.scope x)(he:PE X e te)(hs:dX e (some (.Name x pos')) pos.line X.env=pure false:=by rfl)(hf:X.fn x=true\/X.env.scope.names.lookup x=some .local:=by first|exact .inl rfl|exact .inr rfl|assumption) :
  PS X (.Assign [.Name x pos'] e pos) (aU5 te (av0 i)):=by
 intro pins s σ H D I h
 refine wpAny_Assign_Name (thn (he pins s σ H _ I h) fun v s1 ⟨y,H1,I1,r1,q1⟩=>?_) hs
 exact qN I1 hN hi hx r1 (fun s2 I2=>⟨_,H1,I2,q1⟩) hf
def bR5 (i:Nat)(te:TE)(ti:TIp):TS:=fun D σ H=>∃ x,σ[i]?=some (some x)/\te σ H fun y H1=>ti x y H1 fun z H2=>D.nx (σ.set i (some z)) H2
theorem bv1 {i:Nat}{x:Str}{e:Expr}{te:TE}{op:iQ}{ti:TIp}{pos':Pos}(hN:X.N.Nodup)(hi:X.N[i]?=some x)(hx:Loc X.env.scope x)(he:PE X e te)(ho:PIp X op ti)(hf:X.fn x=true\/X.env.scope.names.lookup x=some .local:=by first|exact .inl rfl|exact .inr rfl|assumption) :
  PS X (.AugAssign (.Name x pos') op e pos) (bR5 i te ti):=by
 intro pins s σ H D I h
 obtain⟨v,e1,h⟩:=h
 obtain⟨m,hn,hl⟩:=I.loc
 have vis:Vis X.env.scope x:=by rcases hx with k|k;exact .inl k;exact .inr (.inl k)
 obtain⟨u,r,l⟩:=hl i x v hi e1 vis
 refine wpAny_AugAssign_Name ?_
 have go:wpAny (model X.prog X.w) X.A (eval e X.env) (fun w s₂=>wpAny (model X.prog X.w) X.A (inplaceOp op u w) (fun r s₃=>wpAny (model X.prog X.w) X.A (dW X.env x r) (fun _=>SP X pins D .next) X.xe s₃) X.xe s₂) X.xe s:=by
  refine thn (he pins s σ H _ I h) fun w s1 ⟨y,H1,I1,r1,q1⟩=>?_
  refine thn (ho pins s1 σ H1 v y u w _ I1 r r1 q1) fun z s2 ⟨zv,H2,I2,r2,q2⟩=>?_
  exact qN I2 hN hi hx r2 (fun s3 I3=>⟨_,H2,I3,q2⟩) hf
 rcases l with⟨hk,hm⟩|⟨hk,c,hc,hcell⟩
 ·exact fS I.ok.kind hk hn hm go
 ·rcases hk with hk|hk
  ·exact gr I.ok.kind hk hc hcell go
  ·rcases hx with k|k
   ·have:X.env.scope.names.lookup x=some .free:=hk
    rw[k]at this;cases this
   ·have:X.env.scope.names.lookup x=some .free:=hk
    rw[k]at this;cases this
def ipI (f:Int->Int->Int):TIp:=fun x y H Q=>∃ i j,x=.int i/\y=.int j/\Q (.int (f i j)) H
theorem bC6:PIp X .Add (ipI fun i j=>i+j):=by
 intro pins s σ H x y v u Q I r1 r2 h
 obtain⟨i,j,e1,e2,q⟩:=h
 subst e1;subst e2
 obtain⟨t,rfl⟩:=r1
 obtain⟨t',rfl⟩:=r2
 exact iadd_int ⟨.int _,H,I.tok _,⟨_,rfl⟩,q⟩
end
section
variable {X:Cx} {pos:Pos}
def bb3 (c:TT)(tb:TS):TS:=fun D σ H=>∃ W:Nat->St->Hp->Prop,(∃ m,W m σ H)/\∀ m σ H,W m σ H ->
 c σ H fun b H1=>if b=true then ∃ N:St->Hp->Prop,(∀ σ' H',N σ' H'->∃ m',m'<m/\W m' σ' H')/\tb { D with nx:=N,ct:=N,bk:=D.nx } σ H1 else D.nx σ H1
theorem aY2 {c:Expr}{body:List Stmt}{tc:TT}{tb:TS}(hp:PassesOwn (model X.prog X.w) X.A X.env X.xe)(hc:PT X c tc)(hb:PSs X body tb):PS X (.While c body [] pos) (bb3 tc tb):=by
 intro pins s σ H D I h
 obtain⟨W,⟨m0,w0⟩,turn⟩:=h
 refine wpAny_While (codeAny_whileLoop (fun n s'=>∃ σ' H',Inv X pins σ' H' s'/\W n σ' H') ?_ m0 ⟨σ,H,I,w0⟩)
 rintro n s1 ⟨σ1,H1,I1,w1⟩
 refine b7 hp (thn (hc pins s1 σ1 H1 _ I1 (turn n σ1 H1 w1)) fun b s2 ⟨H2,I2,q2⟩=>?_)
 cases b with
 | true =>
  obtain⟨N,hN,q2⟩:=q2
  rw[if_pos rfl]
  refine b7 hp (thn (hb pins s2 σ1 H2 _ I2 q2) fun f s3 q3=>?_)
  cases f with
  | next =>
   obtain⟨σ3,H3,I3,n3⟩:=q3
   obtain⟨m',hm,w3⟩:=hN σ3 H3 n3
   exact⟨m',hm,σ3,H3,I3,w3⟩
  | cont =>
   obtain⟨σ3,H3,I3,n3⟩:=q3
   obtain⟨m',hm,w3⟩:=hN σ3 H3 n3
   exact⟨m',hm,σ3,H3,I3,w3⟩
  | brk=>exact q3
  | ret v=>exact q3
 | false =>
  rw[if_neg aP]
  exact cu ⟨σ1,H2,I2,q2⟩
end
structure It where
 go:Nat->Hp->Prop
 yld:Nat->Hp->V->Hp->Prop
 stop:Nat->Hp->Prop
def FpOk (X:Cx)(pins:List (Addr×Obj))(H:Hp)(b:Addr):Prop :=
 H b=none/\b≠X.env.locals/\b ∉ X.fs/\(b∈X.ex\/X.s₀.heap.objs.size<=b)/\(∀ x c,X.env.cells.lookup x=some c->c≠b)/\∀ p∈X.pn++pins,p.1≠b
theorem Inv.fpOk {X:Cx}{pins:List (Addr×Obj)}{σ:St}{H H':Hp}{s:ae}{b:Addr}(I:Inv X pins σ H s)(hb:s.heap.objs.size<=b)(hn:H' b=none):FpOk X pins H' b:=by
 refine⟨hn,cJ (am I.lt hb),I.nofs hb,.inr (aw I.sz hb),fun x c e z=>?_,fun p hp z=>?_⟩
 ·obtain⟨v,q⟩:=I.cell x c e
  exact absurd (am q.lt (by rw[z];exact hb)) (bu _)
 ·exact absurd (am (aA (I.pin p hp).1) (by rw[z];exact hb)) (bu _)
structure Turn (P:aC)(w:World)(K:ac)(tg:Expr)(J:It)(fp:List Addr)(it:Addr)(tn:Nat->Heap->Prop):Prop where
 mem:it∈fp
 obj:∀ i h,tn i h->∀ b∈fp,∃ o,h.get? b=some o/\∀ v,o.data≠.cell v
 keep:∀ i h h',tn i h->(∀ b∈fp,∀ o,h.get? b=some o->h'.get? b=some o)->tn i h'
 item:∀(X:Cx),X.prog=P->X.w=w->X.K=K->X.calm=true->∀(i:Nat) (pins:List (Addr×Obj)) (s:ae) (σ:St) (H:Hp) (E:Value->ae->Prop),Inv X pins σ H s->(∀ b∈fp,FpOk X pins H b)->tn i s.heap->J.go i H ->
  wpAny (model P w) X.A (pyNext (.ref it)) (fun r s1=>∃ u,r=some u /\
   wpAny (model P w) X.A (dI tg (.ref it) u) (fun _ s2=>∃ x H',Inv X pins σ H' s2/\RelV x u/\J.yld i H x H'/\tn (i+1) s2.heap/\∀ b∈fp,H' b=none) E s1) E s
 done:∀(X:Cx),X.prog=P->X.w=w->X.K=K->X.calm=true->∀(i:Nat) (pins:List (Addr×Obj)) (s:ae) (σ:St) (H:Hp) (E:Value->ae->Prop),Inv X pins σ H s->(∀ b∈fp,FpOk X pins H b)->tn i s.heap->J.stop i H ->
  wpAny (model P w) X.A (pyNext (.ref it)) (fun r s1=>r=none/\Inv X pins σ H s1) E s
 self:∀(A:aO) (i:Nat) (s:ae) (Q:Value->ae->Prop) (E:Value->ae->Prop),tn i s.heap->Q (.ref it) s->wpAny (model P w) A (jg (.ref it)) Q E s
abbrev TI:=St->Hp->(It->Hp->Prop)->Prop
def PIE (X:Cx)(pins:List (Addr×Obj))(σ:St)(tg:Expr)(R:It->Hp->Prop)(itv:Value)(s2:ae):Prop :=
 ∃(it:Addr) (fp:List Addr) (tn:Nat->Heap->Prop) (J:It) (H':Hp),itv=.ref it/\Inv X pins σ H' s2/\Turn X.prog X.w X.K tg J fp it tn/\tn 0 s2.heap/\(∀ b∈fp,FpOk X pins H' b)/\R J H'
def PI (X:Cx)(tg iter:Expr)(wi:TI):Prop :=
 ∀(pins:List (Addr×Obj)) (s:ae) (σ:St) (H:Hp) (R:It->Hp->Prop),Inv X pins σ H s->wi σ H R ->
  wpAny (model X.prog X.w) X.A (eval iter X.env) (fun v s1=>wpAny (model X.prog X.w) X.A (jg v) (PIE X pins σ tg R) X.xe s1) X.xe s
theorem aU2 {M : Model} {A : Around} {E : Value -> Shared -> Prop} {s : Shared} {tg : Expr} {it : Addr} {u : Value} {o : Obj} {n : String} {vs : Array Value} {Q : Unit -> Shared -> Prop} (ho : s.heap.get? it = some o) (hc : o.cls = .type n) (hd : o.data = .fields vs)
    (hn : ["enumerate", "zip", "dict_itemiterator", "dict_reverseitemiterator", "odict_iterator", "itertools.zip_longest", "itertools.pairwise"].contains n = false) (hQ : Q () s) : wpAny M A (dI tg (.ref it) u) Q E s := by
  unfold dI
  cases tg <;> first
    | exact aN hQ
    | (cases u <;> first
        | exact aN hQ
        | (refine ar (wpAny_load ho ?_)
           rw[hc, hd]
           show wpAny M A (if(["enumerate", "zip", "dict_itemiterator", "dict_reverseitemiterator", "odict_iterator", "itertools.zip_longest", "itertools.pairwise"].contains n && vs[0]? == some (cc _)) = true then _ else _) Q E s
           rw[if_neg (by intro h; rw[hn, Bool.false_and]at h; cases h)]
           exact aN hQ))
noncomputable def Itl (K:ac)(a:Addr):It :=
 ⟨fun i H=>∃ xs x,SqL K H a xs/\xs[i]?=some x,fun i H x H'=>H'=H/\∀ xs,SqL K H a xs->xs[i]?=some x,fun i H=>∃ xs,SqL K H a xs/\xs.length<=i⟩
noncomputable def Itt (K:ac)(a:Addr):It :=
 ⟨fun i H=>∃ xs x,SqT K H a xs/\xs[i]?=some x,fun i H x H'=>H'=H/\∀ xs,SqT K H a xs->xs[i]?=some x,fun i H=>∃ xs,SqT K H a xs/\xs.length<=i⟩
noncomputable def Itr (lo:Int)(n:Nat):It:=⟨fun i _=>i<n,fun i H x H'=>H'=H/\x=.int (lo+i),fun i _=>n<=i⟩
theorem aL8 {P:aC}{w:World}{K:ac}{tg:Expr}(a it:Addr):Turn P w K tg (Itl K a) [it] it (fun i h=>h.IsListIter it a i) where
 mem:=by simp
 obj:=fun i h st b hb=>by
  have e:b=it:=by simpa using hb
  subst e
  obtain⟨o,e,c,d⟩:=st
  exact⟨o,e,fun v z=>by rw[d]at z;cases z⟩
 keep:=fun i h h' st k=>st.at fun o e=>k it (by simp) o e
 item:=by
  intro X hP hw hK hc i pins s σ H E I hf st hg
  subst hP hw hK
  obtain⟨xs,x,hq,hx⟩:=hg
  obtain⟨its,rv,p,hz⟩:=I.list hq
  obtain⟨u,hu,ru⟩:=rv.get hx
  obtain⟨f0,f1,f2,f3,f4,f5⟩:=hf it (by simp)
  refine wpAny_pyNext_list_item st p.isList (x:=u) (by simpa using hu) fun h' st' sb=>?_
  have I1:Inv X pins σ H { s with heap:=h' }:=I.turned (t':=s.toks) (fun b o hb e=>(sb.2 b hb).trans e) f0 f1 f3 f4 f5
  obtain⟨o,e,c,d⟩:=id st'
  exact⟨u,rfl,aU2 (s:={ s with heap:=h' }) e c d (by decide) ⟨x,H,I1,ru,⟨rfl,fun ys hy=>by rw[I.list_inj hy hq];exact hx⟩,st',fun b hb=>(hf b hb).1⟩⟩
 done:=by
  intro X hP hw hK hc i pins s σ H E I hf st hg
  subst hP hw hK
  obtain⟨xs,hq,hx⟩:=hg
  obtain⟨its,rv,p,hz⟩:=I.list hq
  obtain⟨f0,f1,f2,f3,f4,f5⟩:=hf it (by simp)
  have hl:=rv.length
  exact wpAny_pyNext_list_end (I.ok.hd hc) st p.isList (by simp;omega) fun h' eb=>⟨rfl,I.turned (t':=s.toks) (fun b o hb e=>eb b o hb e) f0 f1 f3 f4 f5⟩
 self:=fun _ _ _ _ _ st h=>wpAny_pyIter_listiter st h
theorem aF6 {P:aC}{w:World}{K:ac}{tg:Expr}(a it:Addr):Turn P w K tg (Itt K a) [it] it (fun i h=>h.IsTupleIter it a i) where
 mem:=by simp
 obj:=fun i h st b hb=>by
  have e:b=it:=by simpa using hb
  subst e
  obtain⟨o,e,c,d⟩:=st
  exact⟨o,e,fun v z=>by rw[d]at z;cases z⟩
 keep:=fun i h h' st k=>st.at fun o e=>k it (by simp) o e
 item:=by
  intro X hP hw hK hc i pins s σ H E I hf st hg
  subst hP hw hK
  obtain⟨xs,x,hq,hx⟩:=hg
  obtain⟨its,rv,p,hz⟩:=I.tuple hq
  obtain⟨u,hu,ru⟩:=rv.get hx
  obtain⟨f0,f1,f2,f3,f4,f5⟩:=hf it (by simp)
  refine wpAny_pyNext_tuple_item st (show s.heap.IsTuple a its.toArray from p) (x:=u) (by simpa using hu) fun h' st' sb=>?_
  have I1:Inv X pins σ H { s with heap:=h' }:=I.turned (t':=s.toks) (fun b o hb e=>(sb.2 b hb).trans e) f0 f1 f3 f4 f5
  obtain⟨o,e,c,d⟩:=id st'
  exact⟨u,rfl,aU2 (s:={ s with heap:=h' }) e c d (by decide) ⟨x,H,I1,ru,⟨rfl,fun ys hy=>by rw[I.tuple_inj hy hq];exact hx⟩,st',fun b hb=>(hf b hb).1⟩⟩
 done:=by
  intro X hP hw hK hc i pins s σ H E I hf st hg
  subst hP hw hK
  obtain⟨xs,hq,hx⟩:=hg
  obtain⟨its,rv,p,hz⟩:=I.tuple hq
  obtain⟨f0,f1,f2,f3,f4,f5⟩:=hf it (by simp)
  have hl:=rv.length
  exact wpAny_pyNext_tuple_end (I.ok.hd hc) st (show s.heap.IsTuple a its.toArray from p) (by simp;omega) fun h' eb=>⟨rfl,I.turned (t':=s.toks) (fun b o hb e=>eb b o hb e) f0 f1 f3 f4 f5⟩
 self:=fun _ _ _ _ _ st h=>wpAny_pyIter_tupleiter st h
theorem aF0 {P:aC}{w:World}{K:ac}{tg:Expr}(it:Addr)(lo:Int)(n:Nat):Turn P w K tg (Itr lo n) [it] it (fun i h=>IsRangeIter h it (lo+(i:Nat)*1) ((n:Int) - (i:Nat)) 1) where
 mem:=by simp
 obj:=fun i h st b hb=>by
  have e:b=it:=by simpa using hb
  subst e
  exact⟨_,st,fun v z=>by
   have z':Data.fields _=Data.cell v:=z
   cases z'⟩
 keep:=fun i h h' st k=>k it (by simp) _ st
 item:=by
  intro X hP hw hK hc i pins s σ H E I hf st hg
  subst hP hw hK
  obtain⟨f0,f1,f2,f3,f4,f5⟩:=hf it (by simp)
  have W:=Walks.range (prog:=X.prog) (w:=X.w) (I.ok.hd hc) it lo 1 n
  refine W.item i s _ _ hg st fun v h' tk hv st' kk=>?_
  obtain⟨t,rfl⟩:=hv
  have I1:Inv X pins σ H { s with heap:=h',toks:=tk }:=I.turned (fun b o hb e=>kk b o (by simpa using hb) e) f0 f1 f3 f4 f5
  refine⟨_,rfl,aU2 (s:={ s with heap:=h',toks:=tk }) (n := "range_iterator") st' rfl rfl (by decide) ⟨.int (lo+i),H,I1,⟨t,?_⟩,⟨rfl,rfl⟩,st',fun b hb=>(hf b hb).1⟩⟩
  rw[Int.mul_one]
 done:=by
  intro X hP hw hK hc i pins s σ H E I hf st hg
  subst hP hw hK
  obtain⟨f0,f1,f2,f3,f4,f5⟩:=hf it (by simp)
  exact wpAny_pyNext_range_end (I.ok.hd hc) st (by have:n<=i:=hg;omega) fun h' eb=>⟨rfl,I.turned (t':=s.toks) (fun b o hb e=>eb b o hb e) f0 f1 f3 f4 f5⟩
 self:=fun _ _ _ _ _ st h=>wpAny_pyIter_rangeiter st h
section
variable {X:Cx} {tg:Expr}
def bl7 (K:ac)(tl:TE):TI:=fun σ H R=>tl σ H fun x H1=>∃ a,x=.ref a/\(∃ xs,SqL K H1 a xs)/\R (Itl K a) H1
def bP7 (K:ac)(tl:TE):TI:=fun σ H R=>tl σ H fun x H1=>∃ a,x=.ref a/\(∃ xs,SqT K H1 a xs)/\R (Itt K a) H1
theorem bo3 {l:Expr}{tl:TE}(hl:PE X l tl):PI X tg l (bl7 X.K tl):=by
 intro pins s σ H R I h
 refine thn (hl pins s σ H _ I h) fun v s1 ⟨x,H1,I1,r1,q1⟩=>?_
 obtain⟨a,e,⟨xs,hq⟩,q⟩:=q1
 subst e
 cases r1
 obtain⟨its,rv,p,hz⟩:=I1.list hq
 refine cZ p.isList ?_
 refine⟨s1.heap.objs.size,[s1.heap.objs.size],_,_,H1,rfl,I1.kept (t':=s1.toks) fun b o e=>ak _ e,aL8 a _,⟨_,aS _ rfl,rfl,rfl⟩,fun b hb=>?_,q⟩
 have e:b=s1.heap.objs.size:=by simpa using hb
 subst e
 exact I1.fpOk (ai _) (I1.hok.fresh (ai _))
theorem bH1 {l:Expr}{tl:TE}(hl:PE X l tl):PI X tg l (bP7 X.K tl):=by
 intro pins s σ H R I h
 refine thn (hl pins s σ H _ I h) fun v s1 ⟨x,H1,I1,r1,q1⟩=>?_
 obtain⟨a,e,⟨xs,hq⟩,q⟩:=q1
 subst e
 cases r1
 obtain⟨its,rv,p,hz⟩:=I1.tuple hq
 refine gM (show s1.heap.IsTuple a its.toArray from p) ?_
 refine⟨s1.heap.objs.size,[s1.heap.objs.size],_,_,H1,rfl,I1.kept (t':=s1.toks) fun b o e=>ak _ e,aF6 a _,⟨_,aS _ rfl,rfl,rfl⟩,fun b hb=>?_,q⟩
 have e:b=s1.heap.objs.size:=by simpa using hb
 subst e
 exact I1.fpOk (ai _) (I1.hok.fresh (ai _))
theorem aT2 {pins:List (Addr×Obj)}{σ:St}{H:Hp}{s:ae}{R:It->Hp->Prop}{E:Value->ae->Prop}{lo hi:Int}{t u v:Tok}{tk:Nat}(I:Inv X pins σ H s)(h1:-(2^62)<=lo)(h2:lo<2^62)(h3:-(2^62)<=hi)(h4:hi<2^62)
  (q:R (Itr lo (hi - lo).toNat) H):wpAny (model X.prog X.w) X.A (jg (.ref s.heap.objs.size)) (PIE X pins σ tg R) E { s with heap:=s.heap.push { cls:=.type "range",data:=.fields #[.int lo t,.int hi u,.int 1 v] },toks:=tk }:=by
 refine wpAny_pyIter_range (IsRange.new ..) (small_one h1 h2 h3 h4) ?_
 have I1:Inv X pins σ H { s with heap:=s.heap.push { cls:=.type "range",data:=.fields #[.int lo t,.int hi u,.int 1 v] },toks:=tk }:=I.kept fun b o e=>ak _ e
 refine⟨(s.heap.push { cls:=.type "range",data:=.fields #[.int lo t,.int hi u,.int 1 v] }).objs.size,[(s.heap.push { cls:=.type "range",data:=.fields #[.int lo t,.int hi u,.int 1 v] }).objs.size],_,_,H,rfl,
  I1.kept (t':=tk) fun b o e=>ak _ e,aF0 _ lo (hi - lo).toNat,?_,fun b hb=>?_,q⟩
 ·have e1:lo+((0:Nat):Int)*1=lo:=by simp
  have e2:(((hi - lo).toNat:Nat):Int) - ((0:Nat):Int)=jb lo hi 1:=by rw[rangeSize_one];split<;>omega
  show IsRangeIter _ _ (lo+((0:Nat):Int)*1) ((((hi - lo).toNat:Nat):Int) - ((0:Nat):Int)) 1
  rw[e1,e2]
  exact aS _ rfl
 ·have e:b=(s.heap.push { cls:=.type "range",data:=.fields #[.int lo t,.int hi u,.int 1 v] }).objs.size:=by simpa using hb
  subst e
  exact I1.fpOk (ai _) (I1.hok.fresh (ai _))
def bu2 (ta:TA):TI:=fun σ H R=>ta σ H fun vs H1=>∃ j:Int,vs=[.int j]/\-(2^62)<=j/\j<2^62/\R (Itr 0 j.toNat) H1
theorem aH8 {a:Expr}{ta:TA}{p pos:Pos}(hg:Gl X "range")(hm:X.mg "range"=none)(ha:PA X [a] ta)(hs:bh [a] X.env=[(false,eval a X.env)]:=by rfl):PI X tg (.Call (.Name "range" p) [a] [] pos) (bu2 ta):=by
 intro pins s σ H R I h
 refine Call_ (az8 I hg hm boot_range (dR (thn (ha pos pins s σ H _ I h) fun us s1 ⟨vs,H1,I1,r1,q1⟩=>?_) hs rfl))
 obtain⟨j,e,q1,q2,q⟩:=q1
 subst e
 cases r1 with
 | cons r rr =>
  cases rr
  obtain⟨t,rfl⟩:=r
  exact call_range_1 (aT2 I1 (by omega) (by omega) q1 q2 (by simpa using q))
def bQ8 (wi:TI)(g:TG)(tb:TS):TS:=fun D σ H=>wi σ H fun J H1=>∃ W:Nat->Nat->St->Hp->Prop,(∃ m,W 0 m σ H1)/\∀ i m σ H,W i m σ H ->
 (J.stop i H/\D.nx σ H)\/(J.go i H/\∃ N:St->Hp->Prop,(∀ σ' H',N σ' H'->∃ m',m'<m/\W (i+1) m' σ' H')/\∀ x H',J.yld i H x H'->g x σ H' fun σ2 H2=>tb { D with nx:=N,ct:=N,bk:=D.nx } σ2 H2)
noncomputable def au3 (fp:List Addr)(h:Heap):List (Addr×Obj):=fp.filterMap fun b=>(h.get? b).map fun o=>(b,o)
theorem qM {fp:List Addr}{h:Heap}{b:Addr}{o:Obj}(hb:b∈fp)(e:h.get? b=some o):(b,o)∈au3 fp h:=dZ.mpr ⟨b,hb,by rw[e];rfl⟩
theorem aK0 {fp:List Addr}{h:Heap}{p:Addr×Obj}(hp:p∈au3 fp h):p.1∈fp/\h.get? p.1=some p.2:=by
 obtain⟨b,hb,e⟩:=dZ.mp hp
 cases q:h.get? b with
 | none=>rw[q]at e;cases e
 | some o =>
  rw[q]at e
  have e':(b,o)=p:=az e
  subst e'
  exact⟨hb,q⟩
theorem Inv.pinned {pins:List (Addr×Obj)}{σ:St}{H:Hp}{s:ae}{fp:List Addr}(I:Inv X pins σ H s)(hf:∀ b∈fp,FpOk X pins H b)(ho:∀ b∈fp,∃ o,s.heap.get? b=some o/\∀ v,o.data≠.cell v):Inv X (pins++au3 fp s.heap) σ H s :=
 I.pins_of fun p hp=>(bZ.mp hp).elim (fun z=>I.pin p (aK _ z)) fun z=>by
  obtain⟨hb,e⟩:=aK0 z
  obtain⟨f0,f1,f2,_⟩:=hf p.1 hb
  obtain⟨o,e',d⟩:=ho p.1 hb
  rw[e]at e';cases e'
  exact⟨e,f0,f1,f2,d⟩
theorem Inv.unpinned {pins pl:List (Addr×Obj)}{σ:St}{H:Hp}{s:ae}(I:Inv X (pins++pl) σ H s):Inv X pins σ H s:=I.pins_of fun p hp=>I.pin p (aK _ (b8 _ hp))
theorem bG5 {iter:Expr}{body:List Stmt}{wi:TI}{g:TG}{tb:TS}{pos:Pos}(hp:PassesOwn (model X.prog X.w) X.A X.env X.xe)(hc:X.calm=true)(hi:PI X tg iter wi)(hg:PG X tg g)(hb:PSs X body tb)
  (hs:∀ x,cE iter X.env x=pure x:=by intro _;rfl):PS X (.For tg iter body [] pos) (bQ8 wi g tb):=by
 intro pins s σ H D I h
 refine wpAny_For (thn (hi pins s σ H _ I h) fun v s1 h1=>thn h1 fun itv s2 h2=>?_) hs
 obtain⟨it,fp,tn,J,H2,e,I2,T,st2,f2,W,⟨m0,w0⟩,turn⟩:=h2
 subst e
 have stat:∀ {H':Hp},(∀ b∈fp,H' b=none)->∀ b∈fp,FpOk X pins H' b:=fun hn b hb=>⟨hn b hb,(f2 b hb).2⟩
 refine codeAny_forLoop_any (fun n s'=>∃ i σ' H',Inv X pins σ' H' s'/\tn i s'.heap/\(∀ b∈fp,H' b=none)/\W i n σ' H') ?_ m0 ⟨0,σ,H2,I2,st2,fun b hb=>(f2 b hb).1,w0⟩
 rintro n s3 ⟨i,σ3,H3,I3,st3,fr3,w3⟩
 rcases turn i n σ3 H3 w3 with⟨stop,qn⟩|⟨go,N,hN,step⟩
 ·refine b7 hp (thn (T.done X rfl rfl rfl hc i pins s3 σ3 H3 X.xe I3 (stat fr3) st3 stop) fun r s4 ⟨hr,I4⟩=>?_)
  subst hr
  exact cu ⟨σ3,H3,I4,qn⟩
 ·refine b7 hp (thn (T.item X rfl rfl rfl hc i pins s3 σ3 H3 X.xe I3 (stat fr3) st3 go) fun r s4 ⟨u,hr,h4⟩=>?_)
  subst hr
  refine b7 hp (thn h4 fun _ s5 ⟨x,H5,I5,r5,y5,st5,fr5⟩=>?_)
  have I5':=I5.pinned (stat fr5) (T.obj _ _ st5)
  refine b7 hp (thn (hg _ s5 σ3 H5 x u _ I5' r5 (step x H5 y5)) fun _ s6 ⟨σ6,H6,I6,q6⟩=>?_)
  refine b7 hp (thn (hb _ s6 σ6 H6 _ I6 q6) fun f s7 q7=>?_)
  have again:∀ {σ7:St} {H7:Hp},Inv X (pins++au3 fp s5.heap) σ7 H7 s7->N σ7 H7->∃ m,m<n/\∃ i σ' H',Inv X pins σ' H' s7/\tn i s7.heap/\(∀ b∈fp,H' b=none)/\W i m σ' H':=fun {σ7 H7} I7 n7=>by
   obtain⟨m',hm,w7⟩:=hN σ7 H7 n7
   refine⟨m',hm,i+1,σ7,H7,I7.unpinned,T.keep _ _ _ st5 fun b hb o e=>(I7.pin (b,o) (aK _ (aK _ (qM hb e)))).1,fun b hb=>?_,w7⟩
   obtain⟨o,e,d⟩:=T.obj _ _ st5 b hb
   exact(I7.pin (b,o) (aK _ (aK _ (qM hb e)))).2.1
  cases f with
  | next=>obtain⟨σ7,H7,I7,n7⟩:=q7;exact again I7 n7
  | cont=>obtain⟨σ7,H7,I7,n7⟩:=q7;exact again I7 n7
  | brk=>obtain⟨σ7,H7,I7,q7⟩:=q7;exact⟨σ7,H7,I7.unpinned,q7⟩
  | ret v=>obtain⟨x7,σ7,H7,I7,r7,q7⟩:=q7;exact⟨x7,σ7,H7,I7.unpinned,r7,q7⟩
end
abbrev R2:=V->V->Hp->VK->Prop
def OpR (X:Cx)(f:Value->Value->Sem Value)(r:R2):Prop :=
 ∀(pins:List (Addr×Obj)) (s:ae) (σ:St) (H:Hp) (x y:V) (v u:Value) (Q:VK),Inv X pins σ H s->RelV x v->RelV y u->r x y H Q ->
  wpAny (model X.prog X.w) X.A (f v u) (EP X pins σ Q) X.xe s
def ab8 (X:Cx)(f:Value)(r:List V->Hp->VK->Prop):Prop :=
 ∀(pins:List (Addr×Obj)) (s:ae) (σ:St) (H:Hp) (xs:List V) (us:List Value) (Q:VK),Inv X pins σ H s->Vals xs us->r xs H Q ->
  wpAny (model X.prog X.w) X.A (call f us) (EP X pins σ Q) X.xe s
def tOp (r:R2)(ta tb:TE):TE:=fun σ H Q=>ta σ H fun x H1=>tb σ H1 fun y H2=>r x y H2 Q
def rI (C:Int->Int->Prop)(g:Int->Int->V):R2:=fun x y H Q=>∃ i j,x=.int i/\y=.int j/\C i j/\Q (g i j) H
def rI0 (g:Int->Int->V):R2:=fun x y H Q=>∃ i j,x=.int i/\y=.int j/\Q (g i j) H
section
variable {X:Cx} {a b c:Expr} {ta tb tc:TE} {pos:Pos}
theorem bP0 (ha:PE X a ta)(hb:PE X b tb){pins:List (Addr×Obj)}{s:ae}{σ:St}{H:Hp}{R:V->V->Hp->Prop}(I:Inv X pins σ H s)
  (h:ta σ H fun x H1=>tb σ H1 fun y H2=>R x y H2) {Q:Value->ae->Prop} {f:Value->Value->Sem Value}
  (hf:∀ v u s2 x y H2,Inv X pins σ H2 s2->RelV x v->RelV y u->R x y H2->wpAny (model X.prog X.w) X.A (f v u) Q X.xe s2) :
  wpAny (model X.prog X.w) X.A (eval a X.env) (fun v s₁=>wpAny (model X.prog X.w) X.A (eval b X.env) (fun u s₂=>wpAny (model X.prog X.w) X.A (f v u) Q X.xe s₂) X.xe s₁) X.xe s:=by
 refine thn (ha pins s σ H _ I h) fun v s1 ⟨x,H1,I1,r1,q1⟩=>?_
 refine thn (hb pins s1 σ H1 _ I1 q1) fun u s2 ⟨y,H2,I2,r2,q2⟩=>?_
 exact hf v u s2 x y H2 I2 r1 r2 q2
theorem bO9 {op:iQ}{r:R2}(ho:OpR X (bM op) r)(ha:PE X a ta)(hb:PE X b tb):PE X (.BinOp a op b pos) (tOp r ta tb):=by
 intro pins s σ H Q I h
 exact wpAny_BinOp (bP0 ha hb I h fun v u s2 x y H2 I2 rx ry q=>ho pins s2 σ H2 x y v u Q I2 rx ry q)
theorem opI {f:Value->Value->Sem Value}{C:Int->Int->Prop}{g:Int->Int->Int}
  (rule:∀(i j:Int) (t u:Tok) (s:ae) (Q:Value->ae->Prop) (E:Value->ae->Prop),C i j->Q (.int (g i j) s.toks) { s with toks:=s.toks+1 }->wpAny (model X.prog X.w) X.A (f (.int i t) (.int j u)) Q E s) :
  OpR X f (rI C fun i j=>.int (g i j)):=by
 intro pins s σ H x y v u Q I rx ry h
 obtain⟨i,j,rfl,rfl,hc,q⟩:=h
 obtain⟨t,rfl⟩:=rx
 obtain⟨t',rfl⟩:=ry
 exact rule i j t t' s _ _ hc ⟨.int (g i j),H,I.tok _,⟨_,rfl⟩,q⟩
theorem bT2 {f:Value->Value->Sem Value}{g:Int->Int->Int}
  (rule:∀(i j:Int) (t u:Tok) (s:ae) (Q:Value->ae->Prop) (E:Value->ae->Prop),Q (.int (g i j) s.toks) { s with toks:=s.toks+1 }->wpAny (model X.prog X.w) X.A (f (.int i t) (.int j u)) Q E s) :
  OpR X f (rI0 fun i j=>.int (g i j)):=by
 intro pins s σ H x y v u Q I rx ry h
 obtain⟨i,j,rfl,rfl,q⟩:=h
 obtain⟨t,rfl⟩:=rx
 obtain⟨t',rfl⟩:=ry
 exact rule i j t t' s _ _ ⟨.int (g i j),H,I.tok _,⟨_,rfl⟩,q⟩
theorem bH6 {f:Value->Value->Sem Value}{g:Int->Int->Bool}
  (rule:∀(i j:Int) (t u:Tok) (s:ae) (Q:Value->ae->Prop) (E:Value->ae->Prop),Q (.bool (g i j)) s->wpAny (model X.prog X.w) X.A (f (.int i t) (.int j u)) Q E s) :
  OpR X f (rI0 fun i j=>.bl (g i j)):=by
 intro pins s σ H x y v u Q I rx ry h
 obtain⟨i,j,rfl,rfl,q⟩:=h
 obtain⟨t,rfl⟩:=rx
 obtain⟨t',rfl⟩:=ry
 exact rule i j t t' s _ _ ⟨.bl (g i j),H,I,rfl,q⟩
def bR3 (i j:Int):Prop:=0<=j/\j<=1000000/\i.natAbs<2^64
def bI6 (i j:Int):Prop:=(-(2^64)<i/\i<2^64)\/(-(2^64)<j/\j<2^64)
theorem bI6.ok {i j:Int}(h:bI6 i j):IntMulOk i j:=by
 rcases h with⟨h1,h2⟩|⟨h1,h2⟩
 ·exact .of_left (intBits_le_64 h1 h2)
 ·exact .of_right (intBits_le_64 h1 h2)
theorem aE8 (k:Nat):(0:Int)<=2^k:=by
 rw[two_pow_cast]
 exact Int.natCast_nonneg _
theorem bC9:OpR X (bM .Add) (rI0 fun i j=>.int (i+j)):=bT2 fun _ _ _ _ _ _ _ q=>add_int q
theorem bx7:OpR X (bM .Sub) (rI0 fun i j=>.int (i - j)):=bT2 fun _ _ _ _ _ _ _ q=>sub_int q
theorem bv2:OpR X (bM .Mod) (rI (fun _ j=>0<j) fun i j=>.int (i % j)):=opI fun i j _ _ _ _ _ hc q=>by
 have h1:(0:Int)<j:=hc
 exact mod_int' (by omega) (by rw[Int.fmod_eq_emod_of_nonneg i (by omega)];exact q)
theorem bw3:OpR X (bM .Pow) (rI bR3 fun i j=>.int (i^j.toNat)):=opI fun _ _ _ _ _ _ _ hc q=>pow_int_small hc.1 hc.2.1 hc.2.2 q
theorem bz9:OpR X (bM .LShift) (rI bR3 fun i j=>.int (i*2^j.toNat)):=opI fun _ _ _ _ _ _ _ hc q=>lshift_int_small hc.1 hc.2.1 hc.2.2 q
theorem bw2:OpR X (bM .RShift) (rI (fun _ j=>0<=j) fun i j=>.int (i / 2^j.toNat)):=opI fun i j _ _ _ _ _ hc q =>
 rshift_int hc (by rw[d0 i (aE8 _)];exact q)
end
section
variable {X:Cx} {a b c:Expr} {ta tb tc:TE} {pos:Pos}
theorem by3 {pins:List (Addr×Obj)}{σ:St}{H:Hp}{s:ae}{Q:VK}{k k':Bool}(I:Inv X pins σ H s)(q:Q (.bl k) H)(e:k=k'):EP X pins σ Q (.bool k') s:=by
 subst e
 exact⟨.bl k,H,I,rfl,q⟩
theorem bL2:OpR X (dk .Lt) (rI0 fun i j=>.bl (decide (i<j))):=bH6 fun _ _ _ _ _ _ _ q=>lt_int q
theorem bK3:OpR X (dk .LtE) (rI0 fun i j=>.bl (decide (i<=j))):=bH6 fun _ _ _ _ _ _ _ q=>le_int q
theorem bN3:OpR X (dk .Gt) (rI0 fun i j=>.bl (decide (j<i))):=bH6 fun _ _ _ _ _ _ _ q=>gt_int q
theorem bL6:OpR X (dk .GtE) (rI0 fun i j=>.bl (decide (j<=i))):=bH6 fun _ _ _ _ _ _ _ q=>ge_int q
theorem aQ1 {op:CmpOp}{r:R2}(ho:OpR X (dk op) r)(ha:PE X a ta)(hb:PE X b tb)(hm:gE op b=false):PE X (.Compare a [op] [b] pos) (tOp r ta tb):=by
 intro pins s σ H Q I h
 exact wpAny_Compare1 (bP0 ha hb I h fun v u s2 x y H2 I2 rx ry q=>ho pins s2 σ H2 x y v u Q I2 rx ry q) hm
def bw1 (t:TE):TT:=fun σ H Q=>t σ H fun x H'=>∃ k,x=.bl k/\Q k H'
theorem aJ0 {op:CmpOp}{r:R2}(ho:OpR X (dk op) r)(ha:PE X a ta)(hb:PE X b tb)(hm:gE op b=false):PT X (.Compare a [op] [b] pos) (bw1 (tOp r ta tb)):=by
 intro pins s σ H Q I h
 refine wpAny_isTrue_Compare1 (thn (ha pins s σ H _ I h) fun v s1 ⟨x,H1,I1,r1,q1⟩=>thn (hb pins s1 σ H1 _ I1 q1) fun u s2 ⟨y,H2,I2,r2,q2⟩ =>
  thn (ho pins s2 σ H2 x y v u _ I2 r1 r2 q2) fun c s3 ⟨z,H3,I3,r3,k,e,q3⟩=>?_) hm
 subst e
 cases r3
 exact b9 ⟨H3,I3,q3⟩
theorem ak1:(aH:Nat)<2^63:=by rw[eh];decide
theorem aD8:OpR X (bM .Add) (fun x y H Q=>∃ i j,x=.str i/\y=.str j/\i.length+j.length<=aH/\Q (.str (i++j)) H):=by
 intro pins s σ H x y v u Q I rx ry h
 obtain⟨i,j,rfl,rfl,hz,q⟩:=h
 obtain⟨t,rfl⟩:=rx
 obtain⟨t',rfl⟩:=ry
 exact add_str (fun t' tk=>⟨.str (i++j),H,I.tok _,⟨_,rfl⟩,q⟩) hz
theorem ak7 {x:V}{us:List Value}(r:Vals [x] us):∃ u,us=[u]/\RelV x u:=by
 cases r with
 | cons r1 r2=>cases r2;exact⟨_,rfl,r1⟩
theorem aU7 {x y:V}{us:List Value}(r:Vals [x,y] us):∃ u w',us=[u,w']/\RelV x u/\RelV y w':=by
 cases r with
 | cons r1 r2 =>
  cases r2 with
  | cons r3 r4=>cases r4;exact⟨_,_,rfl,r1,r3⟩
theorem aT6:ab8 X (.builtin "abs") (fun xs H Q=>∃ i,xs=[.int i]/\Q (.int (if i<0 then -i else i)) H):=by
 intro pins s σ H xs us Q I r h
 obtain⟨i,rfl,q⟩:=h
 obtain⟨u,rfl,t,rfl⟩:=ak7 r
 exact call_abs_int fun u tk=>⟨.int (if i<0 then -i else i),H,I.tok _,⟨_,rfl⟩,q⟩
theorem aL1 (hc:X.calm=true):ab8 X (.builtin "max") (fun xs H Q=>∃ i j,xs=[.int i,.int j]/\Q (.int (if j > i then j else i)) H):=by
 intro pins s σ H xs us Q I r h
 obtain⟨i,j,rfl,q⟩:=h
 obtain⟨u,w',rfl,⟨t,rfl⟩,⟨t',rfl⟩⟩:=aU7 r
 refine max_two_ints (I.ok.hd hc) fun h' tk k=>⟨_,H,I.kept k,?_,q⟩
 by_cases hj:j > i
 ·rw[if_pos hj,if_pos hj];exact⟨_,rfl⟩
 ·rw[if_neg hj,if_neg hj];exact⟨_,rfl⟩
theorem aQ7 (hc:X.calm=true):ab8 X (.builtin "min") (fun xs H Q=>∃ i j,xs=[.int i,.int j]/\Q (.int (if j<i then j else i)) H):=by
 intro pins s σ H xs us Q I r h
 obtain⟨i,j,rfl,q⟩:=h
 obtain⟨u,w',rfl,⟨t,rfl⟩,⟨t',rfl⟩⟩:=aU7 r
 refine min_two_ints (I.ok.hd hc) fun h' tk k=>⟨_,H,I.kept k,?_,q⟩
 by_cases hj:j<i
 ·rw[if_pos hj,if_pos hj];exact⟨_,rfl⟩
 ·rw[if_neg hj,if_neg hj];exact⟨_,rfl⟩
theorem aR4:ab8 X (.type "int") (fun xs H Q=>(∃ i,xs=[.int i]/\Q (.int i) H)\/∃ k,xs=[.bl k]/\Q (.int (if k then 1 else 0)) H):=by
 intro pins s σ H xs us Q I r h
 rcases h with⟨i,rfl,q⟩|⟨k,rfl,q⟩
 ·obtain⟨u,rfl,t,rfl⟩:=ak7 r
  exact call_int_int ⟨.int i,H,I,⟨_,rfl⟩,q⟩
 ·obtain⟨u,rfl,r1⟩:=ak7 r
  cases r1
  exact call_int_bool ⟨.int (if k then 1 else 0),H,I.tok _,⟨_,rfl⟩,q⟩
end
structure ObjM (h:Heap)(x dx C:Addr)(mA:Str->Option Value):Prop where
 obj:h.get? x=some (fG C dx)
 ns:h.Ns1 dx mA
 ne:dx≠x
theorem aI5 {h:Heap}{dx:Addr}{mA:Str->Option Value}(n:h.Ns1 dx mA):∃ od,h.get? dx=some od/\∀ name,fT name od=some (mA name):=by
 obtain⟨o,es,ep,ho,hd,hk,_,hm⟩:=n
 refine⟨o,ho,fun name=>?_⟩
 have e:=hm name
 unfold nsFind findBy at e
 rw[<-Array.find?_toList]at e
 unfold fT
 rw[hd]
 dsimp only
 split
 ·rename_i y q
  rw[q]at e
  exact congrArg some e
 ·rename_i q
  rw[q]at e
  have a:es.toList.any (·.refKey)=false:=by
   rw[List.any_eq_false]
   intro y hy
   obtain⟨z,t,hkey⟩:=hk y (Array.mem_toList_iff.mp hy)
   simp[DictEntry.refKey,hkey]
  have a':¬ es.toList.any (·.refKey)=true:=by rw[a];exact aP
  rw[if_neg a']
  exact congrArg some e
theorem ObjM.look {h:Heap}{x dx C:Addr}{mA:Str->Option Value}(I:ObjM h x dx C mA):∃ od,PySem.W.InstAt h x (fG C dx) C (some od)/\∀ name,fT name od=some (mA name) :=
 let⟨od,ho,hl⟩:=aI5 I.ns
 ⟨od,⟨I.obj,rfl,rfl,ho⟩,hl⟩
section
variable {prog:aC} {w:World} {A:aO} {E:Value->ae->Prop} {s:ae} {K:ac} {x dx C f:Addr} {mA:Str->Option Value} {name:Str} {v:Value}
end
theorem aF2.some_of {v:V}{o:Option Value}(r:aF2 (some v) o):∃ u,o=some u/\RelV v u:=by
 cases o with
 | none=>exact(show False from r).elim
 | some u=>exact⟨u,rfl,r⟩
section
variable {P:aC} {w:World} {H H':Hp} {h h':Heap} {a C dx:Addr} {fs fs':List (Str×V)}
theorem bk2 (hok:HOk P w H h)(e:H a=some (.ins C dx fs)):∃ mA,ObjM h a dx C mA/\(∀ f,aF2 (fs.lookup f) (mA f))/\jf mA (fs.map (·.1))/\fs.length<=1000/\H dx=some (.own a):=by
 obtain⟨d,z,ne,ob,mA,n,r,q⟩:=(show ab6 P w H h a (.ins C dx fs)from hok a _ e)
 exact⟨mA,⟨ob,n,ne⟩,r,q,z,d⟩
end
structure Cls (K:ac)(C:Addr):Prop where
 pg:ig K C Str.empty=true
 hd:PySem.W.hasDictIn K C=true
 po:PySem.W.plainOver K C=true
 sa:bD K (.ref C) "__setattr__"=some (some (.builtin "object.__setattr__"))
theorem Cls.get {K:ac}{C:Addr}(c:Cls K C)(f:Str):ig K C f=true:=c.pg
section
variable {X:Cx} {pins:List (Addr×Obj)} {σ:St} {H:Hp} {s:ae} {a C dx:Addr} {fs:List (Str×V)} {f:Str} {v:V} {A:aO} {E:Value->ae->Prop}
end
section
variable {X:Cx} {o e value:Expr} {f:Str} {pos pos' tpos:Pos} {ta tv:TE}
end
section
variable {X:Cx} {pins:List (Addr×Obj)} {σ:St} {H:Hp} {s:ae} {A:aO} {E:Value->ae->Prop} {Q:Value->ae->Prop} {c:Value} {b:Bool}
inductive TyOf (K:ac)(H:Hp):V->Value->Prop where
 | non:TyOf K H .non (.type "NoneType")
 | bl (x:Bool):TyOf K H (.bl x) (.type "bool")
 | int (i:Int):TyOf K H (.int i) (.type "int")
 | str (x:Str):TyOf K H (.str x) (.type "str")
 | flt (x:UInt64):TyOf K H (.flt x) (.type "float")
 | lst {a:Addr} {xs:List V} (e:H a=some (.lst xs)):TyOf K H (.ref a) (.type "list")
 | frz {a:Addr} {o:Obj} {xs:List V} (e:H a=some (.frz o (.lst xs))):TyOf K H (.ref a) (.type "list")
 | tup {a:Addr} {xs:List V} (e:H a=some (.tup xs)):TyOf K H (.ref a) (.type "tuple")
 | dK {a:Addr} {kvs:List (Key×V)} (e:H a=some (.dK kvs)):TyOf K H (.ref a) (.type "dict")
 | dT {a:Addr} {kvs:List (List Key×V)} (e:H a=some (.dT kvs)):TyOf K H (.ref a) (.type "dict")
 | ins {a C dx:Addr} {fs:List (Str×V)} (e:H a=some (.ins C dx fs)) (cl:Cls K C) (ha:bD K (.ref C) "__class__"=some (some (.builtin "object.__class__")))
   (hn:c4 K (.builtin "object.__class__") "__get__"=some (some (.builtin "getset_descriptor.__get__"))) (htk:dJ K (.builtin "object.__class__")=some true)
   (hm:eI K C (.type "object")=some true):TyOf K H (.ref a) (.ref C)
theorem qF {x:V}{u t:Value}(I:Inv X pins σ H s)(rx:RelV x u)(ty:TyOf X.K H x t)(e:bA X.K t c=some b)(h:∀ tk,Q (.bool b) { s with toks:=tk }) :
  wpAny (model X.prog X.w) A (call (.builtin "isinstance") [u,c]) Q E s:=by
 cases ty with
 | non=>cases(show u=Value.none from rx);exact bz PySem.W.kitx_none I.kIn True.intro e (fun z=>nomatch z) h
 | bl y=>cases(show u=Value.bool y from rx);exact bz PySem.W.kitx_bool I.kIn True.intro e (fun z=>nomatch z) h
 | int i=>obtain⟨t,q⟩:=(show ∃ t,u=Value.int i t from rx);cases q;exact bz PySem.W.kitx_int I.kIn True.intro e (fun z=>nomatch z) h
 | str y=>obtain⟨t,q⟩:=(show ∃ t,u=Value.str y t from rx);cases q;exact bz PySem.W.kitx_str I.kIn True.intro e (fun z=>nomatch z) h
 | flt y=>obtain⟨t,q⟩:=(show ∃ t,u=Value.float y t from rx);cases q;exact bz PySem.W.kitx_float I.kIn True.intro e (fun z=>nomatch z) h
 | @lst a xs ea =>
  cases(show u=Value.ref a from rx)
  obtain⟨_,_,n,_,h1⟩:=(show ab6 X.prog X.w H s.heap a (.lst xs)from I.hok a _ ea)
  exact bz g8 I.kIn ⟨_,h1,rfl⟩ e (fun z=>nomatch z) h
 | @frz a ob xs ea =>
  cases(show u=Value.ref a from rx)
  obtain⟨_,_,_,n,_,h1⟩:=(show ab6 X.prog X.w H s.heap a (.frz ob (.lst xs))from I.hok a _ ea)
  exact bz g8 I.kIn ⟨_,h1,rfl⟩ e (fun z=>nomatch z) h
 | @tup a xs ea =>
  cases(show u=Value.ref a from rx)
  obtain⟨_,_,_,p⟩:=(show ab6 X.prog X.w H s.heap a (.tup xs)from I.hok a _ ea)
  obtain⟨o,h1,h2,_⟩:=p
  exact bz gN I.kIn ⟨o,h1,h2⟩ e (fun z=>nomatch z) h
 | @dK a kvs ea =>
  cases(show u=Value.ref a from rx)
  obtain⟨_,_,vs,_,p⟩:=(show ab6 X.prog X.w H s.heap a (.dK kvs)from I.hok a _ ea)
  obtain⟨o,es,ep,h1,h2,_⟩:=p
  exact bz g9 I.kIn ⟨o,h1,h2.1⟩ e (fun z=>nomatch z) h
 | @dT a kvs ea =>
  cases(show u=Value.ref a from rx)
  obtain⟨_,_,xs,_,o,es,ep,h1,h2,_⟩:=(show ab6 X.prog X.w H s.heap a (.dT kvs)from I.hok a _ ea)
  exact bz g9 I.kIn ⟨o,h1,h2.1⟩ e (fun z=>nomatch z) h
 | @ins a C dx fs ea cl ha hn htk hm =>
  cases(show u=Value.ref a from rx)
  obtain⟨mA,O,_⟩:=bk2 I.hok ea
  obtain⟨od,J,_⟩:=O.look
  exact bz (PySem.W.kitx_own (cl.get _) cl.hd ha hn htk hm) I.kIn J e (fun z=>nomatch z) h
end
structure Room (k:Nat)(A:aO):Prop where
 hd:A.handled=none
 dp:A.depth+3*k+5<recursionLimit
 un:A.units+16*k+200<cLine
theorem Room.mono {j k:Nat}{A:aO}(r:Room k A)(h:j<=k):Room j A:=⟨r.hd,by have:=r.dp;omega,by have:=r.un;omega⟩
theorem Room.deeper {k:Nat}{A:aO}(r:Room (k+1) A)(env:Env):Room k (A.deeper env) :=
 ⟨r.hd,by have:=r.dp;show A.depth+1+3*k+5<_;omega,by have:=r.un;show A.units+3+16*k+200<_;omega⟩
theorem Room.in1 {k:Nat}{A:aO}(r:Room (k+1) A):Room k A.in1 :=
 ⟨r.hd,by have:=r.dp;show A.depth+3*k+5<_;omega,by have:=r.un;show A.units+1+16*k+200<_;omega⟩
theorem Room.depth {k:Nat}{A:aO}(r:Room k A):A.depth<recursionLimit:=by have:=r.dp;omega
theorem Room.units {k:Nat}{A:aO}(r:Room k A):A.units+64<cLine:=by have:=r.un;omega
theorem Room.units0 {k:Nat}{A:aO}(r:Room k A):A.units<cLine:=by have:=r.un;omega
def aU0:TA:=fun _ H Q=>Q [] H
def ap6 (ta:TE)(tr:TA):TA:=fun σ H Q=>ta σ H fun x H1=>tr σ H1 fun xs H2=>Q (x::xs) H2
section
variable {X:Cx} {e:Expr} {es:List Expr} {te:TE} {t:TA} {pos:Pos}
theorem ac7:PA X [] aU0:=fun _ _ _ _ H Q I h=>Calls.spliced_nil ⟨[],H,I,.nil,h⟩
theorem zF (ha:PE X e te)(hr:PA X es t)(hs:bh (e::es) X.env=(false,eval e X.env)::bh es X.env:=by rfl):PA X (e::es) (ap6 te t):=by
 intro pos pins s σ H Q I h
 rw[hs]
 show wpAny _ _ (spliced ((false,eval e X.env)::cL pos (bh es X.env))) _ _ s
 refine Calls.spliced_cons (thn (ha pins s σ H _ I h) fun u s1 ⟨x,H1,I1,r1,q1⟩=>?_)
 exact thn (hr pos pins s1 σ H1 _ I1 q1) fun us s2 ⟨xs,H2,I2,r2,q2⟩=>⟨x::xs,H2,I2,.cons r1 r2,q2⟩
def bR0 (t:TA):TE:=fun σ H Q=>t σ H fun xs H1=>xs.length<=aH/\∀ p,H1 p=none->Q (.ref p) (upd H1 p (.tup xs))
def bV3 (t:TA):TE:=fun σ H Q=>t σ H fun xs H1=>xs.length<=aH/\∀ p,H1 p=none->Q (.ref p) (upd H1 p (.lst xs))
theorem be8 {x1}(h:PA X es t):PE X (.Tuple es x1 pos) (bR0 t):=by
 intro pins s σ H Q I hq
 refine wpAny_Tuple_spliced (thn (h pos pins s σ H _ I hq) fun us s1 ⟨xs,H1,I1,r,z,q⟩=>⟨by rw[<-r.length];exact z,?_⟩)
 have hf:H1 s1.heap.objs.size=none:=I1.hok.fresh (ai _)
 refine⟨.ref s1.heap.objs.size,upd H1 s1.heap.objs.size (.tup xs),I1.laid (t':=s1.toks) (fun b u e=>ak _ e) (ai _) ?_,rfl,q _ hf⟩
 exact⟨z,us,r,⟨_,aS _ rfl,rfl,_,rfl⟩⟩
theorem bc7 (h:PA X es t):PE X (.List es pos) (bV3 t):=by
 intro pins s σ H Q I hq
 refine wpAny_List_spliced (thn (h pos pins s σ H _ I hq) fun us s1 ⟨xs,H1,I1,r,z,q⟩=>⟨by rw[<-r.length];exact z,?_⟩)
 have hf:H1 s1.heap.objs.size=none:=I1.hok.fresh (ai _)
 refine⟨.ref s1.heap.objs.size,upd H1 s1.heap.objs.size (.lst xs),I1.laid (t':=s1.toks) (fun b u e=>ak _ e) (ai _) ?_,rfl,q _ hf⟩
 exact⟨z,us,0,r,aS _ rfl⟩
end
abbrev Sp:=List V->Hp->VK->XK->Prop
abbrev CXT:=List Env->Hp->ae->XK->Value->ae->Prop
structure Env0 (P:aC)(w:World)(K:ac)(mg:Str->Option Value)(base:Heap)(A:aO)(outer:List Env)(s:ae)(H:Hp):Prop where
 frames:A.frames=some outer
 mod:Mod K mg base
 bs:∀ b o,base.get? b=some o->s.heap.get? b=some o/\H b=none
 bsz:base.objs.size<=s.heap.objs.size
 funs:s.heap.FunFrames base outer
 frf:∀ b∈frs outer,H b=none
 hok:HOk P w H s.heap
 bare:dQ s.gens
def CE (outer:List Env)(P:aC)(w:World)(H:Hp)(s:ae)(Q:VK)(u:Value)(s':ae):Prop :=
 ∃ v H',s'.os=s.os/\dQ s'.gens/\Un (frs outer) [] H H' s.heap s'.heap/\HOk P w H' s'.heap/\RelV v u/\Q v H'
def CR (CX:CXT)(outer:List Env)(P:aC)(w:World)(H:Hp)(s:ae)(Q:VK)(E:XK)(r:iR)(s':ae):Prop :=
 match r with
 | .ok (.ret u)=>CE outer P w H s Q u s'
 | .ok _=>False
 | .error e=>CX outer H s E e s'
structure FnOk (P:aC)(w:World)(K:ac)(mg:Str->Option Value)(base:Heap)(CX:CXT)(k:Nat)(f:Addr)(fd:bw)(ps:List Str)(sp:Sp):Prop where
 len:∀ vs H Q E,sp vs H Q E->vs.length=ps.length
 run:∀(A:aO) (outer:List Env) (s:ae) (H:Hp) (args:Args) (us:List Value) (vs:List V) (Q:VK) (E:XK),Room k A->Env0 P w K mg base A outer s H->iK s fd args (ps.zip us)->Vals vs us->sp vs H Q E ->
  fj (model P w) A (.call (.ref f) args) (CR CX outer P w H s Q E) s
theorem FnOk.imp {P:aC}{w:World}{K:ac}{mg:Str->Option Value}{base:Heap}{CX:CXT}{k:Nat}{f:Addr}{fd:bw}{ps:List Str}{sp sp':Sp}(F:FnOk P w K mg base CX k f fd ps sp)
  (h:∀ vs H Q E,sp' vs H Q E->sp vs H Q E):FnOk P w K mg base CX k f fd ps sp' :=
 ⟨fun vs H Q E q=>F.len vs H Q E (h _ _ _ _ q),fun A outer s H args us vs Q E hr he hb hv hs=>F.run A outer s H args us vs Q E hr he hb hv (h _ _ _ _ hs)⟩
section
variable {X:Cx} {pins:List (Addr×Obj)} {σ:St} {H:Hp} {s s':ae}
theorem Inv.env0 (I:Inv X pins σ H s):Env0 X.prog X.w X.K X.mg X.base X.A X.stack s H :=
 ⟨I.ok.frames,I.ok.mod,I.bs,aw I.ok.bsz I.sz,I.stack,I.stkFree,I.hok,I.bare⟩
theorem Inv.after {Q:VK}{u:Value}(I:Inv X pins σ H s)(h:CE X.stack X.prog X.w H s Q u s'):EP X pins σ Q u s':=by
 obtain⟨v,H',os,bare,un,hok,r,q⟩:=h
 obtain⟨hh,g,d,t,os'⟩:=s'
 obtain rfl:os'=s.os:=os
 exact⟨v,H',I.call (h':=hh) (g':=g) (d':=d) (t':=t) (ch:=[]) un hok bare (fun b z=>absurd z (by simp)),r,q⟩
end
def aE3 (sp:Sp)(dvs:List V)(E:XK)(t:TA):TE:=fun σ H Q=>t σ H fun vs H1=>sp (vs++dvs) H1 Q E
def Binds (K:ac)(fd:bw)(ps:List Str)(ds:List Value):Prop :=
 ∀(s:ae) (us:List Value),K.In s.heap->(us++ds).length=ps.length->iK s fd ⟨us,[]⟩ (ps.zip (us++ds))
theorem Binds.all {K:ac}{fd:bw}{ps:List Str}(h:∀ us:List Value,us.length=ps.length->dC fd ⟨us,[]⟩=pure (ps.zip us)):Binds K fd ps []:=fun s us _ hl=>by
 rw[bj]at hl ⊢
 exact .of_eq (h us hl)
def ae2 (CX:CXT)(X:Cx)(E:XK):Prop:=∀(pins:List (Addr×Obj)) (σ:St) (H:Hp) (s:ae) (e:Value) (s':ae),Inv X pins σ H s->CX X.stack H s E e s'->X.xe e s'
section
variable {X:Cx} {CX:CXT} {k:Nat} {f C:Addr} {fd:bw} {ps:List Str} {sp:Sp} {dvs:List V} {ds:List Value} {E:XK} {x m:Str} {p pos apos:Pos} {e o:Expr} {es:List Expr} {ta:TE} {t:TA}
theorem bb8 {pins:List (Addr×Obj)}{σ:St}{H:Hp}{s:ae}{Q:VK}{us:List Value}{vs:List V}(F:FnOk X.prog X.w X.K X.mg X.base CX k f fd ps sp)(hr:Room k X.A)(hb:Binds X.K fd ps ds)(hd:Vals dvs ds)(hx:ae2 CX X E)
  (I:Inv X pins σ H s) (r:Vals vs us) (h:sp (vs++dvs) H Q E):wpAny (model X.prog X.w) X.A (call (.ref f) us) (EP X pins σ Q) X.xe s:=by
 have r2:Vals (vs++dvs) (us++ds):=r.append hd
 have hl:(us++ds).length=ps.length:=by rw[<-r2.length];exact F.len _ _ _ _ h
 refine fm (dS (F.run X.A X.stack s H ⟨us,[]⟩ (us++ds) (vs++dvs) Q E hr I.env0 (hb s us I.kIn hl) r2 h) fun r s' hq=>?_)
 cases r with
 | error e=>exact hx pins σ H s e s' I hq
 | ok fl =>
  cases fl with
  | ret u=>exact I.after hq
  | next=>exact aZ hq
  | brk=>exact aZ hq
  | cont=>exact aZ hq
theorem aS6 (F:FnOk X.prog X.w X.K X.mg X.base CX k f fd ps sp)(hr:Room k X.A)(hg:Gl X x)(hm:X.mg x=some (.ref f))(hk:bN X.K (.ref f)=true)(hb:Binds X.K fd ps ds)(hd:Vals dvs ds)(hx:ae2 CX X E)
  (ha:PA X (e::es) t) (hdb:(x==("__debug__":Str))=false:=by decide) (he:bh (e::es) X.env=(false,eval e X.env)::bh es X.env:=by rfl) (hpl:(cL pos (bh es X.env)).any (·.1)=false:=by rfl) :
  PE X (.Call (.Name x p) (e::es) [] pos) (aE3 sp dvs E t):=by
 intro pins s σ H Q I h
 refine bU (ao8 I hg hm ?_ hdb)
 refine gO (h₀:=X.base) I.ok.mod.kin hk (thn (ha pos pins s σ H _ I h) fun us s1 ⟨vs,H1,I1,r,q⟩=>⟨I1.kIn,?_⟩) he hpl
 exact bb8 F hr hb hd hx I1 r q
theorem aY9 (F:FnOk X.prog X.w X.K X.mg X.base CX k f fd ps sp)(hr:Room k X.A)(hg:Gl X x)(hm:X.mg x=some (.ref f))(hk:bN X.K (.ref f)=true)(hb:Binds X.K fd ps ds)(hd:Vals dvs ds)(hx:ae2 CX X E)
  (hdb:(x==("__debug__":Str))=false:=by decide):PE X (.Call (.Name x p) [] [] pos) (aE3 sp dvs E aU0):=by
 intro pins s σ H Q I h
 refine bU (ao8 I hg hm ?_ hdb)
 exact PySem.W.callWith_K0 I.kIn hk (bb8 (us:=[]) F hr hb hd hx I .nil h)
structure Mk (K:ac)(C f:Addr):Prop where
 makes:PySem.W.makesIn K C=true
 init:bD K (.ref C) "__init__"=some (some (.ref f))
 fn:PySem.W.isFn K (.ref f)=true
 kp:bN K (.ref C)=true
end
section
variable {X:Cx} {CX:CXT} {k:Nat} {f C:Addr} {fd:bw} {ps ks:List Str} {sp:Sp} {E:XK} {x m:Str} {p pos apos kpos:Pos} {e o:Expr} {es:List Expr} {kws:List gj} {te ta:TE} {t tk:TA} {nm:Option Str}
variable {g:List Value->List Value->List Value} {gV:List V->List V->List V}
end
structure FnScope (N P:List Str)(sc:Scope):Prop where
 kind:sc.kind=.function
 co:sc.isCoroutine=false
 gen:sc.isGenerator=false
 nd:N.Nodup
 pre:N.take P.length=P
 par:∀ x∈P,sc.names.lookup x=some .local\/sc.names.lookup x=some .cell
 nofree:∀ y∈sc.names,y.2≠.free
theorem ar7 {dm:Str->Option bE}{x:Str}:∀ {binds:List (Str×Value)} {m:Str->Option Value},(∀ v,(x,v) ∉ binds)->bindL dm binds m x=m x
 | [],_,_=>rfl
 | (n,v)::r,m,h=>by
  unfold bindL
  rw[ar7 fun w hw=>h w (ah _ hw)]
  split
  ·have:x≠n:=by rintro rfl;exact h v aq
   simp[this]
  ·rfl
theorem au5 {dm:Str->Option bE}{x:Str}:∀ {binds:List (Str×Value)} {m:Str->Option Value},(∀ v,(x,v) ∉ binds)->bindC dm binds m x=m x
 | [],_,_=>rfl
 | (n,v)::r,m,h=>by
  unfold bindC
  rw[au5 fun w hw=>h w (ah _ hw)]
  split
  ·rfl
  ·have:x≠n:=by rintro rfl;exact h v aq
   simp[this]
theorem aj5 {dm:Str->Option bE}{x:Str}{v:Value}:∀ {P:List Str} {vs:List Value} {i:Nat} {m:Str->Option Value},P.Nodup->P[i]?=some x->vs[i]?=some v->dm x=some .local ->
  bindL dm (P.zip vs) m x=some v
 | [],_,_,_,_,h,_,_=>by simp at h
 | _::_,[],_,_,_,_,h,_=>by simp at h
 | p::P,w::vs,0,m,nd,h1,h2,hk=>by
  simp at h1 h2;subst h1;subst h2
  show bindL dm ((p,w)::P.zip vs) m p=_
  unfold bindL
  rw[ar7 fun v hv=>(cw.mp nd).1 (cT hv).1,if_pos hk]
  simp
 | p::P,w::vs,i+1,m,nd,h1,h2,hk=>by
  show bindL dm ((p,w)::P.zip vs) m x=_
  unfold bindL
  exact aj5 (i:=i) (cw.mp nd).2 (by simpa using h1) (by simpa using h2) hk
theorem aj2 {dm:Str->Option bE}{x:Str}{v:Value}:∀ {P:List Str} {vs:List Value} {i:Nat} {m:Str->Option Value},P.Nodup->P[i]?=some x->vs[i]?=some v->dm x≠some .local ->
  bindC dm (P.zip vs) m x=some v
 | [],_,_,_,_,h,_,_=>by simp at h
 | _::_,[],_,_,_,_,h,_=>by simp at h
 | p::P,w::vs,0,m,nd,h1,h2,hk=>by
  simp at h1 h2;subst h1;subst h2
  show bindC dm ((p,w)::P.zip vs) m p=_
  unfold bindC
  rw[au5 fun v hv=>(cw.mp nd).1 (cT hv).1,if_neg hk]
  simp
 | p::P,w::vs,i+1,m,nd,h1,h2,hk=>by
  show bindC dm ((p,w)::P.zip vs) m x=_
  unfold bindC
  exact aj2 (i:=i) (cw.mp nd).2 (by simpa using h1) (by simpa using h2) hk
noncomputable def ae9 (N:List Str)(vs:List V):St:=vs.map some++av (N.length - vs.length) none
noncomputable def aq4 (CX:CXT)(P:aC)(w:World)(K:ac)(mg:Str->Option Value)(base:Heap)(N:List Str)(qual:Str)(scope:Scope)(f:Addr)(cd:Value)(A:aO)(outer:List Env)(s:ae)(H:Hp)(E:XK):Cx where
 prog:=P
 w:=w
 K:=K
 mg:=mg
 base:=base
 A:=A.deeper (dL qual scope s.heap.objs.size f cd)
 N:=N
 s₀:=s
 H₀:=H
 env:=dL qual scope s.heap.objs.size f cd
 outer:=outer
 stack:=dL qual scope s.heap.objs.size f cd::outer
 ex:=[]
 calm:=true
 fn:=fun _=>true
 pn:=[]
 xe:=fun e s'=>wpAny (model P w) (A.deeper (dL qual scope s.heap.objs.size f cd)) (leaving (dL qual scope s.heap.objs.size f cd) e) (fun _ s''=>CX outer H s E e s'') (fun e' s''=>CX outer H s E e' s'') s'
theorem zX {sc:Scope}{n:Nat}{x:Str}(h:sc.names.lookup x=some .cell):∃ c,(aF n sc.names []).lookup x=some c:=by
 have q:=fq sc.names n [] (.inl h)
 exact eJ.mp q
theorem aL0 {CX:CXT}{P:aC}{w:World}{K:ac}{mg:Str->Option Value}{base:Heap}{N ps:List Str}{qual:Str}{scope:Scope}{f:Addr}{cd:Value}{A:aO}{outer:List Env}{s s1:ae}{H:Hp}{E:XK}{us:List Value}{vs:List V}
  (S:FnScope N ps scope) (hd:A.handled=none) (e0:Env0 P w K mg base A outer s H) (hl:vs.length=ps.length) (r:Vals vs us)
  (x:el s s.heap.objs.size (bindL (dL qual scope s.heap.objs.size f cd).kindOf (ps.zip us) fun _=>none) (aF (s.heap.objs.size+1) scope.names []) (bindC (dL qual scope s.heap.objs.size f cd).kindOf (ps.zip us) fun _=>none) s1) :
  Inv (aq4 CX P w K mg base N qual scope f cd A outer s H E) [] (ae9 N vs) H s1:=by
 have hpl:ps.length<=N.length:=by have:=congrArg fU S.pre;rw[dq]at this;omega
 obtain⟨h1,tk,rfl,hk⟩:=x.done
 have noA:∀ b:Addr,b ∉ (aq4 CX P w K mg base N qual scope f cd A outer s H E).ex:=fun b z=>absurd (show b∈([]:List Addr)from z) (by simp)
 refine⟨⟨e0.mod,S.kind,rfl,rfl,ai _,fun y z c h1 h2=>?_,fun y hy=>?_,fun y c _ h=>?_,fun _=>hd,fV e0.frames,.inr ⟨rfl,rfl⟩,fun b z=>absurd z (noA b),e0.bs,e0.bsz,fun b _ _=>noA b,fun b z=>absurd z (noA b),e0.funs,e0.frf⟩,
  rfl,e0.bare,Un.kept hk,⟨_,x.toInCall.ns,fun i y v h1 h2 h3=>?_⟩,fun y c h=>⟨_,x.cell y c h⟩,e0.hok.fresh (ai _),fun y c h=>?_,fun p hp=>absurd (show p∈([]:List (Addr×Obj))from hp) (by simp),e0.hok.kept hk,?_⟩
 ·exact ft x.apart (ay h1) (ay h2)
 ·have hy:scope.names.lookup y=some .cell\/scope.names.lookup y=some .free:=hy
  rcases hy with hy|hy
  ·exact zX hy
  ·exact absurd rfl (S.nofree _ (ay hy))
 ·exact cI (x.above y c (ay h))
 ·have hi:i<vs.length:=by
   unfold ae9 at h2
   by_cases hi:i<vs.length
   ·exact hi
   ·rw[aI (by simpa using hi)]at h2
    rw[eQ]at h2
    split at h2<;>cases h2
  have ha:vs[i]?=some v:=by
   unfold ae9 at h2
   rw[aL (by simpa using hi),aE]at h2
   cases e:vs[i]? with
   | none=>rw[e]at h2;cases h2
   | some a=>rw[e]at h2;cases h2;rfl
  obtain⟨u,hu,rv⟩:=r.get ha
  have hp:ps[i]?=some y:=by
   rw[<-S.pre,List.getElem?_take_of_lt (by omega)];exact h1
  have ndP:ps.Nodup:=by rw[<-S.pre];exact S.nd.sublist (List.take_sublist _ _)
  refine⟨u,rv,?_⟩
  rcases S.par y (br hp)with k|k
  ·exact .inl ⟨k,aj5 ndP hp hu k⟩
  ·obtain⟨c,e⟩:=zX (n:=s.heap.objs.size+1) k
   refine .inr ⟨.inl k,c,e,?_⟩
   have q:=x.cell y c e
   rw[aj2 ndP hp hu (by show scope.names.lookup y≠_;rw[k];decide)]at q
   exact q
 ·exact e0.hok.fresh (cI (x.above y c (ay h)))
 ·unfold ae9
  show _=N.length
  rw[aV,aM,List.length_replicate]
  omega
theorem bl8 {CX:CXT}{P:aC}{w:World}{K:ac}{mg:Str->Option Value}{base:Heap}{k:Nat}{f:Addr}{name qual:Str}{params:a9}{body:List Stmt}{scope:Scope}{dV kV doc pm cdv ct oc:Value}{an od:Option Addr}
  {osl:Array (Option Value)} {N ps:List Str} {sp:Sp} (lk:K.lookup f=some ⟨oc,od,.func (cj name qual params body scope dV kV doc pm an cdv ct),osl⟩) (hcd:d3 K cdv qual=true) (S:FnScope N ps scope)
  (len:∀ vs H Q E,sp vs H Q E->vs.length=ps.length)
  (hbody:∀(A:aO) (outer:List Env) (s:ae) (H:Hp) (vs:List V) (Q:VK) (E:XK),Room k (A.deeper (dL qual scope s.heap.objs.size f cdv))->sp vs H Q E ->
   ∃ t,PSs (aq4 CX P w K mg base N qual scope f cdv A outer s H E) body t/\t { nx:=fun _ H'=>Q .non H',rt:=Q } (ae9 N vs) H) :
  FnOk P w K mg base CX (k+1) f (cj name qual params body scope dV kV doc pm an cdv ct) ps sp:=by
 refine⟨len,fun A outer s H args us vs Q E hr e0 hb r hsp=>?_⟩
 have hl:=len _ _ _ _ hsp
 have KX:K.In s.heap:=e0.mod.kin.keeps fun b o e=>(e0.bs b o e).1
 have lim:s.heap.NoLimit:=e0.mod.nolimit.keeps fun b o e=>(e0.bs b o e).1
 have hkind:∀ y∈ps.zip us,scope.names.lookup y.1=some .local\/(scope.names.lookup y.1=some .cell/\((aF (s.heap.objs.size+1) scope.names []).lookup y.1).isSome=true):=fun⟨n,v⟩ hy=>by
  rcases S.par n (cT hy).1 with q|q
  ·exact .inl q
  ·exact .inr ⟨q,fq _ _ _ (.inl q)⟩
 refine fL hr.depth (KX _ _ lk) rfl S.co S.gen rfl (PySem.W.codeRec_of KX hcd) (hb _ _ _ _ ?_)
 refine wpAny_newFunctionEnv_cells S.kind hkind fun env he s1 x=>?_
 subst he
 refine⟨lim.keeps x.toInCall.keep,codeAny_func ?_⟩
 obtain⟨t,ht,hq⟩:=hbody A outer s H vs Q E (hr.deeper _) hsp
 have I:Inv (aq4 CX P w K mg base N qual scope f cdv A outer s H E) [] (ae9 N vs) H s1:=aL0 S hr.hd e0 hl r x
 refine bv (ht [] s1 (ae9 N vs) H _ I hq) (fun fl s' hs=>?_) fun e s' hs=>hs
 have fin:∀ {σ':St} {H':Hp} {v:V} {u:Value},Inv (aq4 CX P w K mg base N qual scope f cdv A outer s H E) [] σ' H' s'->RelV v u->Q v H'->CE outer P w H s Q u s' :=
  fun {σ' H' v u} J rv q=>⟨v,H',J.os,J.bare,J.base,J.hok,rv,q⟩
 cases fl with
 | ret u =>
  obtain⟨v,σ',H',J,rv,q⟩:=hs
  exact fin J rv q
 | next =>
  obtain⟨σ',H',J,q⟩:=hs
  exact fin (v:=V.non) (u:=Value.none) J rfl q
 | brk =>
  obtain⟨_,_,_,q⟩:=hs
  exact aZ q
 | cont =>
  obtain⟨_,_,_,q⟩:=hs
  exact aZ q
section
variable {X:Cx} {x:Str} {p pos:Pos} {e:Expr} {es:List Expr} {t:TA} {id T:String} {r:List V->Hp->VK->Prop}
def tCB (r:List V->Hp->VK->Prop)(t:TA):TE:=fun σ H Q=>t σ H fun vs H1=>r vs H1 Q
theorem af5 (hc:ab8 X (.builtin id) r)(hg:Gl X x)(hm:X.mg x=none)(hv:bf x=some (.builtin id))(ha:PA X (e::es) t)(hn:x ≠ "__name__":=by decide)(hdb:(x==("__debug__":Str))=false:=by decide)
  (he:bh (e::es) X.env=(false,eval e X.env)::bh es X.env:=by rfl) (hpl:(cL pos (bh es X.env)).any (·.1)=false:=by rfl):PE X (.Call (.Name x p) (e::es) [] pos) (tCB r t):=by
 intro pins s σ H Q I h
 refine bU (az8 I hg hm hv ?_ hn hdb)
 exact PyProof.Rows.callWith_builtin1 (thn (ha pos pins s σ H _ I h) fun us s1 ⟨vs,H1,I1,r1,q1⟩=>hc pins s1 σ H1 vs us Q I1 r1 q1) he hpl
theorem aj9 (hc:ab8 X (.type T) r)(hg:Gl X x)(hm:X.mg x=none)(hv:bf x=some (.type T))(ha:PA X (e::es) t)(hn:x ≠ "__name__":=by decide)(hdb:(x==("__debug__":Str))=false:=by decide)
  (he:bh (e::es) X.env=(false,eval e X.env)::bh es X.env:=by rfl) (hpl:(cL pos (bh es X.env)).any (·.1)=false:=by rfl):PE X (.Call (.Name x p) (e::es) [] pos) (tCB r t):=by
 intro pins s σ H Q I h
 refine bU (az8 I hg hm hv ?_ hn hdb)
 exact dR (thn (ha pos pins s σ H _ I h) fun us s1 ⟨vs,H1,I1,r1,q1⟩=>hc pins s1 σ H1 vs us Q I1 r1 q1) he hpl
end
end L2
end
noncomputable section
namespace HT
open PySem PyProof.Rows
section
open PySem.SeqAt
open PySem.AutoSeq1 (wpAny_loadPart')
open PySem.MeetsSeq PySem.MeetsSeq2 PySem.MeetsSeq3
end
section
variable {prog:aC} {w:World} {A:aO} {E:Value->ae->Prop} {s:ae}
theorem cat_tup {t b:Addr}{vs ws:List Value}{Q:Value->ae->Prop}(ht:IsTup s.heap t vs.toArray)(hb:IsTup s.heap b ws.toArray)(hv:vs≠[])
  (h1:ws=[]->Q (.ref t) s) (h2:ws≠[]->Q (.ref s.heap.objs.size) { s with heap:=s.heap.push { cls:=.type "tuple",data:=.seq (vs++ws).toArray } })
  (hsz:vs.length+ws.length<=aH):wpAny (model prog w) A (bM .Add (.ref t) (.ref b)) Q E s:=by
 obtain⟨⟨cls,dd,data,sl⟩,ho,hc,n,hd⟩:=id ht
 obtain⟨⟨cls2,dd2,data2,sl2⟩,ho2,hc2,n2,hd2⟩:=id hb
 simp only at hc hd hc2 hd2
 subst hc hd hc2 hd2
 have e:vs.toArray++ws.toArray=(vs++ws).toArray:=by simp
 by_cases hw:ws=[]
 ·exact hG ⟨_,ho,rfl⟩ ⟨_,ho2,rfl⟩ eR gF c5 cW (cO _ _)
   (tuple_addW1 t b vs.toArray ws.toArray n n2 dd dd2 sl sl2 (by simpa using hv) (by simp[hw])) ⟨ho,ho2,h1 hw⟩
 ·refine hG ⟨_,ho,rfl⟩ ⟨_,ho2,rfl⟩ eR gF c5 cW (cO _ _)
   (tuple_addW2 t b vs.toArray ws.toArray n n2 dd dd2 sl sl2 (by simpa using hv) (by simpa using hw) (by rw[aB,aB];exact hsz)) ⟨ho,ho2,?_⟩
  rw[e]
  exact h2 hw
end
end HT
noncomputable section
namespace L2
open PySem PySem.Spec PyProof.Rows
abbrev TO:=St->Hp->(Option Int->Hp->Prop)->Prop
section
variable {X:Cx} {e:Expr} {te:TE} {lo hi:Option Expr} {tl th:TO} {pos p2:Pos}
def bN2 (K:ac):R2:=fun x y H Q=>∃ a b xs ys,x=.ref a/\y=.ref b/\SqT K H a xs/\SqT K H b ys/\xs≠[]/\xs.length+ys.length<=aH /\
 (ys=[]->Q (.ref a) H)/\(ys≠[]->∀ p,H p=none->Q (.ref p) (upd H p (.tup (xs++ys))))
theorem Vals.nil_iff {xs:List V}{us:List Value}(r:Vals xs us):us=[]↔xs=[]:=by
 cases r with
 | nil=>simp
 | cons _ _=>simp
theorem bn3:OpR X (bM .Add) (bN2 X.K):=by
 intro pins s σ H x y v u Q I rx ry h
 obtain⟨a,b,xs,ys,rfl,rfl,ha,hb,hx,hz,q1,q2⟩:=h
 cases rx
 cases ry
 obtain⟨its,r1,p1,_⟩:=I.tuple ha
 obtain⟨its2,r2,p2,_⟩:=I.tuple hb
 refine HT.cat_tup p1 p2 (fun z=>hx (r1.nil_iff.mp z)) (fun z=>⟨.ref a,H,I,rfl,q1 (r2.nil_iff.mp z)⟩) (fun z=>?_) (by rw[<-r1.length,<-r2.length];exact hz)
 refine⟨.ref s.heap.objs.size,_,I.laid (t':=s.toks) (o:=.tup (xs++ys)) (fun b ob q=>ak _ q) (ai _) ?_,rfl,q2 (fun w=>z (r2.nil_iff.mpr w)) _ (I.hok.fresh (ai _))⟩
 exact⟨by rw[aV];exact hz,_,r1.append r2,jc _ _⟩
end
noncomputable def ixN (n:Nat)(i:Int):Option Nat:=if 0<=i then(if i<n then some i.toNat else none)else if -(n:Int)<=i then some (i+n).toNat else none
noncomputable def atI {α:Type}(xs:List α)(i:Int):Option α:=(ixN xs.length i).bind fun j=>xs[j]?
theorem aO9 {n:Nat}{i:Int}{j:Nat}(h:ixN n i=some j):seqIndex? i n=some j/\j<n/\-(n:Int)<=i/\i<n:=by
 unfold ixN at h
 by_cases h0:0<=i
 ·rw[if_pos h0]at h
  by_cases h1:i<n
  ·rw[if_pos h1]at h
   have e:i.toNat=j:=az h
   exact⟨by rw[iu h0 h1,e],by omega,by omega,h1⟩
  ·rw[if_neg h1]at h;cases h
 ·rw[if_neg h0]at h
  by_cases h1:-(n:Int)<=i
  ·rw[if_pos h1]at h
   have e:(i+n).toNat=j:=az h
   exact⟨by rw[hJ (by omega) h1,e],by omega,h1,by omega⟩
  ·rw[if_neg h1]at h;cases h
theorem ay1 {α:Type}{xs:List α}{i:Int}{v:α}(h:atI xs i=some v):∃ j,seqIndex? i xs.length=some j/\xs[j]?=some v/\j<xs.length/\-(xs.length:Int)<=i/\i<xs.length:=by
 unfold atI at h
 cases e:ixN xs.length i with
 | none=>rw[e]at h;cases h
 | some j =>
  rw[e]at h
  obtain⟨h1,h2,h3,h4⟩:=aO9 e
  exact⟨j,h1,h,h2,h3,h4⟩
def aS5 (b:Expr):Prop:=∀ o i,subscripted b false o i=operate [o,i] (getItem o i)
def IxR (X:Cx)(r:R2):Prop :=
 ∀(value slice:Expr) (pins:List (Addr×Obj)) (s:ae) (σ:St) (H:Hp) (x y:V) (v u:Value) (Q:VK),Inv X pins σ H s->RelV x v->RelV y u->r x y H Q ->
  subscripted slice false v u=operate [v,u] (getItem v u)->wpAny (model X.prog X.w) X.A (subscriptTail value slice v u) (EP X pins σ Q) X.xe s
def MtR (X:Cx)(id:String)(r:V->List V->Hp->VK->Prop):Prop :=
 ∀(pins:List (Addr×Obj)) (s:ae) (σ:St) (H:Hp) (x:V) (xs:List V) (v:Value) (us:List Value) (Q:VK),Inv X pins σ H s->RelV x v->Vals xs us->r x xs H Q ->
  wpAny (model X.prog X.w) X.A (call (.builtin id) (v::us)) (EP X pins σ Q) X.xe s
section
variable {X:Cx} {a b:Expr} {ta tb:TE} {pos:Pos}
theorem bL9 {r:R2}(hr:IxR X r)(ha:PE X a ta)(hb:PE X b tb)(hs:aS5 b):PE X (.Subscript a b pos) (tOp r ta tb):=by
 intro pins s σ H Q I h
 exact Subscript_ (bP0 ha hb I h fun v u s2 x y H2 I2 rx ry q=>hr a b pins s2 σ H2 x y v u Q I2 rx ry q (hs _ _))
def bR1 (K:ac):R2:=fun x y H Q=>∃ p xs i v,x=.ref p/\y=.int i/\SqL K H p xs/\atI xs i=some v/\Q v H
def bS7 (K:ac):R2:=fun x y H Q=>∃ p xs i v,x=.ref p/\y=.int i/\SqT K H p xs/\atI xs i=some v/\Q v H
def bV4:R2:=fun x y H Q=>∃ z i c,x=.str z/\y=.int i/\z.length<=aH/\atI z.cps.toList i=some c/\Q (.str ⟨#[c]⟩) H
theorem br6:IxR X (bR1 X.K):=by
 intro value slice pins s σ H x y v u Q I rx ry h hs
 obtain⟨p,xs,i,z,rfl,rfl,hq,he,q⟩:=h
 cases rx
 obtain⟨t,rfl⟩:=ry
 obtain⟨its,r,pl,hz⟩:=I.list hq
 obtain⟨j,h1,h2,h3,h4,h5⟩:=ay1 he
 obtain⟨w,ew,rw'⟩:=r.get h2
 have hl:=r.length
 have hn:=ak1
 have fin:EP X pins σ Q w s:=⟨z,H,I,rw',q⟩
 by_cases h0:0<=i
 ·have hj:i.toNat=j:=by
   rw[iu h0 h5]at h1
   exact az h1
  exact item_listR pl.isList h0 (by omega) (by rw[hj];simpa using ew) fin hs
 ·have hj:(i+(its.toArray.size:Int)).toNat=j:=by
   rw[hJ (by omega) h4]at h1
   rw[aB,<-hl]
   exact az h1
  exact fu (x:=w) pl.isList.typeIs slot_list_getitem.lookup
   (wpAny_getItem_list_neg (Q:=fun r s'=>r=w/\EP X pins σ Q r s') pl.isList (by omega) (by rw[aB]<;>omega) (by omega) (by rw[hj];simpa using ew) ⟨rfl,fin⟩) hs
theorem ix_tup:IxR X (bS7 X.K):=by
 intro value slice pins s σ H x y v u Q I rx ry h hs
 obtain⟨p,xs,i,z,rfl,rfl,hq,he,q⟩:=h
 cases rx
 obtain⟨t,rfl⟩:=ry
 obtain⟨its,r,pl,hz⟩:=I.tuple hq
 obtain⟨j,h1,h2,h3,h4,h5⟩:=ay1 he
 obtain⟨w,ew,rw'⟩:=r.get h2
 have hl:=r.length
 have hn:=ak1
 have fin:EP X pins σ Q w s:=⟨z,H,I,rw',q⟩
 exact fu (x:=w) pl.typeIs slot_tuple_getitem.lookup
  (getItem_tuple (j:=j) (Q:=fun r s'=>r=w/\EP X pins σ Q r s') pl (by omega) (by omega) (by rw[aB,<-hl];exact h1) (by simpa using ew) ⟨rfl,fin⟩) hs
theorem ix_str:IxR X bV4:=by
 intro value slice pins s σ H x y v u Q I rx ry h hs
 obtain⟨z,i,c,rfl,rfl,hz,he,q⟩:=h
 obtain⟨t,rfl⟩:=rx
 obtain⟨t',rfl⟩:=ry
 obtain⟨j,h1,h2,h3,h4,h5⟩:=ay1 he
 have hl:z.cps.toList.length=z.length:=by simp[Str.length]
 rw[hl]at h1 h4 h5
 have hn:=ak1
 exact tail_any (typeIs_str s z t) slot_str_getitem.lookup (getItem_str (c:=c) (by
  have e1:decide (i < -(2^63:Int))=false:=decide_eq_false (by omega)
  have e2:decide (i ≥ 2^63)=false:=decide_eq_false (by omega)
  rw[e1,e2,Bool.or_false]) (by rw[h1];simpa using h2) ⟨.str ⟨#[c]⟩,H,I.tok _,⟨_,rfl⟩,q⟩) hs
theorem aG8 (its:List Value)(n j:Nat)(u:Value):fv (·.setIfInBounds j u) { cls:=.type "list",data:=.seq its.toArray n }={ cls:=.type "list",data:=.seq (its.set j u).toArray n }:=by
 simp[fv]
theorem Inv.lst {pins:List (Addr×Obj)}{σ:St}{H:Hp}{s:ae}{p:Addr}{xs:List V}(I:Inv X pins σ H s)(h:H p=some (.lst xs)) :
  ∃(its:List Value) (n:Nat),Vals xs its/\s.heap.get? p=some { cls:=.type "list",data:=.seq its.toArray n }/\xs.length<=aH:=by
 obtain⟨z,its,n,r,e⟩:=I.hok p _ h
 exact⟨its,n,r,e,z⟩
theorem Inv.lstUpd {pins:List (Addr×Obj)}{σ:St}{H:Hp}{s:ae}{p:Addr}{xs ys:List V}{its its':List Value}{n n':Nat}{f:Obj->Obj}(I:Inv X pins σ H s)(h:H p=some (.lst xs))
  (ho:s.heap.get? p=some { cls:=.type "list",data:=.seq its.toArray n }) (hf:f { cls:=.type "list",data:=.seq its.toArray n }={ cls:=.type "list",data:=.seq its'.toArray n' }) (r:Vals ys its') (hz:ys.length<=aH) (t:Nat) :
  Inv X pins σ (upd H p (.lst ys)) { s with heap:=s.heap.update p f,toks:=t }:=by
 have e:(s.heap.update p f).get? p=some { cls:=.type "list",data:=.seq its'.toArray n' }:=by
  rw[fM f ho (by rw[hf]<;>rfl),hf]
 refine I.write (x:=p) (e:=p) (by rw[h];trivial) (.inl rfl) (fun b u hb q=>(fw _ _ (bL hb)).trans q) ⟨_,e⟩ ?_
 exact⟨hz,its',n',r,e⟩
def bN0:V->V->V->Hp->(Hp->Prop)->Prop:=fun o i v H Q=>∃ p xs k j,o=.ref p/\i=.int k/\H p=some (.lst xs)/\ixN xs.length k=some j/\Q (upd H p (.lst (xs.set j v)))
theorem aU1:bK0 X bN0:=by
 intro pins s σ H o i v ov iv u Q I ro ri rv h
 obtain⟨p,xs,k,j,rfl,rfl,hp,hj,q⟩:=h
 cases ro
 obtain⟨t,rfl⟩:=ri
 obtain⟨its,n,r,ho,hz⟩:=I.lst hp
 obtain⟨h1,h2,h3,h4⟩:=aO9 hj
 have hl:=r.length
 have hn:=ak1
 have I':Inv X pins σ (upd H p (.lst (xs.set j v))) { s with heap:=s.heap.update p (fv (·.setIfInBounds j u)) } :=
  I.lstUpd hp ho (aG8 its n j u) (r.set rv j) (by rw[aY];exact hz) s.toks
 by_cases h0:0<=k
 ·have hk:k.toNat=j:=by
   rw[iu h0 h4]at h1
   exact az h1
  exact PySem.W.ki_setAt ho h0 (by omega) (by rw[aB,<-hl];exact h4) (by rw[hk];exact⟨_,I',q⟩)
 ·have hk:(k+(its.toArray.size:Int)).toNat=j:=by
   rw[hJ (by omega) h3]at h1
   rw[aB,<-hl]
   exact az h1
  exact PySem.W.ki_setBack ho (by omega) (by rw[aB,<-hl];exact h3) (by omega) (by rw[hk];exact⟨_,I',q⟩)
theorem ar6:ab8 X (.builtin "len") (fun xs H Q=>∃ p ys,xs=[.ref p]/\(SqL X.K H p ys\/SqT X.K H p ys)/\Q (.int ys.length) H):=by
 intro pins s σ H xs us Q I r h
 obtain⟨p,ys,rfl,hq,q⟩:=h
 obtain⟨u,rfl,rx⟩:=ak7 r
 cases rx
 have hn:=ak1
 rcases hq with hq|hq
 ·obtain⟨its,r',pl,hz⟩:=I.list hq
  have hlen:=r'.length
  exact Calls.call_len_list pl.isList (by simp only[aB]<;>omega) ⟨.int ys.length,H,I.tok _,⟨s.toks+1,by rw[aB,hlen]⟩,q⟩
 ·obtain⟨its,r',pl,hz⟩:=I.tuple hq
  have hlen:=r'.length
  exact len_tuple pl (by simp only[aB]<;>omega) ⟨.int ys.length,H,I.tok _,⟨s.toks+1,by rw[aB,hlen]⟩,q⟩
theorem at0:ab8 X (.builtin "len") (fun xs H Q=>∃ z,xs=[.str z]/\z.length<=aH/\Q (.int z.length) H):=by
 intro pins s σ H xs us Q I r h
 obtain⟨z,rfl,hz,q⟩:=h
 obtain⟨u,rfl,t,rfl⟩:=ak7 r
 have hn:=ak1
 exact len_str (by omega) ⟨.int z.length,H,I.tok _,⟨_,rfl⟩,q⟩
theorem ab8.or {f:Value}{r r':List V->Hp->VK->Prop}(h:ab8 X f r)(h':ab8 X f r'):ab8 X f (fun xs H Q=>r xs H Q\/r' xs H Q):=by
 intro pins s σ H xs us Q I rs q
 rcases q with q|q
 ·exact h pins s σ H xs us Q I rs q
 ·exact h' pins s σ H xs us Q I rs q
theorem as9:ab8 X (.type "list") (fun xs H Q=>∃ p ys,xs=[.ref p]/\(SqL X.K H p ys\/SqT X.K H p ys)/\∀ l,H l=none->Q (.ref l) (upd H l (.lst ys))):=by
 intro pins s σ H xs us Q I r h
 obtain⟨p,ys,rfl,hq,q⟩:=h
 obtain⟨u,rfl,rx⟩:=ak7 r
 cases rx
 have fin:∀(its:List Value),Vals ys its->ys.length<=aH->∀(h':Heap) (c':Nat),(∀ b o',s.heap.get? b=some o'->h'.get? b=some o') ->
   h'.get? s.heap.objs.size=some { cls:=.type "list",dict:=none,data:=.seq its.toArray c',slots:=#[] }->EP X pins σ Q (.ref s.heap.objs.size) { s with heap:=h' }:=fun its r' hz h' c' kp e =>
  ⟨.ref s.heap.objs.size,_,I.laid (t':=s.toks) kp (ai _) (show ab6 X.prog X.w _ h' _ (.lst ys)from⟨hz,its,c',r',e⟩),rfl,q _ (I.hok.fresh (ai _))⟩
 rcases hq with hq|hq
 ·obtain⟨its,r',pl,hz⟩:=I.list hq
  have hlen:=r'.length
  obtain⟨o,ho,hc,n,hd⟩:=pl.isList
  exact call_list_seq p (.inl rfl) ho hc hd (fun h' c' kp e=>fin its r' hz h' c' kp e) (by simp only[aB]<;>omega)
 ·obtain⟨its,r',pl,hz⟩:=I.tuple hq
  have hlen:=r'.length
  obtain⟨o,ho,hc,n,hd⟩:=pl
  exact call_list_seq p (.inr rfl) ho hc hd (fun h' c' kp e=>fin its r' hz h' c' kp e) (by simp only[aB]<;>omega)
theorem ap8:ab8 X (.type "tuple") (fun xs H Q=>∃ p ys,xs=[.ref p]/\((SqL X.K H p ys/\∀ l,H l=none->Q (.ref l) (upd H l (.tup ys)))\/(SqT X.K H p ys/\Q (.ref p) H))):=by
 intro pins s σ H xs us Q I r h
 obtain⟨p,ys,rfl,h⟩:=h
 obtain⟨u,rfl,rx⟩:=ak7 r
 cases rx
 rcases h with⟨hq,q⟩|⟨hq,q⟩
 ·obtain⟨its,r',pl,hz⟩:=I.list hq
  have hlen:=r'.length
  refine call_tuple_list pl.isList (fun h' kp=>?_) (by simp only[aB]<;>omega)
  have I1:Inv X pins σ H { s with heap:=h' }:=I.kept (t':=s.toks) kp
  have I2:Inv X pins σ (upd H h'.objs.size (.tup ys)) { s with heap:=h'.push { cls:=.type "tuple",data:=.seq its.toArray } } :=
   I1.laid (t':=s.toks) (fun b o e=>ak _ e) (ai _) (show ab6 X.prog X.w _ _ _ (.tup ys)from⟨hz,its,r',jc _ _⟩)
  exact⟨.ref h'.objs.size,_,I2,rfl,q _ (I1.hok.fresh (ai _))⟩
 ·obtain⟨its,r',pl,hz⟩:=I.tuple hq
  exact call_tuple_same pl ⟨.ref p,H,I,rfl,q⟩
def tyV (K:ac)(T:String)(x:V)(H:Hp):Prop:=match x with
 | .str _=>T = "str"
 | .int _=>T = "int"
 | .ref p=>(T = "list"/\∃ xs,SqL K H p xs)\/(T = "tuple"/\∃ o,K.lookup p=some o/\o.cls=.type "tuple"/\o.dict=none) \/
   (T = "dict"/\((∃ kvs,H p=some (.dK kvs))\/∃ kvs,H p=some (.dT kvs)))\/(T = "set"/\∃ S n,H p=some (.set S n))
 | _=>False
theorem be4 {pins:List (Addr×Obj)}{σ:St}{H:Hp}{s:ae}{T:String}{x:V}{v:Value}(I:Inv X pins σ H s)(r:RelV x v)(ty:tyV X.K T x H) :
  s.TypeIs v T/\∀ a,v=.ref a->∃ ob,s.heap.get? a=some ob/\ob.dict=none:=by
 cases x with
 | str z =>
  obtain⟨t,rfl⟩:=r
  cases(show T = "str" from ty)
  exact⟨typeIs_str s z t,fun _ e=>nomatch e⟩
 | int i =>
  obtain⟨t,rfl⟩:=r
  cases(show T = "int" from ty)
  exact⟨fx s i t,fun _ e=>nomatch e⟩
 | ref p =>
  cases r
  rcases ty with⟨rfl,xs,hq⟩|⟨rfl,o,hk,hc,hd⟩|⟨rfl,hk⟩|⟨rfl,S,n,hk⟩
  ·obtain⟨its,_,pl,_⟩:=I.list hq
   refine⟨pl.isList.typeIs,fun a e=>?_⟩
   cases e
   obtain⟨o,n,e,c,hd,_⟩:=pl
   exact⟨o,e,hd⟩
  ·refine⟨⟨o,I.kIn p o hk,hc⟩,fun a e=>?_⟩
   cases e
   exact⟨o,I.kIn _ o hk,hd⟩
  ·have z:∃ o,s.heap.get? p=some o/\o.ExactDict:=by
    rcases hk with⟨kvs,hk⟩|⟨kvs,hk⟩
    ·obtain⟨_,_,_,_,o,_,_,e,ex,_⟩:=I.hok p _ hk
     exact⟨o,e,ex⟩
    ·obtain⟨_,_,_,_,o,_,_,e,ex,_⟩:=I.hok p _ hk
     exact⟨o,e,ex⟩
   obtain⟨o,e,ex⟩:=z
   refine⟨⟨o,e,ex.1⟩,fun a e2=>?_⟩
   cases e2
   exact⟨o,e,ex.2.1⟩
  ·obtain⟨o,_,_,_,e,ex,_⟩:=I.hok p _ hk
   refine⟨⟨o,e,ex.1⟩,fun a e2=>?_⟩
   cases e2
   exact⟨o,e,ex.2.1⟩
 | _=>exact aZ ty
def bS3 (K:ac)(T:String)(r:V->List V->Hp->VK->Prop)(to:TE):TE:=fun σ H Q=>to σ H fun x H1=>tyV K T x H1/\r x [] H1 Q
def tBM (K:ac)(T:String)(r:V->List V->Hp->VK->Prop)(to:TE)(t:TA):TE:=fun σ H Q=>to σ H fun x H1=>tyV K T x H1/\t σ H1 fun xs H2=>r x xs H2 Q
variable {o e:Expr} {es:List Expr} {to:TE} {t:TA} {name:Str} {apos cpos:Pos} {T id:String} {r:V->List V->Hp->VK->Prop}
theorem bx9 (pa:iT T)(slot:Slot T name id)(hty:ik (.builtin id)=pure (.type "method_descriptor"))(hm:MtR X id r)(ho:PE X o to)
  (hbase:dw o name X.env (eval o X.env)=eval o X.env:=by rfl) (hline:(apos.endLine==cpos.line)=true:=by rfl):PE X (.Call (.Attribute o name apos) [] [] cpos) (bS3 X.K T r to):=by
 intro pins s σ H Q I h
 refine wpAny_Call_method0_late hbase hline (thn (ho pins s σ H _ I h) fun v s1 ⟨x,H1,I1,r1,ty,q1⟩=>?_)
 obtain⟨h1,h2⟩:=be4 I1 r1 ty
 exact⟨T,id,pa,slot,hty,h1,h2,fy rfl (PySem.evalArgs_none (hm pins s1 σ H1 x [] v [] Q I1 r1 .nil q1))⟩
theorem bP3 (pa:iT T)(slot:Slot T name id)(hty:ik (.builtin id)=pure (.type "method_descriptor"))(hm:MtR X id r)(ho:PE X o to)(ha:PA X (e::es) t)
  (hbase:dw o name X.env (eval o X.env)=eval o X.env:=by rfl)
  (hfew:((cL cpos (bh (e::es) X.env)).all (fun x=>!x.1)&&(backToKw cpos (iw [] X.env)).all (fun x=>x.1.isSome)
   && decide ((e::es).length+([]:List gj).length+(if([]:List gj).isEmpty then 0 else 1)<30))=true:=by rfl)
  (hline:(apos.endLine==cpos.line)=true:=by rfl) (hs:bh (e::es) X.env=(false,eval e X.env)::bh es X.env:=by rfl) (hplain:(cL cpos (bh es X.env)).any (·.1)=false:=by rfl) :
  PE X (.Call (.Attribute o name apos) (e::es) [] cpos) (tBM X.K T r to t):=by
 intro pins s σ H Q I h
 refine wpAny_Call_method_late hbase hfew hline rfl (thn (ho pins s σ H _ I h) fun v s1 ⟨x,H1,I1,r1,ty,q1⟩=>?_)
 obtain⟨h1,h2⟩:=be4 I1 r1 ty
 refine⟨T,id,pa,slot,hty,h1,h2,?_⟩
 have hA:=ha cpos pins s1 σ H1 _ I1 q1
 rw[hs]at hA ⊢
 refine fy (by show(false||(cL cpos (bh es X.env)).any (·.1))=false;rw[hplain]<;>rfl) (fW ?_)
 exact thn hA fun us s2 ⟨vs,H2,I2,r2,q2⟩=>hm pins s2 σ H2 x vs v us Q I2 r1 r2 q2
end
def MtM (X:Cx)(id:String)(r:V->List V->Hp->VK->Prop):Prop :=
 ∀(pins:List (Addr×Obj)) (s:ae) (σ:St) (H:Hp) (x:V) (xs:List V) (v:Value) (us:List Value) (Q:VK),Inv X pins σ H s->RelV x v->Vals xs us->r x xs H Q ->
  wpAny (model X.prog X.w) X.A (call (.builtin id) (v::us)) (EP X pins σ Q) X.xe s
theorem Vals.one:∀ {x:V} {us:List Value},Vals [x] us->∃ u,us=[u]/\RelV x u
 | _,_,.cons r .nil=>⟨_,rfl,r⟩
theorem Vals.zero:∀ {us:List Value},Vals [] us->us=[]
 | _,.nil=>rfl
theorem Vals.dropLast {xs:List V}{us:List Value}(h:Vals xs us):Vals xs.dropLast us.dropLast:=by
 induction h with
 | nil=>exact .nil
 | cons r t ih =>
  cases t with
  | nil=>exact .nil
  | cons q t'=>exact .cons r ih
theorem Vals.reverse {xs:List V}{us:List Value}(h:Vals xs us):Vals xs.reverse us.reverse:=by
 induction h with
 | nil=>exact .nil
 | cons r t ih=>rw[c6,c6];exact Vals.append ih (.cons r .nil)
theorem Vals.rep {xs:List V}{us:List Value}(h:Vals xs us):∀ k:Nat,Vals (av k xs).flatten (av k us).flatten
 | 0=>.nil
 | k+1=>by
  rw[bB,bB,cF,cF]
  exact Vals.append h (Vals.rep h k)
theorem au4 (its:List Value):∀(k:Nat) (acc:List Value),
  iU (fun x1 x2=>x1++x2) acc.toArray (av k its.toArray)=(acc++(av k its).flatten).toArray
 | 0,acc=>by simp
 | k+1,acc=>by
  have e:acc.toArray++its.toArray=(acc++its).toArray:=by simp
  have e2:(acc++its)++(av k its).flatten=acc++(av (k+1) its).flatten:=by
   rw[bB,cF,em]
  rw[<-e2,<-au4 its k (acc++its),<-e,bB,cx]
section
variable {X:Cx} {pins:List (Addr×Obj)} {σ:St} {H:Hp} {s:ae} {l b:Addr} {xs ys zs:List V}
theorem Inv.lset {its its':List Value}{n:Nat}{f:Array Value->Array Value}{t':Nat}(I:Inv X pins σ H s)(hH:H l=some (.lst xs))
  (e:s.heap.get? l=some { cls:=.type "list",data:=.seq its.toArray n }) (hf:f its.toArray=its'.toArray) (hv:Vals ys its') (hz:ys.length<=aH) :
  Inv X pins σ (upd H l (.lst ys)) { s with heap:=s.heap.update l (fv f),toks:=t' }:=by
 have q:=PySem.IsL.update e f
 rw[hf]at q
 refine I.write (x:=l) (e:=l) (by rw[hH];exact trivial) (.inl rfl) (fun b' u hb hu=>(fw s.heap (fv f) (bL hb)).trans hu) ⟨_,q⟩ ?_
 exact⟨hz,its',_,hv,q⟩
theorem Inv.lnew {its:List Value}{t':Nat}(I:Inv X pins σ H s)(hv:Vals ys its)(hz:ys.length<=aH) :
  Inv X pins σ (upd H s.heap.objs.size (.lst ys)) { s with heap:=s.heap.push { cls:=.type "list",data:=.seq its.toArray },toks:=t' } :=
 I.laid (fun _ _ q=>ak _ q) (ai _) ⟨hz,its,0,hv,aS _ rfl⟩
theorem Inv.fresh (I:Inv X pins σ H s):H s.heap.objs.size=none:=I.hok.fresh (ai _)
theorem Inv.lstM (I:Inv X pins σ H s)(hH:H l=some (.lst xs)):xs.length<=aH/\∃(its:List Value) (n:Nat),Vals xs its/\xs.length=its.length/\s.heap.get? l=some { cls:=.type "list",data:=.seq its.toArray n }:=by
 obtain⟨z,its,n,r,e⟩:=I.hok l _ hH
 exact⟨z,its,n,r,r.length,e⟩
theorem aZ5 {n:Nat}(h:n<=aH):cQ n=false:=by
 unfold cQ
 exact decide_eq_false (by omega)
end
section
variable {X:Cx}
def bm9:V->List V->Hp->VK->Prop:=fun x vs H Q=>∃ l xs y,x=.ref l/\vs=[y]/\H l=some (.lst xs)/\xs.length<aH/\Q .non (upd H l (.lst (xs++[y])))
theorem as7:MtM X "list.append" bm9:=by
 intro pins s σ H x vs v us Q I rx rv h
 obtain⟨l,xs,y,rfl,rfl,hH,hz,q⟩:=h
 cases rx
 obtain⟨u,rfl,ru⟩:=rv.one
 obtain⟨z,its,n,r,hl,e⟩:=I.lstM hH
 refine gP fN ⟨_,e,rfl⟩ F.entry_list_append (F.args_list_append_2 _ _) (PySem.list_append l its.toArray n u (by rw[aB];omega)) ⟨e,?_⟩
 refine⟨.non,_,I.lset (its':=its++[u]) hH e (by simp) (r.append (.cons ru .nil)) ?_,rfl,q⟩
 rw[aV,cC]
 omega
def bU4:R2:=fun x y H Q=>∃ l b xs zs,x=.ref l/\y=.ref b/\H l=some (.lst xs)/\H b=some (.lst zs)/\xs.length+zs.length<=aH/\∀ p,H p=none->Q (.ref p) (upd H p (.lst (xs++zs)))
theorem bB7:OpR X (bM .Add) bU4:=by
 intro pins s σ H x y v u Q I rx ry h
 obtain⟨l,b,xs,zs,rfl,rfl,hH,hB,hz,q⟩:=h
 cases rx
 cases ry
 obtain⟨z,its,n,r,hl,e⟩:=I.lstM hH
 obtain⟨z2,its2,n2,r2,hl2,e2⟩:=I.lstM hB
 refine PySem.P.add_list e e2 ?_ (by rw[aB,aB];omega)
 have ea:its.toArray++its2.toArray=(its++its2).toArray:=by simp
 rw[ea]
 exact⟨.ref _,_,I.lnew (t':=s.toks) (r.append r2) (by rw[aV];omega),rfl,q _ I.fresh⟩
def bV0:R2:=fun x y H Q=>∃ l k xs,x=.ref l/\y=.int k/\H l=some (.lst xs)/\-(2^63)<=k/\k<2^63/\xs.length*k.toNat<=aH /\
 ∀ p,H p=none->Q (.ref p) (upd H p (.lst (av k.toNat xs).flatten))
theorem bi7 {α:Type}(xs:List α)(k:Nat):(av k xs).flatten.length=k*xs.length:=by
 induction k with
 | zero=>simp
 | succ k ih=>rw[bB,cF,aV,ih,jh,fA]
theorem bE1:OpR X (bM .Mult) bV0:=by
 intro pins s σ H x y v u Q I rx ry h
 obtain⟨l,k,xs,rfl,rfl,hH,h1,h2,hz,q⟩:=h
 cases rx
 obtain⟨t,rfl⟩:=ry
 obtain⟨z,its,n,r,hl,e⟩:=I.lstM hH
 have hlen:its.toArray.size*k.toNat<=aH:=by rw[aB,<-hl];exact hz
 have hcap:¬ its.toArray.size*k.toNat > (2^63 - 1) / 8:=by
  have:(aH:Nat)<=(2^63 - 1) / 8:=by decide
  omega
 have hfit:¬(!Builtin.List.listFitsIndex k)=true:=by
  rw[fitsIndex_both h1 h2]
  exact aP
 have hlong:¬ cQ (its.toArray.size*k.toNat)=true:=by
  rw[aZ5 hlen]
  exact aP
 have hnew:iU (fun x1 x2=>x1++x2) #[] (av (if its.toArray.isEmpty=true then 0 else k.toNat) its.toArray)=(av k.toNat its).flatten.toArray:=by
  have f0:∀ m:Nat,iU (fun x1 x2=>x1++x2) #[] (av m its.toArray)=(av m its).flatten.toArray:=fun m=>by
   have:=au4 its m []
   rw[fH]at this
   exact this
  rw[f0]
  cases its with
  | nil=>simp
  | cons a r'=>rw[if_neg (by simp)]
 refine d6 (T := "list") (U := "int") (by decide) ⟨_,e,rfl⟩ (fun s'=>fx s' k t) noFill_list_mul gQ cV repeat_list gv.lookup
  (gP cV (fx s k t) gx (fX _ _) (int___rmul___int_list k t l its.toArray n)
   ⟨e,rfl,⟨_,e,rfl⟩,gP F.slot_list_mul ⟨_,e,rfl⟩ F.entry_list_mul (F.args_list_mul_2 _ _) (AutoListH.list___mul___list_int_3 l its.toArray n k t hfit hcap hlong) ⟨e,?_⟩⟩)
 rw[hnew]
 exact⟨.ref _,_,I.lnew (t':=s.toks) (r.rep k.toNat) (by rw[bi7,Nat.mul_comm];exact hz),rfl,q _ I.fresh⟩
end
section
variable {prog:aC} {w:World} {A:aO} {E:Value->ae->Prop} {s:ae}
end
section
variable {X:Cx}
end
end L2
end
noncomputable section
namespace Att
open PySem PySem.W PySem.Calls PyProof.Rows
theorem ints_of_wellAll {P:Params}{h:Heap}:∀(ns:List Int) (vs:List Value),WellAll P h vs (ns.map WData.int)->iL vs ns:=by
 intro ns
 induction ns with
 | nil =>
  intro vs w
  rw[c7]at w
  cases w
  exact .nil
 | cons n ns ih =>
  intro vs w
  rw[aJ]at w
  cases w with
  | cons a b =>
   cases a
   exact .cons _ _ (ih _ b)
theorem script_of {l:OpenLaw}{n:Nat}(hn:l.most=some n){P:Params}{h:Heap}{args:List WData}{vals:List Value}
  (hpre:l.row.toRowW.claim.pre args=true) (hwl:WellAll P h vals args) :
  ∃ a vs ns,vals=[Value.ref a]/\args=[WData.list (ns.map WData.int)]/\h.get? a=some { cls:=.type "list",data:=.seq vs.toArray }/\iL vs ns/\ns.length<=n:=by
 have hsh:WShape.hasAll [] args [.list .int]=true:=(pre_splitW hpre).1
 have hc:l.pre.holds [] { args:=args }=true:=(pre_splitW hpre).2
 obtain⟨d,r,rfl,h1,h2⟩:=hasAllW_cons hsh
 obtain rfl:=hasAllW_nil h2
 obtain⟨xs,rfl,h3⟩:=hasW_list h1
 obtain⟨ns,rfl⟩:=items_int h3
 have hlen:ns.length<=n:=by
  unfold OpenLaw.pre at hc
  have h4:(WTm.not (.lt (.lit (.int (n:Int))) (.len (.arg 0)))).holds [] { args:=[.list (ns.map .int)] }=true:=by
   have h4:=(holds_andW hc).1
   rw[hn]at h4
   exact h4
  have h5:=condW_of h4 (w_not (w_lt w_lit (w_len_list (w_arg rfl))))
  rw[aM]at h5
  refine il fun q=>?_
  have q':(n:Int)<((ns.length:Nat):Int):=by omega
  first
   | (rw[decide_eq_true q']at h5;exact absurd h5 (by decide))
   | (simp at h5;omega)
 cases hwl with
 | cons w1 w2 =>
  cases w2
  cases w1 with
  | list ho hall=>exact⟨_,_,ns,rfl,rfl,ho,ints_of_wellAll ns _ hall,hlen⟩
theorem post_true (l:OpenLaw)(args:List WData):l.row.toRowW.claim.post args (.bool true) args=true :=
 postW_of (r:=l.row.toRowW) (X:=(true==true))
  (show WShape.has [] (.bool true) .bool=true by first|rfl|decide|simp[WShape.has,WShape.arms,WShape.armsAll])
  (show(WTm.eq .res (.lit (.bool true))).value [] { args:=args,res:=some (.bool true),after:=args }=some (.bool (true==true))from w_eq_bool (w_res rfl) w_lit) rfl
theorem attach_call {l:OpenLaw}{n:Nat}{q:aC}{loose:List Str}{XP:(Str->Option Value)->Heap->Prop}{YP:World->Heap->Prop}{d:DefRec}
  (hn:l.most=some n) (hdf:d.params.defaults=[])
  (call:∀(w:World) (s₀ s₁:ae) (mg mb:Str->Option Value) (fa:Addr) (o:Obj) (pm cd doc:Value) (a:Addr) (vs:List Value) (ns:List Int),
   Ground q loose [] XP w s₀ mg mb s₁.heap->YP w s₁.heap ->
   s₁.heap.get? fa=some o->o.data=.func (docDef d.name d.params d.body d.scope pm cd doc)->s₁.heap.CodeRec cd d.name->mg d.name=some (.ref fa) ->
   s₁.heap.get? a=some { cls:=.type "list",data:=.seq vs.toArray }->iL vs ns->ns.length<=n->s₁.gens=#[] ->
   fj (model l.prog w) gk (.call (.ref fa) ⟨[.ref a],[]⟩) (fun r s'=>r=.ok (.ret (.bool true))/\OldK s₁.heap s'.heap/\s'.os=s₁.os/\dQ s'.gens) s₁) :
  WalkO q loose XP YP l.row.toRowW d [] (fun f vs=>iO f vs):=by
 intro w s₀ s₁ mg mb G Y fa o pm cd doc dV kV ho hd hcd hD hmg hg args vals as hpre hlay hrd hwl hlo
 obtain rfl:dV=.none:=Dflts.none hD hdf
 obtain rfl:kV=.none:=Dflts.noKw hD
 obtain⟨a,vs,ns,rfl,rfl,hobj,hints,hlen⟩:=script_of hn hpre hwl
 refine enter_call (dS (call w s₀ s₁ mg mb fa o pm cd doc a vs ns G Y ho (fd_plain hd) hcd hmg hobj hints hlen hg) fun r s' hq=>?_)
 obtain⟨rfl,h2,h3,h4⟩:=hq
 exact⟨.inl ⟨.bool true,.bool true,[],rfl,fun _=>rfl,.bool true,post_true l _,fun _=>⟨List.Pairwise.nil,fun _ hm=>(nomatch hm)⟩⟩,h2,h3,h4⟩
section
variable {prog:aC} {w:World} {A:aO} {E:Value->ae->Prop} {s:ae} {K:Frag}
end
end Att
noncomputable section
namespace L2
open PySem PySem.Spec PyProof.Rows
theorem au7:∀ {vs:List Value} {ns:List Int},iL vs ns->Vals (ns.map V.int) vs
 | _,_,.nil=>.nil
 | _,_,.cons n t h=>.cons ⟨t,rfl⟩ (au7 h)
noncomputable def defArgs (s:Stmt):a9:=match s with
 | .FunctionDef _ a _ _ _ _ _ _ _ _=>a
 | _=>{ posonlyargs:=[],args:=[],vararg:=none,kwonlyargs:=[],kw_defaults:=[],kwarg:=none,defaults:=[] }
noncomputable def zA (s:Stmt):List Stmt:=match s with
 | .FunctionDef _ _ b _ _ _ _ _ _ _=>b
 | _=>[]
noncomputable def defScope (s:Stmt):Scope:=match s with
 | .FunctionDef _ _ _ _ _ _ sc _ _ _=>sc
 | _=>{ kind:=.function,names:=[],isGenerator:=false,isCoroutine:=false }
noncomputable abbrev CX0:CXT:=fun _ _ _ _ _ _=>False
abbrev E0:XK:=fun _ _ _=>False
theorem bA1 {X:Cx}:ae2 CX0 X E0:=fun _ _ _ _ _ _ _ h=>h.elim
structure Fun (K:ac)(x qual:Str)(st:Stmt)(f:Addr)(fd:bw):Prop where
 ex:∃(oc:Value) (od:Option Addr) (kV doc pm:Value) (an:Option Addr) (cdv ct:Value) (osl:Array (Option Value)),
  fd=cj x qual (defArgs st) (zA st) (defScope st) .none kV doc pm an cdv ct/\K.lookup f=some ⟨oc,od,.func fd,osl⟩/\d3 K cdv qual=true
 kp:bN K (.ref f)=true
section
variable {P:aC} {w:World} {K:ac} {mg:Str->Option Value} {base:Heap}
theorem Fun.ok {x qual:Str}{st:Stmt}{f:Addr}{fd:bw}{N ps:List Str}{k:Nat}{sp:Sp}(F:Fun K x qual st f fd)(S:FnScope N ps (defScope st))(len:∀ vs H Q E,sp vs H Q E->vs.length=ps.length)
  (hbody:∀(cdv:Value) (A:aO) (outer:List Env) (s:ae) (H:Hp) (vs:List V) (Q:VK) (E:XK),Room k (A.deeper (dL qual (defScope st) s.heap.objs.size f cdv))->sp vs H Q E ->
   ∃ t,PSs (aq4 CX0 P w K mg base N qual (defScope st) f cdv A outer s H E).nox (zA st) t/\t { nx:=fun _ H'=>Q .non H',rt:=Q } (ae9 N vs) H):FnOk P w K mg base CX0 (k+1) f fd ps sp:=by
 obtain⟨oc,od,kV,doc,pm,an,cdv,ct,osl,rfl,lk,hcd⟩:=F.ex
 refine bl8 lk hcd S len fun A outer s H vs Q E hr hsp=>?_
 obtain⟨t,h,q⟩:=hbody cdv A outer s H vs Q E hr hsp
 exact⟨t,h.nox,q⟩
theorem Fun.binds {x qual:Str}{st:Stmt}{f:Addr}{fd:bw}{ps:List Str}(F:Fun K x qual st f fd)
  (h:∀(kV doc pm:Value) (an:Option Addr) (cdv ct:Value) (us:List Value),us.length=ps.length->dC (cj x qual (defArgs st) (zA st) (defScope st) .none kV doc pm an cdv ct) ⟨us,[]⟩=pure (ps.zip us)):Binds K fd ps []:=by
 obtain⟨oc,od,kV,doc,pm,an,cdv,ct,osl,rfl,lk,hcd⟩:=F.ex
 exact .all (h kV doc pm an cdv ct)
theorem be3 {x qual:Str}{st:Stmt}{f:Addr}{oc:Value}{od an:Option Addr}{osl:Array (Option Value)}{kV doc pm cdv ct:Value}(l:K.lookup f=some ⟨oc,od,.func (cj x qual (defArgs st) (zA st) (defScope st) .none kV doc pm an cdv ct),osl⟩)
  (c:d3 K cdv qual=true) (k:bN K (.ref f)=true):Fun K x qual st f (cj x qual (defArgs st) (zA st) (defScope st) .none kV doc pm an cdv ct):=⟨⟨oc,od,kV,doc,pm,an,cdv,ct,osl,rfl,l,c⟩,k⟩
end
theorem bB3 {A:aO}{k:Nat}(hr:Room k A):A.units+1<cLine:=Nat.lt_of_le_of_lt (Nat.add_le_add_left (by decide:1<=64) _) hr.units
section
variable {X:Cx}
theorem pv (i:Nat){x:Str}{pos:Pos}(hN:X.N[i]?=some x:=by rfl)(hv:Vis X.env.scope x:=by first|exact Or.inl rfl|exact Or.inr (Or.inl rfl)|exact Or.inr (Or.inr rfl))(hd:(x==("__debug__":Str))=false:=by decide)
  (hcd:(x==("__classdict__":Str))=false:=by decide):PE X (.Name x pos) (aS8 i):=au9 hN hv hd hcd
end
theorem bV6 {A B:Prop}(h:B):if false=true then A else B:=by
 rw[if_neg aP]
 exact h
theorem iteT {A B:Prop}(h:A):if true=true then A else B:=by
 rw[if_pos rfl]
 exact h
def ac8 (H H':Hp):Prop:=∀ b o,H b=some o->H' b=some o
theorem ac8.refl (H:Hp):ac8 H H:=fun _ _ h=>h
theorem ac8.trans {H H1 H2:Hp}(a:ac8 H H1)(b:ac8 H1 H2):ac8 H H2:=fun c o h=>b c o (a c o h)
theorem aL4 {prog:aC}{w:World}{A:aO}{R:iR->ae->Prop}{s:ae}{elt target iter:Expr}{ifs:List Expr}{scope:Scope}{pos:Pos}{it acc:Value}{env:Env}(I:Nat->ae->Prop)
  (turn:∀ n s,I n s->wpAny (model prog w) A (pyNext it) (fun r s₁=>match r with
   | none=>R (.ok .next) s₁
   | some v=>wpAny (model prog w) A (dI target it v) (fun _ s₁'=>wpAny (model prog w) A (fi target env v) (fun _ s₂ =>
     wpAny (model prog w) A (forIn ifs true fun c r=>if r=true then do let ok <- cU c env (eval c env);pure (ForInStep.yield ok)else pure (ForInStep.yield r)) (fun ok s₃ =>
      if ok=true then wpAny (model prog w) A (eval elt env) (fun x s₄ =>
       wpAny (model prog w) A (call (.builtin "list.append") [acc,x]) (fun _ s₅=>∃ m,m<n/\I m s₅) (hU (model prog w) A env fun e s'=>R (.error e) s') s₄) (hU (model prog w) A env fun e s'=>R (.error e) s') s₃
      else ∃ m,m<n/\I m s₃) (hU (model prog w) A env fun e s'=>R (.error e) s') s₂) (hU (model prog w) A env fun e s'=>R (.error e) s') s₁') (hU (model prog w) A env fun e s'=>R (.error e) s') s₁) (hU (model prog w) A env fun e s'=>R (.error e) s') s)
  (n:Nat) (h:I n s) :
  fj (model prog w) A (.compLoop (.ListComp elt [⟨target,iter,ifs,0⟩] scope pos) 0 it acc env) R s:=by
 refine codeAny_loop rfl I (fun n s hI=>?_) n h
 show wpAny _ A ((compTurn (.ListComp elt [⟨target,iter,ifs,0⟩] scope pos) 0 it acc env).onRaise (fun x=>do io x env;theTreesLotGoes x)) _ _ s
 refine wpAny_noted ?_
 rw[compTurn_list]
 refine ar (gC (ar (bv (turn n s hI) (fun r s₁ h₁=>?_) fun _ _ h'=>h')))
 cases r with
 | none=>exact aN h₁
 | some v =>
  refine ar (bv h₁ (fun _ s₁' h₁'=>?_) fun _ _ h'=>h')
  refine ar (bv h₁' (fun _ s₂ h₂=>ar (bv h₂ (fun ok s₃ h₃=>?_) fun _ _ h'=>h')) fun _ _ h'=>h')
  cases ok with
  | false=>exact aN ⟨rfl,h₃⟩
  | true =>
   exact ar (ar (bv h₃ (fun x s₄ h₄=>ar (bv h₄ (fun _ s₅ h₅=>aN (aN ⟨rfl,h₅⟩)) fun _ _ h'=>h')) fun _ _ h'=>h'))
noncomputable def ac6 (cells:List (Str×Addr)):List (Str×bE)->List (Str×Addr)->List (Str×Addr)
 | [],acc=>acc
 | (n,k)::r,acc=>ac6 cells r (if k==.free then(match cells.lookup n with|some c=>(n,c)::acc|none=>acc)else acc)
theorem af4 {env:Env}:∀(names:List (Str×bE)) (acc:List (Str×Addr)),(∀ y∈names,y.2=.free->∃ c,env.cells.lookup y.1=some c) ->
  (forIn names acc fun(x:Str×bE) (cs:List (Str×Addr))=>(if x.2==.free then do let c <- cellOf env x.1;pure (ForInStep.yield ((x.1,c)::cs))else pure (ForInStep.yield cs):Sem (ForInStep (List (Str×Addr)))))=pure (ac6 env.cells names acc)
 | [],acc,_=>by rw[fY];rfl
 | (n,k)::r,acc,h=>by
  have ih:=fun a=>af4 r a fun y hy=>h y (ah _ hy)
  rw[iB]
  unfold ac6
  cases e:(k==NameKind.free)with
  | false =>
   simp only[aW,if_false]
   exact ih acc
  | true =>
   have hk:k=.free:=by simpa using e
   obtain⟨c,hc⟩:=h (n,k) aq hk
   have e1:cellOf env n=pure c:=by unfold cellOf;rw[hc]
   simp only[if_true,e1,hc]
   exact ih _
theorem z7 {scope:Scope}{env:Env}(h:∀ y∈scope.names,y.2=.free->∃ c,env.cells.lookup y.1=some c):closureFor scope env=pure (ac6 env.cells scope.names []):=by
 have:=af4 (env:=env) scope.names [] h
 show(forIn scope.names [] (fun(x:Str×bE) (cs:List (Str×Addr))=>(if x.2==.free then do let c <- cellOf env x.1;pure (ForInStep.yield ((x.1,c)::cs))else pure (ForInStep.yield cs):Sem (ForInStep (List (Str×Addr))))) >>= fun cs=>pure cs)=_
 rw[this]
 rfl
theorem clOf_mem {cells:List (Str×Addr)}{n:Str}{c:Addr}:∀ {names:List (Str×bE)} {acc:List (Str×Addr)},(n,c)∈ac6 cells names acc->cells.lookup n=some c\/(n,c)∈acc
 | [],_,h=>.inr h
 | (m,k)::r,acc,h=>by
  unfold ac6 at h
  rcases clOf_mem h with z|z
  ·exact .inl z
  ·cases e:(k==NameKind.free)with
   | false=>simp only[e,aW,if_false]at z;exact .inr z
   | true =>
    simp only[e,if_true]at z
    cases q:cells.lookup m with
    | none=>rw[q]at z;exact .inr z
    | some d =>
     rw[q]at z
     rcases au.mp z with y|y
     ·cases y;exact .inl q
     ·exact .inr y
theorem az1 {cells:List (Str×Addr)}{n:Str}{c:Addr}(hc:cells.lookup n=some c):∀ {names:List (Str×bE)} {acc:List (Str×Addr)},((n,NameKind.free)∈names\/(n,c)∈acc)->(n,c)∈ac6 cells names acc
 | [],_,h=>by rcases h with h|h;(exact absurd h (by simp));exact h
 | (m,k)::r,acc,h=>by
  unfold ac6
  refine az1 hc ?_
  rcases h with h|h
  ·rcases au.mp h with e|h
   ·cases e
    right
    simp[hc]
   ·exact .inl h
  ·right
   cases e:(k==NameKind.free)with
   | false=>simpa using h
   | true =>
    simp only[if_true]
    cases q:cells.lookup m with
    | none=>exact h
    | some d=>exact ah _ h
theorem af0 {α:Type}{n:Str}{c:α}:∀ {l:List (Str×α)},(n,c)∈l->(∀ d,(n,d)∈l->d=c)->l.lookup n=some c
 | (m,d)::r,h,u=>by
  rw[aX]
  cases e:n==m with
  | true =>
   have e':=beq_iff_eq.mp e
   subst e'
   rw[u d aq]
  | false =>
   rcases au.mp h with z|z
   ·cases z;simp at e
   ·exact af0 z fun d' h'=>u d' (ah _ h')
theorem qd {cells:List (Str×Addr)}{n:Str}{c:Addr}{names:List (Str×bE)}(hc:cells.lookup n=some c)(h:(n,NameKind.free)∈names):(ac6 cells names []).lookup n=some c:=by
 refine af0 (az1 hc (.inl h)) fun d hd=>?_
 rcases clOf_mem hd with z|z
 ·rw[hc]at z;exact(az z).symm
 ·exact absurd z (by simp)
theorem zl:∀(names:List (Str×bE)) (n:Nat) (acc:List (Str×Addr)),aF n names acc=aF n names []++acc
 | [],_,acc=>by simp[aF]
 | (x,k)::r,n,acc=>by
  unfold aF
  split
  ·rw[zl r (n+1) ((x,n)::acc),zl r (n+1) [(x,n)]]
   simp
  ·exact zl r n acc
theorem zC:∀ {names:List (Str×bE)} {n:Nat} {acc:List (Str×Addr)} {x:Str} {c:Addr},(x,c)∈aF n names acc->(x,NameKind.cell)∈names\/(x,c)∈acc
 | [],_,_,_,_,h=>.inr h
 | (y,k)::r,n,acc,x,c,h=>by
  unfold aF at h
  split at h
  ·rename_i hk
   rcases zC h with z|z
   ·exact .inl (ah _ z)
   ·rcases au.mp z with e|z
    ·cases e
     have:k=.cell:=by simpa using hk
     subst this
     exact .inl aq
    ·exact .inr z
  ·rcases zC h with z|z
   ·exact .inl (ah _ z)
   ·exact .inr z
theorem zH {α:Type}(x:Str):∀(l r:List (Str×α)),(l++r).lookup x=(l.lookup x).or (r.lookup x)
 | [],r=>by simp
 | (y,v)::l,r=>by
  rw[eT,aX,aX]
  cases x==y with
  | true=>rfl
  | false=>exact zH x l r
noncomputable def zZ (N':List Str)(src:List (Option Nat))(scope:Scope)(XN:List Str)(xs:Scope):Bool :=
 (scope.kind==.function) &&
 (scope.names.all fun y=>!(y.2==.free)||(xs.names.lookup y.1==some .cell||xs.names.lookup y.1==some .free)) &&
 (scope.names.all fun y=>!(y.2==.local)||scope.names.lookup y.1==some .local) &&
 (scope.names.all fun y=>!(y.2==.cell)||(scope.names.all fun z=>!(z.1==y.1)||z.2==.cell)) &&
 (src.length==N'.length) &&
 ((N'.zip src).all fun y=>match y.2 with|none=>true|some j=>XN[j]?==some y.1&&scope.names.lookup y.1==some .free)
structure CompCk (N':List Str)(src:List (Option Nat))(scope:Scope)(XN:List Str)(xs:Scope):Prop where
 kind:scope.kind=.function
 fr:∀ y∈scope.names,y.2=.free->xs.names.lookup y.1=some .cell\/xs.names.lookup y.1=some .free
 loc:∀ y∈scope.names,y.2=.local->scope.names.lookup y.1=some .local
 cel:∀ y∈scope.names,y.2=.cell->∀ z∈scope.names,z.1=y.1->z.2=.cell
 len:src.length=N'.length
 sr:∀(i j:Nat) (x:Str),src[i]?=some (some j)->N'[i]?=some x->XN[j]?=some x/\scope.names.lookup x=some .free
theorem bf2 {N':List Str}{src:List (Option Nat)}{scope:Scope}{XN:List Str}{xs:Scope}(h:zZ N' src scope XN xs=true):CompCk N' src scope XN xs:=by
 unfold zZ at h
 simp only[af]at h
 obtain⟨⟨⟨⟨⟨h1,h2⟩,h3⟩,h4⟩,h5⟩,h6⟩:=h
 refine⟨by simpa using h1,fun y hy e=>?_,fun y hy e=>?_,fun y hy e z hz ez=>?_,by simpa using h5,fun i j x e1 e2=>?_⟩
 ·have:=aD.mp h2 y hy
  simpa [e]using this
 ·have:=aD.mp h3 y hy
  simpa [e]using this
 ·have:=aD.mp h4 y hy
  simp only[e,beq_self_eq_true,cR,gG]at this
  have:=aD.mp this z hz
  simpa [ez]using this
 ·have hm:(x,some j)∈N'.zip src:=by
   refine br (i:=i) ?_
   rw[List.getElem?_zip_eq_some]
   exact⟨e2,e1⟩
  have:=aD.mp h6 _ hm
  simpa using this
noncomputable abbrev zM (X:Cx)(N':List Str)(scope:Scope)(C:Addr)(cells:List (Str×Addr))(s:ae)(H:Hp)(ex:List Addr):Cx where
 prog:=X.prog
 w:=X.w
 K:=X.K
 mg:=X.mg
 base:=X.base
 A:=X.A
 N:=N'
 s₀:=s
 H₀:=H
 env:={ scope:=dz scope X.env,locals:=C,globals:=X.env.globals,cells:=cells,qual:=X.env.qual,func:=none,code:=X.env.code,frame:=X.env.frame,builtins:=X.env.builtins }
 outer:=X.stack
 stack:=X.stack
 ex:=ex
 fn:=fun x=>scope.names.lookup x==some .cell
 calm:=X.calm
 pn:=[]
 xe:=fun _ _=>False
def PIf (X:Cx)(ifs:List Expr)(t:TT):Prop :=
 ∀(pins:List (Addr×Obj)) (s:ae) (σ:St) (H:Hp) (Q:Bool->Hp->Prop),Inv X pins σ H s->t σ H Q ->
  wpAny (model X.prog X.w) X.A (forIn ifs true fun c r=>if r=true then do let ok <- cU c X.env (eval c X.env);pure (ForInStep.yield ok)else pure (ForInStep.yield r)) (TP X pins σ Q) X.xe s
def bU9:TT:=fun _ H Q=>Q true H
theorem bp7 {X:Cx}:PIf X [] bU9:=fun _ _ _ H _ I h=>wpAny_tests_nil ⟨H,I,h⟩
theorem bl2 {X:Cx}{c:Expr}{t:TT}(h:PT X c t):PIf X [c] t:=fun pins s σ H Q I hw=>wpAny_tests_one (h pins s σ H Q I hw)
noncomputable def at1 (src:List (Option Nat))(σ:St):St:=src.map fun o=>match o with|none=>none|some j=>(σ[j]?).join
def tComp (src:List (Option Nat))(wi:TI)(g:TG)(tc:TT)(te:TE):TE:=fun σ H Q=>wi σ H fun J H1=>∀ D,H1 D=none ->
 ∃ W:Nat->Nat->St->Hp->Prop,(∃ m,W 0 m (at1 src σ) (upd H1 D (.lst [])))/\∀ i m σ' H',W i m σ' H' ->
  (J.stop i H'/\Q (.ref D) H')\/(J.go i H'/\∃ N:St->Hp->Prop,(∀ σ2 H2,N σ2 H2->∃ m',m'<m/\W (i+1) m' σ2 H2) /\
   ∀ x H2,J.yld i H' x H2->g x σ' H2 fun σ3 H3=>tc σ3 H3 fun b H4=>if b=true then te σ3 H4 fun v H5=>∃ ys,H5 D=some (.lst ys)/\ys.length<aH/\N σ3 (upd H5 D (.lst (ys++[v])))else N σ3 H4)
theorem qo {env:Env}:∀ {names:List (Str×bE)} {x:Str} {k:bE},names.lookup x=some k ->
  (names.map fun(n,k)=>if(k==NameKind.free&&env.scope.kind==.function&&env.kindOf n==some .cell)then(n,NameKind.cell)else(n,k)).lookup x =
   some (if(k==NameKind.free&&env.scope.kind==.function&&env.kindOf x==some .cell)then NameKind.cell else k)
 | [],_,_,h=>by simp at h
 | (n,k)::r,x,k',h=>by
  have ih:=@qo env r x k'
  show jq x ((if(k==NameKind.free&&env.scope.kind==.function&&env.kindOf n==some .cell)=true then(n,NameKind.cell)else(n,k))::_)=_
  cases hx:x==n with
  | true =>
   have e:=beq_iff_eq.mp hx
   subst e
   simp only[aX,hx]at h
   cases h
   by_cases hc:(k==NameKind.free&&env.scope.kind==.function&&env.kindOf x==some .cell)=true
   ·rw[if_pos hc,if_pos hc];simp only[aX,hx]
   ·rw[if_neg hc,if_neg hc];simp only[aX,hx]
  | false =>
   simp only[aX,hx]at h
   by_cases hc:(k==NameKind.free&&env.scope.kind==.function&&env.kindOf n==some .cell)=true
   ·rw[if_pos hc];simp only[aX,hx];exact ih h
   ·rw[if_neg hc];simp only[aX,hx];exact ih h
theorem qe {env:Env}:∀ {names:List (Str×bE)} {x:Str},names.lookup x=none ->
  (names.map fun(n,k)=>if(k==NameKind.free&&env.scope.kind==.function&&env.kindOf n==some .cell)then(n,NameKind.cell)else(n,k)).lookup x=none
 | [],_,_=>rfl
 | (n,k)::r,x,h=>by
  have ih:=@qe env r x
  show jq x ((if(k==NameKind.free&&env.scope.kind==.function&&env.kindOf n==some .cell)=true then(n,NameKind.cell)else(n,k))::_)=_
  cases hx:x==n with
  | true=>simp only[aX,hx]at h;cases h
  | false =>
   simp only[aX,hx]at h
   by_cases hc:(k==NameKind.free&&env.scope.kind==.function&&env.kindOf n==some .cell)=true
   ·rw[if_pos hc];simp only[aX,hx];exact ih h
   ·rw[if_neg hc];simp only[aX,hx];exact ih h
theorem am2 {X:Cx}{N':List Str}{src:List (Option Nat)}{scope:Scope}{pins:List (Addr×Obj)}{σ:St}{H:Hp}{s s4:ae}{fp:List Addr}
  (hck:CompCk N' src scope X.N X.env.scope) (I:Inv X pins σ H s) (hf:∀ b∈fp,FpOk X pins H b) (hfl:∀ b∈fp,b<s.heap.objs.size)
  (e4:∃ tk,s4={ s with heap:=du (s.heap.push { cls:=.type "dict",data:=.dict #[] }) scope.names,toks:=tk }) :
  Inv (zM X N' scope s.heap.objs.size (aF (s.heap.objs.size+1) scope.names (ac6 X.env.cells scope.names [])) s H fp) [] (at1 src σ) H s4:=by
 obtain⟨tk,rfl⟩:=e4
 have hk:∀ b o,s.heap.get? b=some o->(du (s.heap.push { cls:=.type "dict",data:=.dict #[] }) scope.names).get? b=some o:=fun b o e=>cy _ _ b o (ak _ e)
 have ok:=cellsFrom_ok scope.names (s.heap.push { cls:=.type "dict",data:=.dict #[] }) (s.heap.objs.size+1) [] ⟨fun _ _ hm=>(nomatch hm),List.Pairwise.nil⟩ (by rw[bQ];exact ai _)
 rw[bQ]at ok
 have eapp:=zl scope.names (s.heap.objs.size+1) (ac6 X.env.cells scope.names [])
 have lk:∀ x c,(aF (s.heap.objs.size+1) scope.names (ac6 X.env.cells scope.names [])).lookup x=some c ->
   ((x,c)∈aF (s.heap.objs.size+1) scope.names []/\(x,NameKind.cell)∈scope.names)\/(X.env.cells.lookup x=some c/\(aF (s.heap.objs.size+1) scope.names []).lookup x=none):=fun x c e=>by
  rw[eapp,zH]at e
  cases q:(aF (s.heap.objs.size+1) scope.names []).lookup x with
  | some d =>
   rw[q]at e
   have e':d=c:=az e
   subst e'
   have hm:=ay q
   refine .inl ⟨hm,?_⟩
   rcases zC hm with z|z
   ·exact z
   ·exact absurd z (by simp)
  | none =>
   rw[q]at e
   have e':(ac6 X.env.cells scope.names []).lookup x=some c:=e
   rcases clOf_mem (ay e')with z|z
   ·exact .inr ⟨z,rfl⟩
   ·exact absurd z (by simp)
 have up:∀ x c,(x,c)∈aF (s.heap.objs.size+1) scope.names []->s.heap.objs.size+1<=c:=fun x c h=>(ok.empty x c h).2
 have old:∀ x c,X.env.cells.lookup x=some c->c<s.heap.objs.size:=fun x c h=>by
  obtain⟨v,q⟩:=I.cell x c h
  exact q.lt
 have hbelow:∀ b,b<s.heap.objs.size->b≠s.heap.objs.size:=fun b h=>ax h
 have fpl:∀ b∈fp,H b=none/\b≠X.env.locals/\b ∉ X.fs:=fun b hb=>⟨(hf b hb).1,(hf b hb).2.1,(hf b hb).2.2.1⟩
 have hns:(du (s.heap.push { cls:=.type "dict",data:=.dict #[] }) scope.names).Ns s.heap.objs.size (fun _=>none):=(jr s.heap (.type "dict")).keeps (cy _ _)
 have hkind:∀ x k,scope.names.lookup x=some k->(dz scope X.env).names.lookup x=some (if(k==NameKind.free&&X.env.scope.kind==.function&&X.env.kindOf x==some .cell)then NameKind.cell else k):=fun x k e=>qo (env:=X.env) e
 have hkind0:∀ x,scope.names.lookup x=none->(dz scope X.env).names.lookup x=none:=fun x e=>qe (env:=X.env) e
 have frc:∀ x c,(x,NameKind.free)∈scope.names->X.env.cells.lookup x=some c->(aF (s.heap.objs.size+1) scope.names (ac6 X.env.cells scope.names [])).lookup x=some c:=fun x c hx hc=>by
  rw[eapp,zH]
  cases q:(aF (s.heap.objs.size+1) scope.names []).lookup x with
  | some d =>
   rcases zC (ay q)with z|z
   ·have:=hck.cel _ z rfl _ hx rfl
    cases this
   ·exact absurd z (by simp)
  | none=>exact qd hc hx
 have hfree:∀ x,(x,NameKind.free)∈scope.names->∃ c,X.env.cells.lookup x=some c:=fun x hx=>I.ok.has x (hck.fr _ hx rfl)
 refine⟨⟨I.ok.mod,hck.kind,I.ok.glob,I.ok.blt,ai _,fun x y c e1 e2=>?_,fun x hx=>?_,fun x c hx e=>?_,I.ok.hd,I.ok.frames,.inl rfl,fun b hb=>⟨hbelow b (hfl b hb),fun x c e z=>?_⟩,I.bs,aw I.ok.bsz I.sz,fun b o e hb=>?_,fun b hb z=>?_,I.stack,I.stkFree⟩,
  rfl,I.bare,Un.kept hk,⟨_,hns,fun i x v e1 e2 e3=>?_⟩,fun x c e=>?_,I.hok.fresh (ai _),fun x c e=>?_,fun p hp=>absurd (show p∈([]:List (Addr×Obj))from hp) (by simp),I.hok.kept hk,by unfold at1;rw[aM];exact hck.len⟩
 ·rcases lk x c e1 with⟨a1,_⟩|⟨a1,_⟩<;>rcases lk y c e2 with⟨a2,_⟩|⟨a2,_⟩
  ·exact ft ok.apart a1 a2
  ·exact absurd (am (old _ _ a2) (et (up _ _ a1))) (bu _)
  ·exact absurd (am (old _ _ a1) (et (up _ _ a2))) (bu _)
  ·exact I.ok.inj x y c a1 a2
 ·cases q:scope.names.lookup x with
  | none =>
   have hx':(dz scope X.env).names.lookup x=some .cell\/(dz scope X.env).names.lookup x=some .free:=hx
   rw[hkind0 x q]at hx'
   rcases hx' with z|z<;>cases z
  | some k =>
   have hx':(dz scope X.env).names.lookup x=some .cell\/(dz scope X.env).names.lookup x=some .free:=hx
   rw[hkind x k q]at hx'
   cases k with
   | free =>
    obtain⟨c,hc⟩:=hfree x (ay q)
    exact⟨c,frc x c (ay q) hc⟩
   | cell =>
    obtain⟨c,hc⟩:=zX (n:=s.heap.objs.size+1) q
    exact⟨c,by show(aF _ _ _).lookup x=_;rw[eapp,zH,hc];rfl⟩
   | _=>rcases hx' with z|z<;>cases z
 ·have hx':(scope.names.lookup x==some .cell)=true:=hx
  have q:scope.names.lookup x=some .cell:=by simpa using hx'
  rcases lk x c e with⟨a,_⟩|⟨a,b⟩
  ·have:=up _ _ a;show s.heap.objs.size<=c;omega
  ·obtain⟨d,hd⟩:=zX (n:=s.heap.objs.size+1) q
   rw[hd]at b;cases b
 ·subst z
  rcases lk x c e with⟨a,_⟩|⟨a,_⟩
  ·exact absurd (am (hfl c hb) (et (up _ _ a))) (bu _)
  ·exact(hf c hb).2.2.2.2.1 x c a rfl
 ·rcases(hf b hb).2.2.2.1 with z|z
  ·exact I.ok.noex b o e z
  ·exact absurd (am (aA e) (aw I.ok.bsz z)) (bu _)
 ·rcases au.mp (I.stkSub b z)with y|y
  ·exact(fpl b hb).2.1 y
  ·exact(fpl b hb).2.2 y
 ·have e2':(at1 src σ)[i]?=some (some v):=e2
  unfold at1 at e2'
  rw[aE]at e2'
  cases q:src[i]? with
  | none=>rw[q]at e2';cases e2'
  | some o =>
   rw[q]at e2'
   cases o with
   | none=>cases e2'
   | some j =>
    have e2'':(σ[j]?).join=some v:=az e2'
    have ej:σ[j]?=some (some v):=by
     cases q2:σ[j]? with
     | none=>rw[q2]at e2'';cases e2''
     | some o2=>rw[q2]at e2'';exact congrArg some e2''
    obtain⟨h1,h2⟩:=hck.sr i j x q e1
    have hm:=ay h2
    obtain⟨mX,hnX,hlX⟩:=I.loc
    have hvis:Vis X.env.scope x:=by
     rcases hck.fr _ hm rfl with z|z
     ·exact .inr (.inl z)
     ·exact .inr (.inr z)
    obtain⟨u,ru,look⟩:=hlX j x v h1 ej hvis
    refine⟨u,ru,.inr ?_⟩
    have hcell:∃ c,X.env.cells.lookup x=some c/\s.heap.IsCell c (some u):=by
     rcases look with⟨z,_⟩|⟨_,c,z1,z2⟩
     ·have z':X.env.scope.names.lookup x=some .local:=z
      rcases hck.fr _ hm rfl with y|y<;>(rw[z']at y;cases y)
     ·exact⟨c,z1,z2⟩
    obtain⟨c,c1,c2⟩:=hcell
    refine⟨?_,c,frc x c hm c1,c2.keeps hk⟩
    show(dz scope X.env).names.lookup x=some .cell\/(dz scope X.env).names.lookup x=some .free
    rw[hkind x _ h2]
    by_cases hc:(NameKind.free==NameKind.free&&X.env.scope.kind==.function&&X.env.kindOf x==some .cell)=true
    ·rw[if_pos hc];exact .inl rfl
    ·rw[if_neg hc];exact .inr rfl
 ·rcases lk x c e with⟨a,_⟩|⟨a,_⟩
  ·exact⟨_,(ok.empty x c a).1⟩
  ·obtain⟨v,q⟩:=I.cell x c a
   exact⟨v,q.keeps hk⟩
 ·rcases lk x c e with⟨a,_⟩|⟨a,_⟩
  ·exact I.hok.fresh (by have:=up _ _ a;omega)
  ·exact I.freeC x c a
theorem aD3 {X:Cx}{N':List Str}{scope:Scope}{pins:List (Addr×Obj)}{σ σ':St}{H H5:Hp}{s s5:ae}{fp:List Addr}{cells:List (Str×Addr)}{h':Heap}
  (I:Inv X pins σ H s) (hf:∀ b∈fp,FpOk X pins H b) (J:Inv (zM X N' scope s.heap.objs.size cells s H fp) [] σ' H5 s5) (hs:cY s.heap.objs.size s5.heap h') :
  Inv X pins σ H5 { s5 with heap:=h' }:=by
 have neC:∀ b o,s.heap.get? b=some o->b≠s.heap.objs.size:=fun b o e=>ax (aA e)
 have u:Un (frs X.stack) fp H H5 s.heap s5.heap:=J.base
 refine I.call' (s':={ s5 with heap:=h' }) (ch:=fp) J.os ⟨fun b o e n hb hx=>?_,fun b o e n hb hx=>?_,fun b o e n hx=>u.free b o e n hx,fun b o e hx=>?_,u.tups,u.frzs,u.tbls⟩ (fun b o e=>?_) J.bare fun b hb=>⟨(hf b hb).2.2.2.1,(hf b hb).2.1,(hf b hb).2.2.2.2.1,(hf b hb).2.2.2.2.2⟩
 ·exact(hs.2 b (neC b o e)).trans (u.keep b o e n hb hx)
 ·obtain⟨sl,q⟩:=u.slot b o e n hb hx
  exact⟨sl,(hs.2 b (neC b o e)).trans q⟩
 ·obtain⟨o',q⟩:=u.there b o e hx
  exact⟨o',(hs.2 b (neC b o e)).trans q⟩
 ·have fr:H5 s.heap.objs.size=none:=J.free
  refine(J.hok b o e).stay (fun c w' hc q=>(hs.2 c ?_).trans q) (fun _ q=>q) fun _ _ q=>q
  rintro rfl
  rcases hc with z|hc
  ·rw[<-z,fr]at e;cases e
  ·rw[fr]at hc;cases hc
theorem ae8 {M:Model}{A:aO}{E:Value->ae->Prop}{s:ae}{scope:Scope}{globals:Addr}{closure:List (Str×Addr)}{qual:Str}{outer:Env}{Q:Env->ae->Prop}
  (h:Q { scope:=scope,locals:=s.heap.objs.size,globals:=globals,cells:=aF (s.heap.objs.size+1) scope.names closure,qual:=qual,func:=none,code:=outer.code,frame:=outer.frame,builtins:=outer.builtins }
   { s with heap:=du (s.heap.push { cls:=.type "dict",data:=.dict #[] }) scope.names }) :
  wpAny M A (d4 scope globals closure [] qual none .none (some outer)) Q E s:=by
 simp only[d4,gR,if_true]
 refine ar (wpAny_alloc ?_)
 refine ar (wpAny_layCells _ (fun name kind cells=>by cases hkc:kind==NameKind.cell<;>simp[hkc]) _ _ _ _ ?_)
 rw[show({ s with heap:=s.heap.push { cls:=.type "dict",data:=.dict #[] } }:ae).heap.objs.size=s.heap.objs.size+1 from bQ ..]
 refine ar ?_
 rw[fY]
 exact aN (aN h)
theorem at8 {X':Cx}{R:iR->ae->Prop}{elt tg iter:Expr}{ifs:List Expr}{scope:Scope}{pos:Pos}{g:TG}{tc:TT}{te:TE}{J:It}{fp:List Addr}{it D:Addr}{tn:Nat->Heap->Prop}{W:Nat->Nat->St->Hp->Prop}
  {QD:Hp->Prop} {σ0:St} {H0:Hp} {s4:ae} {m0:Nat} (hx:X'.xe=fun _ _=>False) (hcalm:X'.calm=true) (I4:Inv X' [] σ0 H0 s4) (T:Turn X'.prog X'.w X'.K tg J fp it tn) (tn4:tn 0 s4.heap)
  (stat:∀ H':Hp,(∀ b∈fp,H' b=none)->∀ b∈fp,FpOk X' [] H' b) (fr0:∀ b∈fp,H0 b=none) (w0:W 0 m0 σ0 H0)
  (turn:∀ i m σ' H',W i m σ' H'->(J.stop i H'/\QD H')\/(J.go i H'/\∃ N:St->Hp->Prop,(∀ σ2 H2,N σ2 H2->∃ m',m'<m/\W (i+1) m' σ2 H2) /\
   ∀ x H2,J.yld i H' x H2->g x σ' H2 fun σ3 H3=>tc σ3 H3 fun b H4=>if b=true then te σ3 H4 fun v H5=>∃ ys,H5 D=some (.lst ys)/\ys.length<aH/\N σ3 (upd H5 D (.lst (ys++[v])))else N σ3 H4))
  (hg:PG X' tg g) (hif:PIf X' ifs tc) (he:PE X' elt te) (hend:∀ σ' H' s',Inv X' [] σ' H' s'->QD H'->R (.ok .next) s') :
  fj (model X'.prog X'.w) X'.A (.compLoop (.ListComp elt [⟨tg,iter,ifs,0⟩] scope pos) 0 (.ref it) (.ref D) X'.env) R s4:=by
 have nox:∀ {α:Type} {t:Sem α} {Q Q':α->ae->Prop} {E:Value->ae->Prop} {s:ae},wpAny (model X'.prog X'.w) X'.A t Q X'.xe s->(∀ a s,Q a s->Q' a s)->wpAny (model X'.prog X'.w) X'.A t Q' E s :=
  fun h hQ=>bv h hQ fun _ _ z=>by rw[hx]at z;exact z.elim
 refine aL4 (fun n s'=>∃ i σ' H',Inv X' [] σ' H' s'/\tn i s'.heap/\(∀ b∈fp,H' b=none)/\W i n σ' H') ?_ m0 ⟨0,σ0,H0,I4,tn4,fr0,w0⟩
 rintro n s3 ⟨i,σ3,H3,I3,st3,fr3,w3⟩
 rcases turn i n σ3 H3 w3 with⟨stop,qn⟩|⟨go,N,hN,step⟩
 ·refine nox (T.done X' rfl rfl rfl hcalm i [] s3 σ3 H3 X'.xe I3 (stat H3 fr3) st3 stop) fun r s4 ⟨hr,I4⟩=>?_
  subst hr
  exact hend σ3 H3 s4 I4 qn
 ·refine nox (T.item X' rfl rfl rfl hcalm i [] s3 σ3 H3 X'.xe I3 (stat H3 fr3) st3 go) fun r s4 ⟨u,hr,h4⟩=>?_
  subst hr
  refine nox h4 fun _ s5 ⟨x,H5,I5,r5,y5,st5,fr5⟩=>?_
  have I5':=I5.pinned (stat H5 fr5) (T.obj _ _ st5)
  refine nox (hg _ s5 σ3 H5 x u _ I5' r5 (step x H5 y5)) fun _ s6 ⟨σ6,H6,I6,q6⟩=>?_
  have again:∀ {σ7:St} {H7:Hp} {s7:ae},Inv X' ([]++au3 fp s5.heap) σ7 H7 s7->N σ7 H7->∃ m,m<n/\∃ i σ' H',Inv X' [] σ' H' s7/\tn i s7.heap/\(∀ b∈fp,H' b=none)/\W i m σ' H':=fun {σ7 H7 s7} I7 n7=>by
   obtain⟨m',hm,w7⟩:=hN σ7 H7 n7
   refine⟨m',hm,i+1,σ7,H7,I7.unpinned,T.keep _ _ _ st5 fun b hb o e=>(I7.pin (b,o) (aK _ (aK _ (qM hb e)))).1,fun b hb=>?_,w7⟩
   obtain⟨o,e,d⟩:=T.obj _ _ st5 b hb
   exact(I7.pin (b,o) (aK _ (aK _ (qM hb e)))).2.1
  refine nox (hif _ s6 σ6 H6 _ I6 q6) fun b s7 ⟨H7,I7,q7⟩=>?_
  cases b with
  | false =>
   rw[if_neg aP]at q7 ⊢
   exact again I7 q7
  | true =>
   rw[if_pos rfl]at q7 ⊢
   refine nox (he _ s7 σ6 H7 _ I7 q7) fun v s8 ⟨y,H8,I8,r8,ys,hy,hz,q8⟩=>?_
   refine nox (as7 _ s8 σ6 H8 (.ref D) [y] (.ref D) [v] (fun _ H9=>N σ6 H9) I8 rfl (.cons r8 .nil) ⟨D,ys,y,rfl,rfl,hy,hz,q8⟩) fun v9 s9 ⟨_,H9,I9,_,q9⟩=>?_
   exact again I9 q9
theorem aJ4 {X:Cx}{elt tg iter:Expr}{ifs:List Expr}{scope:Scope}{pos:Pos}{wi:TI}{g:TG}{tc:TT}{te:TE}(N':List Str)(src:List (Option Nat))
  (hck:zZ N' src scope X.N X.env.scope=true) (hi:PI X tg iter wi) (hcalm:X.calm=true)
  (hin:∀(C:Addr) (cells:List (Str×Addr)) (s:ae) (H:Hp) (ex:List Addr),PG (zM X N' scope C cells s H ex) tg g/\PIf (zM X N' scope C cells s H ex) ifs tc/\PE (zM X N' scope C cells s H ex) elt te)
  (hs:∀ x,cE iter X.env x=pure x:=by intro _;rfl):PE X (.ListComp elt [⟨tg,iter,ifs,0⟩] scope pos) (tComp src wi g tc te):=by
 intro pins s σ H Q I h
 have ck:=bf2 hck
 rw[eval_ListComp]
 have hcl:=z7 (scope:=scope) (env:=X.env) fun y hy e=>I.ok.has y.1 (ck.fr y hy e)
 refine eK (use:=none) rfl hs hcl ck.kind ck.loc (thn (hi pins s σ H _ I h) fun v s1 h1=>thn h1 fun itv s2 h2=>?_)
 obtain⟨it,fp,tn,J,H2,e,I2,T,st2,f2,W⟩:=h2
 subst e
 have hD:=I2.fresh
 obtain⟨W,⟨m0,w0⟩,turn⟩:=W _ hD
 have I3:=I2.lnew (its:=[]) (ys:=[]) (t':=s2.toks) .nil (dD _)
 have fpD:∀ b∈fp,b<s2.heap.objs.size:=fun b hb=>by obtain⟨o,q,_⟩:=T.obj _ _ st2 b hb;exact aA q
 have f3:∀ b∈fp,FpOk X pins (upd H2 s2.heap.objs.size (.lst [])) b:=fun b hb=>⟨by rw[za (ax (fpD b hb))];exact(f2 b hb).1,(f2 b hb).2⟩
 refine cb (ae8 ?_)
 generalize hs3:({ s2 with heap:=s2.heap.push { cls:=.type "list",data:=.seq ([]:List Value).toArray },toks:=s2.toks }:ae)=s3 at I3
 have hs3':({ s2 with heap:=s2.heap.push { cls:=.type "list",data:=.seq ([]:List Value).toArray } }:ae)=s3:=hs3
 have fp3:∀ b∈fp,b<s3.heap.objs.size:=fun b hb=>by
  rw[<-hs3]
  show b<(s2.heap.push _).objs.size
  rw[bQ]
  exact eA (fpD b hb)
 have I4:=am2 (s4:={ s3 with heap:=du (s3.heap.push { cls:=.type "dict",data:=.dict #[] }) scope.names }) ck I3 f3 fp3 ⟨_,rfl⟩
 have tn4:tn 0 (du (s3.heap.push { cls:=.type "dict",data:=.dict #[] }) scope.names):=T.keep _ _ _ st2 fun b hb o e=>cy _ _ b o (ak _ (by rw[<-hs3];exact ak _ e))
 obtain⟨hg,hif,he⟩:=hin s3.heap.objs.size (aF (s3.heap.objs.size+1) scope.names (ac6 X.env.cells scope.names [])) s3 (upd H2 s2.heap.objs.size (.lst [])) fp
 have stat:∀ H':Hp,(∀ b∈fp,H' b=none)->∀ b∈fp,FpOk (zM X N' scope s3.heap.objs.size (aF (s3.heap.objs.size+1) scope.names (ac6 X.env.cells scope.names [])) s3 (upd H2 s2.heap.objs.size (.lst [])) fp) [] H' b:=fun H' hn b hb =>
  ⟨hn b hb,(I4.ok.exf b hb).1,I4.ok.exfs b hb,.inl hb,fun x c e=>(I4.ok.exf b hb).2 x c e,fun p hp=>absurd (show p∈([]:List (Addr×Obj))from hp) (by simp)⟩
 have T':Turn X.prog X.w X.K tg J fp it tn:=T
 have fr0:∀ b∈fp,upd H2 s2.heap.objs.size (.lst []) b=none:=fun b hb=>(f3 b hb).1
 have L:=at8 (X':=zM X N' scope s3.heap.objs.size (aF (s3.heap.objs.size+1) scope.names (ac6 X.env.cells scope.names [])) s3 (upd H2 s2.heap.objs.size (.lst [])) fp) (R:=compPost (model X.prog X.w) X.A X.xe none (EP X pins σ Q) (Value.ref s2.heap.objs.size) s3.heap.objs.size) (iter:=iter) (scope:=scope) (pos:=pos) (QD:=fun H'=>Q (.ref s2.heap.objs.size) H') rfl hcalm I4 T' tn4 stat fr0 w0 turn hg hif he
  (fun σ' H' s' J' q=>by
   obtain⟨mm,hn,_⟩:=J'.loc
   exact⟨mm,hn,fun h' hs'=>⟨.ref s2.heap.objs.size,H',aD3 I3 f3 J' hs',rfl,q⟩⟩)
 exact fB L (T.self _ _ _ _ _ tn4 L)
section
variable {X:Cx}
theorem bN9:bf "abs"=some (.builtin "abs"):=by decide +kernel
theorem bM3:bf "len"=some (.builtin "len"):=by decide +kernel
theorem bx3:bf "min"=some (.builtin "min"):=by decide +kernel
theorem bE3:bf "max"=some (.builtin "max"):=by decide +kernel
theorem bK8:bf "all"=some (.builtin "all"):=by decide +kernel
theorem qI:bf "isinstance"=some (.builtin "isinstance"):=by decide +kernel
theorem bE5:bf "int"=some (.type "int"):=by decide +kernel
theorem bx5:bf "bool"=some (.type "bool"):=by decide +kernel
theorem bJ3:bf "str"=some (.type "str"):=by decide +kernel
theorem aL2:bf "tuple"=some (.type "tuple"):=by decide +kernel
theorem be2:bf "list"=some (.type "list"):=by decide +kernel
def bN6 (i j:Int):Prop:=0<j/\j<2^4096
theorem aE1 {y:Int}(h0:0<y)(h:y<2^4096):y.natAbs.log2<9000:=by
 have hn:y.natAbs<2^4096:=by
  have:(y.natAbs:Int)=y:=by omega
  have h2:(y.natAbs:Int)<((2^4096:Nat):Int):=by rw[this];simpa using h
  exact Int.ofNat_lt.mp h2
 have:=(Nat.log2_lt (by omega)).mpr hn
 omega
theorem aV4:OpR X (bM .FloorDiv) (rI bN6 fun i j=>.int (i / j)):=opI fun i j _ _ _ _ _ hc q=>by
 refine floordiv_int (by have:=hc.1;omega) ?_ (.inl (PyProof.noPylong_of_log2 (aE1 hc.1 hc.2)))
 rw[d0 i (by have:=hc.1;omega)]
 exact q
theorem aA7 {K:ac}(hK:X.K=K):IxR X (bR1 K):=by subst hK;exact br6
theorem bq6 {K:ac}(hK:X.K=K):IxR X (bS7 K):=by subst hK;exact ix_tup
theorem ai8 {K:ac}(hK:X.K=K):ab8 X (.builtin "len") (fun xs H Q=>∃ p ys,xs=[.ref p]/\(SqL K H p ys\/SqT K H p ys)/\Q (.int ys.length) H):=by subst hK;exact ar6
theorem ay4 {K:ac}(hK:X.K=K):ab8 X (.type "tuple") (fun xs H Q=>∃ p ys,xs=[.ref p]/\((SqL K H p ys/\∀ l,H l=none->Q (.ref l) (upd H l (.tup ys)))\/(SqT K H p ys/\Q (.ref p) H))):=by subst hK;exact ap8
theorem aG1 {K:ac}(hK:X.K=K):ab8 X (.type "list") (fun xs H Q=>∃ p ys,xs=[.ref p]/\(SqL K H p ys\/SqT K H p ys)/\∀ l,H l=none->Q (.ref l) (upd H l (.lst ys))):=by subst hK;exact as9
theorem aV2 {K:ac}{tg l:Expr}{tl:TE}(hK:X.K=K)(hl:PE X l tl):PI X tg l (bl7 K tl):=by subst hK;exact bo3 hl
theorem br2 {K:ac}{tg l:Expr}{tl:TE}(hK:X.K=K)(hl:PE X l tl):PI X tg l (bP7 K tl):=by subst hK;exact bH1 hl
theorem bn0 {K:ac}{pos:Pos}{es:List Expr}{k:Nat}{t:TGs}{n:Nat}(hK:X.K=K)(hc:X.calm=true)(h:PGs X es t)
  (hn:(bT es X.env).length=n:=by rfl) (hst:(bT es X.env).findIdx? (·.1)=none:=by rfl):PG X (.Tuple es k pos) (bO0 K n t):=by subst hK;exact bA7 hc h hn hst
end
structure DefAt (K:ac)(mg:Str->Option Value)(x:Str)(st:Stmt)(ps:List Str)(f:Addr)(fd:bw):Prop where
 fn:Fun K x x st f fd
 mg:mg x=some (.ref f)
 bi:Binds K fd ps []
@[irreducible] noncomputable def bV8 (p:Prop):Prop:=p
theorem ac8.new {p:Addr}{H H1:Hp}{o:HO}(h:ac8 H H1)(hp:H1 p=none):ac8 H (L2.upd H1 p o):=fun x o e=>by
 have e1:=h x o e
 rw[za (zu e1 hp)]
 exact e1
section
variable {prog:aC} {w:World} {A:aO} {R:iR->ae->Prop} {I:Addr} {fp wr:List Addr} {n:Nat} {P:Nat->Value->Prop} {St:Nat->Heap->Prop} {kw:List (Str×Value)}
end
theorem ak4 (val : Nat -> Int) : ∀ k j, j <= k -> val (iM (fun i j => decide (val i < val j)) k) <= val j
  | 0, j, h => by have : j = 0 := by omega
                  subst this; exact bR _
  | k + 1, j, h => by
    have ih := ak4 val k
    unfold iM
    by_cases hb : val (k + 1) < val (iM (fun i j => decide (val i < val j)) k)
    · rw[if_pos (by simpa using hb)]
      by_cases hj : j = k + 1
      · subst hj; exact bR _
      · have := ih j (by omega); omega
    · rw[if_neg (by simpa using hb)]
      by_cases hj : j = k + 1
      · subst hj; omega
      · exact ih j (by omega)
theorem aP6 {ns:List Int}{its:List Value}(r:Vals (ns.map V.int) its){i:Nat}{v:Value}(h:its[i]?=some v):∃ z t,ns[i]?=some z/\v=Value.int z t:=by
 have hl:=r.length
 rw[aM]at hl
 have hi:i<its.length:=(ag.mp h).1
 obtain⟨u,e1,q⟩:=r.get (i:=i) (x:=.int ns[i]) (by rw[aE,aj (by omega)];rfl)
 rw[h]at e1;cases e1
 obtain⟨t,rfl⟩:=q
 exact⟨_,t,aj (by omega),rfl⟩
inductive D where
 | non|bl (b:Bool)|int (i:Int)|str (x:Str)|tup (l:List D)|lst (l:List D)
mutual
noncomputable def D.deep:D->Nat
 | .tup l=>D.deepL l+1
 | .lst l=>D.deepL l+1
 | _=>0
noncomputable def D.deepL:List D->Nat
 | []=>0
 | d::l=>max (D.deep d) (D.deepL l)
end
section
variable {X:Cx}
end
section
variable {X:Cx}
def bN8 (K:ac):R2:=fun x y H Q=>∃ a b xs ys,x=.ref a/\y=.ref b/\SqT K H a xs/\SqT K H b ys/\xs.length+ys.length<=aH/\∀ p H',ac8 H H'->SqT K H' p (xs++ys)->(H' p=some (.tup (xs++ys))\/(p=a/\ys=[])\/(p=b/\xs=[]))->Q (.ref p) H'
theorem bj2 {prog:aC}{w:World}{A:aO}{E:Value->ae->Prop}{s:ae}{t b:Addr}{ws:List Value}{Q:Value->ae->Prop}(ht:IsTup s.heap t ([]:List Value).toArray)(hb:IsTup s.heap b ws.toArray)(h1:Q (.ref b) s) :
  wpAny (model prog w) A (bM .Add (.ref t) (.ref b)) Q E s:=by
 obtain⟨⟨cls,dd,data,sl⟩,ho,hc,n,hd⟩:=id ht
 obtain⟨⟨cls2,dd2,data2,sl2⟩,ho2,hc2,n2,hd2⟩:=id hb
 simp only at hc hd hc2 hd2
 subst hc hd hc2 hd2
 exact hG ⟨_,ho,rfl⟩ ⟨_,ho2,rfl⟩ eR gF c5 cW (cO _ _)
   (tuple_addW0 t b _ ws.toArray n n2 dd dd2 sl sl2 rfl) ⟨ho,ho2,h1⟩
theorem bm0 {K:ac}(hK:X.K=K):OpR X (bM .Add) (bN8 K):=by
 subst hK
 intro pins s σ H x y v u Q I rx ry h
 obtain⟨a,b,xs,ys,e1,e2,ha,hb,hz,q⟩:=h
 by_cases hx:xs=[]
 ·subst e1;subst e2;subst hx
  cases rx;cases ry
  obtain⟨its,r1,p1,_⟩:=I.tuple ha
  obtain⟨its2,r2,p2,_⟩:=I.tuple hb
  obtain rfl:its=[]:=r1.nil_iff.mpr rfl
  exact bj2 p1 p2 ⟨.ref b,H,I,rfl,q b H (ac8.refl H) hb (.inr (.inr ⟨rfl,rfl⟩))⟩
 ·refine bn3 pins s σ H x y v u Q I rx ry ⟨a,b,xs,ys,e1,e2,ha,hb,hx,hz,fun z=>?_,fun z p hp=>?_⟩
  ·subst z
   exact q a H (ac8.refl H) (by rw[bj];exact ha) (.inr (.inl ⟨rfl,rfl⟩))
  ·exact q p _ ((ac8.refl H).new hp) (SqT.of zb) (.inl zb)
end
noncomputable def Its (x:Str):It:=⟨fun i _=>i<x.cps.size,fun i H v H'=>H'=H/\∃ c,x.cps[i]?=some c/\v=.str ⟨#[c]⟩,fun i _=>x.cps.size<=i⟩
theorem aB0 {P:aC}{w:World}{K:ac}{tg:Expr}{ty:String}{x:Str}{t:Tok}(it:Addr)(hn:["enumerate", "zip", "dict_itemiterator", "dict_reverseitemiterator", "odict_iterator", "itertools.zip_longest", "itertools.pairwise"].contains ty=false)
  (W:∀ A:aO,A.handled=none->Walks P w A it [it] [it] x.cps.size (SignAt x) (fun i h=>h.IsStrIter it ty x t i))
  (hend:∀(A:aO) (s:ae) (i:Nat) (Q:Option Value->ae->Prop) (E:Value->ae->Prop),A.handled=none->s.heap.IsStrIter it ty x t i->x.cps[i]?=none->(∀ h',iy it s.heap h'->Q none { s with heap:=h' })->wpAny (model P w) A (pyNext (.ref it)) Q E s)
  (hself:∀(A:aO) (i:Nat) (s:ae) (Q:Value->ae->Prop) (E:Value->ae->Prop),s.heap.IsStrIter it ty x t i->Q (.ref it) s->wpAny (model P w) A (jg (.ref it)) Q E s):Turn P w K tg (Its x) [it] it (fun i h=>h.IsStrIter it ty x t i) where
 mem:=by simp
 obj:=fun i h st b hb=>by
  have e:b=it:=by simpa using hb
  subst e
  obtain⟨o,ho,hc,hd⟩:=st
  exact⟨o,ho,fun v z=>by rw[hd]at z;cases z⟩
 keep:=fun i h h' st k=>by
  obtain⟨o,ho,r⟩:=st
  exact⟨o,k it (by simp) _ ho,r⟩
 item:=by
  intro X hP hw hK hc i pins s σ H E I hf st hg
  subst hP hw hK
  obtain⟨f0,f1,f2,f3,f4,f5⟩:=hf it (by simp)
  refine(W X.A (I.ok.hd hc)).item i s _ _ hg st fun v h' tk hv st' kk=>?_
  obtain⟨c,u,hcx,rfl⟩:=hv
  have I1:Inv X pins σ H { s with heap:=h',toks:=tk }:=I.turned (fun b o hb e=>kk b o (by simpa using hb) e) f0 f1 f3 f4 f5
  obtain⟨o,ho,hcl,hd⟩:=id st'
  exact⟨_,rfl,aU2 (s:={ s with heap:=h',toks:=tk }) (n:=ty) ho hcl hd hn ⟨.str ⟨#[c]⟩,H,I1,⟨u,rfl⟩,⟨rfl,c,hcx,rfl⟩,st',fun b hb=>(hf b hb).1⟩⟩
 done:=by
  intro X hP hw hK hc i pins s σ H E I hf st hg
  subst hP hw hK
  obtain⟨f0,f1,f2,f3,f4,f5⟩:=hf it (by simp)
  have hin:x.cps.size<=i:=hg
  exact hend X.A s i _ E (I.ok.hd hc) st (by simp;omega) fun h' eb=>⟨rfl,I.turned (t':=s.toks) (fun b o hb e=>eb b o hb e) f0 f1 f3 f4 f5⟩
 self:=fun A i s Q E st h=>hself A i s Q E st h
def bS9 (tl:TE):TI:=fun σ H R=>tl σ H fun v H1=>∃ x,v=.str x/\R (Its x) H1
theorem bv0 {X:Cx}{tg l:Expr}{tl:TE}(hl:PE X l tl):PI X tg l (bS9 tl):=by
 intro pins s σ H R I h
 refine thn (hl pins s σ H _ I h) fun v s1 ⟨v0,H1,I1,r1,q1⟩=>?_
 obtain⟨x,e,q⟩:=q1
 subst e
 obtain⟨t,rfl⟩:=r1
 have fin:∀(ty:String) (o:Obj),o={ cls:=.type ty,data:=.fields #[.str x t,.int 0 0] }->Turn X.prog X.w X.K tg (Its x) [s1.heap.objs.size] s1.heap.objs.size (fun i h=>h.IsStrIter s1.heap.objs.size ty x t i)->PIE X pins σ tg R (.ref s1.heap.objs.size) { s1 with heap:=s1.heap.push o }:=fun ty o eo T=>by
  subst eo
  refine⟨s1.heap.objs.size,[s1.heap.objs.size],_,_,H1,rfl,I1.kept (t':=s1.toks) fun b o e=>ak _ e,T,⟨_,aS _ rfl,rfl,rfl⟩,fun b hb=>?_,q⟩
  have e:b=s1.heap.objs.size:=by simpa using hb
  subst e
  exact I1.fpOk (ai _) (I1.hok.fresh (ai _))
 cases ha:x.cps.all (·<128)
 ·exact wpAny_pyIter_wide ha (fin "str_iterator" _ rfl (aB0 _ (by decide) (fun A hA=>Walks.strWide hA _ x t) (fun A s i Q E hA st hx hQ=>wpAny_pyNext_wide_end hA st hx hQ) fun A i s Q E st h=>wpAny_pyIter_striter_wide st h))
 ·exact wpAny_pyIter_ascii ha (fin "str_ascii_iterator" _ rfl (aB0 _ (by decide) (fun A hA=>Walks.strAscii hA _ x t) (fun A s i Q E hA st hx hQ=>wpAny_pyNext_ascii_end hA st hx hQ) fun A i s Q E st h=>wpAny_pyIter_striter_ascii st h))
section
variable {X:Cx} {K:ac} {T id:String} {name:Str} {o e:Expr} {es:List Expr} {to:TE} {t:TA} {r:V->List V->Hp->VK->Prop} {apos cpos:Pos}
theorem bD6 (hK:X.K=K)(pa:iT T)(slot:Slot T name id)(hty:ik (.builtin id)=pure (.type "method_descriptor"))(hm:MtR X id r)(ho:PE X o to)(ha:PA X (e::es) t)
  (hbase:dw o name X.env (eval o X.env)=eval o X.env:=by rfl)
  (hfew:((cL cpos (bh (e::es) X.env)).all (fun x=>!x.1)&&(backToKw cpos (iw [] X.env)).all (fun x=>x.1.isSome)
   && decide ((e::es).length+([]:List gj).length+(if([]:List gj).isEmpty then 0 else 1)<30))=true:=by rfl)
  (hline:(apos.endLine==cpos.line)=true:=by rfl) (hs:bh (e::es) X.env=(false,eval e X.env)::bh es X.env:=by rfl) (hplain:(cL cpos (bh es X.env)).any (·.1)=false:=by rfl) :
  PE X (.Call (.Attribute o name apos) (e::es) [] cpos) (tBM K T r to t):=by
 subst hK
 exact bP3 pa slot hty hm ho ha hbase hfew hline hs hplain
end
structure Mach where
 letters:Int
 rooms:Int
 begins:List Int
 ends:List Int
 doors:List (Int×Str×Int×Int)
noncomputable def bP5 (q:Int×Str×Int×Int):D:=.tup [.int q.1,.str q.2.1,.int q.2.2.1,.int q.2.2.2]
noncomputable def Mach.D (M:Mach):D:=.tup [.int M.letters,.int M.rooms,.tup (M.begins.map .int),.tup (M.ends.map .int),.tup (M.doors.map bP5)]
noncomputable def ltr (i:Nat):Str:=⟨#[97+i]⟩
structure DoorOk (letters rooms:Int)(q:Int×Str×Int×Int):Prop where
 s0:0<=q.1
 s1:q.1<rooms
 l:∃ i:Nat,(i:Int)<letters/\q.2.1=ltr i
 g0:0<=q.2.2.1
 g1:q.2.2.1<rooms
 t0:0<=q.2.2.2
 t1:q.2.2.2<=3
structure RoomsOk (rooms:Int)(l:List Int):Prop where
 mem:∀ r∈l,0<=r/\r<rooms
 up:l.Pairwise (· < ·)
structure Mach.Ok (most:Nat)(M:Mach):Prop where
 l0:1<=M.letters
 l1:M.letters<=3
 r0:1<=M.rooms
 r1:M.rooms<=5
 b:RoomsOk M.rooms M.begins
 e:RoomsOk M.rooms M.ends
 d:∀ q∈M.doors,DoorOk M.letters M.rooms q
 m:M.doors.length<=most
mutual
noncomputable def D.tups:D->Bool
 | .lst _=>false
 | .tup l=>D.tupsL l
 | _=>true
noncomputable def D.tupsL:List D->Bool
 | []=>true
 | d::l=>D.tups d&&D.tupsL l
end
end L2
end
noncomputable section
namespace L2
end L2
end
noncomputable section
namespace L2
open PySem PySem.Spec PyProof.Rows
noncomputable def minO:List Int->Option Int
 | []=>none
 | a::l=>some (match minO l with|none=>a|some b=>if b<a then b else a)
theorem ag8:∀ {l:List Int},minO l=none↔l=[]
 | []=>by simp[minO]
 | a::l=>by simp[minO]
theorem as0:∀ {l:List Int} {m:Int},minO l=some m->m∈l/\∀ y∈l,m<=y
 | [],m,h=>by cases h
 | a::l,m,h=>by
  unfold minO at h
  have h':=az h
  cases e:minO l with
  | none =>
   rw[e]at h'
   have:l=[]:=ag8.mp e
   subst this
   have:a=m:=h'
   subst this
   exact⟨aq,fun y hy=>by(have h0:y=a:=(by simpa using hy));omega⟩
  | some b =>
   rw[e]at h'
   obtain⟨h1,h2⟩:=as0 e
   have h'':(if b<a then b else a)=m:=h'
   split at h''
   ·subst h''
    exact⟨ah _ h1,fun y hy=>by
     rcases au.mp hy with z|z
     ·omega
     ·exact h2 y z⟩
   ·subst h''
    exact⟨aq,fun y hy=>by
     rcases au.mp hy with z|z
     ·omega
     ·have:=h2 y z;omega⟩
theorem aF1 {X:Cx}{elt tg iter:Expr}{ifs:List Expr}{scope:Scope}{pos spos py:Pos}{y:Str}{i:Nat}{wi:TI}{g:TG}{tc:TT}{te:TE}(N':List Str)(src:List (Option Nat))
  (hN:X.N.Nodup) (hyi:X.N[i]?=some y) (hyl:X.env.scope.names.lookup y=some .local)
  (hck:zZ N' src scope X.N X.env.scope=true) (hi:PI X tg iter wi) (hcalm:X.calm=true)
  (hin:∀(C:Addr) (cells:List (Str×Addr)) (s:ae) (H:Hp) (ex:List Addr),PG (zM X N' scope C cells s H ex) tg g/\PIf (zM X N' scope C cells s H ex) ifs tc/\PE (zM X N' scope C cells s H ex) elt te)
  (hs:∀ x,cE iter X.env x=pure x:=by intro _;rfl)
  (hsw:dX (.ListComp elt [⟨tg,iter,ifs,0⟩] scope pos) (some (.Name y py)) spos.line X.env=pure true:=by rfl) :
  PS X (.Assign [.Name y py] (.ListComp elt [⟨tg,iter,ifs,0⟩] scope pos) spos) (aU5 (tComp src wi g tc te) (av0 i)):=by
 intro pins s σ H D0 I h
 have ck:=bf2 hck
 rw[exec_Assign_Name_used _ _ _ _ hsw]
 refine ar (gC (ar ?_))
 show wpAny _ X.A (do let _ <- comprehension (.ListComp elt [⟨tg,iter,ifs,0⟩] scope pos) scope X.env _ (newList []) false (eval iter X.env) (some (fi (.Name y py) X.env))) _ _ s
 have hcl:=z7 (scope:=scope) (env:=X.env) fun y hy e=>I.ok.has y.1 (ck.fr y hy e)
 refine ar (bv (eK (use:=some (fi (.Name y py) X.env)) (Q:=fun _ s'=>SP X pins D0 .next s') rfl hs hcl ck.kind ck.loc (thn (hi pins s σ H _ I h) fun v s1 h1=>thn h1 fun itv s2 h2=>?_)) (fun _ s' hq=>aN (aN hq)) fun _ _ e=>e)
 obtain⟨it,fp,tn,J,H2,e,I2,T,st2,f2,W⟩:=h2
 subst e
 have hD:=I2.fresh
 obtain⟨W,⟨m0,w0⟩,turn⟩:=W _ hD
 have I3:=I2.lnew (its:=[]) (ys:=[]) (t':=s2.toks) .nil (dD _)
 have fpD:∀ b∈fp,b<s2.heap.objs.size:=fun b hb=>by obtain⟨o,q,_⟩:=T.obj _ _ st2 b hb;exact aA q
 have f3:∀ b∈fp,FpOk X pins (upd H2 s2.heap.objs.size (.lst [])) b:=fun b hb=>⟨by rw[za (ax (fpD b hb))];exact(f2 b hb).1,(f2 b hb).2⟩
 refine cb (ae8 ?_)
 generalize hs3:({ s2 with heap:=s2.heap.push { cls:=.type "list",data:=.seq ([]:List Value).toArray },toks:=s2.toks }:ae)=s3 at I3
 have hs3':({ s2 with heap:=s2.heap.push { cls:=.type "list",data:=.seq ([]:List Value).toArray } }:ae)=s3:=hs3
 have fp3:∀ b∈fp,b<s3.heap.objs.size:=fun b hb=>by
  rw[<-hs3]
  show b<(s2.heap.push _).objs.size
  rw[bQ]
  exact eA (fpD b hb)
 have I4:=am2 (s4:={ s3 with heap:=du (s3.heap.push { cls:=.type "dict",data:=.dict #[] }) scope.names }) ck I3 f3 fp3 ⟨_,rfl⟩
 have tn4:tn 0 (du (s3.heap.push { cls:=.type "dict",data:=.dict #[] }) scope.names):=T.keep _ _ _ st2 fun b hb o e=>cy _ _ b o (ak _ (by rw[<-hs3];exact ak _ e))
 obtain⟨hg,hif,he⟩:=hin s3.heap.objs.size (aF (s3.heap.objs.size+1) scope.names (ac6 X.env.cells scope.names [])) s3 (upd H2 s2.heap.objs.size (.lst [])) fp
 have stat:∀ H':Hp,(∀ b∈fp,H' b=none)->∀ b∈fp,FpOk (zM X N' scope s3.heap.objs.size (aF (s3.heap.objs.size+1) scope.names (ac6 X.env.cells scope.names [])) s3 (upd H2 s2.heap.objs.size (.lst [])) fp) [] H' b:=fun H' hn b hb =>
  ⟨hn b hb,(I4.ok.exf b hb).1,I4.ok.exfs b hb,.inl hb,fun x c e=>(I4.ok.exf b hb).2 x c e,fun p hp=>absurd (show p∈([]:List (Addr×Obj))from hp) (by simp)⟩
 have T':Turn X.prog X.w X.K tg J fp it tn:=T
 have fr0:∀ b∈fp,upd H2 s2.heap.objs.size (.lst []) b=none:=fun b hb=>(f3 b hb).1
 have L:=at8 (X':=zM X N' scope s3.heap.objs.size (aF (s3.heap.objs.size+1) scope.names (ac6 X.env.cells scope.names [])) s3 (upd H2 s2.heap.objs.size (.lst [])) fp) (R:=compPost (model X.prog X.w) X.A X.xe (some (fi (.Name y py) X.env)) (fun _ s'=>SP X pins D0 .next s') (Value.ref s2.heap.objs.size) s3.heap.objs.size) (iter:=iter) (scope:=scope) (pos:=pos) (QD:=fun H'=>D0.nx (σ.set i (some (.ref s2.heap.objs.size))) H') rfl hcalm I4 T' tn4 stat fr0 w0 turn hg hif he
  (fun σ' H' s' J' q=>by
   have J2:=aD3 I3 f3 J' (Heap.SameBut.refl _ _)
   obtain⟨mm,hn,_⟩:=J'.loc
   have nL:s3.heap.objs.size≠X.env.locals:=cJ I3.lt
   have nC:∀ x c,X.env.cells.lookup x=some c->c≠s3.heap.objs.size:=fun x c e=>by
    obtain⟨v,z⟩:=I3.cell x c e
    exact ax z.lt
   show wpAny _ X.A (fi (.Name y py) X.env (.ref s2.heap.objs.size)) _ _ _
   refine g7 (at9 (v:=.ref s2.heap.objs.size) J2 hN hyi (.inl hyl) rfl (fun s5 I5 sb=>?_) (.inr hyl))
   obtain⟨aa,sb,ha⟩:=sb
   have na:s3.heap.objs.size≠aa:=by
    rcases ha with z|z
    ·rw[z];exact nL
    ·exact fun e=>nC _ _ z e.symm
   refine⟨mm,hn.sameBut sb na,fun h' hs'=>⟨_,H',I5.turned (t':=s5.toks) (fun b o hb e=>(hs'.2 b hb).trans e) J'.free nL (.inr I3.sz) nC fun p hp z=>?_,q⟩⟩
   exact absurd (aA (I3.pin p hp).1) (by rw[z];exact bu _))
 exact fB L (T.self _ _ _ _ _ tn4 L)
section
variable {M:Model} {A:aO} {E:Value->ae->Prop} {s₀ s:ae} {m cm:Str->Option Value} {env:Env} {cs:List (Str×Addr)}
theorem bt1 {n:Str}{v:Value}{Q:Unit->ae->Prop}(z:el s₀ env.locals m cs cm s)(kf:env.scope.kind=.function)(kl:env.kindOf n=some .local)
  (go:∀ s',el s₀ env.locals (fun y=>if y=n then some v else m y) cs cm s'->Q () s'):wpAny M A (dW env n v) Q E s:=by
 refine fK kl z.toInCall.ns (fun g gn gs=>go _ ⟨⟨?a,gn,fun b o e=>?b,z.toInCall.fresh⟩,fun k c e=>?c,z.apart,z.above⟩) (by rw[kf];rfl)
 case a=>obtain⟨h₁,tk,e⟩:=z.toInCall.same;subst e;exact⟨g,_,rfl⟩
 case b=>exact gs.extBut b o (ax (am (aA e) z.toInCall.fresh)) (z.toInCall.keep b o e)
 case c=>exact(z.cell k c e).sameBut gs (cJ (z.above k c (ay e)))
theorem bo2 {n:Str}{c:Addr}{v:Value}{Q:Unit->ae->Prop}(z:el s₀ env.locals m cs cm s)(kf:env.scope.kind=.function)(kc:env.kindOf n=some .cell)
  (e1:env.cells.lookup n=some c) (e2:cs.lookup n=some c) (go:∀ s',el s₀ env.locals m cs (fun y=>if y=n then some v else cm y) s'->Q () s'):wpAny M A (dW env n v) Q E s:=by
 have up:=z.above n c (ay e2)
 refine fR kf kc e1 (z.cell n c e2) fun g gc gs=>go _ ⟨⟨?a,z.toInCall.ns.sameBut gs (ax up),fun b o e=>?b,z.toInCall.fresh⟩,fun k c' e=>?c,z.apart,z.above⟩
 case a=>obtain⟨h₁,tk,e⟩:=z.toInCall.same;subst e;exact⟨g,_,rfl⟩
 case b=>exact gs.extBut b o (ax (c8 (am (aA e) z.toInCall.fresh) up)) (z.toInCall.keep b o e)
 case c =>
  by_cases q:k=n
  ·subst q
   rw[e2]at e;cases e
   simpa using gc
  ·rw[if_neg q]
   exact(z.cell k c' e).sameBut gs fun y=>q (ft z.apart (ay e) (y▸ay e2))
theorem ax2 (f:Str×Value->PUnit->Sem (ForInStep PUnit))(hf:∀ n v u,f (n,v) u=(do dW env n v;pure (.yield ⟨⟩)))(kf:env.scope.kind=.function)(sub:∀ n c,cs.lookup n=some c->env.cells.lookup n=some c) :
  ∀(bs:List (Str×Value)) (m cm:Str->Option Value) (s:ae) (Q:PUnit->ae->Prop),el s₀ env.locals m cs cm s ->
   (∀ y∈bs,env.kindOf y.1=some .local\/(env.kindOf y.1=some .cell/\∃ c,cs.lookup y.1=some c)) ->
   (∀ s',el s₀ env.locals (bindL env.kindOf bs m) cs (bindC env.kindOf bs cm) s'->Q ⟨⟩ s')->wpAny M A (forIn bs ⟨⟩ f) Q E s
 | [],m,cm,s,Q,z,_,go=>by rw[fY];exact aN (go s z)
 | (n,v)::r,m,cm,s,Q,z,hy,go=>by
  rw[iB,hf]
  have hr:=fun y (q:y∈r)=>hy y (ah _ q)
  rcases hy (n,v) aq with kl|⟨kc,c,e2⟩
  ·refine ar (ar (bt1 z kf kl fun s' z'=>aN (ax2 f hf kf sub r _ _ s' Q z' hr fun s'' z''=>go s'' ?_)))
   unfold bindL bindC;rw[if_pos kl,if_pos kl];exact z''
  ·have nl:¬ env.kindOf n=some .local:=by rw[kc];decide
   refine ar (ar (bo2 z kf kc (sub n c e2) e2 fun s' z'=>aN (ax2 f hf kf sub r _ _ s' Q z' hr fun s'' z''=>go s'' ?_)))
   unfold bindL bindC;rw[if_neg nl,if_neg nl];exact z''
end
theorem am4 {M:Model}{A:aO}{E:Value->ae->Prop}{s:ae}{scope:Scope}{globals:Addr}{clos:List (Str×Addr)}{binds:List (Str×Value)}{qual:Str}{func:Option Addr}{code:Value}{builtins:Addr}{Q:Env->ae->Prop}
  (kf:scope.kind=.function) (hy:∀ y∈binds,scope.names.lookup y.1=some .local\/(scope.names.lookup y.1=some .cell/\∃ c,(aF (s.heap.objs.size+1) scope.names []).lookup y.1=some c))
  (go:∀ env,env=newEnv scope s.heap.objs.size globals (aF (s.heap.objs.size+1) scope.names clos) qual func code none builtins ->
   ∀ s',el s env.locals (bindL env.kindOf binds fun _=>none) (aF (s.heap.objs.size+1) scope.names []) (bindC env.kindOf binds fun _=>none) s'->Q env s') :
  wpAny M A (d4 scope globals clos binds qual func code none builtins) Q E s:=by
 simp only[d4,Option.isSome_none,aW,if_false]
 refine ar (wpAny_alloc (ar (wpAny_layCells _ (fun nm kd ce=>by cases q:kd==NameKind.cell<;>simp[q]) _ _ _ _ ?_)))
 have ok:=cellsFrom_ok scope.names (s.heap.push { cls:=.type "frame",data:=.dict #[] }) (s.heap.objs.size+1) [] ⟨fun _ _ hm=>(nomatch hm),List.Pairwise.nil⟩ (by rw[bQ];exact ai _)
 have esz:({ s with heap:=s.heap.push { cls:=.type "frame",data:=.dict #[] } }:ae).heap.objs.size=s.heap.objs.size+1:=bQ ..
 rw[bQ]at ok
 rw[esz]
 refine ar (ax2 (s₀:=s) (cs:=aF (s.heap.objs.size+1) scope.names []) (env:=newEnv scope s.heap.objs.size globals (aF (s.heap.objs.size+1) scope.names clos) qual func code none builtins)
  _ (fun _ _ _=>rfl) kf (fun n c e=>?sub) binds (fun _=>none) (fun _=>none) _ _ ⟨⟨⟨_,_,rfl⟩,?ns,fun b o e=>?k,ai _⟩,fun n c e=>(ok.empty n c (ay e)).1,ok.apart,fun n c e=>(ok.empty n c e).2⟩ hy fun s' x=>aN (go _ rfl s' x))
 case sub =>
  show(aF _ _ _).lookup n=some c
  rw[zl,zH,e];rfl
 case ns=>exact(jr s.heap (.type "frame")).keeps (cy _ _)
 case k=>exact cy _ _ b o (ak _ e)
noncomputable def qf (c:Addr)(qual:Str):HO:=.ext fun h=>h.CodeRec (.ref c) qual
noncomputable def ap9 (f:Addr)(fd:bw):HO:=.ext fun h=>h.get? f=some { cls:=.type "function",data:=.func fd }
theorem aB2 {P:aC}{w:World}{H:Hp}{h:Heap}{c:Addr}{q:Str}(r:h.CodeRec (.ref c) q):ab6 P w H h c (qf c q):=by
 refine⟨r,?_,fun h1 h2 z k=>?_⟩
 ·obtain⟨c',o,vs,t,e,g,_⟩:=r
  cases e
  exact⟨o,g⟩
 ·obtain⟨c',o,vs,t,e,g,d⟩:=z
  cases e
  exact⟨c,o,vs,t,rfl,k o g,d⟩
theorem at5 {P:aC}{w:World}{H:Hp}{h:Heap}{c:Addr}{q:Str}(x:HOk P w H h)(e:H c=some (qf c q)):h.CodeRec (.ref c) q:=(x c _ e).1
theorem ap2 {P:aC}{w:World}{H:Hp}{h:Heap}{f:Addr}{fd:bw}(r:h.get? f=some { cls:=.type "function",data:=.func fd }):ab6 P w H h f (ap9 f fd) :=
 ⟨r,⟨_,r⟩,fun _ _ z k=>k _ z⟩
theorem an9 {P:aC}{w:World}{H:Hp}{h:Heap}{f:Addr}{fd:bw}(x:HOk P w H h)(e:H f=some (ap9 f fd)):h.get? f=some { cls:=.type "function",data:=.func fd }:=(x f _ e).1
noncomputable def isC (cells:List (Str×Addr))(b:Addr):Bool:=cells.any fun p=>cells.lookup p.1==some b
theorem ad1 {cells:List (Str×Addr)}{b:Addr}:isC cells b=true↔∃ x,cells.lookup x=some b:=by
 unfold isC
 rw[List.any_eq_true]
 constructor
 ·rintro⟨p,_,e⟩;exact⟨p.1,by simpa using e⟩
 ·rintro⟨x,e⟩;exact⟨(x,b),ay e,by simpa using e⟩
noncomputable def ab4 (cells:List (Str×Addr))(H:Hp):Hp:=fun b=>if isC cells b=true then none else H b
noncomputable def Put (cells:List (Str×Addr))(H H':Hp):Hp:=fun b=>if isC cells b=true then H b else H' b
theorem ab4.cell {cells:List (Str×Addr)}{H:Hp}{b:Addr}(h:isC cells b=true):ab4 cells H b=none:=if_pos h
theorem ab4.ne {cells:List (Str×Addr)}{H:Hp}{b:Addr}(h:isC cells b≠true):ab4 cells H b=H b:=if_neg h
theorem ab4.some {cells:List (Str×Addr)}{H:Hp}{b:Addr}{o:HO}(h:ab4 cells H b=some o):isC cells b≠true/\H b=some o:=by
 unfold ab4 at h
 split at h
 ·cases h
 ·rename_i z;exact⟨z,h⟩
theorem ab4.none {cells:List (Str×Addr)}{H:Hp}{b:Addr}(h:H b=none):ab4 cells H b=none:=by
 unfold ab4
 split
 ·rfl
 ·exact h
theorem Put.cell {cells:List (Str×Addr)}{H H':Hp}{b:Addr}(h:isC cells b=true):Put cells H H' b=H b:=if_pos h
theorem Put.ne {cells:List (Str×Addr)}{H H':Hp}{b:Addr}(h:isC cells b≠true):Put cells H H' b=H' b:=if_neg h
def Cells (clos:List (Str×Addr))(H:Hp):Prop:=∀ x c,clos.lookup x=some c->∃ o v,H c=some (.frz o (.own c))/\o.data=.cell v
theorem Cells.at {clos:List (Str×Addr)}{H:Hp}(z:Cells clos H){b:Addr}(h:isC clos b=true):∃ o v,H b=some (.frz o (.own b))/\o.data=.cell v:=by
 obtain⟨x,e⟩:=ad1.mp h
 exact z x b e
def Cap (clos:List (Str×Addr))(H:Hp)(fr:List Str)(cap:List V):Prop:=∀(i:Nat) (x:Str) (v:V),fr[i]?=some x->cap[i]?=some v->∃ c o u,clos.lookup x=some c/\H c=some (.frz o (.own c))/\o.data=.cell (some u)/\RelV v u
structure LamScope (N ps fr:List Str)(sc:Scope):Prop where
 kind:sc.kind=.function
 co:sc.isCoroutine=false
 gen:sc.isGenerator=false
 nd:N.Nodup
 app:N=ps++fr
 par:∀ x∈ps,sc.names.lookup x=some .local\/sc.names.lookup x=some .cell
 frs:∀ x∈fr,sc.names.lookup x=some .free
 cel:∀ y∈sc.names,y.2=.cell->sc.names.lookup y.1=some .cell
noncomputable def av3 (P:aC)(w:World)(K:ac)(mg:Str->Option Value)(base:Heap)(N:List Str)(qual:Str)(scope:Scope)(f:Addr)(cd:Value)(clos:List (Str×Addr))(A:aO)(outer:List Env)(s:ae)(H:Hp):Cx where
 prog:=P
 w:=w
 K:=K
 mg:=mg
 base:=base
 A:=A.deeper (cq qual scope s.heap.objs.size f cd (aF (s.heap.objs.size+1) scope.names clos))
 N:=N
 s₀:=s
 H₀:=ab4 clos H
 env:=cq qual scope s.heap.objs.size f cd (aF (s.heap.objs.size+1) scope.names clos)
 outer:=outer
 stack:=cq qual scope s.heap.objs.size f cd (aF (s.heap.objs.size+1) scope.names clos)::outer
 ex:=[]
 fn:=fun x=>scope.names.lookup x==some .cell
 calm:=true
 pn:=[]
 xe:=fun _ _=>False
theorem HOk.drop {P:aC}{w:World}{H:Hp}{h:Heap}{clos:List (Str×Addr)}(x:HOk P w H h)(z:Cells clos H):HOk P w (ab4 clos H) h:=fun b o e=>by
 obtain⟨_,e'⟩:=ab4.some e
 have nc:∀ c u,H c=some u->(∀ o v,u≠.frz o v)->isC clos c≠true:=fun c u q d y=>by
  obtain⟨o,v,q',_⟩:=z.at y
  rw[q]at q';cases q'
  exact d _ _ rfl
 exact(x b o e').stay (fun _ _ _ q=>q) (fun c q=>by rw[ab4.ne (nc c _ q fun _ _=>by nofun)];exact q) fun c xs q=>by rw[ab4.ne (nc c _ q fun _ _=>by nofun)];exact q
theorem aL5 {P:aC}{w:World}{K:ac}{mg:Str->Option Value}{base:Heap}{N ps fr:List Str}{qual:Str}{scope:Scope}{f:Addr}{cd:Value}{clos:List (Str×Addr)}{A:aO}{outer:List Env}{s s1:ae}{H:Hp}{us:List Value}{vs cap:List V}
  (S:LamScope N ps fr scope) (hd:A.handled=none) (e0:Env0 P w K mg base A outer s H) (hl:vs.length=ps.length) (hlc:cap.length=fr.length) (r:Vals vs us)
  (hc:Cells clos H) (inj:∀ x y c,clos.lookup x=some c->clos.lookup y=some c->x=y) (hfr:∀ x,scope.names.lookup x=some .free->∃ c,clos.lookup x=some c) (hcap:Cap clos H fr cap)
  (x:el s s.heap.objs.size (bindL (cq qual scope s.heap.objs.size f cd (aF (s.heap.objs.size+1) scope.names clos)).kindOf (ps.zip us) fun _=>none) (aF (s.heap.objs.size+1) scope.names [])
   (bindC (cq qual scope s.heap.objs.size f cd (aF (s.heap.objs.size+1) scope.names clos)).kindOf (ps.zip us) fun _=>none) s1) :
  Inv (av3 P w K mg base N qual scope f cd clos A outer s H) [] (vs.map some++cap.map some) (ab4 clos H) s1:=by
 obtain⟨h1,tk,rfl,hk⟩:=x.done
 have noA:∀ b:Addr,b ∉ (av3 P w K mg base N qual scope f cd clos A outer s H).ex:=fun b z=>absurd (show b∈([]:List Addr)from z) (by simp)
 have lk:∀ y c,(aF (s.heap.objs.size+1) scope.names clos).lookup y=some c->(aF (s.heap.objs.size+1) scope.names []).lookup y=some c\/((aF (s.heap.objs.size+1) scope.names []).lookup y=none/\clos.lookup y=some c):=fun y c e=>by
  rw[zl,zH]at e
  cases q:(aF (s.heap.objs.size+1) scope.names []).lookup y with
  | some d=>rw[q]at e;left;simpa using e
  | none=>rw[q]at e;right;exact⟨rfl,by simpa using e⟩
 have own:∀ y c,(aF (s.heap.objs.size+1) scope.names []).lookup y=some c->s.heap.objs.size<c:=fun y c e=>x.above y c (ay e)
 have old:∀ y c,clos.lookup y=some c->c<s.heap.objs.size:=fun y c e=>by
  obtain⟨o,v,q,_⟩:=hc y c e
  exact e0.hok.lt q
 have hx:∀ y c,clos.lookup y=some c->scope.names.lookup y=some .free->(aF (s.heap.objs.size+1) scope.names clos).lookup y=some c:=fun y c e k=>by
  rw[zl,zH]
  cases q:(aF (s.heap.objs.size+1) scope.names []).lookup y with
  | none=>exact e
  | some d =>
   rcases zC (ay q)with z|z
   ·rw[S.cel _ z rfl]at k;cases k
   ·exact absurd z (by simp)
 have dn:∀ b,H b=none->ab4 clos H b=none:=fun b e=>ab4.none e
 refine⟨⟨e0.mod,S.kind,rfl,rfl,ai _,fun y z c a b=>?inj,fun y hy=>?has,fun y c hy e=>?cab,fun _=>hd,fV e0.frames,.inr ⟨rfl,rfl⟩,fun b z=>absurd z (noA b),fun b o e=>⟨(e0.bs b o e).1,dn b (e0.bs b o e).2⟩,e0.bsz,fun b _ _=>noA b,fun b z=>absurd z (noA b),e0.funs,fun b hb=>dn b (e0.frf b hb)⟩,
  rfl,e0.bare,Un.kept hk,⟨_,x.toInCall.ns,fun i y v q1 q2 q3=>?loc⟩,fun y c e=>?cell,dn _ (e0.hok.fresh (ai _)),fun y c e=>?freeC,fun p hp=>absurd (show p∈([]:List (Addr×Obj))from hp) (by simp),(e0.hok.drop hc).kept hk,?len⟩
 case inj =>
  rcases lk y c a with a|⟨_,a⟩<;>rcases lk z c b with b|⟨_,b⟩
  ·exact ft x.apart (ay a) (ay b)
  ·exact absurd (c8 (own _ _ a) (old _ _ b)) (bu _)
  ·exact absurd (c8 (own _ _ b) (old _ _ a)) (bu _)
  ·exact inj y z c a b
 case has =>
  have hy:scope.names.lookup y=some .cell\/scope.names.lookup y=some .free:=hy
  rcases hy with hy|hy
  ·obtain⟨c,e⟩:=zX (n:=s.heap.objs.size+1) hy
   refine⟨c,?_⟩
   show(aF (s.heap.objs.size+1) scope.names clos).lookup y=some c
   rw[zl,zH,e];rfl
  ·obtain⟨c,e⟩:=hfr y hy
   exact⟨c,hx y c e hy⟩
 case cab =>
  have hy:(scope.names.lookup y==some .cell)=true:=hy
  have hy':scope.names.lookup y=some .cell:=by simpa using hy
  rcases lk y c e with a|⟨a,_⟩
  ·exact cI (own y c a)
  ·obtain⟨d,q⟩:=zX (n:=s.heap.objs.size+1) hy'
   rw[q]at a;cases a
 case loc =>
  have ndP:ps.Nodup:=by have:=S.nd;rw[S.app]at this;exact(List.nodup_append.mp this).1
  by_cases hi:i<vs.length
  ·have ha:vs[i]?=some v:=by
    rw[aL (by simpa using hi),aE]at q2
    cases e:vs[i]? with
    | none=>rw[e]at q2;cases q2
    | some a=>rw[e]at q2;cases q2;rfl
   obtain⟨u,hu,rv⟩:=r.get ha
   have hp:ps[i]?=some y:=by
    have q1':N[i]?=some y:=q1
    rw[S.app,aL (by omega)]at q1';exact q1'
   refine⟨u,rv,?_⟩
   rcases S.par y (br hp)with k|k
   ·exact .inl ⟨k,aj5 ndP hp hu k⟩
   ·obtain⟨c,e⟩:=zX (n:=s.heap.objs.size+1) k
    refine .inr ⟨.inl k,c,?_,?_⟩
    ·show(aF (s.heap.objs.size+1) scope.names clos).lookup y=some c
     rw[zl,zH,e];rfl
    ·have q:=x.cell y c e
     rw[aj2 ndP hp hu (by show scope.names.lookup y≠_;rw[k];decide)]at q
     exact q
  ·have hf:fr[i - vs.length]?=some y:=by
    have q1':N[i]?=some y:=q1
    rw[S.app,aI (by omega)]at q1';rw[hl];exact q1'
   have hv:cap[i - vs.length]?=some v:=by
    rw[aI (by simpa using hi),aE,aM]at q2
    cases e:cap[i - vs.length]? with
    | none=>rw[e]at q2;cases q2
    | some a=>rw[e]at q2;cases q2;rfl
   obtain⟨c,o,u,e1,e2,e3,e4⟩:=hcap _ y v hf hv
   have kf:=S.frs y (br hf)
   refine⟨u,e4,.inr ⟨.inr kf,c,hx y c e1 kf,?_⟩⟩
   exact⟨o,hk c o (e0.hok c _ e2).1,e3⟩
 case cell =>
  rcases lk y c e with a|⟨_,a⟩
  ·exact⟨_,x.cell y c a⟩
  ·obtain⟨o,v,q,d⟩:=hc y c a
   exact⟨v,o,hk c o (e0.hok c _ q).1,d⟩
 case freeC =>
  rcases lk y c e with a|⟨_,a⟩
  ·exact dn c (e0.hok.fresh (cI (own y c a)))
  ·exact ab4.cell (ad1.mpr ⟨y,a⟩)
 case len =>
  show _=N.length
  rw[S.app]
  simp[hl,hlc]
theorem aP4 {P:aC}{w:World}{outer:List Env}{H H':Hp}{s s':ae}{clos:List (Str×Addr)}(hok:HOk P w H s.heap)(hc:Cells clos H)(frf:∀ b∈frs outer,H b=none)
  (un:Un (frs outer) [] (ab4 clos H) H' s.heap s'.heap) (ok':HOk P w H' s'.heap):Un (frs outer) [] H (Put clos H H') s.heap s'.heap/\HOk P w (Put clos H H') s'.heap:=by
 have nc:∀ b,H b=none->isC clos b≠true:=fun b e y=>by
  obtain⟨o,v,q,_⟩:=hc.at y
  rw[e]at q;cases q
 have nc2:∀ c u,H c=some u->(∀ o v,u≠.frz o v)->isC clos c≠true:=fun c u q d y=>by
  obtain⟨o,v,q',_⟩:=hc.at y
  rw[q]at q';cases q'
  exact d _ _ rfl
 have gone:∀ b,isC clos b=true->H' b=none:=fun b y=>by
  obtain⟨o,v,q,_⟩:=hc.at y
  exact un.free b o (hok b _ q).1 (ab4.cell y) (by simp)
 refine⟨⟨fun b o e n hb hx=>un.keep b o e (ab4.none n) hb hx,fun b o e n hb hx=>un.slot b o e (ab4.none n) hb hx,fun b o e n hx=>?_,fun b o e hx=>un.there b o e hx,fun b xs e=>?_,fun b o u e=>?_,fun b ps e=>?_⟩,fun b o e=>?_⟩
 ·rw[Put.ne (nc b n)];exact un.free b o e (ab4.none n) hx
 ·have z:=nc2 b _ e fun _ _=>by nofun
  rw[Put.ne z];exact un.tups b xs (by rw[ab4.ne z];exact e)
 ·by_cases z:isC clos b=true
  ·rw[Put.cell z];exact e
  ·rw[Put.ne z];exact un.frzs b o u (by rw[ab4.ne z];exact e)
 ·have z:=nc2 b _ e fun _ _=>by nofun
  rw[Put.ne z];exact un.tbls b ps (by rw[ab4.ne z];exact e)
 ·by_cases z:isC clos b=true
  ·rw[Put.cell z]at e
   obtain⟨ob,v,q,d⟩:=hc.at z
   rw[q]at e;cases e
   have g:=(hok b _ q).1
   have g':=un.keep b ob g (ab4.cell z) (fun y=>by rw[frf b y]at q;cases q) (by simp)
   exact⟨g',ob,g'⟩
  ·rw[Put.ne z]at e
   have np:∀ c u,H' c=some u->Put clos H H' c=some u:=fun c u q=>by
    rw[Put.ne fun y=>by rw[gone c y]at q;cases q];exact q
   exact(ok' b o e).stay (fun _ _ _ q=>q) (fun c q=>np c _ q) fun c xs q=>np c _ q
structure ClOk (P:aC)(w:World)(K:ac)(mg:Str->Option Value)(base:Heap)(k:Nat)(R:Hp->Prop)(f:Addr)(sp:Sp):Prop where
 run:∀(A:aO) (outer:List Env) (s:ae) (H:Hp) (us:List Value) (vs:List V) (Q:VK),Room k A->Env0 P w K mg base A outer s H->R H->Vals vs us->sp vs H Q E0 ->
  fj (model P w) A (.call (.ref f) ⟨us,[]⟩) (CR CX0 outer P w H s Q E0) s
theorem ClOk.ofFn {P:aC}{w:World}{K:ac}{mg:Str->Option Value}{base:Heap}{k:Nat}{f:Addr}{fd:bw}{ps:List Str}{sp:Sp}(F:FnOk P w K mg base CX0 k f fd ps sp)(hb:Binds K fd ps []):ClOk P w K mg base k (fun _=>True) f sp :=
 ⟨fun A outer s H us vs Q hr e0 _ r h=>by
  have hl:=F.len _ _ _ _ h
  have:=hb s us (e0.mod.kin.keeps fun b o e=>(e0.bs b o e).1) (by rw[bj,<-r.length];exact hl)
  rw[bj]at this
  exact F.run A outer s H ⟨us,[]⟩ us vs Q E0 hr e0 this r h⟩
def au1 (H:Hp)(f:Addr)(qual:Str)(params:a9)(body:Expr)(scope:Scope)(fr:List Str)(cap:List V)(clos:List (Str×Addr)):Prop :=
 ∃ pm c' ctv,H f=some (ap9 f (bI "<lambda>" qual params body scope clos pm (.ref c') ctv))/\H c'=some (qf c' qual)/\Cells clos H /\
  (∀ x y c,clos.lookup x=some c->clos.lookup y=some c->x=y)/\(∀ x,scope.names.lookup x=some .free->∃ c,clos.lookup x=some c)/\Cap clos H fr cap
def BM (mg:Str->Option Value)(base:Heap):Prop:=∃ bm ob,mg "__builtins__"=some (.ref bm)/\bm≠fh/\base.get? bm=some ob/\ob.cls=.type "module"/\ob.dict=some fh/\ob.data=.plain
def bT3 (cells:List (Str×Addr))(P:Addr)(qual:Str)(params:a9)(body:Expr)(scope:Scope)(pos:Pos):TE:=fun _ H Q =>
 ∃ ps:Array Value,H P=some (.tbl ps)/\gm ps.toList /\
  (cf pos ps.toList=none->∀ c' f pm ctv,H c'=none->H f=none->c'≠f ->
   Q (.ref f) (upd (upd (upd H P (.tbl (ps++#[cc pos.line,cc pos.col,.ref c']))) c' (qf c' qual)) f (ap9 f (bI "<lambda>" qual params body scope (ac6 cells scope.names []) pm (.ref c') ctv)))) /\
  (∀ cv,cf pos ps.toList=some cv->∃ c',cv=.ref c'/\∀ f pm ctv,H f=none->Q (.ref f) (upd H f (ap9 f (bI "<lambda>" qual params body scope (ac6 cells scope.names []) pm (.ref c') ctv))))
noncomputable def lamCheck (scope xs:Scope):Bool:=scope.names.all fun y=>!(y.2==.free)||(xs.names.lookup y.1==some .cell||xs.names.lookup y.1==some .free)
theorem aK8 {X:Cx}{c P:Addr}{params:a9}{body:Expr}{scope:Scope}{pos:Pos}(hcode:X.env.code=.ref c)(C:bt X.base c P)(hB:BM X.mg X.base)
  (hck:lamCheck scope X.env.scope=true) (hdef:iV params X.env=([],[]):=by rfl) :
  PE X (.Lambda params body scope pos) (bT3 X.env.cells P (X.env.qual ++ "<lambda>") params body scope pos):=by
 intro pins s σ H Q I h
 have hfr:∀ y∈scope.names,y.2=.free->X.env.kindOf y.1=some .cell\/X.env.kindOf y.1=some .free:=fun y hy e=>by
  have z:=aD.mp hck y hy
  have z':X.env.scope.names.lookup y.1=some .cell\/X.env.scope.names.lookup y.1=some .free:=by simpa [e]using z
  exact z'
 obtain⟨ps,hP,ht,hnew,hhit⟩:=h
 refine PySem.W.kla_eval hdef ?_
 have hcl:=z7 (scope:=scope) (env:=X.env) fun y hy e=>I.ok.has y.1 (hfr y hy e)
 have oP:s.heap.get? P=some (c9 ps):=I.hok P _ hP
 have hgs:s.heap.Ns aU X.mg:=I.mod.glob.keeps I.bk
 have hC:bt s.heap c P:=C.keeps I.bk
 have hgP:aU≠P:=fun q=>by
  obtain⟨o,es,ep,e,d,_⟩:=hgs
  rw[q,oP]at e;cases e;cases d
 have hb:s.heap.BuiltinsAt X.mg P:=by
  obtain⟨bm,ob,b1,b2,b3,b4,b5,b6⟩:=hB
  refine⟨bm,ob,b1,b2,fun q=>?_,fun q=>?_,I.bk _ _ b3,b4,b5,b6⟩
  ·obtain⟨o,es,ep,e,d,_⟩:=I.mod.glob
   rw[q,e]at b3;cases b3;rw[d]at b6;cases b6
  ·have e:=I.bk _ _ b3
   rw[q,oP]at e;cases e;cases b4
 cases q:cf pos ps.toList with
 | none =>
  refine PySem.W.kla_makeFunction (mg:=X.mg) hcl I.ok.glob hgs hcode hC oP ht q hgP hb fun c' ctv h' tk hx hge hlt hrec htb=>?_
  have hPl:P<s.heap.objs.size:=aA oP
  have hcP:c'≠P:=cJ (am hPl hge)
  have hfP:h'.objs.size≠P:=cJ (c8 (am hPl hge) hlt)
  have hcf:c'≠h'.objs.size:=ax hlt
  have hsz:s.heap.objs.size<=h'.objs.size:=aw hge (cI hlt)
  have nP:∀ b,H b=none->b≠P:=fun b n z=>by rw[z,hP]at n;cases n
  have lt:∀ b o,H b=some o->b≠c'/\b≠h'.objs.size:=fun b o e=>⟨ax (am (I.hok.lt e) hge),ax (am (I.hok.lt e) hsz)⟩
  have lt2:∀ b o,s.heap.get? b=some o->b≠c'/\b≠h'.objs.size:=fun b o e=>⟨ax (am (aA e) hge),ax (am (aA e) hsz)⟩
  have keep:∀ b o,b≠P->s.heap.get? b=some o->(h'.push (PySem.W.kla_obj "<lambda>" (X.env.qual ++ "<lambda>") params body scope (ac6 X.env.cells scope.names []) ((X.mg "__name__").getD .none) c' ctv)).get? b=some o:=fun b o n e=>ak _ (hx b o n e)
  have at3:∀ b,b≠P->b≠c'->b≠h'.objs.size->∀ o1 o2 o3,upd (upd (upd H P o1) c' o2) h'.objs.size o3 b=H b:=fun b n1 n2 n3 o1 o2 o3=>by rw[za n3,za n2,za n1]
  refine⟨.ref h'.objs.size,upd (upd (upd H P (.tbl (ps++#[cc pos.line,cc pos.col,.ref c']))) c' (qf c' (X.env.qual ++ "<lambda>"))) h'.objs.size (ap9 h'.objs.size (bI "<lambda>" (X.env.qual ++ "<lambda>") params body scope (ac6 X.env.cells scope.names []) ((X.mg "__name__").getD .none) (.ref c') ctv)),I.un (t':=tk) ⟨fun b o e n _ _=>keep b o (nP b n) e,fun b o e n _ _=>⟨o.slots,keep b o (nP b n) e⟩,fun b o e n _=>?fr,fun b o e _=>?th,fun b xs e=>?tu,fun b o u e=>?fz,fun b qs e=>?tb⟩ ?ok,rfl,hnew q c' h'.objs.size _ ctv (I.hok.fresh hge) (I.hok.fresh hsz) hcf⟩
  case fr=>rw[at3 b (nP b n) (lt2 b o e).1 (lt2 b o e).2];exact n
  case th =>
   by_cases z:b=P
   ·subst z;exact⟨_,ak _ htb⟩
   ·exact⟨o,keep b o z e⟩
  case tu=>rw[at3 b (fun z=>by rw[z,hP]at e;cases e) (lt b _ e).1 (lt b _ e).2];exact e
  case fz=>rw[at3 b (fun z=>by rw[z,hP]at e;cases e) (lt b _ e).1 (lt b _ e).2];exact e
  case tb =>
   by_cases z:b=P
   ·subst z
    rw[hP]at e;cases e
    exact⟨#[cc pos.line,cc pos.col,.ref c'],by rw[za (bL hfP),za (bL hcP),zb]⟩
   ·exact⟨#[],by rw[at3 b z (lt b _ e).1 (lt b _ e).2,e];simp⟩
  case ok =>
   intro b o e
   by_cases zf:b=h'.objs.size
   ·subst zf
    rw[zb]at e;cases e
    exact ap2 (aS _ rfl)
   ·rw[za zf]at e
    by_cases zc:b=c'
    ·subst zc
     rw[zb]at e;cases e
     obtain⟨c2,oc,vs,t,e1,e2,e3⟩:=hrec
     exact aB2 ⟨c2,oc,vs,t,e1,ak _ e2,e3⟩
    ·rw[za zc]at e
     by_cases zp:b=P
     ·subst zp
      rw[zb]at e;cases e
      exact ak _ htb
     ·rw[za zp]at e
      have up3:∀ d u,H d=some u->(∀ ps,u≠.tbl ps)->upd (upd (upd H P (.tbl (ps++#[cc pos.line,cc pos.col,.ref c']))) c' (qf c' (X.env.qual ++ "<lambda>"))) h'.objs.size (ap9 h'.objs.size (bI "<lambda>" (X.env.qual ++ "<lambda>") params body scope (ac6 X.env.cells scope.names []) ((X.mg "__name__").getD .none) (.ref c') ctv)) d=some u:=fun d u e nt=>by
       rw[at3 d (fun z=>by rw[z,hP]at e;cases e;exact nt _ rfl) (lt d _ e).1 (lt d _ e).2];exact e
      refine(I.hok b o e).stay (fun d u hd q=>keep d u ?_ q) (fun d q=>up3 d _ q fun _=>by nofun) fun d xs q=>up3 d _ q fun _=>by nofun
      rintro rfl
      rcases hd with hd|hd
      ·exact zp hd.symm
      ·rw[hP]at hd;cases hd
 | some cv =>
  obtain⟨c',rfl,hq⟩:=hhit cv q
  refine PySem.W.kla_makeFunctionHit (mg:=X.mg) hcl I.ok.glob hgs hcode hC oP ht q hb fun ctv h' tk hk hsz=>?_
  refine⟨.ref h'.objs.size,_,I.laid (t':=tk) (fun b o e=>ak _ (hk b o e)) hsz (ap2 (aS _ rfl)),rfl,hq h'.objs.size _ ctv (I.hok.fresh hsz)⟩
structure Caught (cl:List (Str×Addr))(N:List Str)(kd:Str->Option bE)(σ:St)(H1 H2:Hp):Prop where
 ne:∀ b,isC cl b≠true->H2 b=H1 b
 free:∀ b,isC cl b=true->H1 b=none
 cells:Cells cl H2
 cap:∀(i:Nat) (x:Str) (v:V) (c:Addr),N[i]?=some x->σ[i]?=some (some v)->(kd x=some .cell\/kd x=some .free)->cl.lookup x=some c->∃ o u,H2 c=some (.frz o (.own c))/\o.data=.cell (some u)/\RelV v u
 inj:∀ x y c,cl.lookup x=some c->cl.lookup y=some c->x=y
def bD4 (cl:List (Str×Addr))(N:List Str)(kd:Str->Option bE)(sp:Sp)(t:TA):TE:=fun σ H Q=>t σ H fun vs H1=>∀ H2,Caught cl N kd σ H1 H2->sp vs H2 (fun v H3=>Q v (ab4 cl H3)) E0
theorem bt2 {X:Cx}{k:Nat}{f:Addr}{fd:bw}{ps:List Str}{sp:Sp}{pins:List (Addr×Obj)}{σ:St}{H:Hp}{s:ae}{Q:VK}{us:List Value}{vs:List V}(F:FnOk X.prog X.w X.K X.mg X.base CX0 k f fd ps sp)(hr:Room k X.A)(hb:Binds X.K fd ps [])
  (hfn:∀ x,X.fn x=true) (I:Inv X pins σ H s) (r:Vals vs us) (h:∀ H2,Caught X.env.cells X.N X.env.kindOf σ H H2->sp vs H2 (fun v H3=>Q v (ab4 X.env.cells H3)) E0):wpAny (model X.prog X.w) X.A (call (.ref f) us) (EP X pins σ Q) X.xe s:=by
 let H2:Hp:=fun b=>if isC X.env.cells b=true then(s.heap.get? b).map fun o=>.frz o (.own b)else H b
 have h2n:∀ b,isC X.env.cells b≠true->H2 b=H b:=fun b z=>if_neg z
 have h2c:∀ b,isC X.env.cells b=true->∃ o v,s.heap.get? b=some o/\o.data=.cell v/\H2 b=some (.frz o (.own b)):=fun b z=>by
  obtain⟨x,e⟩:=ad1.mp z
  obtain⟨v,o,g,d⟩:=I.cell x b e
  exact⟨o,v,g,d,by show(if _ then _ else _)=_;rw[if_pos z,g];rfl⟩
 have fr:∀ b,isC X.env.cells b=true->H b=none:=fun b z=>by
  obtain⟨x,e⟩:=ad1.mp z
  exact I.freeC x b e
 have up:∀ b,isC X.env.cells b=true->X.s₀.heap.objs.size<=b:=fun b z=>by
  obtain⟨x,e⟩:=ad1.mp z
  exact I.ok.cab x b (hfn x) e
 have nlt:∀ b o,X.s₀.heap.get? b=some o->isC X.env.cells b≠true:=fun b o e z=>absurd (am (aA e) (up b z)) (bu _)
 have nst:∀ b∈frs X.stack,isC X.env.cells b≠true:=fun b hb z=>by
  rcases au.mp (I.stkSub b hb)with e|hb
  ·obtain⟨x,e2⟩:=ad1.mp z
   exact I.cne x b e2 e
  ·obtain⟨_,o,ho,_⟩:=I.ok.funs.mem hb
   exact nlt b o ho z
 have ok2:HOk X.prog X.w H2 s.heap:=fun b o e=>by
  by_cases z:isC X.env.cells b=true
  ·obtain⟨ob,v,g,d,q⟩:=h2c b z
   rw[q]at e;cases e
   exact⟨g,ob,g⟩
  ·rw[h2n b z]at e
   have np:∀ c u,H c=some u->H2 c=some u:=fun c u q=>by rw[h2n c fun y=>by rw[fr c y]at q;cases q];exact q
   exact(I.hok b o e).stay (fun _ _ _ q=>q) (fun c q=>np c _ q) fun c xs q=>np c _ q
 have nb:∀ b o,X.base.get? b=some o->isC X.env.cells b≠true:=fun b o e=>nlt b o (I.ok.bs b o e).1
 have e0:Env0 X.prog X.w X.K X.mg X.base X.A X.stack s H2:=⟨I.ok.frames,I.ok.mod,fun b o e=>⟨(I.bs b o e).1,by rw[h2n b (nb b o e)];exact(I.bs b o e).2⟩,aw I.ok.bsz I.sz,I.stack,fun b hb=>by rw[h2n b (nst b hb)];exact I.stkFree b hb,ok2,I.bare⟩
 have ca:Caught X.env.cells X.N X.env.kindOf σ H H2:=⟨h2n,fr,fun x c e=>by
   obtain⟨o,v,g,d,q⟩:=h2c c (ad1.mpr ⟨x,e⟩)
   exact⟨o,v,q,d⟩,fun i x v c e1 e2 e3 e4=>by
   obtain⟨m,hn,hl⟩:=I.loc
   have vis:Vis X.env.scope x:=e3.elim (fun z=>.inr (.inl z)) fun z=>.inr (.inr z)
   obtain⟨u,ru,lk⟩:=hl i x v e1 e2 vis
   rcases lk with⟨z,_⟩|⟨_,c2,z1,z2⟩
   ·rcases e3 with y|y<;>(rw[z]at y;cases y)
   ·rw[e4]at z1;cases z1
    obtain⟨o,w',g,d,q⟩:=h2c c (ad1.mpr ⟨x,e4⟩)
    obtain⟨o2,g2,d2⟩:=z2
    rw[g]at g2;cases g2
    exact⟨o,u,q,d2,ru⟩,I.ok.inj⟩
 have hsp:=h H2 ca
 have hl:=F.len _ _ _ _ hsp
 have hb':=hb s us I.kIn (by rw[bj,<-r.length];exact hl)
 rw[bj]at hb'
 refine fm (dS (F.run X.A X.stack s H2 ⟨us,[]⟩ us vs _ E0 hr e0 hb' r hsp) fun r s' hq=>?_)
 cases r with
 | error e=>exact aZ hq
 | ok fl =>
  cases fl with
  | next=>exact aZ hq
  | brk=>exact aZ hq
  | cont=>exact aZ hq
  | ret u =>
   obtain⟨v,H3,os,bare,un,ok3,rv,q⟩:=hq
   have h3c:∀ b,isC X.env.cells b=true->∃ o,s.heap.get? b=some o/\s'.heap.get? b=some o/\H3 b=some (.frz o (.own b)):=fun b z=>by
    obtain⟨o,v,g,d,q2⟩:=h2c b z
    have q3:=un.frzs b o _ q2
    exact⟨o,g,(ok3 b _ q3).1,q3⟩
   have nz:∀ b u,H b=some u->isC X.env.cells b≠true:=fun b u e y=>by rw[fr b y]at e;cases e
   refine⟨v,_,I.call' (H':=ab4 X.env.cells H3) (ch:=[]) os ⟨fun b o e n hb hx=>?k,fun b o e n hb hx=>?sl,fun b o e n hx=>?fr,fun b o e hx=>un.there b o e hx,fun b xs e=>?tu,fun b o u e=>?fz,fun b ps e=>?tb⟩ (fun b o e=>?hok) bare (fun b z=>absurd z (by simp)),rv,q⟩
   case k =>
    by_cases z:isC X.env.cells b=true
    ·obtain⟨o2,g,g',_⟩:=h3c b z
     rw[e]at g;cases g
     exact g'
    ·exact un.keep b o e (by rw[h2n b z];exact n) hb hx
   case sl=>exact un.slot b o e (by rw[h2n b (nst b hb)];exact n) hb hx
   case fr =>
    by_cases z:isC X.env.cells b=true
    ·exact ab4.cell z
    ·exact ab4.none (un.free b o e (by rw[h2n b z];exact n) hx)
   case tu =>
    rw[ab4.ne (nz b _ e)]
    exact un.tups b xs (by rw[h2n b (nz b _ e)];exact e)
   case fz =>
    rw[ab4.ne (nz b _ e)]
    exact un.frzs b o u (by rw[h2n b (nz b _ e)];exact e)
   case tb =>
    rw[ab4.ne (nz b _ e)]
    exact un.tbls b ps (by rw[h2n b (nz b _ e)];exact e)
   case hok =>
    obtain⟨z,e3⟩:=ab4.some e
    have np:∀ c u,H3 c=some u->(∀ o w',u≠.frz o w')->ab4 X.env.cells H3 c=some u:=fun c u q d=>by
     rw[ab4.ne fun y=>by obtain⟨o,_,_,q3⟩:=h3c c y;rw[q]at q3;cases q3;exact d _ _ rfl];exact q
    exact(ok3 b o e3).stay (fun _ _ _ q=>q) (fun c q=>np c _ q fun _ _=>by nofun) fun c xs q=>np c _ q fun _ _=>by nofun
theorem aB5 {X:Cx}{k:Nat}{f:Addr}{fd:bw}{ps:List Str}{sp:Sp}{x:Str}{p pos:Pos}{e:Expr}{es:List Expr}{t:TA}(F:FnOk X.prog X.w X.K X.mg X.base CX0 k f fd ps sp)(hr:Room k X.A)(hg:Gl X x)(hm:X.mg x=some (.ref f))(hk:bN X.K (.ref f)=true)(hb:Binds X.K fd ps [])
  (hfn:∀ x,X.fn x=true) (ha:PA X (e::es) t) (hdb:(x==("__debug__":Str))=false:=by decide) (he:bh (e::es) X.env=(false,eval e X.env)::bh es X.env:=by rfl) (hpl:(cL pos (bh es X.env)).any (·.1)=false:=by rfl) :
  PE X (.Call (.Name x p) (e::es) [] pos) (bD4 X.env.cells X.N X.env.kindOf sp t):=by
 intro pins s σ H Q I h
 refine bU (ao8 I hg hm ?_ hdb)
 refine gO (h₀:=X.base) I.ok.mod.kin hk (thn (ha pos pins s σ H _ I h) fun us s1 ⟨vs,H1,I1,r,q⟩=>⟨I1.kIn,?_⟩) he hpl
 exact bt2 F hr hb hfn I1 r q
def bi2 (K:ac)(H:Hp)(f:Addr):Prop:=(∃ fd,H f=some (ap9 f fd))\/∃ oc od fd sl,K.lookup f=some ⟨oc,od,.func fd,sl⟩
theorem bi2.at {X:Cx}{pins:List (Addr×Obj)}{σ:St}{H:Hp}{s:ae}{f:Addr}(h:bi2 X.K H f)(I:Inv X pins σ H s):PySem.W.FnAt f s.heap:=by
 rcases h with⟨fd,h⟩|⟨oc,od,fd,sl,h⟩
 ·exact⟨_,_,_,_,an9 I.hok h⟩
 ·exact⟨_,_,_,_,I.kIn _ _ h⟩
def bu6 (P:aC)(w:World)(K:ac)(mg:Str->Option Value)(base:Heap)(k:Nat)(i:Nat)(t:TA):TE:=fun σ H Q=>∃ f,σ[i]?=some (some (.ref f))/\bi2 K H f/\t σ H fun vs H1=>bi2 K H1 f/\∃ R sp,ClOk P w K mg base k R f sp/\R H1/\sp vs H1 Q E0
theorem bC3 {X:Cx}{k:Nat}{f:Addr}{sp:Sp}{R:Hp->Prop}{pins:List (Addr×Obj)}{σ:St}{H:Hp}{s:ae}{Q:VK}{us:List Value}{vs:List V}(F:ClOk X.prog X.w X.K X.mg X.base k R f sp)(hr:Room k X.A)(I:Inv X pins σ H s)(hR:R H)(r:Vals vs us)(h:sp vs H Q E0) :
  wpAny (model X.prog X.w) X.A (call (.ref f) us) (EP X pins σ Q) X.xe s:=by
 refine fm (dS (F.run X.A X.stack s H us vs Q hr I.env0 hR r h) fun r s' hq=>?_)
 cases r with
 | error e=>exact aZ hq
 | ok fl =>
  cases fl with
  | ret u=>exact I.after hq
  | next=>exact aZ hq
  | brk=>exact aZ hq
  | cont=>exact aZ hq
theorem aX6 {X:Cx}{P:aC}{w:World}{K:ac}{mg:Str->Option Value}{base:Heap}{k i:Nat}{x:Str}{p pos:Pos}{e:Expr}{es:List Expr}{t:TA}(hP:X.prog=P)(hw:X.w=w)(hK:X.K=K)(hmg:X.mg=mg)(hbs:X.base=base)(hr:Room k X.A)(hv:PE X (.Name x p) (aS8 i))(ha:PA X (e::es) t)
  (he:bh (e::es) X.env=(false,eval e X.env)::bh es X.env:=by rfl) (hpl:(cL pos (bh es X.env)).any (·.1)=false:=by rfl) :
  PE X (.Call (.Name x p) (e::es) [] pos) (bu6 P w K mg base k i t):=by
 subst hP hw hK hmg hbs
 intro pins s σ H Q I h
 obtain⟨f,hσ,hf,ht⟩:=h
 refine bU (thn (hv pins s σ H (fun v H'=>v=.ref f/\H'=H) I ⟨.ref f,hσ,rfl,rfl⟩) fun u s0 ⟨v,H0,I0,r0,ev,eH⟩=>?_)
 subst ev
 subst eH
 cases r0
 exact PySem.W.callWith_F (q:=f) (hf.at I0) (thn (ha pos pins s0 σ H0 _ I0 ht) fun us s1 ⟨vs,H1,I1,r,hF,R,sp,F,hR,q⟩=>⟨hF.at I1,bC3 F hr I1 hR r q⟩) he hpl
noncomputable def aq7 (K:ac)(names:List Str):List (Str×Addr×Addr):=names.filterMap fun x=>(a8 K x).map fun p=>(x,p)
theorem am9 {K:ac}{names:List Str}{y:Str×Addr×Addr}:y∈aq7 K names↔y.1∈names/\a8 K y.1=some y.2:=by
 unfold aq7
 rw[dZ]
 constructor
 ·rintro⟨x,hx,e⟩
  obtain⟨p,hp,rfl⟩:=fC.mp e
  exact⟨hx,hp⟩
 ·rintro⟨hx,e⟩
  exact⟨y.1,hx,by rw[e];rfl⟩
def bo4 (K:ac)(names:List Str)(base:Heap):Prop:=∀ x∈names,∀ c P,a8 K x=some (c,P)->bt base c P
def bi0 (K:ac)(names:List Str)(H:Hp):Prop:=∀ x∈names,∀ c P,a8 K x=some (c,P)->H P=some (.tbl #[])
noncomputable def by4 (K:ac)(names:List Str)(ts:List Addr):Bool:=names.all fun x=>match a8 K x with
 | some (c,P)=>ip K c P&&ts.contains P
 | none=>true
theorem ao7 {K:ac}{x:Str}(h:(a8 K x).isSome=true):a8 K x=some (((a8 K x).getD (0,0)).1,((a8 K x).getD (0,0)).2):=by
 obtain⟨p,e⟩:=eJ.mp h
 rw[e]
 rfl
def bC4 (H:Hp)(P:Addr)(q:Str):Prop:=∃ ps:Array Value,H P=some (.tbl ps)/\gm ps.toList/\∀ pos cv,cf pos ps.toList=some cv->∃ c',cv=.ref c'/\H c'=some (qf c' q)
def TabsH (T:List (Addr×Str))(H:Hp):Prop:=∀ y∈T,bC4 H y.1 y.2
def aP5 (H H':Hp):Prop:=∀ b o,(∀ ps,o≠.tbl ps)->H b=some o->H' b=some o
theorem aP5.of {H H1:Hp}(a:ac8 H H1):aP5 H H1:=fun c o _ h=>a c o h
theorem TabsH.keep {T:List (Addr×Str)}{H H':Hp}(h:TabsH T H)(k:∀ b o,(∀ xs,o≠.lst xs)->H b=some o->H' b=some o):TabsH T H':=fun y hy=>by
 obtain⟨ps,e,t,c⟩:=h y hy
 refine⟨ps,k _ _ (fun _=>by nofun) e,t,fun pos cv q=>?_⟩
 obtain⟨c',e1,e2⟩:=c pos cv q
 exact⟨c',e1,k _ _ (fun _=>by unfold qf;nofun) e2⟩
theorem TabsH.same {T:List (Addr×Str)}{H H':Hp}(h:TabsH T H)(s:ac8 H H'):TabsH T H':=h.keep fun b o _ e=>s b o e
theorem TabsH.new {T:List (Addr×Str)}{H:Hp}{a:Addr}{o:HO}(h:TabsH T H)(n:H a=none):TabsH T (upd H a o):=h.same ((ac8.refl H).new n)
theorem TabsH.put {T:List (Addr×Str)}{H:Hp}{a:Addr}{o:HO}{xs:List V}(h:TabsH T H)(n:H a=some (.lst xs)):TabsH T (upd H a o):=h.keep fun b u d e=>by
 rw[za fun z=>by subst z;rw[n]at e;cases e;exact d _ rfl];exact e
theorem TabsH.init {T:List (Addr×Str)}{H:Hp}(h:∀ p∈T.map (·.1),H p=some (.tbl #[])):TabsH T H:=fun y hy =>
 ⟨#[],h _ (bn hy),trivial,fun pos cv e=>by simp[cf]at e⟩
theorem codeAmong_add {pos:Pos}{a b:Int}{c cv:Value}:∀(l:List Value),gm l->cf pos (l++[cc a,cc b,c])=some cv->cf pos l=some cv\/cv=c:=by
 intro l
 fun_induction gm l with
 | case1 =>
  intro _ e
  simp only[fH,cf,cc]at e
  split at e
  ·exact .inr (az e).symm
  ·cases e
 | case2 x t y u z rest ih =>
  intro h e
  simp only[eT,cf]at e ⊢
  split at e
  ·rename_i q
   left;rw[if_pos q];exact e
  ·rename_i q
   rw[if_neg q];exact ih h e
 | case3 l h1 h2=>intro h;exact h.elim
theorem aW4 {cells:List (Str×Addr)}{N:List Str}{kd:Str->Option bE}{σ:St}{H1 H2:Hp}{f:Addr}{q:Str}{params:a9}{body:Expr}{scope:Scope}{fr:List Str}{cap:List V}(ca:Caught cells N kd σ H1 H2)
  (hf:∃ pm c' ctv,H1 f=some (ap9 f (bI "<lambda>" q params body scope (ac6 cells scope.names []) pm (.ref c') ctv))/\H1 c'=some (qf c' q))
  (hfr:∀ x,scope.names.lookup x=some .free->∃ c,cells.lookup x=some c)
  (hcap:∀(i:Nat) (x:Str) (v:V),fr[i]?=some x->cap[i]?=some v->scope.names.lookup x=some .free/\(kd x=some .cell\/kd x=some .free)/\∃ j:Nat,N[j]?=some x/\σ[j]?=some (some v)) :
  au1 H2 f q params body scope fr cap (ac6 cells scope.names []):=by
 obtain⟨pm,c',ctv,h1,h2⟩:=hf
 have up:∀ b o,H1 b=some o->H2 b=some o:=fun b o e=>by
  rw[ca.ne b fun z=>by rw[ca.free b z]at e;cases e];exact e
 have sub:∀ x c,(ac6 cells scope.names []).lookup x=some c->cells.lookup x=some c:=fun x c e=>by
  rcases clOf_mem (ay e)with z|z
  ·exact z
  ·exact absurd z (by simp)
 refine⟨pm,c',ctv,up _ _ h1,up _ _ h2,fun x c e=>ca.cells x c (sub x c e),fun x y c e1 e2=>ca.inj x y c (sub x c e1) (sub y c e2),fun x k=>?_,fun i x v e1 e2=>?_⟩
 ·obtain⟨c,e⟩:=hfr x k
  exact⟨c,qd e (ay k)⟩
 ·obtain⟨k,kk,j,e3,e4⟩:=hcap i x v e1 e2
  obtain⟨c,e⟩:=hfr x k
  obtain⟨o,u,e5,e6,e7⟩:=ca.cap j x v c e3 e4 kk e
  exact⟨c,o,u,qd e (ay k),e5,e6,e7⟩
theorem Caught.same {cells:List (Str×Addr)}{N:List Str}{kd:Str->Option bE}{σ:St}{H1 H2:Hp}(ca:Caught cells N kd σ H1 H2):ac8 H1 H2:=fun b o e=>by
 rw[ca.ne b fun z=>by rw[ca.free b z]at e;cases e];exact e
theorem Fun.okC {P:aC}{w:World}{K:ac}{mg:Str->Option Value}{base:Heap}{x qual:Str}{st:Stmt}{f c:Addr}{fd:bw}{N ps:List Str}{k:Nat}{sp:Sp}(F:Fun K x qual st f fd)(hcd:fd.code=.ref c)(S:FnScope N ps (defScope st))(len:∀ vs H Q E,sp vs H Q E->vs.length=ps.length)
  (hbody:∀(A:aO) (outer:List Env) (s:ae) (H:Hp) (vs:List V) (Q:VK) (E:XK),Room k (A.deeper (dL qual (defScope st) s.heap.objs.size f (.ref c)))->sp vs H Q E ->
   ∃ t,PSs (aq4 CX0 P w K mg base N qual (defScope st) f (.ref c) A outer s H E).nox (zA st) t/\t { nx:=fun _ H'=>Q .non H',rt:=Q } (ae9 N vs) H):FnOk P w K mg base CX0 (k+1) f fd ps sp:=by
 obtain⟨oc,od,kV,doc,pm,an,cdv,ct,osl,rfl,lk,hc⟩:=F.ex
 have e:cdv=.ref c:=hcd
 subst e
 refine bl8 lk hc S len fun A outer s H vs Q E hr hsp=>?_
 obtain⟨t,h,q⟩:=hbody A outer s H vs Q E hr hsp
 exact⟨t,h.nox,q⟩
theorem aR8 {X:Cx}{K:ac}(hc:X.calm=true)(hK:X.K=K):ab8 X (.builtin "min") (fun xs H Q=>∃ a ns,xs=[.ref a]/\SqL K H a (ns.map V.int)/\ns≠[]/\∀ m∈ns,(∀ y∈ns,m<=y)->Q (.int m) H):=by
 subst hK
 intro pins s σ H xs us Q I r h
 obtain⟨a,ns,rfl,hS,hne,q⟩:=h
 obtain⟨u,rfl,ru⟩:=ak7 r
 cases ru
 obtain⟨its,rv,pl,hz⟩:=I.list hS
 have hl:=rv.length
 rw[aM]at hl
 have hpos:0<ns.length:=List.length_pos_iff.mpr hne
 refine call_min_walk (cZ pl.isList ?_)
 have hal:a<s.heap.objs.size:=by obtain⟨o,_,e,_⟩:=pl;exact aA e
 have W:=jt (prog:=X.prog) (w:=X.w) (A:=X.A.in1) (I.ok.hd hc) s.heap.objs.size a (ax hal) its.toArray
 let val:Nat->Int:=fun i=>ns.getD i 0
 have hval:∀ i v,its.toArray[i]?=some v->∃ t,v=Value.int (val i) t:=fun i v e=>by
  obtain⟨z,t,e1,e2⟩:=aP6 rv (i:=i) (v:=v) (by rw[dh]at e;exact e)
  refine⟨t,?_⟩
  rw[e2]
  show Value.int z t=Value.int (ns.getD i 0) t
  rw[be,e1]
  rfl
 refine⟨_,_,_,_,_,_,_,rfl,W,⟨⟨_,aS _ rfl,rfl,rfl⟩,?_⟩,fun b hb=>?_,by rw[aB];omega,CmpOf.ints_lt val hval,fun v h' tk hP k=>?_⟩
 ·obtain⟨o,e,r⟩:=pl.isList
  exact⟨o,ak _ e,r⟩
 ·show b<(s.heap.push _).objs.size
  rw[bQ]
  rcases au.mp hb with z|z
  ·rw[z];exact eU _
  ·have z':b=a:=by simpa using z
   rw[z'];exact eA hal
 ·obtain⟨z,t,e1,e2⟩:=aP6 rv (i:=iM (fun i j=>decide (val i<val j)) (its.toArray.size - 1)) (v:=v) (by rw[dh]at hP;exact hP)
  subst e2
  have hv:val (iM (fun i j=>decide (val i<val j)) (its.toArray.size - 1))=z:=by
   show ns.getD _ 0=z
   rw[be,e1]
   rfl
  refine⟨.int z,H,I.kept (h':=h') (t':=tk) fun b o q=>k b o ?_ (ak _ q),⟨t,rfl⟩,q z (br e1) fun y hy=>?_⟩
  ·intro z
   have z':b=s.heap.objs.size:=by simpa using z
   exact absurd (aA q) (by rw[z'];exact bu _)
  ·obtain⟨j,hj,e3⟩:=fZ.mp hy
   have:=ak4 val (its.toArray.size - 1) j (by simp only[aB];omega)
   rw[hv]at this
   have e4:val j=y:=by
    show ns.getD j 0=y
    rw[be,aj hj]
    exact e3
   omega
noncomputable def mx (a b:Int):Int:=if b > a then b else a
theorem aX5 {a b x:Int}:mx a b<=x↔a<=x/\b<=x:=by unfold mx;split<;>omega
noncomputable def aF7 (n:Nat)(s t:Nat->Nat->Int)(i j:Nat):Int:=(minO ((ao n).map fun k=>mx (s i k) (t k j))).getD 3
theorem aI0 {l:List Int}{m x:Int}(h:minO l=some m):m<=x↔∃ y∈l,y<=x:=by
 obtain⟨h1,h2⟩:=as0 h
 exact⟨fun z=>⟨m,h1,z⟩,fun⟨y,hy,z⟩=>ji (h2 y hy) z⟩
theorem aq5 {l:List Int}(h:l≠[]):∃ m,minO l=some m:=by
 cases e:minO l with
 | none=>exact absurd (ag8.mp e) h
 | some m=>exact⟨m,rfl⟩
theorem an8 {n:Nat}(hn:1<=n){s t:Nat->Nat->Int}{i j:Nat}{x:Int}:aF7 n s t i j<=x↔∃ k,k<n/\s i k<=x/\t k j<=x:=by
 obtain⟨m,hm⟩:=aq5 (l:=(ao n).map fun k=>mx (s i k) (t k j)) (by
  intro z
  have:=congrArg fU z
  rw[aM,cG]at this
  simp at this
  omega)
 unfold aF7
 rw[hm]
 show m<=x↔_
 rw[aI0 hm]
 constructor
 ·rintro⟨y,hy,hx⟩
  obtain⟨k,hk,rfl⟩:=aG.mp hy
  exact⟨k,bp.mp hk,aX5.mp hx⟩
 ·rintro⟨k,hk,hx⟩
  exact⟨_,aG.mpr ⟨k,bp.mpr hk,rfl⟩,aX5.mpr hx⟩
theorem aq0 {a b:Int}(h:∀ x,a<=x↔b<=x):a=b:=by
 have h1:=(h b).mpr (bR _)
 have h2:=(h a).mp (bR _)
 omega
theorem aC4 {n:Nat}(hn:1<=n){s t:Nat->Nat->Int}(h:∀ i j,i<n->j<n->0<=s i j/\s i j<=3)(h':∀ i j,i<n->j<n->0<=t i j/\t i j<=3){i j:Nat}(hi:i<n)(hj:j<n):0<=aF7 n s t i j/\aF7 n s t i j<=3:=by
 constructor
 ·obtain⟨k,hk,h1,h2⟩:=(an8 hn (s:=s) (t:=t) (i:=i) (j:=j)).mp (bR _)
  have:=h i k hi hk
  omega
 ·exact(an8 hn).mpr ⟨0,by omega,(h i 0 hi (by omega)).2,(h' 0 j (by omega) hj).2⟩
section
variable {X:Cx}
end
noncomputable def mx3 (a b c:Int):Int:=mx (mx a b) c
theorem bb4 {a b c x:Int}:mx3 a b c<=x↔a<=x/\b<=x/\c<=x:=by unfold mx3;rw[aX5,aX5,and_assoc]
theorem aM4 {X:Cx}(hc:X.calm=true):ab8 X (.builtin "max") (fun xs H Q=>∃ i j k,xs=[.int i,.int j,.int k]/\Q (.int (mx3 i j k)) H):=by
 intro pins s σ H xs us Q I r h
 obtain⟨i,j,k,rfl,q⟩:=h
 cases r with
 | cons r1 r =>
  cases r with
  | cons r2 r =>
   cases r with
   | cons r3 r =>
    cases r
    obtain⟨t1,rfl⟩:=r1
    obtain⟨t2,rfl⟩:=r2
    obtain⟨t3,rfl⟩:=r3
    refine max_three_ints (I.ok.hd hc) fun h' tk kk=>⟨_,H,I.kept kk,?_,q⟩
    unfold mx3 mx
    by_cases h1:j > i
    ·rw[if_pos h1,if_pos h1]
     by_cases h2:k > j
     ·rw[if_pos h2,if_pos h2];exact⟨_,rfl⟩
     ·rw[if_neg h2,if_neg h2];exact⟨_,rfl⟩
    ·rw[if_neg h1,if_neg h1]
     by_cases h2:k > i
     ·rw[if_pos h2,if_pos h2];exact⟨_,rfl⟩
     ·rw[if_neg h2,if_neg h2];exact⟨_,rfl⟩
def InT (n:Nat)(s:Nat->Nat->Int):Prop:=∀ i j,i<n->j<n->0<=s i j/\s i j<=3
noncomputable def pw (n:Nat)(s:Nat->Nat->Int):Nat->Nat->Nat->Int
 | 0=>s
 | m+1=>aF7 n (pw n s m) s
theorem pw_in {n:Nat}(hn:1<=n){s:Nat->Nat->Int}(h:InT n s):∀ m,InT n (pw n s m)
 | 0=>h
 | m+1=>fun i j hi hj=>aC4 hn (pw_in hn h m) h hi hj
noncomputable def rnd (x:Int):Int:=if x=0\/x=3 then x else 2
noncomputable def sharp (n:Nat)(s:Nat->Nat->Int)(i j:Nat):Int:=(minO ((ao n).map fun k=>mx3 (s i k) (rnd (s k k)) (s k j))).getD 3
theorem aC5 {n:Nat}(hn:1<=n){s:Nat->Nat->Int}{i j:Nat}{x:Int}:sharp n s i j<=x↔∃ k,k<n/\s i k<=x/\rnd (s k k)<=x/\s k j<=x:=by
 obtain⟨m,hm⟩:=aq5 (l:=(ao n).map fun k=>mx3 (s i k) (rnd (s k k)) (s k j)) (by
  intro z
  have:=congrArg fU z
  rw[aM,cG]at this
  simp at this
  omega)
 unfold sharp
 rw[hm]
 show m<=x↔_
 rw[aI0 hm]
 constructor
 ·rintro⟨y,hy,hx⟩
  obtain⟨k,hk,rfl⟩:=aG.mp hy
  exact⟨k,bp.mp hk,bb4.mp hx⟩
 ·rintro⟨k,hk,hx⟩
  exact⟨_,aG.mpr ⟨k,bp.mpr hk,rfl⟩,bb4.mpr hx⟩
theorem bG0 {y:Int}(h:0<=y)(h3:y<=3):0<=rnd y/\rnd y<=3:=by unfold rnd;split<;>omega
section
variable {n:Nat} {s:Nat->Nat->Int}
end
def bR2 (cells:List (Str×Addr))(P:Addr)(name q:Str)(params:a9)(body:List Stmt)(scope:Scope)(pos:Pos)(i:Nat):TS:=fun D σ H =>
 ∃ ps:Array Value,H P=some (.tbl ps)/\gm ps.toList /\
  (cf pos ps.toList=none->∀ c' f doc pm ctv,H c'=none->H f=none->c'≠f ->
   D.nx (σ.set i (some (.ref f))) (upd (upd (upd H P (.tbl (ps++#[cc pos.line,cc pos.col,.ref c']))) c' (qf c' q)) f (ap9 f (bS name q params body scope (ac6 cells scope.names []) .none .none doc pm none (.ref c') ctv)))) /\
  (∀ cv,cf pos ps.toList=some cv->∃ c',cv=.ref c'/\∀ f doc pm ctv,H f=none->D.nx (σ.set i (some (.ref f))) (upd H f (ap9 f (bS name q params body scope (ac6 cells scope.names []) .none .none doc pm none (.ref c') ctv))))
theorem bF8 {X:Cx}{c P:Addr}{name q:Str}{i:Nat}{params:a9}{body:List Stmt}{scope:Scope}{pos:Pos}(hN:X.N.Nodup)(hi:X.N[i]?=some name)(hx:Loc X.env.scope name)(hcode:X.env.code=.ref c)(C:bt X.base c P)(hB:BM X.mg X.base)
  (hck:lamCheck scope X.env.scope=true) (hq:iW X.env name name=q:=by rfl) (hd0:params.defaults=[]:=by rfl) (hk0:params.kw_defaults=[]:=by rfl) (ha:annTrees params none X.env=[]:=by rfl) (hf:X.fn name=true\/X.env.scope.names.lookup name=some .local:=by first|exact .inl rfl|exact .inr rfl) :
  PS X (.FunctionDef name params body [] none [] scope none name pos) (bR2 X.env.cells P name q params body scope pos i):=by
 intro pins s σ H D I h
 have hfr:∀ y∈scope.names,y.2=.free->X.env.kindOf y.1=some .cell\/X.env.kindOf y.1=some .free:=fun y hy e=>by
  have z:=aD.mp hck y hy
  have z':X.env.scope.names.lookup y.1=some .cell\/X.env.scope.names.lookup y.1=some .free:=by simpa [e]using z
  exact z'
 obtain⟨ps,hP,ht,hnew,hhit⟩:=h
 refine PySem.W.nestDef_K hd0 hk0 ha ?_
 rw[hq]
 have fin:∀ {H2:Hp} {f:Addr} {s2:ae},Inv X pins σ H2 s2->D.nx (σ.set i (some (.ref f))) H2->wpAny (model X.prog X.w) X.A (dW X.env name (.ref f)) (fun _ s3=>SP X pins D .next s3) X.xe s2:=fun {H2 f s2} I2 q2=>qN (v:=.ref f) I2 hN hi hx rfl (fun s3 I3=>⟨_,H2,I3,q2⟩) hf
 have hcl:=z7 (scope:=scope) (env:=X.env) fun y hy e=>I.ok.has y.1 (hfr y hy e)
 have oP:s.heap.get? P=some (c9 ps):=I.hok P _ hP
 have hgs:s.heap.Ns aU X.mg:=I.mod.glob.keeps I.bk
 have hC:bt s.heap c P:=C.keeps I.bk
 have hgP:aU≠P:=fun q=>by
  obtain⟨o,es,ep,e,d,_⟩:=hgs
  rw[q,oP]at e;cases e;cases d
 have hb:s.heap.BuiltinsAt X.mg P:=by
  obtain⟨bm,ob,b1,b2,b3,b4,b5,b6⟩:=hB
  refine⟨bm,ob,b1,b2,fun q=>?_,fun q=>?_,I.bk _ _ b3,b4,b5,b6⟩
  ·obtain⟨o,es,ep,e,d,_⟩:=I.mod.glob
   rw[q,e]at b3;cases b3;rw[d]at b6;cases b6
  ·have e:=I.bk _ _ b3
   rw[q,oP]at e;cases e;cases b4
 cases qq:cf pos ps.toList with
 | none =>
  refine PySem.W.makeFunction_K (mg:=X.mg) hcl I.ok.glob hgs hcode hC oP ht qq hgP hb fun c' ctv doc h' tk hx hge hlt hrec htb=>?_
  have hPl:P<s.heap.objs.size:=aA oP
  have hcP:c'≠P:=cJ (am hPl hge)
  have hfP:h'.objs.size≠P:=cJ (c8 (am hPl hge) hlt)
  have hcf:c'≠h'.objs.size:=ax hlt
  have hsz:s.heap.objs.size<=h'.objs.size:=aw hge (cI hlt)
  have nP:∀ b,H b=none->b≠P:=fun b n z=>by rw[z,hP]at n;cases n
  have lt:∀ b o,H b=some o->b≠c'/\b≠h'.objs.size:=fun b o e=>⟨ax (am (I.hok.lt e) hge),ax (am (I.hok.lt e) hsz)⟩
  have lt2:∀ b o,s.heap.get? b=some o->b≠c'/\b≠h'.objs.size:=fun b o e=>⟨ax (am (aA e) hge),ax (am (aA e) hsz)⟩
  have keep:∀ b o,b≠P->s.heap.get? b=some o->(h'.push (PySem.W.fnMade name q params body scope (ac6 X.env.cells scope.names []) doc ((X.mg "__name__").getD .none) c' ctv)).get? b=some o:=fun b o n e=>ak _ (hx b o n e)
  have at3:∀ b,b≠P->b≠c'->b≠h'.objs.size->∀ o1 o2 o3,upd (upd (upd H P o1) c' o2) h'.objs.size o3 b=H b:=fun b n1 n2 n3 o1 o2 o3=>by rw[za n3,za n2,za n1]
  refine fin (H2:=upd (upd (upd H P (.tbl (ps++#[cc pos.line,cc pos.col,.ref c']))) c' (qf c' q)) h'.objs.size (ap9 h'.objs.size (bS name q params body scope (ac6 X.env.cells scope.names []) .none .none doc ((X.mg "__name__").getD .none) none (.ref c') ctv))) (I.un (t':=tk) ⟨fun b o e n _ _=>keep b o (nP b n) e,fun b o e n _ _=>⟨o.slots,keep b o (nP b n) e⟩,fun b o e n _=>?fr,fun b o e _=>?th,fun b xs e=>?tu,fun b o u e=>?fz,fun b qs e=>?tb⟩ ?ok) (hnew qq c' h'.objs.size doc _ ctv (I.hok.fresh hge) (I.hok.fresh hsz) hcf)
  case fr=>rw[at3 b (nP b n) (lt2 b o e).1 (lt2 b o e).2];exact n
  case th =>
   by_cases z:b=P
   ·subst z;exact⟨_,ak _ htb⟩
   ·exact⟨o,keep b o z e⟩
  case tu=>rw[at3 b (fun z=>by rw[z,hP]at e;cases e) (lt b _ e).1 (lt b _ e).2];exact e
  case fz=>rw[at3 b (fun z=>by rw[z,hP]at e;cases e) (lt b _ e).1 (lt b _ e).2];exact e
  case tb =>
   by_cases z:b=P
   ·subst z
    rw[hP]at e;cases e
    exact⟨#[cc pos.line,cc pos.col,.ref c'],by rw[za (bL hfP),za (bL hcP),zb]⟩
   ·exact⟨#[],by rw[at3 b z (lt b _ e).1 (lt b _ e).2,e];simp⟩
  case ok =>
   intro b o e
   by_cases zf:b=h'.objs.size
   ·subst zf
    rw[zb]at e;cases e
    exact ap2 (aS _ rfl)
   ·rw[za zf]at e
    by_cases zc:b=c'
    ·subst zc
     rw[zb]at e;cases e
     obtain⟨c2,oc,vs,t,e1,e2,e3⟩:=hrec
     exact aB2 ⟨c2,oc,vs,t,e1,ak _ e2,e3⟩
    ·rw[za zc]at e
     by_cases zp:b=P
     ·subst zp
      rw[zb]at e;cases e
      exact ak _ htb
     ·rw[za zp]at e
      have up3:∀ d u,H d=some u->(∀ ps,u≠.tbl ps)->upd (upd (upd H P (.tbl (ps++#[cc pos.line,cc pos.col,.ref c']))) c' (qf c' q)) h'.objs.size (ap9 h'.objs.size (bS name q params body scope (ac6 X.env.cells scope.names []) .none .none doc ((X.mg "__name__").getD .none) none (.ref c') ctv)) d=some u:=fun d u e nt=>by
       rw[at3 d (fun z=>by rw[z,hP]at e;cases e;exact nt _ rfl) (lt d _ e).1 (lt d _ e).2];exact e
      refine(I.hok b o e).stay (fun d u hd q=>keep d u ?_ q) (fun d q=>up3 d _ q fun _=>by nofun) fun d xs q=>up3 d _ q fun _=>by nofun
      rintro rfl
      rcases hd with hd|hd
      ·exact zp hd.symm
      ·rw[hP]at hd;cases hd
 | some cv =>
  obtain⟨c',rfl,hq2⟩:=hhit cv qq
  refine PySem.W.makeFunction_hit (mg:=X.mg) hcl I.ok.glob hgs hcode hC oP ht qq hb fun ctv doc h' tk hk hsz=>?_
  exact fin (I.laid (t':=tk) (fun b o e=>ak _ (hk b o e)) hsz (ap2 (aS _ rfl))) (hq2 h'.objs.size doc _ ctv (I.hok.fresh hsz))
def ak2 (H:Hp)(f:Addr)(name qual:Str)(params:a9)(body:List Stmt)(scope:Scope)(fr:List Str)(cap:List V)(clos:List (Str×Addr)):Prop :=
 ∃ doc pm c' ctv,H f=some (ap9 f (bS name qual params body scope clos .none .none doc pm none (.ref c') ctv))/\H c'=some (qf c' qual)/\Cells clos H /\
  (∀ x y c,clos.lookup x=some c->clos.lookup y=some c->x=y)/\(∀ x,scope.names.lookup x=some .free->∃ c,clos.lookup x=some c)/\Cap clos H fr cap
theorem aY5 {cells:List (Str×Addr)}{N:List Str}{kd:Str->Option bE}{σ:St}{H1 H2:Hp}{f:Addr}{q:Str}{name:Str}{params:a9}{body:List Stmt}{scope:Scope}{fr:List Str}{cap:List V}(ca:Caught cells N kd σ H1 H2)
  (hf:∃ doc pm c' ctv,H1 f=some (ap9 f (bS name q params body scope (ac6 cells scope.names []) .none .none doc pm none (.ref c') ctv))/\H1 c'=some (qf c' q))
  (hfr:∀ x,scope.names.lookup x=some .free->∃ c,cells.lookup x=some c)
  (hcap:∀(i:Nat) (x:Str) (v:V),fr[i]?=some x->cap[i]?=some v->scope.names.lookup x=some .free/\(kd x=some .cell\/kd x=some .free)/\∃ j:Nat,N[j]?=some x/\σ[j]?=some (some v)) :
  ak2 H2 f name q params body scope fr cap (ac6 cells scope.names []):=by
 obtain⟨doc,pm,c',ctv,h1,h2⟩:=hf
 have up:∀ b o,H1 b=some o->H2 b=some o:=fun b o e=>by
  rw[ca.ne b fun z=>by rw[ca.free b z]at e;cases e];exact e
 have sub:∀ x c,(ac6 cells scope.names []).lookup x=some c->cells.lookup x=some c:=fun x c e=>by
  rcases clOf_mem (ay e)with z|z
  ·exact z
  ·exact absurd z (by simp)
 refine⟨doc,pm,c',ctv,up _ _ h1,up _ _ h2,fun x c e=>ca.cells x c (sub x c e),fun x y c e1 e2=>ca.inj x y c (sub x c e1) (sub y c e2),fun x k=>?_,fun i x v e1 e2=>?_⟩
 ·obtain⟨c,e⟩:=hfr x k
  exact⟨c,qd e (ay k)⟩
 ·obtain⟨k,kk,j,e3,e4⟩:=hcap i x v e1 e2
  obtain⟨c,e⟩:=hfr x k
  obtain⟨o,u,e5,e6,e7⟩:=ca.cap j x v c e3 e4 kk e
  exact⟨c,o,u,qd e (ay k),e5,e6,e7⟩
theorem ak2.fn {K:ac}{H:Hp}{f:Addr}{name qual:Str}{params:a9}{body:List Stmt}{scope:Scope}{fr:List Str}{cap:List V}{clos:List (Str×Addr)}(h:ak2 H f name qual params body scope fr cap clos):bi2 K H f:=by
 obtain⟨doc,pm,c',ctv,h1,_⟩:=h
 exact .inl ⟨_,h1⟩
end L2
end
noncomputable section
namespace L2
open PySem PySem.Spec PyProof.Rows Builtin
section
variable {P:aC} {w:World} {A:aO} {E:Value->ae->Prop} {s:ae}
theorem av2 {it t:Addr}{i:Nat}{l:Array Value}{v:Value}{Q:Value->ae->Prop}(ti:s.heap.IsTupleIter it t i)(tt:s.heap.IsTuple t l)(hv:l[i]?=some v)
  (k:∀ h',h'.IsTupleIter it t (i+1)->cY it s.heap h'->Q v { s with heap:=h' }):wpAny (model P w) A (bF (.ref it)) Q E s:=by
 obtain⟨o,e1,e2,e3⟩:=id ti
 obtain⟨p,p1,_,n,p2⟩:=tt
 unfold bF
 refine ar (eV (name:=bC "__next__") ti.typeIs bV (eW bV ti.typeIs dU ?_ (dM _)))
 show wpAny _ _ (field (.ref it) 0 >>= _) _ _ _
 refine ar (f6 e1 e3 (x:=.ref t) rfl ?_)
 show wpAny _ _ (if(Value.ref t==Value.none)=true then _ else _) _ _ _
 rw[if_neg (show ¬((Value.ref t==Value.none)=true)from fun z=>nomatch z)]
 show wpAny _ _ (field (.ref it) 1 >>= _) _ _ _
 refine ar (f6 e1 e3 (x:=.int i 0) rfl ?_)
 show wpAny _ _ (seqItems? (.ref t) >>= _) _ _ _
 refine ar (wpAny_seqItems p1 p2 ?_)
 simp only[hV,hv]
 refine ar (wpAny_setField e1 e3 (by simp) (aN ⟨v,rfl,aN (k _ ⟨_,fM _ e1 (Obj.isFreed_of_fields (gS e3 _)),(Obj.cls_mapFields ..).trans e2,by rw[gS e3];simp[cc]⟩ (gy ..))⟩))
theorem aG2 {it t:Addr}{i:Nat}{l:Array Value}{Q:Value->ae->Prop}(hh:A.handled=none)(ti:s.heap.IsTupleIter it t i)(tt:s.heap.IsTuple t l)(hv:l[i]?=none)
  (k:∀ h' e,iy it s.heap h'->(∃ o,h'.get? e=some o/\o.cls=.type "StopIteration")->E (.ref e) { s with heap:=h' }):wpAny (model P w) A (bF (.ref it)) Q E s:=by
 obtain⟨o,e1,e2,e3⟩:=id ti
 obtain⟨p,p1,_,n,p2⟩:=tt
 unfold bF
 refine ar (eV (name:=bC "__next__") ti.typeIs bV (eW bV ti.typeIs dU ?_ (dM _)))
 show wpAny _ _ (field (.ref it) 0 >>= _) _ _ _
 refine ar (f6 e1 e3 (x:=.ref t) rfl ?_)
 show wpAny _ _ (if(Value.ref t==Value.none)=true then _ else _) _ _ _
 rw[if_neg (show ¬((Value.ref t==Value.none)=true)from fun z=>nomatch z)]
 show wpAny _ _ (field (.ref it) 1 >>= _) _ _ _
 refine ar (f6 e1 e3 (x:=.int i 0) rfl ?_)
 show wpAny _ _ (seqItems? (.ref t) >>= _) _ _ _
 refine ar (wpAny_seqItems p1 p2 ?_)
 simp only[hV,hv]
 refine ar (wpAny_rule (ar (wpAny_setField e1 e3 (by simp) ?_)))
 show wpAny _ _ (newExc (.type "StopIteration") [] >>= _) _ _ (_:ae)
 refine ar ?_
 simp only[newExc,newTuple]
 refine ar (cb ?_ (by size_fits))
 refine ar (m:=firstArgMember _ _) (wpAny_of_eq (a:=Value.none) (by first|rfl|(simp only[firstArgMember];rfl)) (cb ?_ (by size_fits)))
 simp only[raiseNew]
 refine ar (wpAny_handled ?_)
 first|rw[show A.in1.handled=none from hh]|rw[hh]
 exact ar (aN (wpAny_throw (k _ _ (((gy ..).extBut.push _).push _) ⟨_,aS _ rfl,rfl⟩)))
end
structure Dw (P:aC)(w:World)(K:ac)(J:It)(it:Addr)(tn:Nat->Heap->Prop):Prop where
 obj:∀ i h,tn i h->∃ o,h.get? it=some o/\∀ v,o.data≠.cell v
 keep:∀ i h h',tn i h->(∀ o,h.get? it=some o->h'.get? it=some o)->tn i h'
 item:∀(X:Cx),X.prog=P->X.w=w->X.K=K->∀(A:aO) (i:Nat) (pins:List (Addr×Obj)) (s:ae) (σ:St) (H:Hp) (Q:Value->ae->Prop) (E:Value->ae->Prop),Inv X pins σ H s->tn i s.heap->J.go i H ->
  (∀ x u h' tk,RelV x u->J.yld i H x H->tn (i+1) h'->cY it s.heap h'->Q u { s with heap:=h',toks:=tk })->wpAny (model P w) A (bF (.ref it)) Q E s
 done:∀(X:Cx),X.prog=P->X.w=w->X.K=K->∀(A:aO) (i:Nat) (pins:List (Addr×Obj)) (s:ae) (σ:St) (H:Hp) (Q:Value->ae->Prop) (E:Value->ae->Prop),A.handled=none->Inv X pins σ H s->tn i s.heap->J.stop i H ->
  (∀ h' e,iy it s.heap h'->(∃ o,h'.get? e=some o/\o.cls=.type "StopIteration")->E (.ref e) { s with heap:=h' })->wpAny (model P w) A (bF (.ref it)) Q E s
theorem bs4 {P:aC}{w:World}{K:ac}(a it:Addr):Dw P w K (Itl K a) it (fun i h=>h.IsListIter it a i) where
 obj:=fun i h st=>by
  obtain⟨o,e,c,d⟩:=st
  exact⟨o,e,fun v z=>by rw[d]at z;cases z⟩
 keep:=fun i h h' st k=>st.at k
 item:=by
  intro X hP hw hK A i pins s σ H Q E I st hg k
  subst hP hw hK
  obtain⟨xs,x,hq,hx⟩:=hg
  obtain⟨its,rv,p,hz⟩:=I.list hq
  obtain⟨u,hu,ru⟩:=rv.get hx
  exact wpAny_nextOf_list_item st p.isList (x:=u) (by simpa using hu) fun h' st' sb=>k x u h' s.toks ru ⟨rfl,fun ys hy=>by rw[I.list_inj hy hq];exact hx⟩ st' sb
 done:=by
  intro X hP hw hK A i pins s σ H Q E hA I st hg k
  subst hP hw hK
  obtain⟨xs,hq,hx⟩:=hg
  obtain⟨its,rv,p,hz⟩:=I.list hq
  have hl:=rv.length
  exact wpAny_nextOf_list_end hA st p.isList (by simp;omega) k
theorem bu3 {P:aC}{w:World}{K:ac}(a it:Addr):Dw P w K (Itt K a) it (fun i h=>h.IsTupleIter it a i) where
 obj:=fun i h st=>by
  obtain⟨o,e,c,d⟩:=st
  exact⟨o,e,fun v z=>by rw[d]at z;cases z⟩
 keep:=fun i h h' st k=>st.at k
 item:=by
  intro X hP hw hK A i pins s σ H Q E I st hg k
  subst hP hw hK
  obtain⟨xs,x,hq,hx⟩:=hg
  obtain⟨its,rv,p,hz⟩:=I.tuple hq
  obtain⟨u,hu,ru⟩:=rv.get hx
  exact av2 st (show s.heap.IsTuple a its.toArray from p) (v:=u) (by simpa using hu) fun h' st' sb=>k x u h' s.toks ru ⟨rfl,fun ys hy=>by rw[I.tuple_inj hy hq];exact hx⟩ st' sb
 done:=by
  intro X hP hw hK A i pins s σ H Q E hA I st hg k
  subst hP hw hK
  obtain⟨xs,hq,hx⟩:=hg
  obtain⟨its,rv,p,hz⟩:=I.tuple hq
  have hl:=rv.length
  exact aG2 hA st (show s.heap.IsTuple a its.toArray from p) (by simp;omega) k
theorem bx8 {P:aC}{w:World}{K:ac}(x:Str)(t:Tok)(it:Addr):Dw P w K (Its x) it (fun i h=>h.IsStrIter it (f7 x) x t i) where
 obj:=fun i h st=>by
  obtain⟨o,e,c,d⟩:=st
  exact⟨o,e,fun v z=>by rw[d]at z;cases z⟩
 keep:=fun i h h' st k=>by
  obtain⟨o,ho,r⟩:=st
  exact⟨o,k _ ho,r⟩
 item:=by
  intro X hP hw hK A i pins s σ H Q E I st hg k
  subst hP hw hK
  have hg':i<x.cps.size:=hg
  have hc:x.cps[i]?=some x.cps[i]:=by simp[hg']
  unfold f7 at st k
  cases ha:x.cps.all (·<128)
  ·rw[ha]at st k
   exact wpAny_nextOf_wide_item st hc fun h' st' sb=>k (.str ⟨#[x.cps[i]]⟩) _ h' (s.toks+1) ⟨_,rfl⟩ ⟨rfl,_,hc,rfl⟩ st' sb
  ·rw[ha]at st k
   exact wpAny_nextOf_ascii_item st hc fun h' st' sb=>k (.str ⟨#[x.cps[i]]⟩) _ h' (s.toks+1) ⟨_,rfl⟩ ⟨rfl,_,hc,rfl⟩ st' sb
 done:=by
  intro X hP hw hK A i pins s σ H Q E hA I st hg k
  subst hP hw hK
  have hg':x.cps.size<=i:=hg
  have hc:x.cps[i]?=none:=by simp[hg']
  unfold f7 at st
  cases ha:x.cps.all (·<128)
  ·rw[ha]at st
   exact wpAny_nextOf_wide_end hA st hc k
  ·rw[ha]at st
   exact wpAny_nextOf_ascii_end hA st hc k
section
variable {X:Cx} {pins:List (Addr×Obj)} {σ:St} {H:Hp} {s:ae} {A:aO} {E:Value->ae->Prop} {J1 J2:It} {t1 t2:Nat->Heap->Prop} {z ti to i1 i2:Addr} {n:Nat} {a b:Value}
end
def Mkr (v:Value)(o:Obj)(h:Heap):Prop:=∀(P:aC) (w:World) (A:aO) (E:Value->ae->Prop) (s:ae) (Q:Value->ae->Prop),(∀ b u,h.get? b=some u->s.heap.get? b=some u) ->
 Q (.ref s.heap.objs.size) { s with heap:=s.heap.push o }->wpAny (model P w) A (jg v) Q E s
def Sr (K:ac)(H:Hp)(x:V)(J:It):Prop:=(∃ a,x=.ref a/\(∃ xs,SqL K H a xs)/\J=Itl K a)\/(∃ a,x=.ref a/\(∃ xs,SqT K H a xs)/\J=Itt K a)\/∃ y,x=.str y/\J=Its y
theorem Sr.mk {X:Cx}{pins:List (Addr×Obj)}{σ:St}{H:Hp}{s:ae}{x:V}{u:Value}{J:It}(I:Inv X pins σ H s)(h:Sr X.K H x J)(r:RelV x u) :
  ∃(o:Obj) (tn:Addr->Nat->Heap->Prop),o.isFreed=false/\Mkr u o s.heap/\(∀ it,Dw X.prog X.w X.K J it (tn it))/\∀ it h',h'.get? it=some o->tn it 0 h':=by
 rcases h with⟨a,e,⟨xs,hq⟩,e'⟩|⟨a,e,⟨xs,hq⟩,e'⟩|⟨y,e,e'⟩
 ·subst e e';cases r
  obtain⟨its,rv,p,hz⟩:=I.list hq
  exact⟨_,fun it i h=>h.IsListIter it a i,rfl,fun P w A E s' Q hk q=>cZ (p.isList.at fun o e=>hk _ _ e) q,fun it=>bs4 a it,fun it h' e=>⟨_,e,rfl,rfl⟩⟩
 ·subst e e';cases r
  obtain⟨its,rv,p,hz⟩:=I.tuple hq
  exact⟨_,fun it i h=>h.IsTupleIter it a i,rfl,fun P w A E s' Q hk q=>gM (Heap.IsTuple.at (show s.heap.IsTuple a its.toArray from p) fun o e=>hk _ _ e) q,fun it=>bu3 a it,fun it h' e=>⟨_,e,rfl,rfl⟩⟩
 ·subst e e';obtain⟨t,rfl⟩:=r
  exact⟨_,fun it i h=>h.IsStrIter it (f7 y) y t i,rfl,fun P w A E s' Q hk q=>wpAny_pyIter_strU q,fun it=>bx8 y t it,fun it h' e=>⟨_,e,rfl,rfl⟩⟩
end L2
end
noncomputable section
namespace L2
open PySem PySem.Spec PyProof.Rows Builtin
open AutoSeq1 (wpAny_loadPart')
section
variable {X:Cx} {pins:List (Addr×Obj)} {σ:St} {H:Hp} {s:ae} {A:aO} {E:Value->ae->Prop} {J1:It} {t1:Nat->Heap->Prop} {z it:Addr} {n:Nat} {old:Value}
end
end L2
end
noncomputable section
namespace L2
open PySem PySem.Spec PyProof.Rows Builtin
open AutoSeq1 (wpAny_loadPart')
theorem aw7:fillsNumberSlot (.type "tuple") "mul"=pure false :=
 PySem.fillsNumberSlot_seq (id := "tuple.__mul__") (r:=some (.builtin "tuple.__rmul__")) da.lookup (by decide +kernel) eX.lookup (by decide +kernel)
theorem aG7:seqRepeat? (.type "tuple")=pure (some (.builtin "tuple.__mul__")):=by
 unfold seqRepeat?
 rw[iq (T := "tuple") (name := "__mul__") (id := "tuple.__mul__") da.lookup (by decide +kernel),iq (T := "tuple") (name := "__rmul__") (id := "tuple.__rmul__") eX.lookup (by decide +kernel)]
 rfl
theorem as8 (a:Int)(t:Tok)(l:Addr)(o:Obj)(items:Array Value)(n:Nat)(dct:Option Addr)(sl:Array (Option Value)) :
  Meets (Builtin.«int.__rmul__» ⟨[.int a t,.ref l],[]⟩) (fun _ R s=>s.heap.get? l=some { cls:=.type "tuple",dict:=dct,data:=.seq items n,slots:=sl }/\R (.ok (.ret Value.notImplemented)) s) :=
 .of_wp fun prog w A R s h=>by obtain⟨hp,g,d,tk,os⟩:=s;obtain⟨hl,h⟩:=h;wp_walk;exact⟨_,rfl,h⟩
noncomputable def al3 {α:Type}:Nat->List α->List α
 | 0,_=>[]
 | n+1,a=>a++al3 n a
theorem aC2 {α:Type}(l:List α):∀(n:Nat) (acc:Array α),(av n l.toArray).foldl (·++·) acc=acc++(al3 n l).toArray
 | 0,acc=>by simp[al3]
 | n+1,acc=>by rw[bB,cx,aC2 l n];simp[al3]
theorem at4 {α:Type}(a:Array α):∀(n:Nat) (acc:Array α),((av n a).foldl (·++·) acc).size=acc.size+a.size*n
 | 0,acc=>by simp
 | n+1,acc=>by rw[bB,cx,at4 a n,Array.size_append,Nat.mul_succ];omega
def TmA (items:Array Value)(k:Int)(l:Addr)(R:Value->ae->Prop)(s:ae):Prop :=
 ((items.isEmpty||k==1)=true->R (.ref l) s)/\((items.isEmpty||k==1)=false->R (.ref s.heap.objs.size) { s with heap:=s.heap.push { cls:=.type "tuple",data:=.seq ((av k.toNat items).foldl (·++·) #[]) } })
theorem aJ6 {P:aC}{w:World}{A:aO}{E:Value->ae->Prop}{s:ae}{l:Addr}{items:Array Value}{k:Int}{t:Tok}{Q:Value->ae->Prop}(h0:0<=k)(h1:k<=1000000)(hz:items.size*k.toNat<=1000000)(hl:IsTup s.heap l items)
  (h:TmA items k l Q s):wpAny (model P w) A (call (.builtin "tuple.__mul__") [.ref l,.int k t]) Q E s:=by
 refine eW da hl.typeIs PySem.F.entry_tuple_mul ?_ (PySem.F.args_tuple_mul_2 _ _)
 obtain⟨q1,q2⟩:=h
 show wpAny _ _ (asIndex (.int k t) >>= _) _ _ _
 refine ar (aN ?_)
 rw[if_neg (by rw[decide_eq_false (by omega),decide_eq_false (by omega)];decide)]
 show wpAny _ _ (iX (.ref l) >>= _) _ _ _
 refine ar (tupleItemsOf_ hl ?_)
 have hzi:(items.size:Int)*k<=1000000:=by
  have:((items.size*k.toNat:Nat):Int)<=1000000:=by omega
  rw[iC,gz h0]at this
  exact this
 cases hb:(items.isEmpty||k==1)with
 | true =>
  rw[if_pos rfl]
  unfold iY
  refine ar (ar (wpAny_typeOf hl.typeIs (aN ?_)))
  rw[if_pos (by decide)]
  exact ar (wpAny_rule (aN ⟨_,rfl,q1 hb⟩))
 | false =>
  rw[if_neg aP]
  have he:items.isEmpty=false:=by
   rw[dE]at hb;exact hb.1
  have q:=q2 hb
  show wpAny _ _ (if(decide (k<=0)||items.isEmpty)=true then _ else _) _ _ _
  by_cases hk:k<=0
  ·rw[if_pos (by rw[decide_eq_true hk];rfl)]
   have:k.toNat=0:=by omega
   rw[this]at q
   exact ar (cb (aN ⟨_,rfl,q⟩) (by size_fits))
  ·rw[if_neg (by rw[decide_eq_false hk,he];decide)]
   show wpAny _ _ (if(items.size:Int)*k > (2^63 - 1) / 8 then _ else _) _ _ _
   rw[if_neg (by omega)]
   show wpAny _ _ (if d5 ((items.size:Int)*k)=true then _ else _) _ _ _
   rw[if_neg (by unfold d5;rw[decide_eq_false (by unfold aH;omega)];decide)]
   refine ar (cb (aN ⟨_,rfl,q⟩) ?_)
   show Array.size _<=aH
   rw[at4]
   show 0+_<=_
   rw[db]
   have h3:items.size*k.toNat<=aH:=aw hz (by decide)
   exact h3
theorem aA1 {α:Type}:∀ n,al3 n ([]:List α)=[]
 | 0=>rfl
 | n+1=>by simp[al3,aA1 n]
theorem aZ4 {α:Type}(l:List α):al3 1 l=l:=by simp[al3]
theorem aD1 {α:Type}(l:List α):∀ n,(al3 n l).length=l.length*n
 | 0=>by simp[al3]
 | n+1=>by simp[al3,aD1 l n,iz];omega
theorem Vals.repT {xs:List V}{us:List Value}(r:Vals xs us):∀ n,Vals (al3 n xs) (al3 n us)
 | 0=>.nil
 | n+1=>r.append (Vals.repT r n)
def bJ4 (K:ac):R2:=fun x y H Q=>∃ a xs n,x=.ref a/\y=.int n/\SqT K H a xs/\(0<=n/\n<=1000000/\xs.length*n.toNat<=1000000)/\∀ p H',ac8 H H'->SqT K H' p (al3 n.toNat xs)->(H' p=some (.tup (al3 n.toNat xs))\/(p=a/\al3 n.toNat xs=xs))->Q (.ref p) H'
theorem bp3 {X:Cx}{K:ac}(hK:X.K=K):OpR X (bM .Mult) (bJ4 K):=by
 subst hK
 intro pins s σ H x y v u Q I rx ry h
 obtain⟨a,xs,n,rfl,rfl,ha,⟨h0,h1,hz⟩,q⟩:=h
 cases rx
 obtain⟨t,rfl⟩:=ry
 obtain⟨its,r1,p1,hzz⟩:=I.tuple ha
 have hlen:=r1.length
 obtain⟨⟨cls,dd,data,sl⟩,ho,hc,n1,hd⟩:=id p1
 simp only at hc hd
 subst hc hd
 refine d6 (T := "tuple") (U := "int") (by decide) p1.typeIs (fun s'=>fx s' n t) aw7 gQ cV aG7 gv.lookup
  (gP cV (fx s n t) gx (fX _ _) (as8 n t a default its.toArray n1 dd sl) ⟨ho,⟨rfl,p1.typeIs,aJ6 h0 h1 (by rw[aB,<-hlen];exact hz) p1 ⟨fun hb=>?_,fun hb=>?_⟩⟩⟩)
 ·have ex:al3 n.toNat xs=xs:=by
   rw[bK]at hb
   rcases hb with hb|hb
   ·have hi:its=[]:=by simpa using hb
    have hx:xs=[]:=r1.nil_iff.mp hi
    rw[hx,aA1]
   ·have:n=1:=by simpa using hb
    subst this
    exact aZ4 _
  exact⟨.ref a,H,I,rfl,q a H (ac8.refl H) (by rw[ex];exact ha) (.inr ⟨rfl,ex⟩)⟩
 ·have hp:=I.hok.fresh (ai s.heap.objs.size)
  refine⟨.ref s.heap.objs.size,_,I.laid (t':=s.toks) (o:=.tup (al3 n.toNat xs)) (fun b ob q=>ak _ q) (ai _) ?_,rfl,q _ _ ((ac8.refl H).new hp) (SqT.of zb) (.inl zb)⟩
  refine⟨by rw[aD1];exact aw hz (by decide),al3 n.toNat its,r1.repT _,?_⟩
  rw[show(al3 n.toNat its).toArray=(av n.toNat its.toArray).foldl (·++·) #[]by rw[aC2];simp]
  exact⟨_,aS _ rfl,rfl,_,rfl⟩
end L2
end
noncomputable section
namespace L2
open PySem PySem.Spec PyProof.Rows
section
variable {κ:Type} [DecidableEq κ]
noncomputable def aB4 (kvs:List (κ×V))(k:κ):Option V:=(kvs.find? fun kv=>decide (kv.1=k)).map (·.2)
noncomputable def am0 (kvs:List (κ×V))(k:κ)(v:V):List (κ×V) :=
 if(kvs.any fun kv=>decide (kv.1=k))=true then kvs.map (fun kv=>if kv.1=k then(kv.1,v)else kv)else kvs++[(k,v)]
theorem ai0 {p:κ×V}{r:List (κ×V)}{k:κ}(e:p.1=k):aB4 (p::r) k=some p.2:=by simp[aB4,cz,e]
theorem ah9 {p:κ×V}{r:List (κ×V)}{k:κ}(e:¬ p.1=k):aB4 (p::r) k=aB4 r k:=by simp[aB4,cz,e]
theorem ao4 (k:κ):∀ kvs:List (κ×V),(kvs.any fun kv=>decide (kv.1=k))=(aB4 kvs k).isSome
 | []=>rfl
 | p::r=>by
  rw[dA]
  by_cases e:p.1=k
  ·simp only[ai0 e,decide_eq_true e,Bool.true_or,gR]
  ·rw[ah9 e,decide_eq_false e,gG];exact ao4 k r
theorem qR (kvs:List (κ×V))(k:κ)(v:V):(am0 kvs k v).length<=kvs.length+1:=by
 unfold am0
 split
 ·rw[aM];omega
 ·rw[aV,aQ,dN];omega
theorem aF2.isSome_eq {o:Option V}{u:Option Value}(r:aF2 o u):o.isSome=u.isSome:=by
 cases o with
 | none=>cases u with
  | none=>rfl
  | some _=>exact(show False from r).elim
 | some _=>cases u with
  | none=>exact(show False from r).elim
  | some _=>rfl
theorem aF2.getD {o:Option V}{u:Option Value}{d:V}{d':Value}(r:aF2 o u)(rd:RelV d d'):RelV (o.getD d) (u.getD d'):=by
 cases o with
 | none=>cases u with
  | none=>exact rd
  | some _=>exact(show False from r).elim
 | some _=>cases u with
  | none=>exact(show False from r).elim
  | some _=>exact r
theorem KV.val {kvs:List (κ×V)}{vs:List (κ×Value)}(r:KV kvs vs)(k:κ):aF2 (aB4 kvs k) (gq vs k):=by
 unfold KV at r
 induction r with
 | nil=>exact True.intro
 | @cons p q ps qs h t ih =>
  obtain⟨h1,h2⟩:=h
  by_cases e:p.1=k
  ·have e':q.1=k:=h1.symm.trans e
   have b:gq (q::qs) k=some q.2:=by simp[gq,cz,e']
   rw[ai0 e,b];exact h2
  ·have e':¬ q.1=k:=fun z=>e (h1.trans z)
   have b:gq (q::qs) k=gq qs k:=by simp[gq,cz,e']
   rw[ah9 e,b];exact ih
theorem KV.any {kvs:List (κ×V)}{vs:List (κ×Value)}(r:KV kvs vs)(k:κ):(kvs.any fun kv=>decide (kv.1=k))=vs.any fun kv=>decide (kv.1=k):=by
 unfold KV at r
 induction r with
 | nil=>rfl
 | cons h t ih=>rw[dA,dA,ih,h.1]
theorem KV.repl {kvs:List (κ×V)}{vs:List (κ×Value)}(r:KV kvs vs)(k:κ){y:V}{u:Value}(ry:RelV y u) :
  KV (kvs.map fun kv=>if kv.1=k then(kv.1,y)else kv) (vs.map fun kv=>if kv.1=k then(kv.1,u)else kv):=by
 unfold KV at r ⊢
 induction r with
 | nil=>exact .nil
 | @cons p q ps qs h t ih =>
  rw[aJ,aJ]
  refine .cons ?_ ih
  obtain⟨h1,h2⟩:=h
  by_cases e:p.1=k
  ·rw[if_pos e,if_pos (h1.symm.trans e)];exact⟨h1,ry⟩
  ·rw[if_neg e,if_neg (fun z=>e (h1.trans z))];exact⟨h1,h2⟩
theorem KV.put {kvs:List (κ×V)}{vs:List (κ×Value)}(r:KV kvs vs)(k:κ){y:V}{u:Value}(ry:RelV y u):KV (am0 kvs k y) (stored vs k u):=by
 unfold am0 stored
 rw[r.any k]
 by_cases e:(vs.any fun kv=>decide (kv.1=k))=true
 ·rw[if_pos e,if_pos e];exact r.repl k ry
 ·rw[if_neg e,if_neg e];exact js r ⟨rfl,ry⟩
theorem KV.length {kvs:List (κ×V)}{vs:List (κ×Value)}(r:KV kvs vs):kvs.length=vs.length:=gA r
end
theorem aV7 {P:aC}{w:World}{k:Key}{u:Value}(r:RelV (kV k) u):(zQ P w).is k u=true:=by
 cases k with
 | inl i=>obtain⟨t,e⟩:=(show ∃ t,u=Value.int i t from r);subst e;exact ax0 P w i t
 | inr x=>obtain⟨t,e⟩:=(show ∃ t,u=Value.str x t from r);subst e;exact aw0 P w x t
theorem ar1 {P:aC}{w:World}:∀ {ks:List Key} {us:List Value},Vals (ks.map kV) us->ItemsAre (zQ P w) ks us
 | [],_,r=>by rw[c7]at r;cases r;exact .nil
 | k::ks,_,r=>by
  rw[aJ]at r
  cases r with
  | cons h t=>exact .cons (aV7 h) (ar1 t)
abbrev KT (H:Hp):List (List Key×V)->List (List Key×Addr×Value)->Prop:=eG fun p q=>p.1=q.1/\H q.2.1=some (.tup (p.1.map kV))/\RelV p.2 q.2.2
theorem KT.val {H:Hp}{kvs:List (List Key×V)}{xs:List (List Key×Addr×Value)}(r:KT H kvs xs)(k:List Key):aF2 (aB4 kvs k) ((atKey xs k).map (·.2)):=by
 induction r with
 | nil=>exact True.intro
 | @cons p q ps qs h t ih =>
  obtain⟨h1,_,h2⟩:=h
  by_cases e:p.1=k
  ·have e':q.1=k:=h1.symm.trans e
   have b:atKey (q::qs) k=some q.2:=by simp[atKey,cz,e']
   rw[ai0 e,b];exact h2
  ·have e':¬ q.1=k:=fun z=>e (h1.trans z)
   have b:atKey (q::qs) k=atKey qs k:=by simp[atKey,cz,e']
   rw[ah9 e,b];exact ih
theorem KT.repl {H:Hp}{kvs:List (List Key×V)}{xs:List (List Key×Addr×Value)}(r:KT H kvs xs)(k:List Key){y:V}{u:Value}(ry:RelV y u) :
  KT H (kvs.map fun kv=>if kv.1=k then(kv.1,y)else kv) (xs.map (putAt k u)):=by
 induction r with
 | nil=>exact .nil
 | @cons p q ps qs h t ih =>
  rw[aJ,aJ]
  refine .cons ?_ ih
  obtain⟨h1,h2,h3⟩:=h
  unfold putAt
  by_cases e:p.1=k
  ·rw[if_pos e,if_pos (h1.symm.trans e)];exact⟨h1,h2,ry⟩
  ·rw[if_neg e,if_neg (fun z=>e (h1.trans z))];exact⟨h1,h2,h3⟩
theorem KT.put {H:Hp}{kvs:List (List Key×V)}{xs:List (List Key×Addr×Value)}(r:KT H kvs xs)(k:List Key){b:Addr}{y:V}{u:Value}(hb:H b=some (.tup (k.map kV)))(ry:RelV y u) :
  KT H (am0 kvs k y) (storedH xs k b u):=by
 have e:(kvs.any fun kv=>decide (kv.1=k))=(atKey xs k).isSome:=by
  rw[ao4,(r.val k).isSome_eq,Option.isSome_map]
 unfold am0 storedH
 rw[e]
 by_cases q:(atKey xs k).isSome=true
 ·rw[if_pos q,if_pos q];exact r.repl k ry
 ·rw[if_neg q,if_neg q];exact js r ⟨rfl,hb,ry⟩
theorem KT.keeps {H H':Hp}{kvs:List (List Key×V)}{xs:List (List Key×Addr×Value)}(r:KT H kvs xs)(ht:∀ b ys,H b=some (.tup ys)->H' b=some (.tup ys)):KT H' kvs xs :=
 eG.mapP r fun _ _ z=>⟨z.1,ht _ _ z.2.1,z.2.2⟩
section
variable {P:aC} {w:World} {H:Hp} {h:Heap} {a:Addr}
theorem bu9 {u:HO}(ok:HOk P w H h)(e:Rd H a u):ab6 P w H h a u:=e.ok ok
theorem bh1 {kvs:List (Key×V)}(ok:HOk P w H h)(e:Rd H a (.dK kvs)):kvs.length<=aH/\(a==cH)=false/\∃ vs,KV kvs vs/\h.DictOf (zQ P w) a vs :=
 show ab6 P w H h a (.dK kvs)from bu9 ok e
theorem bz3 {kvs:List (Key×V)}(ok:HOk P w H h)(e:H a=some (.dK kvs)):kvs.length<=aH/\(a==cH)=false/\∃ vs,KV kvs vs/\h.DictOf (zQ P w) a vs:=bh1 ok (.inl e)
theorem aK2 {ks:List Key}(ok:HOk P w H h)(e:H a=some (.tup (ks.map kV))):(gi (zQ P w)).is h ks a:=by
 obtain⟨_,its,r,o,h1,h2,n,h3⟩:=(show ab6 P w H h a (.tup (ks.map kV))from ok a _ e)
 exact⟨o,its.toArray,n,h1,h2,h3,by simpa using ar1 r⟩
theorem bq0 {kvs:List (List Key×V)}(ok:HOk P w H h)(e:Rd H a (.dT kvs)):kvs.length<=aH/\(a==cH)=false /\
  ∃ xs,KT H kvs xs/\h.DictOfH (gi (zQ P w)) a xs:=by
 obtain⟨z,y,xs,r,o,es,ep,h1,h2,h3,h4,h5⟩:=(show ab6 P w H h a (.dT kvs)from bu9 ok e)
 refine⟨z,y,xs,r,o,es,ep,h1,h2,h3,h4,fun x hx=>?_,h5⟩
 have all:∀ {l:List (List Key×V)} {m:List (List Key×Addr×Value)},KT H l m->∀ x∈m,(gi (zQ P w)).is h x.1 x.2.1:=by
  intro l m q
  induction q with
  | nil=>intro x hx;exact nomatch hx
  | @cons p q ps qs hq t ih =>
   intro x hx
   rcases au.mp hx with e|hx
   ·subst e
    exact aK2 ok (by rw[<-hq.1];exact hq.2.1)
   ·exact ih x hx
 exact all r x hx
theorem bL8 {kvs:List (List Key×V)}(ok:HOk P w H h)(e:H a=some (.dT kvs)):kvs.length<=aH/\(a==cH)=false /\
  ∃ xs,KT H kvs xs/\h.DictOfH (gi (zQ P w)) a xs:=bq0 ok (.inl e)
end
def aT0 (H:Hp)(a:Addr)(y:V)(r:Option V):Prop :=
 (∃ kvs k,Rd H a (.dK kvs)/\y=kV k/\r=aB4 kvs k)\/∃ kvs k b,Rd H a (.dT kvs)/\y=.ref b/\H b=some (.tup (k.map kV))/\r=aB4 kvs k
def bg6 (H:Hp)(a:Addr)(y v:V)(H':Hp):Prop :=
 (∃ kvs k,H a=some (.dK kvs)/\y=kV k/\kvs.length<aH/\H'=upd H a (.dK (am0 kvs k v))) \/
 ∃ kvs k b,H a=some (.dT kvs)/\y=.ref b/\H b=some (.tup (k.map kV))/\kvs.length<aH/\H'=upd H a (.dT (am0 kvs k v))
theorem aT0.k {H:Hp}{a:Addr}{kvs:List (Key×V)}{k:Key}(e:H a=some (.dK kvs)):aT0 H a (kV k) (aB4 kvs k):=.inl ⟨kvs,k,.inl e,rfl,rfl⟩
theorem aT0.t {H:Hp}{a b:Addr}{kvs:List (List Key×V)}{k:List Key}(e:H a=some (.dT kvs))(eb:H b=some (.tup (k.map kV))):aT0 H a (.ref b) (aB4 kvs k):=.inr ⟨kvs,k,b,.inl e,rfl,eb,rfl⟩
theorem bg6.k {H:Hp}{a:Addr}{kvs:List (Key×V)}{k:Key}{v:V}(e:H a=some (.dK kvs))(hl:kvs.length<aH):bg6 H a (kV k) v (upd H a (.dK (am0 kvs k v))):=.inl ⟨kvs,k,e,rfl,hl,rfl⟩
theorem bg6.t {H:Hp}{a b:Addr}{kvs:List (List Key×V)}{k:List Key}{v:V}(e:H a=some (.dT kvs))(eb:H b=some (.tup (k.map kV)))(hl:kvs.length<aH) :
  bg6 H a (.ref b) v (upd H a (.dT (am0 kvs k v))):=.inr ⟨kvs,k,b,e,rfl,eb,hl,rfl⟩
section
variable {X:Cx} {pins:List (Addr×Obj)} {σ:St} {H:Hp} {s:ae} {a:Addr} {y v:V} {u r:Value} {o:Option V} {A:aO} {E:Value->ae->Prop}
theorem Inv.big (I:Inv X pins σ H s):cH<s.heap.objs.size:=by
 have h:aU<s.heap.objs.size:=(I.mod.glob.keeps I.bk).lt
 exact c8 (by decide) h
theorem as3 {Q:Value->ae->Prop}(hu:A.units+1<cLine)(I:Inv X pins σ H s)(g:aT0 H a y (some v))(ry:RelV y u)(h:∀ w' s',Inv X pins σ H s'->RelV v w'->Q w' s') :
  wpAny (model X.prog X.w) A (getItem (.ref a) u) Q E s:=by
 rcases g with⟨kvs,k,e,ey,l⟩|⟨kvs,k,b,e,ey,eb,l⟩
 ·subst ey
  obtain⟨z,hd,vs,rel,dd⟩:=bh1 I.hok e
  obtain⟨w',hw,rw'⟩:=aF2.some_of (v:=v) (o:=gq vs k) (by rw[l];exact rel.val k)
  exact wpAny_getItem_of (aV7 ry) dd.mapOf hw (h w' _ (I.tok _) rw')
 ·subst ey
  cases(show u=Value.ref b from ry)
  obtain⟨z,hd,xs,rel,dd⟩:=bq0 I.hok e
  obtain⟨w',hw,rw'⟩:=aF2.some_of (v:=v) (o:=(atKey xs k).map (·.2)) (by rw[l];exact rel.val k)
  obtain⟨p,hp,hp2⟩:=fC.mp hw
  refine wpAny_getItem_heap (gT hu) (aK2 I.hok eb) dd hp ?_
  rw[hp2]
  exact h w' _ (I.tok _) rw'
theorem ay3 {h':Heap}{t':Nat}{ob:HO}(I:Inv X pins σ H s)(mu:Mut (H a))(hs:cY a s.heap h')(he:∃ q,h'.get? a=some q)(new:ab6 X.prog X.w (upd H a ob) h' a ob) :
  Inv X pins σ (upd H a ob) { s with heap:=h',toks:=t' } :=
 I.write (x:=a) (e:=a) mu (.inl rfl) (fun b q hb z=>(hs.2 b hb).trans z) he new
theorem bd6 {P:aC}{w:World}{H':Hp}{h':Heap}{kvs:List (Key×V)}{vs:List (Key×Value)}(z:kvs.length<=aH)(hd:(a==cH)=false)(rel:KV kvs vs)(dd:h'.DictOf (zQ P w) a vs) :
  ab6 P w H' h' a (.dK kvs):=⟨z,hd,vs,rel,dd⟩
theorem ar9 {H':Hp}{Q:Unit->ae->Prop}(hu:A.units+1<cLine)(I:Inv X pins σ H s)(g:bg6 H a y v H')(ry:RelV y u)(rv:RelV v r)(h:∀ s',Inv X pins σ H' s'->Q () s') :
  wpAny (model X.prog X.w) A (setItem (.ref a) u r) Q E s:=by
 rcases g with⟨kvs,k,e,ey,l,eH⟩|⟨kvs,k,b,e,ey,eb,l,eH⟩
 ·subst ey eH
  obtain⟨z,hd,vs,rel,dd⟩:=bz3 I.hok e
  have hz:vs.length<=aH:=by rw[<-rel.length];exact z
  have hl:(am0 kvs k v).length<=aH:=by have:=qR kvs k v;omega
  refine wpAny_setItem_pairs (hsz:=hz) (aV7 ry) dd fun h' dd' hs=>h _ ?_
  have he:∃ q,h'.get? a=some q:=let⟨q,_,_,hq,_⟩:=dd';⟨q,hq⟩
  exact ay3 I (by rw[e];exact True.intro) hs he (bd6 hl hd (rel.put k rv) dd')
 ·subst ey eH
  cases(show u=Value.ref b from ry)
  obtain⟨z,hd,xs,rel,dd⟩:=bL8 I.hok e
  have hz:xs.length<=aH:=by rw[<-gA rel];exact z
  have hl:(am0 kvs k v).length<=aH:=by have:=qR kvs k v;omega
  refine wpAny_setItem_heap (hsz:=hz) (gT hu) (aK2 I.hok eb) dd fun h' dd' hs=>h _ ?_
  obtain⟨q,es,ep,hq,h2,h3,h4,_,h5⟩:=dd'
  refine ay3 I (by rw[e];exact True.intro) hs ⟨q,hq⟩ ⟨hl,hd,_,(rel.put k eb rv).keeps fun c ys ec=>?_,q,es,ep,hq,h2,h3,h4,h5⟩
  rw[za (bJ5 ec e (fun z=>nomatch z))]
  exact ec
end
section
variable {X:Cx} {pins:List (Addr×Obj)} {σ:St} {H:Hp} {s:ae} {a:Addr} {kvs:List (Key×V)} {k:Key} {u:Value} {A:aO} {E:Value->ae->Prop}
end
theorem al2 {X:Cx}{pins:List (Addr×Obj)}{σ:St}{H:Hp}{s:ae}{a:Addr}{y:V}{o:Option V}(I:Inv X pins σ H s)(g:aT0 H a y o):s.TypeIs (.ref a) "dict":=by
 rcases g with⟨kvs,k,e,_,_⟩|⟨kvs,k,b,e,_,_,_⟩
 ·obtain⟨_,_,vs,_,dd⟩:=bh1 I.hok e
  exact dd.typeIs
 ·obtain⟨_,_,xs,_,dd⟩:=bq0 I.hok e
  exact dd.typeIs
section
variable {X:Cx} {o i e value:Expr} {pos pos' tpos:Pos} {td ty tv:TE}
end
theorem az5 {P:aC}{w:World}{H:Hp}(h:Heap)(hb:cH<h.objs.size):ab6 P w H (h.push { cls:=.type "dict",data:=.dict #[] }) h.objs.size (.dK []) :=
 ⟨dD _,beq_eq_false_iff_ne.mpr (bL (ax hb)),[],.nil,Heap.DictOf.new h⟩
def bb5:TE:=fun _ H Q=>∀ p,H p=none->Q (.ref p) (upd H p (.dK []))
section
variable {X:Cx} {pos:Pos}
theorem ba3:PE X (.Dict [] [] pos) bb5:=fun pins s σ H Q I h =>
 wpAny_Dict_empty ⟨.ref s.heap.objs.size,_,I.laid (a:=s.heap.objs.size) (o:=.dK []) (t':=s.toks) (fun _ _ q=>ak _ q) (ai _) (az5 s.heap I.big),rfl,h _ (I.hok.fresh (ai _))⟩
end
noncomputable def aK3:List (TE×TE)->St->Hp->(List (V×V)->Hp->Prop)->Prop
 | [],_,H,Q=>Q [] H
 | (tk,tv)::r,σ,H,Q=>tk σ H fun x H1=>tv σ H1 fun y H2=>aK3 r σ H2 fun ps H3=>Q ((x,y)::ps) H3
abbrev VV:List (V×V)->List (Value×Value)->Prop:=eG fun p q=>RelV p.1 q.1/\RelV p.2 q.2
def PPs (X:Cx)(pos:Pos)(keys:List (Option Expr))(values:List Expr)(trs:List (TE×TE)):Prop :=
 ∀(pins:List (Addr×Obj)) (s:ae) (σ:St) (H:Hp) (Q:List (V×V)->Hp->Prop),Inv X pins σ H s->aK3 trs σ H Q ->
  wpAny (model X.prog X.w) X.A (evalPairs (pairTrees keys values X.env pos)) (fun vs s'=>∃ ps H',Inv X pins σ H' s'/\VV ps vs/\Q ps H') X.xe s
theorem bn4 {X:Cx}{pos:Pos}:PPs X pos [] [] []:=fun pins s σ H Q I h=>pairTrees_nil_walk ⟨[],H,I,.nil,h⟩
theorem aX4 {X:Cx}{pos:Pos}{k v:Expr}{ks:List (Option Expr)}{vs:List Expr}{tk tv:TE}{trs:List (TE×TE)}(hk:PE X k tk)(hv:PE X v tv)(hr:PPs X pos ks vs trs) :
  PPs X pos (some k::ks) (v::vs) ((tk,tv)::trs):=fun pins s σ H Q I h =>
 pairTrees_cons_walk (thn (hk pins s σ H _ I h) fun u s1 ⟨x,H1,I1,rx,q1⟩=>thn (hv pins s1 σ H1 _ I1 q1) fun w2 s2 ⟨y,H2,I2,ry,q2⟩ =>
  thn (hr pins s2 σ H2 _ I2 q2) fun ws s3 ⟨ps,H3,I3,rel,q3⟩=>⟨(x,y)::ps,H3,I3,.cons ⟨rx,ry⟩ rel,q3⟩)
noncomputable def ar3 (kvs more:List (Key×V)):List (Key×V):=more.foldl (fun acc kv=>am0 acc kv.1 kv.2) kvs
theorem KV.merge:∀ {more:List (Key×V)} {rs:List (Key×Value)} {kvs:List (Key×V)} {vs:List (Key×Value)},KV more rs->KV kvs vs->KV (ar3 kvs more) (merged vs rs):=by
 intro more rs kvs vs r
 unfold KV at r
 induction r generalizing kvs vs with
 | nil=>intro q;exact q
 | @cons p q ps qs h t ih =>
  intro r0
  have e:KV (am0 kvs p.1 p.2) (stored vs q.1 q.2):=by
   have:=r0.put p.1 h.2
   rw[<-h.1];exact this
  exact ih e
theorem af3:∀(more kvs:List (Key×V)),(ar3 kvs more).length<=kvs.length+more.length
 | [],kvs=>by show kvs.length<=kvs.length+0;omega
 | p::r,kvs=>by
  have h1:=af3 r (am0 kvs p.1 p.2)
  have h2:=qR kvs p.1 p.2
  show(ar3 (am0 kvs p.1 p.2) r).length<=_
  rw[aQ];omega
theorem am6 {P:aC}{w:World}:∀ {kvs:List (Key×V)} {ws:List (Value×Value)},VV (kvs.map fun kv=>(kV kv.1,kv.2)) ws->∃ rs,Carries (zQ P w) ws rs/\KV kvs rs
 | [],_,r=>by rw[c7]at r;cases r;exact⟨[],True.intro,.nil⟩
 | p::kvs,_,r=>by
  rw[aJ]at r
  cases r with
  | @cons a b as bs h t =>
   obtain⟨rs,c,q⟩:=am6 (P:=P) (w:=w) t
   obtain⟨b1,b2⟩:=b
   exact⟨(p.1,b2)::rs,⟨aV7 h.1,rfl,c⟩,.cons ⟨rfl,h.2⟩ q⟩
def bF9 (trs:List (TE×TE)):TE:=fun σ H Q=>∀ p,H p=none->aK3 trs σ (upd H p (.dK [])) fun ps H2=>H2 p=some (.dK [])/\∃ kvs:List (Key×V),ps=kvs.map (fun kv=>(kV kv.1,kv.2))/\kvs.length<=15/\Q (.ref p) (upd H2 p (.dK (ar3 [] kvs)))
theorem bo5 {X:Cx}{pos:Pos}{keys:List (Option Expr)}{values:List Expr}{trs:List (TE×TE)}(h:PPs X pos keys values trs)(hall:keys.all (·.isSome)=true)(hl:keys.length=values.length)(h0:keys≠[])
  (h15:keys.length<=15):PE X (.Dict keys values pos) (bF9 trs):=by
 intro pins s σ H Q I q
 have hn:=I.hok.fresh (ai s.heap.objs.size)
 have I1:=I.laid (a:=s.heap.objs.size) (o:=.dK []) (h':=s.heap.push { cls:=.type "dict",data:=.dict #[] }) (t':=s.toks) (fun _ _ q=>ak _ q) (ai _) (az5 s.heap I.big)
 refine wpAny_Dict_walk (knd:=zQ X.prog X.w) hall hl h0 h15 (thn (h pins _ σ _ _ I1 (q _ hn)) fun ws s2 ⟨ps,H2,I2,rel,e,kvs,ep,lk,q2⟩=>?_)
 subst ep
 obtain⟨rs,c,rk⟩:=am6 (P:=X.prog) (w:=X.w) rel
 obtain⟨z,hd,vs0,r0,dd⟩:=bz3 I2.hok e
 cases r0
 refine⟨rs,c,dd,fun h' dd' hs=>⟨.ref s.heap.objs.size,_,?_,rfl,q2⟩⟩
 have hz:(ar3 [] kvs).length<=aH:=by
  have h1:=af3 kvs []
  rw[dN]at h1
  rw[eh];omega
 have he:∃ q,h'.get? s.heap.objs.size=some q:=let⟨q,_,_,hq,_⟩:=dd';⟨q,hq⟩
 exact ay3 I2 (by rw[e];exact True.intro) hs he (bd6 hz hd (rk.merge .nil) dd')
structure M1 (X:Cx)(o:Expr)(m:Str)(apos:Pos)(e:Expr)(cpos:Pos):Prop where
 base:dw o m X.env (eval o X.env)=eval o X.env
 few:((cL cpos (bh [e] X.env)).all (fun x=>!x.1)&&(backToKw cpos (iw [] X.env)).all (fun x=>x.1.isSome)
  && decide (([e]:List Expr).length+([]:List gj).length+(if([]:List gj).isEmpty then 0 else 1)<30))=true
 line:(apos.endLine==cpos.line)=true
 trees:cL cpos (bh [e] X.env)=[(false,eval e X.env)]
section
variable {X:Cx} {pins:List (Addr×Obj)} {σ:St} {H:Hp} {s:ae} {a:Addr} {y d:V} {u r:Value} {o:Option V} {A:aO} {E:Value->ae->Prop}
end
section
variable {X:Cx} {o e f:Expr} {apos cpos:Pos} {td ty tx:TE}
end
section
variable {P:aC} {w:World} {A:aO} {E:Value->ae->Prop} {s:ae}
end
section
variable {X:Cx} {pins:List (Addr×Obj)} {σ:St} {H:Hp} {s:ae}
end
section
variable {prog:aC} {w:World} {A:aO} {R:iR->ae->Prop} {I:Addr} {fp wr:List Addr} {n:Nat} {P:Nat->Value->Prop} {St:Nat->Heap->Prop} {kw:List (Str×Value)}
end
theorem bh9 (i:Int)(h:0<=i):iZ i 1=i % 2:=by
 unfold iZ
 rw[decide_eq_true h]
 show((i.toNat &&& (1:Int).toNat:Nat):Int)=_
 rw[show(1:Int).toNat=1 from rfl,Nat.and_one_is_mod]
 omega
theorem bk1 {X:Cx}:OpR X (bM .BitAnd) (rI (fun i j=>0<=i/\j=1) fun i j=>.int (i % 2)):=opI fun i j _ _ _ _ _ hc q=>by
 obtain⟨h0,rfl⟩:=hc
 refine and_int ?_
 rw[bh9 i h0]
 exact q
theorem aE2 {prog : aC} {w : World} {A : aO} {s : ae} {K : ac} {x C : Addr}
  {R : iR -> ae -> Prop} {tp : Value} (X : K.In s.heap) (L0 : dB (model prog w) s.heap (ik (Value.ref x)) (Value.ref C))
  (hm : PySem.W.mroIn K C (Value.type "object") = some true) (h : R (Except.ok (Flow.ret (Value.ref C))) s) :
          fj (model prog w) A
            (Code.call (Value.builtin "getset_descriptor.__get__")
              { pos := [Value.builtin "object.__class__", Value.ref x, tp] }) R s := by
  obtain⟨hh, g, dr, t, os⟩ := s
  have L1 := PySem.W.looks_mroIn (M := model prog w) X hm
  refine f8 gU.plain PySem.W.KF.entry_gs (gU.check (model prog w) A.in1 _ _ _ _ _ _ PySem.W.KF.type_class (PySem.W.KF.args_gs _ _ _) ?_)
  show wpAny (model prog w) A.in1 (do
                          let __x <- f9 { pos := [Value.builtin "object.__class__", Value.ref x, tp] }
                          match __x with
                            | (d, obj, snd) => cK d obj) _ _ _
  rw[PySem.W.dga_obj]
  refine ar (aN ?_)
  simp only[]
  unfold cK
  show wpAny (model prog w) A.in1 (do
      cg (Value.builtin "object.__class__") (Value.ref x)
      again (Code.builtin "object.__class__" { pos := [Value.ref x] })) _ _ _
  refine ar ?_
  unfold cg
  have e1 : fg (Value.builtin "object.__class__") = pure (bC "__class__", Value.type "object") := by
    show pure (bC (ci "object.__class__").2, Value.type (ci "object.__class__").1) = _
    rw[PySem.W.KF.owner_class]
  rw[e1]
  refine ar (aN ?_)
  refine ar (ar (PySem.W.Looks.at L0 (PySem.W.Looks.at L1 (aN ?_))))
  refine aN ⟨Code.quiet_builtin _ (by decide +kernel), codeAny_builtin PySem.W.KF.entry_class ?_⟩
  refine ar ?_
  unfold shownTypeOf
  exact ar (PySem.W.Looks.at L0 (aN (aN h)))
theorem bJ1 {M:Model}{h:Heap}{K:ac}{x D:Addr}{name:Str}{g a:Value}(X:K.In h)
 (h1:bD K (Value.ref D) name=some (some a)) (h2:c4 K a (bC "__get__")=some (some g)) (h3:dJ K a=some true) :
 dB M h (cX (Value.ref x) (Value.ref D) name) (Builtin.ObjectAttr.Found.bind g a):=by
 have L1:=dF (M:=M) X h1
 have L2:=PySem.W.looks_specialIn (M:=M) X h2
 have L3:=PySem.W.looks_takesIn (M:=M) X h3
 unfold cX
 refine bX L1 (bX (a:=some g) L2 ?_)
 refine bX (a:=some (g,a)) (bX L3 eB) (jv eB)
def XAt (h:Heap)(x C:Addr):Prop:=∃ ox,h.get? x=some ox/\ox.cls=Value.ref C
theorem XAt.type {M:Model}{h:Heap}{x C:Addr}(I:XAt h x C):dB M h (ik (Value.ref x)) (Value.ref C):=by
 obtain⟨ox,h1,h2⟩:=I
 exact h2▸bX (jw h1) eB
theorem bA5 {prog : aC} {w : World} {A : aO} {E : Value -> ae -> Prop} {s : ae} {K : ac}
  {x D : Addr} {name : Str} {Q : Option Value -> ae -> Prop} {g a : Value}
  (X : K.In s.heap) (L0 : dB (model prog w) s.heap (ik (Value.ref x)) (Value.ref D))
  (L1 : dB (model prog w) s.heap (cX (Value.ref x) (Value.ref D) name) (Builtin.ObjectAttr.Found.bind g a))
  (hga : bD K (Value.ref D) (bC "__getattribute__") = some (some (Value.builtin "BaseException.__getattribute__")))
  (hk : bD K (Value.ref D) (bC "__getattr__") = some none)
  {nm q : Str} {N : Addr} {bs bm : List Value} {hdct : Bool} {sn : List Str} {sub : List Value} {ab : Bool} {col : Option Bool} {dd : Option Addr} {k0 k1 k2 k3 k5 : Option Value} {newId : String} {o : Obj}
  (hC : s.heap.get? D = some (excClassObj nm q D N bs bm hdct sn sub ab col dd k0 k1 k2 k3 k5 newId)) (T : OwnTailQ s.heap [.type "ValueError", .type "Exception", .type "BaseException", .type "object"] bm) (hx : s.heap.get? x = some o) (hc : o.cls = .ref D)
  (h : wpAny (model prog w) A.in1 (call g [a, Value.ref x, Value.ref D]) (fun v s' => wpAny (model prog w) A (handedOut v) (fun v s'' => Q (some v) s'') (fun _ _ => False) s') (fun _ _ => False) { heap := s.heap, gens := s.gens, drawn := s.drawn, toks := s.toks + 1, os := s.os }) :
          wpAny (model prog w) A (getAttr? (Value.ref x) name) Q E s := by
  obtain⟨hh, gg, d, t, os⟩ := s
  have Lg := dF (M := model prog w) X hga
  have L2 := dF (M := model prog w) X hk
  have f3 := di.ga.bind (Value.ref x)
  unfold getAttr?
  refine ar (wpAny_mkText ?_)
  unfold getAttrBy?
  refine ar (wpAny_attempt (cN (ar (PySem.W.Looks.at L0 (ar (PySem.W.Looks.at Lg ?_))))))
  refine wpAny_ite_false rfl ?_
  refine ar (wpAny_ite_true rfl (PySem.W.Looks.at L2 ?_))
  refine ar (wpAny_attempt (cN ?_))
  refine wpAny_ite_false rfl ?_
  refine ar (wpAny_of_eq f3 (fm ?_))
  refine f8 di.ga.plain F.entry_bexc_ga ?_
  refine wpAny_check_ga_own di hC T hx hc ?_
  refine ar (aN ?_)
  refine ar (aN (ar (PySem.W.Looks.at L0 (ar (PySem.W.Looks.at L1 ?_)))))
  refine ar (cN (bv h (fun v s' z => aN ?_) fun _ _ z => z.elim))
  exact bv z (fun v s'' hv => aN hv) fun _ _ z => z.elim
noncomputable def zE (h:Heap)(l:List Addr):Heap:={ h with objs:=h.objs.mapIdx fun i o=>if i∈l then { o with data:=.freed } else o }
theorem zy {h:Heap}{l:List Addr}{b:Addr}(hb:b∈l):(zE h l).get? b=none:=by
 unfold Heap.get? zE
 simp only[fO]
 cases e:h.objs[b]? with
 | none=>rfl
 | some o=>simp only[a7,if_pos hb]
theorem qB {h:Heap}{l:List Addr}{b:Addr}(hb:b ∉ l):(zE h l).get? b=h.get? b:=by
 unfold Heap.get? zE
 simp only[fO]
 cases e:h.objs[b]? with
 | none=>rfl
 | some o=>simp only[a7,if_neg hb]
theorem z6 {h:Heap}{l:List Addr}:(zE h l).StaysIn h:=fun b o e=>by
 by_cases hb:b∈l
 ·rw[zy hb]at e;cases e
 ·rwa [qB hb]at e
theorem without_none {h:Heap}{l:List Addr}{b:Addr}(e:(zE h l).get? b=none):b∈l\/h.get? b=none:=by
 by_cases hb:b∈l
 ·exact .inl hb
 ·rw[qB hb]at e;exact .inr e
theorem ak9 {h base base':Heap}:∀ {l:List Env},h.FunFrames base l->(∀ b∈frs l,base'.get? b=none)->h.FunFrames base' l
 | [],_,_=>True.intro
 | env::l,⟨k,⟨L,o,hf,_,ho,hd⟩,r⟩,hb=>by
  have hm:frs (env::l)=L::frs l:=by unfold frs;rw[bG,hf]
  rw[hm]at hb
  exact⟨k,⟨L,o,hf,hb L (aq ..),ho,hd⟩,ak9 r fun b z=>hb b (ah _ z)⟩
theorem HOk.part {P:aC}{w:World}{H:Hp}{h h':Heap}(x:HOk P w H h)(k:∀ b u o,H b=some u->h.get? b=some o->h'.get? b=some o):HOk P w H h':=fun a o e =>
 (x a o e).stay (fun b u hb q=>by
  rcases hb with rfl|hb
  ·exact k _ _ _ e q
  ·exact k _ _ _ hb q) (fun _ q=>q) fun _ _ q=>q
theorem ab6.at_ {P:aC}{w:World}{H:Hp}{h:Heap}{a:Addr}{o:HO}(x:ab6 P w H h a o):∃ u,h.get? a=some u:=by
 cases o with
 | lst xs=>obtain⟨_,_,_,_,e⟩:=x;exact⟨_,e⟩
 | tup xs=>obtain⟨_,_,_,ob,e,_⟩:=x;exact⟨_,e⟩
 | dK kvs=>obtain⟨_,_,_,_,o,_,_,e,_⟩:=x;exact⟨_,e⟩
 | dT kvs=>obtain⟨_,_,_,_,o,_,_,e,_⟩:=x;exact⟨_,e⟩
 | set S n=>obtain⟨o,_,_,_,e,_⟩:=x;exact⟨_,e⟩
 | ins C dx fs=>obtain⟨_,_,_,e,_⟩:=x;exact⟨_,e⟩
 | own y=>exact x
 | xd fs=>obtain⟨_,⟨_,_,_,e,_⟩,_⟩:=x;exact⟨_,e⟩
 | rng lo hi=>obtain⟨_,_,_,e⟩:=x;exact⟨_,e⟩
 | frz ob u=>obtain⟨e,_⟩:=x;exact⟨_,e⟩
 | tbl ps=>exact⟨_,(show h.get? a=some _ from x)⟩
 | met f y=>exact⟨_,(show h.get? a=some _ from x)⟩
 | ext φ=>obtain⟨_,e,_⟩:=x;exact e
structure Fly (h0:Heap)(H:Hp)(h:Heap)(a C:Addr):Prop where
 new:h0.get? a=none
 free:H a=none
 at_:∃ a0 oe vs T oT ts,h.get? a=some oe/\(oe.cls=.ref C/\vs[0]?=some a0)/\oe.data=.fields vs/\vs[1]?=some (.ref T)/\h0.get? T=none/\H T=none/\T≠a/\h.get? T=some oT/\oT.data=.fields ts/\ts[3]?=some .none
section
variable {X:Cx} {pins:List (Addr×Obj)} {σ:St} {H:Hp} {s:ae} {a C:Addr} {a0:Value}
theorem aL7 (I:Inv X pins σ H s)(hex:X.ex=[]){bs:List Addr}(hfs:∀ b∈frs X.stack,b∈bs)(hb:∀ b∈bs,b∈frs X.stack\/(X.s₀.heap.get? b=none/\H b=none))(n0:X.s₀.heap.get? a=none)(nH:H a=none)(hstk:∀ b∈X.fs,b∈frs X.stack)
  {h':Heap} (L:Heap.LeftW (zE s.heap bs) X.stack a (.ref C) a0 s.heap h'):Un X.fs [] X.H₀ H X.s₀.heap h'/\HOk X.prog X.w H h'/\Fly X.s₀.heap H h' a C:=by
 obtain⟨st,ff,tr,sl⟩:=L
 have un:=I.base
 rw[hex]at un
 have keep:∀ b o,b ∉ bs->s.heap.get? b=some o->h'.get? b=some o:=fun b o n e=>st b o (by rw[qB n];exact e)
 have slot:∀ b o,b∈frs X.stack->s.heap.get? b=some o->∃ sl,h'.get? b=some { o with slots:=sl }:=fun b o n e=>by
  obtain⟨_,o',e',d⟩:=I.stack.mem n
  rw[e]at e';cases e'
  exact sl b o e d
 have out:∀ b o,X.s₀.heap.get? b=some o->b ∉ frs X.stack->b ∉ bs:=fun b o e n z=>by
  rcases hb b z with q|⟨q,_⟩
  ·exact n q
  ·rw[e]at q;cases q
 have nst:∀ b o,X.s₀.heap.get? b=some o->b ∉ X.fs->b ∉ frs X.stack:=fun b o e n z=>by
  rcases au.mp (I.stkSub b z)with q|q
  ·subst q
   exact absurd (aA e) (Nat.not_lt.mpr I.ok.above)
  ·exact n q
 refine⟨⟨fun b o e n nf nx=>?_,fun b o e n nf nx=>?_,un.free,fun b o e nx=>?_,un.tups,un.frzs,un.tbls⟩,I.hok.part fun b u o e q=>?_,⟨n0,nH,?_⟩⟩
 ·exact keep b o (out b o e (nst b o e nf)) (un.keep b o e n nf nx)
 ·obtain⟨sl1,e1⟩:=un.slot b o e n nf nx
  obtain⟨sl2,e2⟩:=slot b _ (hstk b nf) e1
  exact⟨sl2,e2⟩
 ·obtain⟨o1,e1⟩:=un.there b o e nx
  by_cases z:b∈frs X.stack
  ·obtain⟨_,e2⟩:=slot b _ z e1
   exact⟨_,e2⟩
  ·exact⟨_,keep b o1 (out b o e z) e1⟩
 ·refine keep b o (fun z=>?_) q
  rcases hb b z with y|⟨_,y⟩
  ·rw[I.stkFree b y]at e;cases e
  ·rw[y]at e;cases e
 ·obtain⟨oe,vs,T,oT,ts,h1,h2,h3,h4,h5,h6,h7,h8,h9⟩:=tr
  have key:X.s₀.heap.get? T=none/\H T=none:=by
   rcases without_none h5 with z|z
   ·rcases hb T z with y|y
    ·obtain⟨_,o',e',d⟩:=ff.mem y
     rw[h7]at e';cases e'
     exact absurd h8 (d _)
    ·exact y
   ·refine⟨?_,?_⟩
    ·cases e:X.s₀.heap.get? T with
     | none=>rfl
     | some o=>obtain⟨o',e'⟩:=un.there T o e (by simp);rw[z]at e';cases e'
    ·cases e:H T with
     | none=>rfl
     | some o=>obtain⟨u,e'⟩:=(I.hok T o e).at_;rw[z]at e';cases e'
  exact⟨a0,oe,vs,T,oT,ts,h1,h2,h3,h4,key.1,key.2,h6,h7,h8,h9⟩
theorem aJ5 {oe:Obj}{vs:Array Value}(I:Inv X pins σ H s)(hex:X.ex=[])(hst:X.stack=X.env::X.outer)(hfr:X.env.frame=some X.env.locals)(n0:X.s₀.heap.get? a=none)(nH:H a=none)
  (h1:s.heap.get? a=some oe) (h2:oe.cls=.ref C) (h3:oe.data=.fields vs) (h4:vs[1]?=some .none) (h5:vs[0]?=some a0) {Q:Unit->ae->Prop} {E:Value->ae->Prop}
  (k:∀ h',Un X.fs [] X.H₀ H X.s₀.heap h'->HOk X.prog X.w H h'->Fly X.s₀.heap H h' a C->Q () { s with heap:=h' }):wpAny (model X.prog X.w) X.A (leaving X.env (.ref a)) Q E s:=by
 have hff:s.heap.FunFrames (zE s.heap (a::frs X.stack)) X.stack:=ak9 I.stack fun b hb=>zy (ah _ hb)
 have hstk:∀ b∈X.fs,b∈frs X.stack:=fun b hb=>by rw[hst];unfold frs;rw[bG,hfr];exact ah _ hb
 have fra:=I.ok.frames
 rw[hst]at fra
 refine wpAny_leaving_firstW (base:=zE s.heap (a::frs X.stack)) fra (by rw[<-hst];exact hff) hfr h1 z6 (zy (aq ..)) h3 h4 h5 fun h' L=>?_
 rw[h2,<-hst]at L
 obtain⟨u,o,f⟩:=aL7 I hex (fun b hb=>ah _ hb) (fun b hb=>by
  rcases au.mp hb with q|q
  ·subst q;exact .inr ⟨n0,nH⟩
  ·exact .inl q) n0 nH hstk L
 exact k h' u o f
theorem aD7 (I:Inv X pins σ H s)(hex:X.ex=[])(hst:X.stack=X.env::X.outer)(hfr:X.env.frame=some X.env.locals)(F:Fly X.s₀.heap H s.heap a C){Q:Unit->ae->Prop}{E:Value->ae->Prop}
  (k:∀ h',Un X.fs [] X.H₀ H X.s₀.heap h'->HOk X.prog X.w H h'->Fly X.s₀.heap H h' a C->Q () { s with heap:=h' }):wpAny (model X.prog X.w) X.A (leaving X.env (.ref a)) Q E s:=by
 obtain⟨n0,nH,a0,oe,vs,T,oT,ts,h1,h2,h3,h4,h5,h6,h7,h8,h9,h10⟩:=F
 have hff:s.heap.FunFrames (zE s.heap (a::T::frs X.stack)) X.stack:=ak9 I.stack fun b hb=>zy (ah _ (ah _ hb))
 have hstk:∀ b∈X.fs,b∈frs X.stack:=fun b hb=>by rw[hst];unfold frs;rw[bG,hfr];exact ah _ hb
 have fra:=I.ok.frames
 rw[hst]at fra
 refine wpAny_leaving_nextW (base:=zE s.heap (a::T::frs X.stack)) fra (by rw[<-hst];exact hff) hfr ⟨oe,vs,T,oT,ts,h1,h2,h3,h4,zy (by simp),h7,h8,h9,h10⟩ z6 (zy (aq ..)) fun h' L=>?_
 rw[<-hst]at L
 obtain⟨u,o,f⟩:=aL7 I hex (fun b hb=>ah _ (ah _ hb)) (fun b hb=>by
  rcases au.mp hb with q|q
  ·subst q;exact .inr ⟨n0,nH⟩
  ·rcases au.mp q with q|q
   ·subst q;exact .inr ⟨h5,h6⟩
   ·exact .inl q) n0 nH hstk L
 exact k h' u o f
end
noncomputable def CX1 (P:aC)(w:World):CXT:=fun outer H s E e s'=>∃ a C H',e=.ref a/\s'.os=s.os/\dQ s'.gens/\Un (frs outer) [] H H' s.heap s'.heap/\HOk P w H' s'.heap/\Fly s.heap H' s'.heap a C/\E e (some C) H'
theorem CX1.inv {X:Cx}{pins:List (Addr×Obj)}{σ:St}{H:Hp}{s s':ae}{E:XK}{e:Value}(I:Inv X pins σ H s)(hex:X.ex=[])(h:CX1 X.prog X.w X.stack H s E e s') :
  ∃ a C H',e=.ref a/\Inv X pins σ H' s'/\Fly X.s₀.heap H' s'.heap a C/\E e (some C) H':=by
 obtain⟨a,C,H',rfl,os,bare,un,hok,F,q⟩:=h
 have old:∀ b,s.heap.get? b=none->X.s₀.heap.get? b=none:=fun b z=>by
  cases e:X.s₀.heap.get? b with
  | none=>rfl
  | some o=>obtain⟨o',e'⟩:=I.base.there b o e (by rw[hex];simp);rw[z]at e';cases e'
 obtain⟨n0,nH,a0,oe,vs,T,oT,ts,h1,h2,h3,h4,h5,h6,h7⟩:=F
 exact⟨a,C,H',rfl,I.call' os un hok bare (ch:=[]) (fun b z=>absurd z (by simp)),⟨old _ n0,nH,a0,oe,vs,T,oT,ts,h1,h2,h3,h4,old _ h5,h6,h7⟩,q⟩
section
variable {P:aC} {w:World} {K:ac} {mg:Str->Option Value} {base:Heap} {N:List Str} {qual:Str} {scope:Scope} {f:Addr} {cd:Value} {A:aO} {outer:List Env} {s0:ae} {H0:Hp} {E:XK}
theorem bK6:ae2 (CX1 P w) (aq4 (CX1 P w) P w K mg base N qual scope f cd A outer s0 H0 E) E:=by
 intro pins σ H s e s' I h
 obtain⟨a,C,H',rfl,J,F,q⟩:=CX1.inv I rfl h
 exact aD7 J rfl rfl rfl F fun h' u o F'=>⟨a,C,H',rfl,J.os,J.bare,u,o,F',q⟩
def aG9 (X:Cx)(E:XK):Prop:=∀(pins:List (Addr×Obj)) (σ:St) (H:Hp) (s:ae) (h':Heap) (a C:Addr) (args:List Value),Inv X pins σ H s->Heap.MadeExcOf s.heap h' a (.ref C) args->E (.ref a) (some C) H->X.xe (.ref a) { s with heap:=h' }
theorem bO8:aG9 (aq4 (CX1 P w) P w K mg base N qual scope f cd A outer s0 H0 E) E:=by
 intro pins σ H s h' a C args I M q
 have J:Inv (aq4 (CX1 P w) P w K mg base N qual scope f cd A outer s0 H0 E) pins σ H { s with heap:=h' }:=I.kept (t':=s.toks) M.keeps
 obtain⟨t,h1,_⟩:=M.there
 refine aJ5 (a0:=.ref t) J rfl rfl rfl ?_ ?_ h1 rfl rfl rfl rfl fun h2 u o F=>⟨a,C,H,rfl,J.os,J.bare,u,o,F,q⟩
 ·show s0.heap.get? a=none
  cases e:s0.heap.get? a with
  | none=>rfl
  | some o =>
   obtain⟨o',e'⟩:=I.base.there a o e (by show a ∉ ([]:List Addr);simp)
   rw[M.new]at e';cases e'
 ·cases e:H a with
  | none=>rfl
  | some o =>
   obtain⟨u,e'⟩:=(I.hok a o e).at_
   rw[M.new]at e';cases e'
end
noncomputable def excTail:List Value:=[.type "ValueError",.type "Exception",.type "BaseException",.type "object"]
noncomputable def nsQ (K:ac)(N:Addr):Bool:=match K.lookup N with
 | some ⟨_,_,.dict es _,_⟩=>(es.all fun e=>match e.key with|.str _ _=>true|_=>false)&&i3.all fun n=>(nsFind es n).isNone
 | _=>false
noncomputable def aX2 (K:ac):List Value->Bool
 | .ref A::tl=>(match K.lookup A with|some ⟨_,_,.cls cd,_⟩=>nsQ K cd.ns|_=>false)&&aX2 K tl
 | l=>l==excTail
noncomputable def bO6 (K:ac)(C:Addr):Bool:=match K.lookup C with
 | some ⟨c,_,.cls cd,⟨[_,_,_,_,k4,_]⟩⟩=>c==.type "type"&&(!cd.hasDel&&(nsQ K cd.ns&&((match cd.mro with|m::tl=>m==.ref C&&aX2 K tl|[]=>false)&&k4==some (.builtin "ValueError.__new__"))))
 | _=>false
theorem be6 {K:ac}{N:Addr}(h:nsQ K N=true):∃ mN:Str->Option Value,(∀ n∈i3,mN n=none)/\∀ h:Heap,K.In h->h.Ns N mN:=by
 unfold nsQ at h
 split at h
 ·rename_i c d es ep sl e
  rw[af]at h
  refine⟨nsFind es,fun n hn=>?_,fun hp hK=>⟨_,es,ep,hK _ _ e,rfl,fun x hx=>?_,fun _=>rfl⟩⟩
  ·have:=aD.mp h.2 n hn
   exact Option.isNone_iff_eq_none.mp this
  ·have:=Array.all_eq_true'.mp h.1 x hx
   split at this
   ·rename_i q;exact⟨_,_,q⟩
   ·cases this
 ·cases h
theorem aC1 {K:ac}:∀ {l:List Value},aX2 K l=true->∀ h:Heap,K.In h->OwnTailQ h excTail l
 | l,h,hp,hK=>by
  unfold aX2 at h
  split at h
  ·rename_i A tl
   rw[af]at h
   obtain⟨h1,h2⟩:=h
   split at h1
   ·rename_i c d cd sl e
    obtain⟨mN,q,n⟩:=be6 h1
    exact .own (hK _ _ e) (n hp hK) q (aC1 h2 hp hK)
   ·cases h1
  ·have:=eq_of_beq h
   subst this
   exact .base
structure ExcCls (K:ac)(C:Addr):Prop where
 obj:∃ bm N nm q bs hdct sn sub ab col dd k0 k1 k2 k3 k5 mN,K.lookup C=some (excClassObj nm q C N bs bm hdct sn sub ab col dd k0 k1 k2 k3 k5 "ValueError.__new__")/\(∀ n∈i3,mN n=none)/\∀ h:Heap,K.In h->h.Ns N mN/\OwnTailQ h excTail bm
theorem bo9 {K:ac}{C:Addr}(h:bO6 K C=true):ExcCls K C:=by
 unfold bO6 at h
 split at h
 ·rename_i c dd cd k0 k1 k2 k3 k4 k5 e
  obtain⟨nm,bs,mro,N,q,hdct,sn,sub,ab,col,hdl⟩:=cd
  simp only[af,de]at h
  obtain⟨h1,h2,h3,h4,h5⟩:=h
  split at h4
  ·rename_i m tl
   rw[af]at h4
   have e1:=eq_of_beq h1
   have e5:=eq_of_beq h5
   have e4:=eq_of_beq h4.1
   subst e1 e5 e4
   have h2:hdl=false:=h2
   subst h2
   obtain⟨mN,q',n⟩:=be6 h3
   exact⟨tl,N,nm,q,bs,hdct,sn,sub,ab,col,dd,k0,k1,k2,k3,k5,mN,e,q',fun hp hK=>⟨n hp hK,aC1 h4.2 hp hK⟩⟩
  ·cases h4
 ·cases h
theorem ba4 {K:ac}{x D:Addr}(hc:ExcCls K D)(hga:bD K (.ref D) (bC "__getattribute__")=some (some (.builtin "BaseException.__getattribute__")))(hk:bD K (.ref D) (bC "__getattr__")=some none)
  (hf:bD K (.ref D) (bC "__class__")=some (some (.builtin "object.__class__")))
  (hs:c4 K (.builtin "object.__class__") (bC "__get__")=some (some (.builtin "getset_descriptor.__get__")))
  (ht:dJ K (.builtin "object.__class__")=some true) (hm:eI K D (.type "object")=some true) :
  dg K (.ref x) (.ref D) (fun h=>XAt h x D):=by
 obtain⟨bm,N,nm,q,bs,hdct,sn,sub,ab,col,dd,k0,k1,k2,k3,k5,mN,hl,hq,hN⟩:=hc.obj
 refine⟨fun M h _ I=>I.type,fun M h X I=>?_,fun h tp dd its n sl X htp=>?_,fun {prog w A E Q s} X I h=>?_⟩
 ·intro A' Q' E' s' k q
  exact ar (wpAny_loadPart (k _ _ (X _ _ hl)) (aN q))
 ·cases e:(Value.ref D==Value.ref tp)with
  | false=>rfl
  | true =>
   have e:=eq_of_beq e
   cases e
   rw[X _ _ hl]at htp
   cases congrArg (fun o:Option Obj=>o.map Obj.data) htp
 ·obtain⟨o,ho,hcl⟩:=I
  have L:=XAt.type (M:=model prog w) ⟨o,ho,hcl⟩
  exact bA5 X L (bJ1 X hf hs ht) hga hk (X _ _ hl) (hN _ X).2 ho hcl (fm (aE2 X L hm (PySem.W.handed_on rfl h)))
noncomputable def excI (K:ac)(C:Addr):Bool:=bD K (.ref C) (bC "__getattribute__")==some (some (.builtin "BaseException.__getattribute__"))&&(bD K (.ref C) (bC "__getattr__")==some none&&(bD K (.ref C) (bC "__class__")==some (some (.builtin "object.__class__"))&&(c4 K (.builtin "object.__class__") (bC "__get__")==some (some (.builtin "getset_descriptor.__get__"))&&(dJ K (.builtin "object.__class__")==some true&&eI K C (.type "object")==some true))))
theorem bj0 {K:ac}{x C:Addr}(hc:ExcCls K C)(h:excI K C=true):dg K (.ref x) (.ref C) (fun h=>XAt h x C):=by
 unfold excI at h
 simp only[af]at h
 obtain⟨h0,h1,h2,h3,h4,h5⟩:=h
 exact ba4 hc (eq_of_beq h0) (eq_of_beq h1) (eq_of_beq h2) (eq_of_beq h3) (eq_of_beq h4) (eq_of_beq h5)
section
variable {X:Cx} {E:XK} {C:Addr} {x:Str}
theorem bb0 {np cpos pos p:Pos}{y:Str}{j:Nat}(T:aG9 X E)(hc:ExcCls X.K C)(hg:Gl X x)(hm:X.mg x=some (.ref C))(hh:X.A.handled=none)(hd:(x==("__debug__":Str))=false) :
  PS X (.Raise (some (.Call (.Name x np) [.Constant (.str y) j p] [] cpos)) none pos) (fun D σ H=>∀ a,E (.ref a) (some C) H):=by
 intro pins s σ H D I q
 obtain⟨bm,N,nm,q',bs,hdct,sn,sub,ab,col,dd,k0,k1,k2,k3,k5,mN,e,hq,hN⟩:=hc.obj
 have hN0:=hN _ I.kIn
 refine wpAny_Raise_call_subT (nm:=nm) (q:=q') (C:=C) (N:=N) (bs:=bs) (hdct:=hdct) (sn:=sn) (sub:=sub) (ab:=ab) (col:=col) (dd:=dd) (k0:=k0) (k1:=k1) (k2:=k2) (k3:=k3) (k5:=k5) gb (OwnTail.hasType hN0.2.tail gb.hasBase) hh rfl (hq _ (aq ..)) ?_
 refine thn (aj4 (v:=.ref C) hg hm rfl hd pins s σ H (fun v H1=>v=.ref C/\H1=H) I ⟨rfl,rfl⟩) fun u s1 ⟨v,H1,I1,r,e1,e2⟩=>?_
 subst e1 e2
 refine⟨r,fW ?_⟩
 have pa:PA X [.Constant (.str y) j p] (ap6 (tC (.str y)) aU0):=zF bg3 ac7
 refine thn (pa cpos pins s1 σ H1 (fun vs H2=>vs.length=1/\H2=H1) I1 ⟨rfl,rfl⟩) fun us s2 ⟨vs,H2,I2,r2,e3,e4⟩=>?_
 subst e4
 have hl:us.length=1:=by rw[<-r2.length];exact e3
 refine⟨rfl,by show us.length<=_;rw[hl];decide,I2.kIn _ _ e,(hN _ I2.kIn).1,(hN _ I2.kIn).2.tail,fun h' a M=>?_⟩
 exact T pins σ H2 s2 h' a C us I2 M (q a)
end
structure Tr (X:Cx)(pins:List (Addr×Obj))(σ:St)(H:Hp)(s:ae)(a C:Addr)(fl:Value):Prop where
 inv:Inv X pins σ H s
 n0:X.s₀.heap.get? a=none
 nH:H a=none
 np:∀ p∈X.pn++pins,p.1≠a
 tr:∃ a0 oe vs T oT ts,s.heap.get? a=some oe/\(oe.cls=.ref C/\vs[0]?=some a0)/\oe.data=.fields vs/\vs[1]?=some (.ref T)/\X.s₀.heap.get? T=none/\H T=none/\(∀ p∈X.pn++pins,p.1≠T)/\T≠a/\s.heap.get? T=some oT/\oT.data=.fields ts/\ts[3]?=some fl
section
variable {X:Cx} {pins:List (Addr×Obj)} {σ:St} {H:Hp} {s:ae} {a C T:Addr} {fl fl' a0:Value} {h':Heap}
theorem Tr.stk (hst:X.stack=X.env::X.outer)(hfr:X.env.frame=some X.env.locals):∀ b∈X.fs,b∈frs X.stack:=fun b hb=>by rw[hst];unfold frs;rw[bG,hfr];exact ah _ hb
theorem Tr.moved (t:Tr X pins σ H s a C fl)(hex:X.ex=[])(hst:X.stack=X.env::X.outer)(hfr:X.env.frame=some X.env.locals){oT:Obj}{ts:Array Value}(hT0:X.s₀.heap.get? T=none)(hTH:H T=none)(hTp:∀ p∈X.pn++pins,p.1≠T)(hT1:s.heap.get? T=some oT)(hT2:oT.data=.fields ts)
  (st:(zE s.heap (a::T::frs X.stack)).StaysIn h') (ff:h'.FunFrames (zE s.heap (a::T::frs X.stack)) X.stack) (tr:h'.TracedAtW (zE s.heap (a::T::frs X.stack)) a (.ref C) a0 fl')
  (sl:∀ b o,s.heap.get? b=some o->(∀ vs,o.data≠.fields vs)->∃ sl,h'.get? b=some { o with slots:=sl }):Tr X pins σ H { s with heap:=h' } a C fl':=by
 have I:=t.inv
 have un:=I.base
 rw[hex]at un
 have hstk:=Tr.stk hst hfr
 obtain⟨b0,oe,vs,_,_,_,g1,_,g3,_⟩:=t.tr
 have inb:∀ b,b∈a::T::frs X.stack->b=a\/b=T\/b∈frs X.stack:=fun b hb=>by
  rcases au.mp hb with q|q
  ·exact .inl q
  ·exact .inr (au.mp q)
 have keep:∀ b o,b≠a->b≠T->b ∉ frs X.stack->s.heap.get? b=some o->h'.get? b=some o:=fun b o n1 n2 n3 e=>st b o (by
  rw[qB fun z=>(inb b z).elim n1 fun z=>z.elim n2 n3];exact e)
 have slot:∀ b o,b∈frs X.stack->s.heap.get? b=some o->∃ sl,h'.get? b=some { o with slots:=sl }:=fun b o n e=>by
  obtain⟨_,o',e',d⟩:=I.stack.mem n
  rw[e]at e';cases e'
  exact sl b o e d
 have nst:∀ b o,X.s₀.heap.get? b=some o->b ∉ X.fs->b ∉ frs X.stack:=fun b o e n z=>by
  rcases au.mp (I.stkSub b z)with q|q
  ·subst q
   exact absurd (aA e) (Nat.not_lt.mpr I.ok.above)
  ·exact n q
 have nea:∀ b o,X.s₀.heap.get? b=some o->b≠a/\b≠T:=fun b o e=>⟨fun z=>(by rw[z,t.n0]at e;cases e),fun z=>(by rw[z,hT0]at e;cases e)⟩
 have nof:∀ b o,s.heap.get? b=some o->(∀ vs,o.data≠.fields vs)->b≠a/\b≠T:=fun b o e d=>⟨fun z=>(by rw[z,g1]at e;cases e;exact d _ g3),fun z=>(by rw[z,hT1]at e;cases e;exact d _ hT2)⟩
 have up:∀ b o,s.heap.get? b=some o->(∀ vs,o.data≠.fields vs)->∃ sl,h'.get? b=some { o with slots:=sl }:=sl
 have ninv:Inv X pins σ H { s with heap:=h' }:=by
  refine⟨I.ok,I.os,I.bare,?_,?_,fun x c e=>?_,I.free,I.freeC,fun p hp=>?_,I.hok.part fun b u o e q=>?_,I.len⟩
  ·rw[hex]
   refine⟨fun b o e n nf nx=>?_,fun b o e n nf nx=>?_,un.free,fun b o e nx=>?_,un.tups,un.frzs,un.tbls⟩
   ·exact keep b o (nea b o e).1 (nea b o e).2 (nst b o e nf) (un.keep b o e n nf nx)
   ·obtain⟨sl1,e1⟩:=un.slot b o e n nf nx
    obtain⟨sl2,e2⟩:=slot b _ (hstk b nf) e1
    exact⟨sl2,e2⟩
   ·obtain⟨o1,e1⟩:=un.there b o e nx
    by_cases z:b∈frs X.stack
    ·obtain⟨_,e2⟩:=slot b _ z e1
     exact⟨_,e2⟩
    ·exact⟨_,keep b o1 (nea b o e).1 (nea b o e).2 z e1⟩
  ·obtain⟨m,⟨o,es,ep,ho,hd,hr⟩,hl⟩:=I.loc
   obtain⟨sl1,e1⟩:=up _ o ho (fun vs z=>by rw[hd]at z;cases z)
   refine⟨m,⟨_,es,ep,e1,hd,hr⟩,fun i x v h1 h2 h3=>?_⟩
   obtain⟨u,r,lk⟩:=hl i x v h1 h2 h3
   refine⟨u,r,?_⟩
   rcases lk with z|⟨z1,c,z2,oc,z3,z4⟩
   ·exact .inl z
   ·obtain⟨sl2,e2⟩:=up c oc z3 (fun vs z=>by rw[z4]at z;cases z)
    exact .inr ⟨z1,c,z2,_,e2,z4⟩
  ·obtain⟨v,oc,z3,z4⟩:=I.cell x c e
   obtain⟨sl2,e2⟩:=up c oc z3 (fun vs z=>by rw[z4]at z;cases z)
   exact⟨v,_,e2,z4⟩
  ·obtain⟨q1,q2,q3,q4,q5⟩:=I.pin p hp
   refine⟨keep _ _ (t.np p hp) (hTp p hp) (fun z=>?_) q1,q2,q3,q4,q5⟩
   rcases au.mp (I.stkSub _ z)with q|q
   ·exact q3 q
   ·exact q4 q
  ·refine keep b o (fun z=>?_) (fun z=>?_) (fun z=>?_) q
   ·rw[z,t.nH]at e;cases e
   ·rw[z,hTH]at e;cases e
   ·rw[I.stkFree b z]at e;cases e
 refine⟨ninv,t.n0,t.nH,t.np,?_⟩
 obtain⟨oe',vs',T',oT',ts',h1,h2,h3,h4,h5,h6,h7,h8,h9⟩:=tr
 have key:X.s₀.heap.get? T'=none/\H T'=none/\∀ p∈X.pn++pins,p.1≠T':=by
  rcases without_none h5 with z|z
  ·rcases inb T' z with y|y|y
   ·exact absurd y h6
   ·subst y;exact⟨hT0,hTH,hTp⟩
   ·obtain⟨_,o',e',d⟩:=ff.mem y
    rw[h7]at e';cases e'
    exact absurd h8 (d _)
  ·refine⟨?_,?_,fun p hp y=>?_⟩
   ·cases e:X.s₀.heap.get? T' with
    | none=>rfl
    | some o=>obtain⟨o',e'⟩:=un.there T' o e (by simp);rw[z]at e';cases e'
   ·cases e:H T' with
    | none=>rfl
    | some o=>obtain⟨u,e'⟩:=(I.hok T' o e).at_;rw[z]at e';cases e'
   ·have:=(I.pin p hp).1
    rw[y,z]at this;cases this
 exact⟨a0,oe',vs',T',oT',ts',h1,h2,h3,h4,key.1,key.2.1,key.2.2,h6,h7,h8,h9⟩
theorem Tr.noted (t:Tr X pins σ H s a C .none)(hex:X.ex=[])(hst:X.stack=X.env::X.outer)(hfr:X.env.frame=some X.env.locals){Q:Unit->ae->Prop}{E:Value->ae->Prop}
  (k:∀ h' fl,Tr X pins σ H { s with heap:=h' } a C fl->Q () { s with heap:=h' }):wpAny (model X.prog X.w) X.A (io (.ref a) X.env) Q E s:=by
 have I:=t.inv
 obtain⟨a0,oe,vs,T,oT,ts,h1,h2,h3,h4,h5,h6,h6p,h7,h8,h9,h10⟩:=t.tr
 have hff:s.heap.FunFrames (zE s.heap (a::T::frs X.stack)) X.stack:=ak9 I.stack fun b hb=>zy (ah _ (ah _ hb))
 have fra:=I.ok.frames
 rw[hst]at fra
 refine wpAny_noteFrame_onW (base:=zE s.heap (a::T::frs X.stack)) fra (by rw[<-hst];exact hff) hfr ⟨oe,vs,T,oT,ts,h1,h2,h3,h4,zy (by simp),h7,h8,h9,h10⟩ z6 (zy (aq ..)) fun h' L=>?_
 rw[<-hst]at L
 obtain⟨st,ff,tr,sl⟩:=L
 exact k h' _ (t.moved hex hst hfr h5 h6 h6p h8 h9 st ff tr sl)
theorem Tr.down (t:Tr X pins σ H s a C fl)(hex:X.ex=[])(hst:X.stack=X.env::X.outer)(hfr:X.env.frame=some X.env.locals){A:aO}{Q:Unit->ae->Prop}{E:Value->ae->Prop}
  (k:∀ h',Tr X pins σ H { s with heap:=h' } a C .none->Q () { s with heap:=h' }):wpAny (model X.prog X.w) A (jd (.ref a) none) Q E s:=by
 have I:=t.inv
 obtain⟨a0,oe,vs,T,oT,ts,h1,h2,h3,h4,h5,h6,h6p,h7,h8,h9,h10⟩:=t.tr
 have hff:s.heap.FunFrames (zE s.heap (a::T::frs X.stack)) X.stack:=ak9 I.stack fun b hb=>zy (ah _ (ah _ hb))
 refine wpAny_setFlight_noneW (base:=zE s.heap (a::T::frs X.stack)) z6 hff ⟨oe,vs,T,oT,ts,h1,h2,h3,h4,zy (by simp),h7,h8,h9,h10⟩ fun h' st ff tr sl=>?_
 exact k h' (t.moved hex hst hfr h5 h6 h6p h8 h9 st ff tr.at fun b o e d=>⟨o.slots,sl b o e d⟩)
theorem CX1.tr {s':ae}{E:XK}{e:Value}(I:Inv X pins σ H s)(hex:X.ex=[])(h:CX1 X.prog X.w X.stack H s E e s') :
  ∃ a C H',e=.ref a/\Tr X pins σ H' s' a C .none/\E e (some C) H':=by
 have h0:=h
 obtain⟨a,C,H',rfl,os,bare,un,hok,F,q⟩:=h
 obtain⟨a',C',H'',e,J,G,q'⟩:=CX1.inv I hex h0
 have old:∀ b,s.heap.get? b=none->X.s₀.heap.get? b=none:=fun b z=>by
  cases e:X.s₀.heap.get? b with
  | none=>rfl
  | some o=>obtain⟨o',e'⟩:=I.base.there b o e (by rw[hex];simp);rw[z]at e';cases e'
 have pn:∀ b,s.heap.get? b=none->∀ p∈X.pn++pins,p.1≠b:=fun b z p hp y=>by
  have:=(I.pin p hp).1
  rw[y,z]at this;cases this
 obtain⟨n0,nH,a0,oe,vs,T,oT,ts,h1,h2,h3,h4,h5,h6,h7⟩:=F
 exact⟨a,C,H',rfl,⟨I.call' os un hok bare (ch:=[]) (fun b z=>absurd z (by simp)),old _ n0,nH,pn _ n0,a0,oe,vs,T,oT,ts,h1,h2,h3,h4,old _ h5,h6,pn _ h5,h7⟩,q⟩
end
noncomputable abbrev Cx.hnd (X:Cx)(a:Addr)(oe:Obj):Cx:={ X with A:=X.A.mark (some (.ref a)),calm:=false,pn:=(a,oe)::X.pn,xe:=fun _ _=>False }
section
variable {X:Cx} {pins:List (Addr×Obj)} {σ:St} {H:Hp} {s:ae} {a C:Addr} {oe:Obj} {fl:Value}
theorem Cx.Ok.hnd (ok:X.Ok)(a:Addr)(oe:Obj):(X.hnd a oe).Ok:=⟨ok.mod,ok.kind,ok.glob,ok.blt,ok.above,ok.inj,ok.has,ok.cab,(fun z=>by cases z),ok.frames,ok.stk,ok.exf,ok.bs,ok.bsz,ok.noex,ok.exfs,ok.funs,ok.frf⟩
theorem Inv.apart (I:Inv X pins σ H s){b:Addr}{o:Obj}{vs:Array Value}(e:s.heap.get? b=some o)(d:o.data=.fields vs):b≠X.env.locals/\b ∉ X.fs/\∀ v,o.data≠.cell v:=by
 refine⟨fun z=>?_,fun z=>?_,fun v z=>by rw[d]at z;cases z⟩
 ·obtain⟨m,⟨o',es,ep,ho,hd,_⟩,_⟩:=I.loc
  rw[<-z,e]at ho;cases ho
  rw[d]at hd;cases hd
 ·obtain⟨_,o',e',d'⟩:=I.funs.mem z
  rw[e]at e';cases e'
  exact d' _ d
theorem Inv.hnd {vs:Array Value}(I:Inv X pins σ H s)(e:s.heap.get? a=some oe)(n:H a=none)(d:oe.data=.fields vs):Inv (X.hnd a oe) pins σ H s :=
 ⟨I.ok.hnd a oe,I.os,I.bare,I.base,I.loc,I.cell,I.free,I.freeC,fun p hp=>by
  rcases au.mp hp with z|z
  ·subst z;exact⟨e,n,I.apart e d⟩
  ·exact I.pin p z,I.hok,I.len⟩
theorem Inv.unhnd (ok:X.Ok)(I:Inv (X.hnd a oe) pins σ H s):Inv X pins σ H s:=⟨ok,I.os,I.bare,I.base,I.loc,I.cell,I.free,I.freeC,fun p hp=>I.pin p (ah _ hp),I.hok,I.len⟩
theorem aR5 {M:Model}{A:aO}{E:Value->ae->Prop}{i:Nat}{x:Str}{v:V}{Q:Unit->ae->Prop}(I:Inv X pins σ H s)(hN:X.N.Nodup)(hi:X.N[i]?=some x)(hx:X.env.scope.names.lookup x=some .local)(hv:σ[i]?=some (some v))
  (h:∀ s',Inv X pins (σ.set i none) H s'->Q () s'):wpAny M A (unbindName X.env x) Q E s:=by
 obtain⟨m,hn,hl⟩:=id I.loc
 have hcls:(X.env.scope.kind==.class||(X.env.scope.kind==.module&&X.env.locals != X.env.globals))=false:=by rw[I.ok.kind];rfl
 obtain⟨u,r,lk⟩:=hl i x v hi hv (.inl hx)
 have hm:m x=some u:=by
  rcases lk with⟨_,e⟩|⟨e,_⟩
  ·exact e
  ·have hx':X.env.kindOf x=some .local:=hx
   rw[hx']at e
   rcases e with e|e<;>cases e
 have cne:=I.cne
 refine wpAny_unbindName_local hx hn hm hcls fun h' u' hn' hs=>?_
 obtain⟨oL,_,_,hoL,_⟩:=id hn
 have low:∀ b o,X.s₀.heap.get? b=some o->b≠X.env.locals:=fun b o e=>ax (am (aA e) I.ok.above)
 refine h _ ⟨I.ok,I.os,I.bare,⟨fun b o e n hb hx=>?_,fun b o e n hb hx=>?_,I.base.free,fun b o e hx=>?_,I.base.tups,I.base.frzs,I.base.tbls⟩,⟨_,hn',fun j y v' e1 e2 e3=>?_⟩,fun y c e=>?_,I.free,I.freeC,fun p hp=>?_,I.hok.part fun b w o e q=>?_,by rw[aY];exact I.len⟩
 ·exact(hs.2 b (low b o e)).trans (I.base.keep b o e n hb hx)
 ·obtain⟨sl,e1⟩:=I.base.slot b o e n hb hx
  exact⟨sl,(hs.2 b (low b o e)).trans e1⟩
 ·obtain⟨o',e1⟩:=I.base.there b o e hx
  exact⟨o',(hs.2 b (low b o e)).trans e1⟩
 ·have hj:j≠i:=fun z=>by
   subst z
   rw[aR (ag.mp hv).1]at e2
   cases e2
  rw[bo (bL hj)]at e2
  obtain⟨w,r',q⟩:=hl j y v' e1 e2 e3
  refine⟨w,r',?_⟩
  rcases q with⟨k,e⟩|⟨k,c,e,z⟩
  ·refine .inl ⟨k,?_⟩
   have:y≠x:=fun e=>hj (ap3 hN e1 (e▸hi))
   simp[this,e]
  ·exact .inr ⟨k,c,e,z.sameBut hs (cne y c e)⟩
 ·obtain⟨w',z⟩:=I.cell y c e
  exact⟨w',z.sameBut hs (cne y c e)⟩
 ·obtain⟨e,n,ne,nf,d⟩:=I.pin p hp
  exact⟨(hs.2 p.1 ne).trans e,n,ne,nf,d⟩
 ·refine(hs.2 b fun z=>?_).trans q
  rw[z,I.free]at e;cases e
theorem Tr.own (t:Tr X pins σ H s a C fl):∃ oe vs,s.heap.get? a=some oe/\oe.cls=.ref C/\oe.data=.fields vs:=by
 obtain⟨a0,oe,vs,T,oT,ts,h1,h2,h3,_⟩:=t.tr
 exact⟨oe,vs,h1,h2.1,h3⟩
theorem Tr.again (t:Tr X pins σ H s a C fl){Q:V->Hp->Prop}{e:Expr}{v:V}(he:∀ oe,PE (X.hnd a oe) e (tC v)){E:Value->ae->Prop}{R:Value->ae->Prop}
  (k:∀ u s',RelV v u->Tr X pins σ H s' a C fl->R u s'):wpAny (model X.prog X.w) (X.A.mark (some (.ref a))) (eval e X.env) R E s:=by
 obtain⟨a0,oe,vs,T,oT,ts,h1,h2,h3,h4,h5,h6,h6p,h7,h8,h9,h10⟩:=t.tr
 have I:=t.inv
 have J:Inv (X.hnd a oe) ((T,oT)::pins) σ H s:=(I.hnd h1 t.nH h3).pins_of fun p hp=>by
  rcases au.mp hp with z|z
  ·subst z;exact⟨h8,h6,I.apart h8 h9⟩
  ·exact I.pin p (aK _ z)
 refine bv (he oe ((T,oT)::pins) s σ H (fun w H1=>w=v/\H1=H) J ⟨rfl,rfl⟩) (fun u s1 ⟨w,H1,I1,r,e1,e2⟩=>?_) (fun _ _ z=>aZ z)
 subst e1 e2
 refine k u s1 r ⟨(I1.pins_of fun p hp=>I1.pin p (aK _ (ah _ hp))).unhnd I.ok,t.n0,t.nH,t.np,a0,oe,vs,T,oT,ts,(I1.pin (a,oe) (aq ..)).1,h2,h3,h4,h5,h6,h6p,h7,(I1.pin (T,oT) (aK _ (aq ..))).1,h9,h10⟩
theorem aQ5 {x n:Str}{i:Nat}{np pos:Pos}{b₀:Stmt}{suite:List Stmt}{rest:List eM}{th:TS}{D:Ends}(t:Tr X pins σ H s a C .none)(hex:X.ex=[])(hst:X.stack=X.env::X.outer)(hfr:X.env.frame=some X.env.locals)
  (hc:ExcCls X.K C) (hg:Gl X x) (hm:X.mg x=some (.ref C)) (hd:(x==("__debug__":Str))=false) (hN:X.N.Nodup) (hi:X.N[i]?=some n) (hl:X.env.scope.names.lookup n=some .local)
  (hb:∀ oe,oe.cls=.ref C->PSs (X.hnd a oe) (b₀::suite) th) (hq:th { nx:=fun _ _=>False,rt:=D.rt } (σ.set i (some (.ref a))) H) :
  wpAny (model X.prog X.w) X.A (io (.ref a) X.env) (fun _ s₂=>wpAny (model X.prog X.w) X.A (jd (.ref a) none) (fun _ s₃=>wpAny (model X.prog X.w) X.A (handleBy (.ref a) X.env (.ExceptHandler (some (.Name x np)) (some n) (b₀::suite) pos::rest)) (SP X pins D) X.xe s₃) X.xe s₂) X.xe s:=by
 obtain⟨bm,N,nm,q,bs,hdct,sn,sub,ab,col,dd,k0,k1,k2,k3,k5,mN,e,hqn,hNs⟩:=hc.obj
 refine t.noted hex hst hfr fun h2 fl t2=>t2.down hex hst hfr fun h3 t3=>?_
 refine handleBy_own_as (bmB:=excTail) (newId := "ValueError.__new__") (mg:=X.mg) (x:=x) (C:=C) rfl ?_
 refine t3.again (Q:=fun _ _=>True) (v:=.ref C) (fun oe=>aj4 (X:=X.hnd a oe) hg hm rfl hd) fun u s4 r t4=>?_
 have K4:=hNs _ t4.inv.kIn
 obtain⟨oe4,vs4,e41,e42,e43⟩:=t4.own
 refine⟨r,⟨hm,bm,N,nm,q,bs,hdct,sn,sub,ab,col,dd,k0,k1,k2,k3,k5,mN,t4.inv.kIn _ _ e,K4.1,hqn,K4.2⟩,⟨oe4,e41,e42⟩,?_⟩
 refine t4.down hex hst hfr fun h5 t5=>?_
 obtain⟨oe5,vs5,e51,e52,e53⟩:=t5.own
 have J5:Inv X ((a,oe5)::pins) σ H { s4 with heap:=h5 }:=t5.inv.pins_of fun p hp=>by
  rcases au.mp hp with z|z
  ·subst z;exact⟨e51,t5.nH,t5.inv.apart e51 e53⟩
  ·exact t5.inv.pin p (aK _ z)
 refine qN J5 hN hi (.inl hl) (v:=.ref a) rfl (fun s6 J6=>?_) (.inr hl)
 have J7:Inv (X.hnd a oe5) pins (σ.set i (some (.ref a))) H s6:=(J6.pins_of fun p hp=>J6.pin p (aK _ (ah _ hp))).hnd (J6.pin (a,oe5) (aK _ (aq ..))).1 t5.nH e53
 refine bv (hb oe5 e52 pins s6 _ H { nx:=fun _ _=>False,rt:=D.rt } J7 hq) (fun f s8 z=>?_) (fun _ _ z=>aZ z)
 cases f with
 | next=>obtain⟨_,_,_,z⟩:=z;exact aZ z
 | brk=>obtain⟨_,_,_,z⟩:=z;exact aZ z
 | cont=>obtain⟨_,_,_,z⟩:=z;exact aZ z
 | ret u8 =>
  obtain⟨v8,σ8,H8,J8,r8,q8⟩:=z
  have J8:=J8.unhnd t5.inv.ok
  refine ar (wpAny_bindName (qN J8 hN hi (.inl hl) (v:=.non) (u:=.none) rfl (fun s9 J9=>?_) (.inr hl)))
  have hi8:i < σ8.length:=by rw[J8.len];exact(ag.mp hi).1
  exact wpAny_onRaise (aR5 J9 hN hi hl (by rw[aR hi8]) fun s10 J10=>⟨v8,_,H8,J10,r8,q8⟩)
end
end L2
end
noncomputable section
namespace DV
inductive D where
 | non|bl (b:Bool)|int (i:Int)|str (x:List Nat)|tup (l:List D)|ref (n:Nat)|fn (f:String)|clo (f:String) (cs:List D)
noncomputable instance:DecidableEq D:=fun a b=>eY (a=b)
noncomputable instance (x:D):Decidable (x=.non):=match x with
 | .non=>.isTrue rfl
 | .bl _=>.isFalse nofun
 | .int _=>.isFalse nofun
 | .str _=>.isFalse nofun
 | .tup _=>.isFalse nofun
 | .ref _=>.isFalse nofun
 | .fn _=>.isFalse nofun
 | .clo _ _=>.isFalse nofun
inductive O where
 | lst (l:List D)|ro (l:List D)|dic (l:List (D×D))|ins (c:String) (fs:List (String×D))|dit (l:List (D×D))
noncomputable instance:DecidableEq O:=fun a b=>eY (a=b)
noncomputable abbrev Sto:=List O
noncomputable def O.kd:O->Nat
 | .lst _=>0|.ro _=>1|.dic _=>2|.ins _ _=>3|.dit _=>4
inductive R (α:Type) where
 | ok (a:α) (s:Sto)|exc (e:D) (s:Sto)|bad
noncomputable abbrev M (α:Type):=Sto->R α
noncomputable def R.bind {α β:Type}(r:R α)(f:α->Sto->R β):R β:=match r with
 | .ok a s=>f a s
 | .exc e s=>.exc e s
 | .bad=>.bad
@[simp] theorem R.bind_ok {α β:Type} (a:α) (s:Sto) (f:α->Sto->R β):(R.ok a s).bind f=f a s:=rfl
@[simp] theorem R.bind_bad {α β:Type} (f:α->Sto->R β):(R.bad:R α).bind f=.bad:=rfl
@[simp] theorem R.bind_exc {α β:Type} (e:D) (s:Sto) (f:α->Sto->R β):(R.exc e s:R α).bind f=.exc e s:=rfl
theorem R.bind_inv {α β:Type}{r:R α}{f:α->Sto->R β}{b:β}{t:Sto}(h:r.bind f=.ok b t):∃ a s,r=.ok a s/\f a s=.ok b t:=by
 cases r with
 | ok a s=>exact⟨a,s,rfl,h⟩
 | exc e s=>cases h
 | bad=>cases h
@[simp] theorem R.bind_assoc {α β γ:Type} (r:R α) (f:α->Sto->R β) (g:β->Sto->R γ):(r.bind f).bind g=r.bind fun a s=>(f a s).bind g:=by cases r<;>rfl
mutual
noncomputable def D.bnd (n:Nat):D->Bool
 | .tup l=>D.bndL n l
 | .ref k=>decide (k<n)
 | .clo _ l=>D.bndL n l
 | _=>true
noncomputable def D.bndL (n:Nat):List D->Bool
 | []=>true
 | d::l=>D.bnd n d&&D.bndL n l
end
noncomputable def O.bnd (n:Nat):O->Bool
 | .lst l=>D.bndL n l
 | .ro l=>D.bndL n l
 | .dic l=>D.bndL n (l.map (·.1))&&D.bndL n (l.map (·.2))
 | .ins _ fs=>D.bndL n (fs.map (·.2))
 | .dit l=>D.bndL n (l.map (·.1))&&D.bndL n (l.map (·.2))
mutual
noncomputable def D.plain:D->Bool
 | .non=>true|.int _=>true|.str _=>true
 | .tup l=>D.plainL l
 | _=>false
noncomputable def D.plainL:List D->Bool
 | []=>true
 | d::l=>D.plain d&&D.plainL l
end
mutual
noncomputable def D.ncl:D->Bool
 | .tup l=>D.nclL l
 | .clo _ _=>false
 | _=>true
noncomputable def D.nclL:List D->Bool
 | []=>true
 | d::l=>D.ncl d&&D.nclL l
end
noncomputable def O.ncl:O->Bool
 | .lst l=>D.nclL l
 | .ro l=>D.nclL l
 | .dic l=>D.nclL (l.map (·.2))
 | .dit l=>D.nclL (l.map (·.2))
 | _=>false
noncomputable def D.key:D->Bool
 | .int _=>true|.str _=>true|_=>false
noncomputable def D.hdI:List D->Bool
 | .int _::_=>true|_=>false
noncomputable def D.keyS:D->Bool
 | .int _=>true|.str x=>decide (x.length<=1000)|_=>false
noncomputable def D.keyT:D->Bool
 | .tup l=>D.hdI l&&(l.all D.keyS&&decide (l.length<=1000))|_=>false
noncomputable def LIM:Nat:=1000000
@[irreducible] noncomputable def BIG:Nat:=2^60000
@[irreducible] noncomputable def DIVL:Nat:=2^4096
inductive BOp where
 | add|sub|mul|fdiv|mod|pow|shl|shr|band|bor
 deriving DecidableEq
inductive COp where
 | eq|ne|lt|le|gt|ge|isin|notin
 deriving DecidableEq
inductive Cn where
 | non|bl (b:Bool)|int (i:Int)|str (x:List Nat)
 deriving DecidableEq
noncomputable def Cn.d:Cn->D
 | .non=>.non|.bl b=>.bl b|.int i=>.int i|.str x=>.str x
inductive Bi where
 | len|abs|int|str|min2|max2|max3|min3|isInt|isBool|isStr|isTup|isList|ord
 deriving DecidableEq
inductive Mk where
 | tuple|list|all|any|sum|min|max|sorted|lenset
 deriving DecidableEq
inductive Mt where
 | append|pop|index|count|reverse|clear|bitlen|get1|get2|setdefault|update|split|partition
 deriving DecidableEq
inductive Tg where
 | one (i:Nat)|tup (is:List Nat)
 deriving DecidableEq
mutual
inductive E where
 | var (i:Nat)|cst (c:Cn)|glob (x:String)
 | bin (op:BOp) (a b:E)|neg (a:E)|not (a:E)
 | cmp (op:COp) (a b:E)|chain (o p:COp) (a b c:E)
 | isN (a:E)|notN (a:E)|isB (a:E) (b:Bool)|notB (a:E) (b:Bool)
 | and (a b:E)|or (a b:E)|ite (c a b:E)
 | tup (es:Es)|lst (es:Es)|dic (ks vs:Es)|dicT|get2 (o k d:E)|bitl (a:E)|lrng (a:E)
 | ix (a b:E)|slL (a lo:E)|slU (a hi:E)|slLU (a lo hi:E)|rev (a:E)
 | call (f:String) (as:As)|callC (f:String) (as:As)|callV (i:Nat) (es:Es)
 | bi (b:Bi) (es:Es)|mk (k:Mk) (l:L)|mkD (k:Mk) (l:L) (d:E)
 | meth (m:Mt) (o:E) (es:Es)|ext (o:E) (l:L)|extS (o e:E)|join (o e:E)|mks (k:Mk) (e:E)|mkDs (k:Mk) (e d:E)
inductive Es where
 | nil|cons (e:E) (es:Es)
inductive As where
 | nil|ex (e:E) (as:As)|lam (id:String) (caps:List Nat) (as:As)|fn (f:String) (as:As)
inductive I where
 | seq (e:E)|rng1 (a:E)|rng2 (a b:E)|rng3 (a b:E) (c:Int)|enum (it:I)|zip (a b:I)|items (e:E)
inductive L where
 | comp (tg:Tg) (it:I) (e:E) (caps:List (Option Nat))|compIf (tg:Tg) (it:I) (c e:E) (caps:List (Option Nat))|disp (es:Es)|seq (e:E)|itm (e:E)
end
mutual
inductive S where
 | asg (tg:Tg) (e:E)|setIx (o i e:E)|aug (i:Nat) (e:E)|ex (e:E)|ret (e:E)|retN
 | ite (c:E) (a b:Ss)|whl (c:E) (b:Ss)|for_ (tg:Tg) (it:I) (b:Ss)|pass|cont|brk|raise|und (i:Nat)
inductive Ss where
 | nil|cons (s:S) (ss:Ss)
end
noncomputable abbrev Env:=List (Option D)
noncomputable def ac0 (o:O):M D:=fun s=>.ok (.ref s.length) (s++[o])
noncomputable def pur (d:D):M D:=fun s=>.ok d s
noncomputable def bad {α:Type}:M α:=fun _=>.bad
noncomputable def mulOk (a b:Int):Bool:=decide (a.natAbs<2^64)||decide (b.natAbs<2^64)||(decide (a.natAbs<BIG)&&decide (b.natAbs<BIG))
noncomputable def rep:Nat->List Nat->List Nat
 | 0,_=>[]
 | n+1,a=>a++rep n a
noncomputable def aH3:Nat->List D->List D
 | 0,_=>[]
 | n+1,a=>a++aH3 n a
noncomputable def aj8:BOp->D->D->M D
 | .add,.int a,.int b=>pur (.int (a+b))
 | .add,.str a,.str b=>if a.length+b.length<=LIM then pur (.str (a++b))else bad
 | .add,.tup a,.tup b=>if a.length+b.length<=LIM then pur (.tup (a++b))else bad
 | .add,.ref a,.ref b=>fun s=>match s[a]?,s[b]? with
  | some (.lst l),some (.lst m)=>if l.length+m.length<=LIM then ac0 (.lst (l++m)) s else .bad
  | _,_=>.bad
 | .sub,.int a,.int b=>pur (.int (a - b))
 | .mul,.int a,.int b=>if mulOk a b then pur (.int (a*b))else bad
 | .mul,.str a,.int n=>if 0<=n/\n<=1000000/\a.length*n.toNat<=LIM then pur (.str (rep n.toNat a))else bad
 | .mul,.tup a,.int n=>if 0<=n/\n<=1000000/\a.length*n.toNat<=LIM then pur (.tup (aH3 n.toNat a))else bad
 | .mul,.ref a,.int n=>fun s=>match s[a]? with
  | some (.lst l)=>if 0<=n/\n<=1000000/\l.length*n.toNat<=LIM then ac0 (.lst (aH3 n.toNat l)) s else .bad
  | _=>.bad
 | .fdiv,.int a,.int b=>if 0<b/\b<(DIVL:Int)then pur (.int (a / b))else bad
 | .mod,.int a,.int b=>if 0<b then pur (.int (a % b))else bad
 | .pow,.int a,.int b=>if 0<=b/\b<=1000000/\a.natAbs<2^64 then pur (.int (a^b.toNat))else bad
 | .shl,.int a,.int b=>if 0<=b/\b<=1000000/\a.natAbs<2^64 then pur (.int (a*2^b.toNat))else bad
 | .shr,.int a,.int b=>if 0<=b then pur (.int (a / 2^b.toNat))else bad
 | .band,.int a,.int b=>if 0<=a/\b=1 then pur (.int (a % 2))else bad
 | _,_,_=>bad
noncomputable def kd (s:Sto):D->Nat
 | .non=>0|.bl _=>1|.int _=>1|.str _=>2|.tup _=>3
 | .ref r=>match s[r]? with|some (.lst _)=>4|_=>9
 | _=>9
noncomputable def ax7 (a b:Nat):Bool:=a==9||b==9||a==b
noncomputable def b2i (b:Bool):Int:=if b then 1 else 0
noncomputable def ay6:D->D->Option Bool
 | .non,.non=>some true
 | .bl a,.bl b=>some (a==b)
 | .int a,.int b=>some (a==b)
 | .bl a,.int b=>some (b2i a==b)
 | .int a,.bl b=>some (a==b2i b)
 | .str a,.str b=>some (a==b)
 | _,_=>none
noncomputable def ad9 (s:Sto)(a b:D):Option Bool:=match ay6 a b with
 | some z=>some z
 | none=>if ax7 (kd s a) (kd s b)then none else some false
noncomputable def eqL (f:D->D->Option Bool):List D->List D->Option Bool
 | [],[]=>some true
 | [],_::_=>some false
 | _::_,[]=>some false
 | a::l,b::m=>match f a b,eqL f l m with
  | some x,some y=>some (x&&y)
  | _,_=>none
noncomputable def eqv (s:Sto):Nat->D->D->Option Bool
 | 0,a,b=>ad9 s a b
 | n+1,a,b=>match a,b with
  | .tup l,.tup m=>eqL (eqv s n) l m
  | .ref x,.ref y=>match s[x]?,s[y]? with
   | some (.lst l),some (.lst m)=>if l.length=m.length then eqL (eqv s n) l m else some false
   | _,_=>none
  | a,b=>ad9 s a b
noncomputable def DEEP:Nat:=30
noncomputable def eqM (a b:D):M D:=fun s=>match eqv s DEEP a b with
 | some r=>.ok (.bl r) s
 | none=>.bad
noncomputable def inL (s:Sto)(x:D):List D->Option Bool
 | []=>some false
 | y::l=>match eqv s DEEP y x,inL s x l with
  | some a,some b=>some (a||b)
  | _,_=>none
noncomputable def look (k:D):List (D×D)->Option D
 | []=>none
 | (a,v)::l=>if a=k then some v else look k l
noncomputable def inM (a b:D):M Bool:=fun s=>match b with
 | .tup l=>match inL s a l with|some r=>.ok r s|none=>.bad
 | .ref r=>match s[r]? with
  | some (.lst l)=>match inL s a l with|some r=>.ok r s|none=>.bad
  | some (.dic l)=>if a.key then .ok (look a l).isSome s else .bad
  | some (.dit l)=>if a.keyT then .ok (look a l).isSome s else .bad
  | _=>.bad
 | .str y=>match a with|.str [c]=>.ok (decide (c∈y)) s|_=>.bad
 | _=>.bad
noncomputable def qp:COp->D->D->M D
 | .eq,a,b=>eqM a b
 | .ne,a,b=>fun s=>match eqv s DEEP a b with|some r=>.ok (.bl (!r)) s|none=>.bad
 | .lt,.int a,.int b=>pur (.bl (decide (a<b)))
 | .le,.int a,.int b=>pur (.bl (decide (a<=b)))
 | .gt,.int a,.int b=>pur (.bl (decide (b<a)))
 | .ge,.int a,.int b=>pur (.bl (decide (b<=a)))
 | _,_,_=>bad
noncomputable def ixn (n:Nat)(i:Int):Option Nat:=if 0<=i then(if i<n then some i.toNat else none)else if -(n:Int)<=i then some (i+n).toNat else none
noncomputable def sbd (n:Nat)(i:Int):Nat:=if 0<=i then min i.toNat n else(i+n).toNat
noncomputable def loB (n:Nat):Option Int->Nat
 | none=>0
 | some i=>sbd n i
noncomputable def hiB (n:Nat):Option Int->Nat
 | none=>n
 | some i=>sbd n i
noncomputable def bL0 {α:Type}(l:List α)(lo hi:Option Int):List α:=(l.drop (loB l.length lo)).take (hiB l.length hi - loB l.length lo)
noncomputable def ixM (a b:D):M D:=fun s=>match a,b with
 | .tup l,.int i=>match(ixn l.length i).bind fun j=>l[j]? with|some d=>.ok d s|none=>.bad
 | .str l,.int i=>match(ixn l.length i).bind fun j=>l[j]? with|some c=>.ok (.str [c]) s|none=>.bad
 | .ref r,b=>match s[r]? with
  | some (.lst l)=>match b with
   | .int i=>match(ixn l.length i).bind fun j=>l[j]? with|some d=>.ok d s|none=>.bad
   | _=>.bad
  | some (.ro l)=>match b with
   | .int i=>match(ixn l.length i).bind fun j=>l[j]? with|some d=>.ok d s|none=>.bad
   | _=>.bad
  | some (.dic l)=>if b.key then match look b l with|some d=>.ok d s|none=>.bad else .bad
  | some (.dit l)=>if b.keyT then match look b l with|some d=>.ok d s|none=>.bad else .bad
  | _=>.bad
 | _,_=>.bad
noncomputable def slM (a:D)(lo hi:Option Int):M D:=fun s=>match a with
 | .tup l=>.ok (.tup (bL0 l lo hi)) s
 | .str l=>.ok (.str (bL0 l lo hi)) s
 | .ref r=>match s[r]? with
  | some (.lst l)=>ac0 (.lst (bL0 l lo hi)) s
  | _=>.bad
 | _=>.bad
noncomputable def bL3 (a:D):M D:=fun s=>match a with
 | .str l=>.ok (.str l.reverse) s
 | .ref r=>match s[r]? with
  | some (.lst l)=>ac0 (.lst l.reverse) s
  | _=>.bad
 | _=>.bad
noncomputable def al7:List D->Option (List Bool)
 | []=>some []
 | .bl b::l=>(al7 l).map (b::·)
 | _=>none
noncomputable def qh:List D->Option (List Int)
 | []=>some []
 | .int i::l=>(qh l).map (i::·)
 | _=>none
noncomputable def bd3:List D->Option (List (List Nat))
 | []=>some []
 | .str i::l=>(bd3 l).map (i::·)
 | _=>none
noncomputable def bu1 (d:D):M D:=fun s=>match d with
 | .tup l=>.ok (.int l.length) s
 | .str l=>.ok (.int l.length) s
 | .ref r=>match s[r]? with
  | some (.lst l)=>.ok (.int l.length) s
  | some (.ro l)=>.ok (.int l.length) s
  | _=>.bad
 | _=>.bad
noncomputable def isK (k:Nat)(d:D):M D:=fun s=>match d with
 | .non=>.ok (.bl false) s
 | .bl _=>.ok (.bl (k==1||k==2)) s
 | .int _=>.ok (.bl (k==1)) s
 | .str _=>.ok (.bl (k==3)) s
 | .tup _=>.ok (.bl (k==4)) s
 | .ref r=>match s[r]? with
  | some (.lst _)=>.ok (.bl (k==5)) s
  | _=>.bad
 | _=>.bad
noncomputable def bi1 (f:D->M D):List D->M D
 | [d]=>f d
 | _=>bad
noncomputable def bi:Bi->List D->M D
 | .len,l=>bi1 bu1 l
 | .abs,l=>fun s=>match qh l with|some [i]=>.ok (.int (if i<0 then -i else i)) s|_=>.bad
 | .int,l=>fun s=>match al7 l with|some [b]=>.ok (.int (if b then 1 else 0)) s|_=>.bad
 | .min2,l=>fun s=>match qh l with|some [a,b]=>.ok (.int (if b<a then b else a)) s|_=>.bad
 | .max2,l=>fun s=>match qh l with|some [a,b]=>.ok (.int (if b > a then b else a)) s|_=>.bad
 | .max3,l=>fun s=>match qh l with|some [a,b,c]=>.ok (.int (max (max a b) c)) s|_=>.bad
 | .isInt,l=>bi1 (isK 1) l
 | .isBool,l=>bi1 (isK 2) l
 | .isStr,l=>bi1 (isK 3) l
 | .isTup,l=>bi1 (isK 4) l
 | .isList,l=>bi1 (isK 5) l
 | _,_=>bad
noncomputable def aW9:List Int->Option Int
 | []=>none
 | a::l=>some (l.foldl min a)
noncomputable def bT4:List Int->Option Int
 | []=>none
 | a::l=>some (l.foldl max a)
noncomputable def ins (a:Int):List Int->List Int
 | []=>[a]
 | b::l=>if a<=b then a::b::l else b::ins a l
noncomputable def bG6:List Int->List Int
 | []=>[]
 | a::l=>ins a (bG6 l)
noncomputable def bU3 (is:List Int):Bool:=is.all (fun i=>decide (-1000000000<=i/\i<=1000000000))&&decide (is.length<=1000000)
noncomputable def mk:Mk->List D->M D
 | .tuple,l=>fun s=>.ok (.tup l) s
 | .list,l=>ac0 (.lst l)
 | .all,l=>fun s=>match al7 l with|some bs=>.ok (.bl (bs.all id)) s|none=>.bad
 | .any,l=>fun s=>match al7 l with|some bs=>.ok (.bl (bs.any id)) s|none=>.bad
 | .sum,l=>fun s=>match qh l with|some is=>if bU3 is then .ok (.int is.sum) s else .bad|none=>.bad
 | .min,l=>fun s=>match(qh l).bind aW9 with|some m=>.ok (.int m) s|none=>.bad
 | .max,l=>fun s=>match(qh l).bind bT4 with|some m=>.ok (.int m) s|none=>.bad
 | .sorted,l=>fun s=>match qh l with|some is=>ac0 (.lst ((bG6 is).map D.int)) s|none=>.bad
 | .lenset,l=>bad
noncomputable def mkD (k:Mk)(l:List D)(d:D):M D:=fun s=>match k with
 | .min=>match qh l with|some is=>(match aW9 is with|some m=>.ok (.int m) s|none=>.ok d s)|none=>.bad
 | .max=>match qh l with|some is=>(match bT4 is with|some m=>.ok (.int m) s|none=>.ok d s)|none=>.bad
 | _=>.bad
noncomputable def aq6 (k v:D)(l:List (D×D)):List (D×D):=if(look k l).isSome then l.map (fun p=>if p.1=k then(p.1,v)else p)else l++[(k,v)]
noncomputable def setIx (o i v:D):Sto->R Unit:=fun s=>match o with
 | .ref r=>match s[r]? with
  | some (.lst l)=>match i with
   | .int i=>match ixn l.length i with|some j=>.ok () (s.set r (.lst (l.set j v)))|none=>.bad
   | _=>.bad
  | some (.dic l)=>if i.key&&decide (l.length<LIM)then .ok () (s.set r (.dic (aq6 i v l)))else .bad
  | some (.dit l)=>if i.keyT&&decide (l.length<LIM)then .ok () (s.set r (.dit (aq6 i v l)))else .bad
  | _=>.bad
 | _=>.bad
noncomputable def bJ8 (o k e:D):M D:=fun s=>match o with
 | .ref r=>match s[r]? with
  | some (.dit l)=>if k.keyT then .ok ((look k l).getD e) s else .bad
  | _=>.bad
 | _=>.bad
noncomputable def idx (s:Sto)(x:D):Nat->List D->Option Nat
 | _,[]=>none
 | n,y::l=>match eqv s DEEP y x with
  | some true=>some n
  | some false=>idx s x (n+1) l
  | none=>none
noncomputable def meth:Mt->D->List D->M D
 | .append,.ref r,[d]=>fun s=>match s[r]? with
  | some (.lst l)=>if l.length<LIM then .ok .non (s.set r (.lst (l++[d])))else .bad
  | _=>.bad
 | .pop,.ref r,[]=>fun s=>match s[r]? with
  | some (.lst l)=>match l.getLast? with|some d=>.ok d (s.set r (.lst l.dropLast))|none=>.bad
  | _=>.bad
 | .reverse,.ref r,[]=>fun s=>match s[r]? with
  | some (.lst l)=>.ok .non (s.set r (.lst l.reverse))
  | _=>.bad
 | .clear,.ref r,[]=>fun s=>match s[r]? with
  | some (.lst l)=>.ok .non (s.set r (.lst []))
  | _=>.bad
 | .index,.ref r,[d]=>fun s=>match s[r]? with
  | some (.lst l)=>match inL s d l,idx s d 0 l with|some true,some n=>.ok (.int n) s|_,_=>.bad
  | _=>.bad
 | _,_,_=>bad
noncomputable def bv3 (o:D)(l:List D):M D:=fun s=>match o with
 | .ref r=>match s[r]? with
  | some (.lst m)=>if m.length+l.length<=LIM then .ok .non (s.set r (.lst (m++l)))else .bad
  | _=>.bad
 | _=>.bad
noncomputable def bm6 (x y:D):M D:=fun s=>match x with
 | .str []=>match y with
  | .ref r=>match s[r]? with
   | some (.lst l)=>match bd3 l with
    | some ss=>if ss.flatten.length<=LIM then .ok (.str ss.flatten) s else .bad
    | none=>.bad
   | _=>.bad
  | _=>.bad
 | _=>.bad
noncomputable def extS (o d:D):M D:=fun s=>match d with
 | .ref k=>match s[k]? with
  | some (.lst l)=>bv3 o l s
  | _=>.bad
 | _=>.bad
structure Fns where
 call:String->List D->M D
 lam:String->List D->List D->M D
 con:String->Option D
 xcall:String->List D->Sto->Option (String×Sto)
 xc:String->Bool
 xt:String->Bool
noncomputable def ax1 (ρ:Env)(i:Nat):M D:=fun s=>match ρ[i]? with|some (some d)=>.ok d s|_=>.bad
noncomputable def ad3 (ρ:Env):List Nat->Option (List D)
 | []=>some []
 | i::is=>match ρ[i]?,ad3 ρ is with|some (some d),some l=>some (d::l)|_,_=>none
noncomputable def qt (ρ:Env)(caps:List (Option Nat)):Env:=caps.map fun o=>match o with|none=>none|some j=>(ρ[j]?).join
noncomputable def an3 (ρ:Env)(i:Nat)(d:D):Option Env:=if i < ρ.length then some (ρ.set i (some d))else none
noncomputable def ad8 (ρ:Env)(i:Nat):Option Env:=if i < ρ.length then some (ρ.set i none)else none
noncomputable def ak5 (ρ:Env):List Nat->List D->Option Env
 | [],[]=>some ρ
 | i::is,d::l=>(an3 ρ i d).bind fun ρ=>ak5 ρ is l
 | _,_=>none
noncomputable def ac2 (ρ:Env):Tg->D->Option Env
 | .one i,d=>an3 ρ i d
 | .tup is,.tup l=>ak5 ρ is l
 | _,_=>none
structure Sq where
 its:List D
 src:List Nat
noncomputable def be5 (d:D):M Sq:=fun s=>match d with
 | .tup l=>.ok ⟨l,[]⟩ s
 | .str l=>.ok ⟨l.map fun c=>.str [c],[]⟩ s
 | .ref r=>match s[r]? with
  | some (.lst l)=>.ok ⟨l,[r]⟩ s
  | some (.ro l)=>.ok ⟨l,[]⟩ s
  | _=>.bad
 | _=>.bad
noncomputable def aE5 (d:D):M Sq:=fun s=>match d with
 | .tup l=>.ok ⟨l,[]⟩ s
 | .str l=>.ok ⟨l.map fun c=>.str [c],[]⟩ s
 | .ref r=>match s[r]? with
  | some (.lst l)=>.ok ⟨l,[r]⟩ s
  | some (.ro l)=>.ok ⟨l,[]⟩ s
  | _=>.bad
 | _=>.bad
noncomputable def aY7 (d:D):M Sq:=fun s=>match d with
 | .tup l=>.ok ⟨l,[]⟩ s
 | .ref r=>match s[r]? with
  | some (.lst l)=>.ok ⟨l,[r]⟩ s
  | some (.ro l)=>.ok ⟨l,[]⟩ s
  | _=>.bad
 | _=>.bad
noncomputable def bU0 (p:D×D):D:=match p.1 with
 | .tup l=>.tup (l++[p.2])
 | _=>.non
noncomputable def bO4 (d:D):Sto->R (List D):=fun s=>match d with
 | .ref r=>match s[r]? with
  | some (.dit l)=>if l.length<=LIM then .ok (l.map bU0) s else .bad
  | _=>.bad
 | _=>.bad
noncomputable def aT1 (d:D):Sto->R (List D):=fun s=>match d with
 | .tup l=>.ok l s
 | .str l=>.ok (l.map fun c=>.str [c]) s
 | .ref r=>match s[r]? with
  | some (.lst l)=>.ok l s
  | some (.ro l)=>.ok l s
  | _=>.bad
 | _=>.bad
noncomputable def bt7 (d:D):Sto->R (List D):=fun s=>match d with
 | .ref r=>match s[r]? with
  | some (.lst l)=>.ok l s
  | _=>.bad
 | _=>.bad
noncomputable def W62:Int:=4611686018427387904
noncomputable def ah5 (a b:Int):List D:=(ao (b - a).toNat).map fun(k:Nat)=>.int (a+k)
noncomputable def bitsN (i:Int):Nat:=if i=0 then 0 else i.natAbs.log2+1
noncomputable def bB6 (x:D):M D:=fun s=>match x with|.int i=>.ok (.int (bitsN i:Nat)) s|_=>.bad
noncomputable def bv4 (x:D):M D:=fun s=>match x with|.int i=>if 0<=i/\i<=1000000 then ac0 (.lst (ah5 0 i)) s else .bad|_=>.bad
noncomputable def bU2 (a b c:Int):List D:=if 0<c then(ao ((b - a+c - 1) / c).toNat).map fun(k:Nat)=>.int (a+c*k)else(ao ((a - b+(-c) - 1) / (-c)).toNat).map fun(k:Nat)=>.int (a+c*k)
noncomputable def bh6 (n:Nat):List D->List D
 | []=>[]
 | d::l=>.tup [.int n,d]::bh6 (n+1) l
noncomputable def bK4:List D->List D->List D
 | a::l,b::m=>.tup [a,b]::bK4 l m
 | _,_=>[]
noncomputable def chk (s0 s:Sto)(src:List Nat):Bool:=src.all fun r=>decide (s[r]?=s0[r]?)
noncomputable def tru {α:Type}(r:R D)(f:Bool->Sto->R α):R α:=r.bind fun d s=>match d with|.bl b=>f b s|_=>.bad
@[simp] theorem zN {α:Type} (b:Bool) (s:Sto) (f:Bool->Sto->R α):tru (.ok (.bl b) s) f=f b s:=rfl
noncomputable def ac5 (ok:Sto->Bool)(g:D->Env->Sto->R (Option D×Env)):List D->Env->Sto->R (List D)
 | [],_,s=>if ok s then .ok [] s else .bad
 | d::l,ρ,s=>if ok s then(g d ρ s).bind fun p s=>(ac5 ok g l p.2 s).bind fun r s=>.ok (match p.1 with|some v=>v::r|none=>r) s else .bad
mutual
noncomputable def ev (F:Fns):E->Env->Sto->R D
 | .var i,ρ,s=>ax1 ρ i s
 | .cst c,_,s=>.ok c.d s
 | .glob x,_,s=>match F.con x with|some d=>.ok d s|none=>.bad
 | .bin op a b,ρ,s=>(ev F a ρ s).bind fun x s=>(ev F b ρ s).bind fun y s=>aj8 op x y s
 | .neg a,ρ,s=>(ev F a ρ s).bind fun x s=>match x with|.int i=>.ok (.int (-i)) s|_=>.bad
 | .not a,ρ,s=>tru (ev F a ρ s) fun b s=>.ok (.bl (!b)) s
 | .cmp op a b,ρ,s=>(ev F a ρ s).bind fun x s=>(ev F b ρ s).bind fun y s=>qp op x y s
 | .chain o p a b c,ρ,s=>(ev F a ρ s).bind fun x s=>(ev F b ρ s).bind fun y s=>tru (qp o x y s) fun k s=>if k then(ev F c ρ s).bind fun z s=>qp p y z s else .ok (.bl false) s
 | .isN a,ρ,s=>(ev F a ρ s).bind fun x s=>.ok (.bl (decide (x=.non))) s
 | .notN a,ρ,s=>(ev F a ρ s).bind fun x s=>.ok (.bl (!decide (x=.non))) s
 | .isB a b,ρ,s=>(ev F a ρ s).bind fun x s=>match x with|.bl c=>.ok (.bl (c==b)) s|_=>.bad
 | .notB a b,ρ,s=>(ev F a ρ s).bind fun x s=>match x with|.bl c=>.ok (.bl (!(c==b))) s|_=>.bad
 | .and a b,ρ,s=>tru (ev F a ρ s) fun c s=>if c then tru (ev F b ρ s) fun c s=>.ok (.bl c) s else .ok (.bl false) s
 | .or a b,ρ,s=>tru (ev F a ρ s) fun c s=>if c then .ok (.bl true) s else tru (ev F b ρ s) fun c s=>.ok (.bl c) s
 | .ite c a b,ρ,s=>tru (ev F c ρ s) fun k s=>if k then ev F a ρ s else ev F b ρ s
 | .tup es,ρ,s=>(evs F es ρ s).bind fun l s=>.ok (.tup l) s
 | .lst es,ρ,s=>(evs F es ρ s).bind fun l s=>ac0 (.lst l) s
 | .dic .nil .nil,ρ,s=>ac0 (.dic []) s
 | .dic (.cons k .nil) (.cons v .nil),ρ,s=>(ev F k ρ (s++[.dic []])).bind fun kd s1=>(ev F v ρ s1).bind fun vd s2=>if kd.key=true/\s2[s.length]?=some (.dic [])then .ok (.ref s.length) (s2.set s.length (.dic [(kd,vd)]))else .bad
 | .dic _ _,ρ,s=>.bad
 | .dicT,_,s=>ac0 (.dit []) s
 | .get2 o k d,ρ,s=>(ev F o ρ s).bind fun x s=>(ev F k ρ s).bind fun y s=>(ev F d ρ s).bind fun z s=>bJ8 x y z s
 | .bitl a,ρ,s=>(ev F a ρ s).bind fun x s=>bB6 x s
 | .lrng a,ρ,s=>(ev F a ρ s).bind fun x s=>bv4 x s
 | .ix a b,ρ,s=>(ev F a ρ s).bind fun x s=>(ev F b ρ s).bind fun y s=>ixM x y s
 | .slL a lo,ρ,s=>(ev F a ρ s).bind fun x s=>(ev F lo ρ s).bind fun y s=>match y with|.int i=>slM x (some i) none s|_=>.bad
 | .slU a hi,ρ,s=>(ev F a ρ s).bind fun x s=>(ev F hi ρ s).bind fun y s=>match y with|.int i=>slM x none (some i) s|_=>.bad
 | .slLU a lo hi,ρ,s=>(ev F a ρ s).bind fun x s=>(ev F lo ρ s).bind fun y s=>match y with|.int i=>(ev F hi ρ s).bind (fun z s=>match z with|.int j=>slM x (some i) (some j) s|_=>.bad)|_=>.bad
 | .rev a,ρ,s=>(ev F a ρ s).bind fun x s=>bL3 x s
 | .call f as,ρ,s=>(af6 F as ρ s).bind fun l s=>F.call f l s
 | .callC f as,ρ,s=>(af6 F as ρ s).bind fun l s=>(F.call f l s).bind fun d s'=>if(d.ncl&&s'.all O.ncl)=true then .ok d s' else .bad
 | .callV i es,ρ,s=>(evs F es ρ s).bind fun l s=>match ρ[i]? with
  | some (some (.fn f))=>F.call f l s
  | some (some (.clo id cs))=>F.lam id cs l s
  | _=>.bad
 | .bi b es,ρ,s=>(evs F es ρ s).bind fun l s=>bi b l s
 | .mk k it,ρ,s=>(evL F it ρ s).bind fun q s=>mk k q s
 | .mkD k it d,ρ,s=>(evL F it ρ s).bind fun q s=>(ev F d ρ s).bind fun d s=>mkD k q d s
 | .meth m o es,ρ,s=>(ev F o ρ s).bind fun x s=>(evs F es ρ s).bind fun l s=>meth m x l s
 | .ext o it,ρ,s=>(ev F o ρ s).bind fun x s=>(evL F it ρ s).bind fun q s=>bv3 x q s
 | .extS o e,ρ,s=>(ev F o ρ s).bind fun x s=>(ev F e ρ s).bind fun y s=>extS x y s
 | .join o e,ρ,s=>(ev F o ρ s).bind fun x s=>(ev F e ρ s).bind fun y s=>bm6 x y s
 | .mks k e,ρ,s=>(ev F e ρ s).bind fun x s=>(bt7 x s).bind fun q s=>mk k q s
 | .mkDs k e d,ρ,s=>(ev F e ρ s).bind fun x s=>(ev F d ρ s).bind fun z s=>(bt7 x s).bind fun q s=>mkD k q z s
noncomputable def evs (F:Fns):Es->Env->Sto->R (List D)
 | .nil,_,s=>.ok [] s
 | .cons e es,ρ,s=>(ev F e ρ s).bind fun d s=>(evs F es ρ s).bind fun l s=>.ok (d::l) s
noncomputable def af6 (F:Fns):As->Env->Sto->R (List D)
 | .nil,_,s=>.ok [] s
 | .ex e as,ρ,s=>(ev F e ρ s).bind fun d s=>(af6 F as ρ s).bind fun l s=>.ok (d::l) s
 | .lam id caps as,ρ,s=>match ad3 ρ caps with
  | some cs=>(af6 F as ρ s).bind fun l s=>.ok (.clo id cs::l) s
  | none=>.bad
 | .fn f as,ρ,s=>(af6 F as ρ s).bind fun l s=>.ok (.fn f::l) s
noncomputable def evI (F:Fns):I->Env->Sto->R Sq
 | .seq e,ρ,s=>(ev F e ρ s).bind fun d s=>be5 d s
 | .rng1 a,ρ,s=>(ev F a ρ s).bind fun x s=>match x with|.int i=>if -W62<=i/\i<W62 then .ok ⟨ah5 0 i,[]⟩ s else .bad|_=>.bad
 | .rng2 a b,ρ,s=>(ev F a ρ s).bind fun x s=>(ev F b ρ s).bind fun y s=>match x,y with|.int i,.int j=>if(-W62<=i/\i<W62)/\-W62<=j/\j<W62 then .ok ⟨ah5 i j,[]⟩ s else .bad|_,_=>.bad
 | .rng3 a b c,ρ,s=>(ev F a ρ s).bind fun x s=>(ev F b ρ s).bind fun y s=>match x,y with|.int i,.int j=>if c=2/\(0<=i/\i<1048576)/\0<=j/\j<1048576 then .ok ⟨bU2 i j c,[]⟩ s else .bad|_,_=>.bad
 | .enum (.seq e),ρ,s=>(ev F e ρ s).bind fun d s=>(aY7 d s).bind fun q s=>.ok ⟨bh6 0 q.its,q.src⟩ s
 | .zip (.seq a) (.seq b),ρ,s=>(ev F a ρ s).bind fun x s=>(ev F b ρ s).bind fun y s=>(aE5 x s).bind fun p s=>(aE5 y s).bind fun q s=>.ok ⟨bK4 p.its q.its,p.src++q.src⟩ s
 | .enum _,_,_=>.bad
 | .zip _ _,_,_=>.bad
 | .items e,ρ,s=>.bad
noncomputable def evL (F:Fns):L->Env->Sto->R (List D)
 | .comp tg it e caps,ρ,s=>(evI F it ρ s).bind fun q s0=>if q.its.length<=LIM then ac5 (fun s=>chk s0 s q.src) (fun d ρ s=>match ac2 ρ tg d with
   | some ρ=>(ev F e ρ s).bind fun v s=>.ok (some v,ρ) s
   | none=>.bad) q.its (qt ρ caps) s0 else .bad
 | .compIf tg it c e caps,ρ,s=>(evI F it ρ s).bind fun q s0=>if q.its.length<=LIM then ac5 (fun s=>chk s0 s q.src) (fun d ρ s=>match ac2 ρ tg d with
   | some ρ=>tru (ev F c ρ s) fun k s=>if k then(ev F e ρ s).bind fun v s=>.ok (some v,ρ) s else .ok (none,ρ) s
   | none=>.bad) q.its (qt ρ caps) s0 else .bad
 | .disp es,ρ,s=>evs F es ρ s
 | .seq e,ρ,s=>(ev F e ρ s).bind fun d s=>aT1 d s
 | .itm e,ρ,s=>(ev F e ρ s).bind fun d s=>bO4 d s
end
inductive Ct where
 | next (ρ:Env)|ret (d:D)|cont (ρ:Env)|brk (ρ:Env)
noncomputable def aE6 (ok:Sto->Bool)(g:D->Env->Sto->R Ct):List D->Env->Sto->R Ct
 | [],ρ,s=>if ok s then .ok (.next ρ) s else .bad
 | d::l,ρ,s=>if ok s then(g d ρ s).bind fun c s=>match c with
   | .next ρ=>aE6 ok g l ρ s
   | .cont ρ=>aE6 ok g l ρ s
   | .brk ρ=>.ok (.next ρ) s
   | .ret d=>.ok (.ret d) s
  else .bad
noncomputable def qT (c:Env->Sto->R D)(g:Env->Sto->R Ct):Nat->Env->Sto->R Ct
 | 0,_,_=>.bad
 | n+1,ρ,s=>tru (c ρ s) fun b s=>if b then(g ρ s).bind fun c' s=>match c' with
   | .next ρ=>qT c g n ρ s
   | .cont ρ=>qT c g n ρ s
   | .brk ρ=>.ok (.next ρ) s
   | .ret d=>.ok (.ret d) s
  else .ok (.next ρ) s
open Classical in
noncomputable def whl (c:Env->Sto->R D)(g:Env->Sto->R Ct)(ρ:Env)(s:Sto):R Ct :=
 if h:∃ n,qT c g n ρ s≠.bad then qT c g h.choose ρ s else .bad
mutual
noncomputable def ex (F:Fns):S->Env->Sto->R Ct
 | .asg tg e,ρ,s=>(ev F e ρ s).bind fun d s=>match ac2 ρ tg d with|some ρ=>.ok (.next ρ) s|none=>.bad
 | .setIx o i e,ρ,s=>(ev F e ρ s).bind fun d s=>(ev F o ρ s).bind fun x s=>(ev F i ρ s).bind fun y s=>(setIx x y d s).bind fun _ s=>.ok (.next ρ) s
 | .aug i e,ρ,s=>(ax1 ρ i s).bind fun x s=>(ev F e ρ s).bind fun y s=>match x,y with
  | .int a,.int b=>match an3 ρ i (.int (a+b))with|some ρ=>.ok (.next ρ) s|none=>.bad
  | _,_=>.bad
 | .ex e,ρ,s=>(ev F e ρ s).bind fun _ s=>.ok (.next ρ) s
 | .ret e,ρ,s=>(ev F e ρ s).bind fun d s=>.ok (.ret d) s
 | .retN,_,s=>.ok (.ret .non) s
 | .ite c a b,ρ,s=>tru (ev F c ρ s) fun k s=>if k then exs F a ρ s else exs F b ρ s
 | .whl c b,ρ,s=>whl (ev F c) (exs F b) ρ s
 | .for_ tg it b,ρ,s=>(evI F it ρ s).bind fun q s0=>aE6 (fun s=>chk s0 s q.src) (fun d ρ s=>match ac2 ρ tg d with
   | some ρ=>exs F b ρ s
   | none=>.bad) q.its ρ s0
 | .pass,ρ,s=>.ok (.next ρ) s
 | .cont,ρ,s=>.ok (.cont ρ) s
 | .brk,ρ,s=>.ok (.brk ρ) s
 | .raise,_,_=>.bad
 | .und i,ρ,s=>match ad8 ρ i with|some ρ=>.ok (.next ρ) s|none=>.bad
noncomputable def exs (F:Fns):Ss->Env->Sto->R Ct
 | .nil,ρ,s=>.ok (.next ρ) s
 | .cons st ss,ρ,s=>(ex F st ρ s).bind fun c s=>match c with|.next ρ=>exs F ss ρ s|c=>.ok c s
end
structure Df where
 name:String
 ps:Nat
 vs:Nat
 body:Ss
structure Lm where
 id:String
 ps:Nat
 cs:Nat
 body:E
inductive HT where
 | isi (cs:List String)|one (c:String)|not (t:HT)|or (a b:HT)
inductive Hd where
 | ret (t:HT)|iff (t:HT) (b:Bool) (h:Hd)
noncomputable def subC (c d:String):Bool:=c==d||(d == "TollError"||d == "ValueError")
noncomputable def HT.val (c:String):HT->Bool
 | .isi cs=>cs.any (subC c)
 | .one d=>subC c d
 | .not t=>!t.val c
 | .or a b=>if a.val c then true else b.val c
noncomputable def HT.ok (p:String->Bool):HT->Bool
 | .isi cs=>cs.all p
 | .one d=>p d
 | .not t=>t.ok p
 | .or a b=>a.ok p&&b.ok p
noncomputable def Hd.val (c:String):Hd->Bool
 | .ret t=>t.val c
 | .iff t b h=>if t.val c then b else h.val c
noncomputable def Hd.ok (p:String->Bool):Hd->Bool
 | .ret t=>t.ok p
 | .iff t _ h=>t.ok p&&h.ok p
inductive XB where
 | no|rais (c:String)|call (f:String) (as:As)|iteT (c:E) (a r:XB)|seq (s:S) (b:XB)
noncomputable def xB (F:Fns):XB->Env->Sto->Option (String×Sto)
 | .no,_,_=>none
 | .rais c,_,s=>if F.xc c=true then some (c,s)else none
 | .call f as,ρ,s=>match af6 F as ρ s with|.ok l s1=>F.xcall f l s1|_=>none
 | .iteT c a r,ρ,s=>match ev F c ρ s with|.ok (.bl b) s1=>if b then xB F a ρ s1 else xB F r ρ s1|_=>none
 | .seq st b,ρ,s=>match ex F st ρ s with|.ok (.next ρ1) s1=>xB F b ρ1 s1|_=>none
structure Xf where
 ps:Nat
 vs:Nat
 body:XB
structure Tf where
 ps:Nat
 vs:Nat
 body:Ss
 xb:XB
 c:String
 i:Nat
 h:Hd
 tl:Ss
structure Pr where
 df:String->Option Df
 lm:String->Option Lm
 con:String->Option D
 xf:String->Option Xf
 tf:String->Option Tf
 xc:String->Bool
 xt:String->Bool
noncomputable def aq3 (st st':Sto):Bool:=(ao st.length).all fun i=>decide (st'[i]?=st[i]?)||(match st'[i]? with|some o=>o.bnd st.length|none=>false)
noncomputable def ab3 (st:Sto)(d:D)(st':Sto):R D :=
 if aq3 st st' then
  match d with
  | .ref r=>if r<st.length then .ok d (st'.take st.length)else match st'[r]? with
   | some o=>if o.bnd st.length then .ok (.ref st.length) (st'.take st.length++[o])else .ok d st'
   | none=>.bad
  | d=>if d.bnd st.length then .ok d (st'.take st.length)else .ok d st'
 else .ok d st'
noncomputable def bc1 (F:Fns)(d:Tf)(l:List D)(s:Sto):R D:=match xB F d.xb (l.map some++av d.vs none) s with
 | some (c,s')=>if c=d.c/\F.xc c=true/\d.h.ok F.xt=true then ab3 s (.bl (d.h.val c)) s' else .bad
 | none=>(exs F d.body (l.map some++av d.vs none) s).bind fun c s1=>match c with
  | .ret v=>ab3 s v s1
  | .next ρ=>(exs F d.tl ρ s1).bind fun c s2=>match c with
   | .ret v=>ab3 s v s2
   | .next _=>ab3 s .non s2
   | _=>.bad
  | _=>.bad
noncomputable def aa1 (P:Pr):Nat->Fns
 | 0=>⟨fun _ _ _=>.bad,fun _ _ _ _=>.bad,P.con,fun _ _ _=>none,P.xc,P.xt⟩
 | n+1=>⟨fun f l s=>match P.df f with
   | some d=>if l.length=d.ps then(exs (aa1 P n) d.body (l.map some++av d.vs none) s).bind fun c s'=>match c with
     | .ret v=>ab3 s v s'
     | .next _=>ab3 s .non s'
     | _=>.bad else .bad
   | none=>match P.tf f with
    | some d=>if l.length=d.ps then bc1 (aa1 P n) d l s else .bad
    | none=>.bad,
  fun id cs l s=>match P.lm id with
   | some d=>if l.length=d.ps/\cs.length=d.cs/\(D.nclL l&&D.nclL cs&&s.all O.ncl)=true then(ev (aa1 P n) d.body (l.map some++cs.map some) s).bind fun v s'=>ab3 s v s' else .bad
   | none=>.bad,P.con,
  fun f l s=>match P.xf f with
   | some d=>if l.length=d.ps then xB (aa1 P n) d.body (l.map some++av d.vs none) s else none
   | none=>none,P.xc,P.xt⟩
def KP (s s':Sto):Prop:=∀(i:Nat) (o:O),s[i]?=some o->∃ o',s'[i]?=some o'/\o'.kd=o.kd
theorem KP.refl (s:Sto):KP s s:=fun i o h=>⟨o,h,rfl⟩
theorem KP.trans {a b c:Sto}(h:KP a b)(g:KP b c):KP a c:=fun i o e=>by
 obtain⟨o1,e1,k1⟩:=h i o e
 obtain⟨o2,e2,k2⟩:=g i o1 e1
 exact⟨o2,e2,k2.trans k1⟩
theorem KP.app (s t:Sto):KP s (s++t):=fun i o e=>⟨o,by rw[aL (ag.mp e).1];exact e,rfl⟩
theorem KP.set {s:Sto}{r:Nat}{o o0:O}(h:s[r]?=some o0)(k:o.kd=o0.kd):KP s (s.set r o):=fun i u e=>by
 by_cases z:r=i
 ·subst z
  rw[h]at e;cases e
  exact⟨o,aR (ag.mp h).1,k⟩
 ·exact⟨u,by rw[bo z];exact e,rfl⟩
def KR {α:Type}(s:Sto)(r:R α):Prop:=∀ a s',r=.ok a s'->KP s s'
theorem KR.bad {α:Type}{s:Sto}:KR s (.bad:R α):=fun _ _ h=>by cases h
theorem KR.ok {α:Type}{s:Sto}{a:α}:KR s (.ok a s):=fun _ _ h=>by cases h;exact KP.refl _
theorem KR.bind {α β:Type}{s:Sto}{r:R α}{f:α->Sto->R β}(h:KR s r)(g:∀ a s1,KR s1 (f a s1)):KR s (r.bind f):=fun b s' e=>by
 obtain⟨a,s1,e1,e2⟩:=R.bind_inv e
 exact(h a s1 e1).trans (g a s1 b s' e2)
theorem KR.tru {α:Type}{s:Sto}{r:R D}{f:Bool->Sto->R α}(h:KR s r)(g:∀ a s1,KR s1 (f a s1)):KR s (tru r f):=KR.bind h fun a s1=>by
 cases a with
 | bl b=>exact g b s1
 | _=>exact KR.bad
theorem KR.if {α:Type}{s:Sto}{c:Prop}[Decidable c]{a b:R α}(h:KR s a)(g:KR s b):KR s (if c then a else b):=by split;exact h;exact g
theorem KR.al {s:Sto}{o:O}:KR s (ac0 o s):=fun _ _ h=>by cases h;exact KP.app _ _
theorem KR.pu {s:Sto}{d:D}:KR s (pur d s):=fun _ _ h=>by cases h;exact KP.refl _
theorem KR.bd {s:Sto}:KR s ((DV.bad:M D) s):=fun _ _ h=>by cases h
theorem KR.im {s:Sto}{c:Prop}{_:Decidable c}{d:D}:KR s ((if c then pur d else DV.bad:M D) s):=by split;exact KR.pu;exact KR.bd
theorem KR.ia {s:Sto}{c:Prop}{_:Decidable c}{o:O}:KR s (if c then ac0 o s else .bad):=KR.if KR.al KR.bd
theorem aU9 (op:BOp)(x y:D)(s:Sto):KR s (aj8 op x y s):=by
 cases op with
 | add=>cases x with
  | int a=>cases y with
   | int b=>exact KR.pu
   | _=>exact KR.bd
  | str a=>cases y with
   | str b=>exact KR.im
   | _=>exact KR.bd
  | tup a=>cases y with
   | tup b=>exact KR.im
   | _=>exact KR.bd
  | ref a=>cases y with
   | ref b =>
    show KR s (match s[a]?,s[b]? with|some (.lst l),some (.lst m)=>if l.length+m.length<=LIM then ac0 (.lst (l++m)) s else .bad|_,_=>.bad)
    split
    ·exact KR.ia
    ·exact KR.bd
   | _=>exact KR.bd
  | _=>exact KR.bd
 | sub=>cases x with
  | int a=>cases y with
   | int b=>exact KR.pu
   | _=>exact KR.bd
  | _=>exact KR.bd
 | mul=>cases x with
  | int a=>cases y with
   | int b=>exact KR.im
   | _=>exact KR.bd
  | str a=>cases y with
   | int b=>exact KR.im
   | _=>exact KR.bd
  | tup a=>cases y with
   | int b=>exact KR.im
   | _=>exact KR.bd
  | ref a=>cases y with
   | int n =>
    show KR s (match s[a]? with|some (.lst l)=>if 0<=n/\n<=1000000/\l.length*n.toNat<=LIM then ac0 (.lst (aH3 n.toNat l)) s else .bad|_=>.bad)
    split
    ·exact KR.ia
    ·exact KR.bd
   | _=>exact KR.bd
  | _=>exact KR.bd
 | fdiv=>cases x with
  | int a=>cases y with
   | int b=>exact KR.im
   | _=>exact KR.bd
  | _=>exact KR.bd
 | mod=>cases x with
  | int a=>cases y with
   | int b=>exact KR.im
   | _=>exact KR.bd
  | _=>exact KR.bd
 | pow=>cases x with
  | int a=>cases y with
   | int b=>exact KR.im
   | _=>exact KR.bd
  | _=>exact KR.bd
 | shl=>cases x with
  | int a=>cases y with
   | int b=>exact KR.im
   | _=>exact KR.bd
  | _=>exact KR.bd
 | shr=>cases x with
  | int a=>cases y with
   | int b=>exact KR.im
   | _=>exact KR.bd
  | _=>exact KR.bd
 | band=>cases x with
  | int a=>cases y with
   | int b=>exact KR.im
   | _=>exact KR.bd
  | _=>exact KR.bd
 | _=>exact KR.bd
theorem aI7 (op:COp)(x y:D)(s:Sto):KR s (qp op x y s):=by
 have hin:∀ a b:D,KR s (inM a b s):=fun a b=>by
  intro r s' h
  unfold inM at h
  split at h
  ·split at h<;>cases h;exact KP.refl _
  ·split at h
   ·split at h<;>cases h;exact KP.refl _
   ·split at h<;>cases h;exact KP.refl _
   ·split at h<;>cases h;exact KP.refl _
   ·cases h
  ·split at h<;>cases h;exact KP.refl _
  ·cases h
 cases op with
 | isin=>intro a s' h;exact absurd h (by nofun)
 | notin=>intro a s' h;exact absurd h (by nofun)
 | eq=>intro a s' h;change eqM x y s=_ at h;unfold eqM at h;split at h<;>cases h;exact KP.refl _
 | ne =>
  intro a s' h
  change(match eqv s DEEP x y with|some r=>R.ok (D.bl (!r)) s|none=>.bad)=_ at h
  split at h<;>cases h;exact KP.refl _
 | _ =>
  intro a s' h
  cases x with
  | int i=>(cases y with
   | int j=>cases h;exact KP.refl _
   | _=>cases h)
  | _=>cases h
theorem bP4 (x y:D)(s:Sto):KR s (ixM x y s):=by
 intro a s' h
 unfold ixM at h
 repeat' split at h
 all_goals first|(cases h;exact KP.refl _;done)|(cases h;done)
theorem bs5 (x:D)(lo hi:Option Int)(s:Sto):KR s (slM x lo hi s):=by
 intro a s' h
 unfold slM at h
 repeat' split at h
 all_goals first|(cases h;exact KP.refl _;done)|(cases h;exact KP.app _ _;done)|(cases h;done)
theorem bj4 (x:D)(s:Sto):KR s (aT1 x s):=by
 intro a s' h
 unfold aT1 at h
 repeat' split at h
 all_goals first|(cases h;exact KP.refl _;done)|(cases h;done)
theorem aQ6 (x:D)(s:Sto):KR s (bt7 x s):=by
 intro a s' h
 unfold bt7 at h
 repeat' split at h
 all_goals first|(cases h;exact KP.refl _;done)|(cases h;done)
theorem bo8 (x:D)(s:Sto):KR s (be5 x s):=by
 intro a s' h
 unfold be5 at h
 repeat' split at h
 all_goals first|(cases h;exact KP.refl _;done)|(cases h;done)
theorem aC6 (x:D)(s:Sto):KR s (aE5 x s):=by
 intro a s' h
 unfold aE5 at h
 repeat' split at h
 all_goals first|(cases h;exact KP.refl _;done)|(cases h;done)
theorem aW5 (x:D)(s:Sto):KR s (aY7 x s):=by
 intro a s' h
 unfold aY7 at h
 repeat' split at h
 all_goals first|(cases h;exact KP.refl _;done)|(cases h;done)
theorem bi8 (x y:D)(s:Sto):KR s (bm6 x y s):=by
 intro a s' h
 unfold bm6 at h
 repeat' split at h
 all_goals first|(cases h;exact KP.refl _;done)|(cases h;done)
theorem bM9 (b:Bi)(l:List D)(s:Sto):KR s (bi b l s):=by
 have k1:∀ f:D->M D,(∀ d,KR s (f d s))->KR s (bi1 f l s):=fun f hf=>by
  cases l with
  | nil=>exact KR.bad
  | cons d t=>(cases t with
   | nil=>exact hf d
   | cons _ _=>exact KR.bad)
 have k2:∀ k d,KR s (isK k d s):=fun k d=>by
  intro a s' h
  unfold isK at h
  repeat' split at h
  all_goals first|(cases h;exact KP.refl _;done)|(cases h;done)
 have k3:∀ d,KR s (bu1 d s):=fun d=>by
  intro a s' h
  unfold bu1 at h
  repeat' split at h
  all_goals first|(cases h;exact KP.refl _;done)|(cases h;done)
 cases b with
 | len=>exact k1 _ k3
 | isInt=>exact k1 _ (k2 1)
 | isBool=>exact k1 _ (k2 2)
 | isStr=>exact k1 _ (k2 3)
 | isTup=>exact k1 _ (k2 4)
 | isList=>exact k1 _ (k2 5)
 | _ =>
  intro a s' h
  unfold bi at h
  first|(cases h;done)|(simp only at h;split at h<;>first|(cases h;exact KP.refl _;done)|(cases h;done))
theorem bz7 (k:Mk)(l:List D)(s:Sto):KR s (mk k l s):=by
 cases k with
 | tuple=>exact KR.ok
 | list=>exact KR.al
 | lenset=>exact KR.bad
 | _ =>
  intro a s' h
  unfold mk at h
  simp only at h
  repeat' split at h
  all_goals first|(cases h;exact KP.refl _;done)|(cases h;exact KP.app _ _;done)|(cases h;done)
theorem bg1 (k:Mk)(l:List D)(d:D)(s:Sto):KR s (mkD k l d s):=by
 intro a s' h
 unfold mkD at h
 repeat' split at h
 all_goals first|(cases h;exact KP.refl _;done)|(cases h;done)
theorem bp9 (m:Mt)(o:D)(l:List D)(s:Sto):KR s (meth m o l s):=by
 intro a s' h
 unfold meth at h
 repeat' split at h
 all_goals first|(cases h;done)|(cases h;exact KP.refl _;done)|(rename_i e _;cases h;exact KP.set e rfl;done)|(rename_i e _ _ _;cases h;exact KP.set e rfl;done)|(rename_i e;cases h;exact KP.set e rfl;done)|(rename_i e _ _;cases h;exact KP.set e rfl;done)
theorem aS0 (o:D)(l:List D)(s:Sto):KR s (bv3 o l s):=by
 intro a s' h
 unfold bv3 at h
 repeat' split at h
 all_goals first|(cases h;done)|(rename_i e _;cases h;exact KP.set e rfl;done)
theorem aW0 (o i v:D)(s:Sto):KR s (setIx o i v s):=by
 intro a s' h
 unfold setIx at h
 cases o with
 | ref r =>
  simp only at h
  cases e:s[r]? with
  | none=>rw[e]at h;cases h
  | some ob =>
   rw[e]at h
   cases ob with
   | lst l =>
    cases i with
    | int k=>simp only at h;split at h<;>cases h;exact KP.set e rfl
    | _=>cases h
   | dic l=>simp only at h;split at h<;>cases h;exact KP.set e rfl
   | dit l=>simp only at h;split at h<;>cases h;exact KP.set e rfl
   | _=>cases h
 | _=>cases h
theorem bq2 (o k e:D)(s:Sto):KR s (bJ8 o k e s):=by
 intro a s' h
 unfold bJ8 at h
 repeat' split at h
 all_goals first|(cases h;exact KP.refl _;done)|(cases h;done)
theorem bh7 (d:D)(s:Sto):KR s (bO4 d s):=by
 intro a s' h
 unfold bO4 at h
 repeat' split at h
 all_goals first|(cases h;exact KP.refl _;done)|(cases h;done)
structure FK (F:Fns):Prop where
 call:∀ f l s,KR s (F.call f l s)
 lam:∀ id cs l s,KR s (F.lam id cs l s)
 xcall:∀ f l s c s',F.xcall f l s=some (c,s')->KP s s'
theorem ao6 {ok:Sto->Bool}{g:D->Env->Sto->R (Option D×Env)}(hg:∀ d ρ s,KR s (g d ρ s)):∀(l:List D) (ρ:Env) (s:Sto),KR s (ac5 ok g l ρ s)
 | [],ρ,s=>KR.if KR.ok KR.bad
 | d::l,ρ,s=>KR.if (KR.bind (hg d ρ s) fun p s1=>KR.bind (ao6 hg l p.2 s1) fun r s2=>KR.ok) KR.bad
section
variable {F:Fns} (hF:FK F)
theorem aM6 (ρ:Env)(i:Nat)(s:Sto):KR s (ax1 ρ i s):=by
 intro a s' h
 unfold ax1 at h
 split at h<;>cases h;exact KP.refl _
include hF
mutual
theorem zd:∀(e:E) (ρ:Env) (s:Sto),KR s (ev F e ρ s)
 | .var i,ρ,s=>aM6 ρ i s
 | .cst c,ρ,s=>KR.ok
 | .glob x,ρ,s=>by
  intro a s' h
  change(match F.con x with|some d=>R.ok d s|none=>.bad)=_ at h
  split at h<;>cases h;exact KP.refl _
 | .bin op a b,ρ,s=>KR.bind (zd a ρ s) fun x s=>KR.bind (zd b ρ s) fun y s=>aU9 op x y s
 | .neg a,ρ,s=>KR.bind (zd a ρ s) fun x s=>by
  cases x with
  | int i=>exact KR.ok
  | _=>exact KR.bad
 | .not a,ρ,s=>KR.tru (zd a ρ s) fun b s=>KR.ok
 | .cmp op a b,ρ,s=>KR.bind (zd a ρ s) fun x s=>KR.bind (zd b ρ s) fun y s=>aI7 op x y s
 | .chain o p a b c,ρ,s=>KR.bind (zd a ρ s) fun x s=>KR.bind (zd b ρ s) fun y s=>KR.tru (aI7 o x y s) fun k s=>KR.if (KR.bind (zd c ρ s) fun z s=>aI7 p y z s) KR.ok
 | .isN a,ρ,s=>KR.bind (zd a ρ s) fun x s=>KR.ok
 | .notN a,ρ,s=>KR.bind (zd a ρ s) fun x s=>KR.ok
 | .isB a b,ρ,s=>KR.bind (zd a ρ s) fun x s=>by
  cases x with
  | bl i=>exact KR.ok
  | _=>exact KR.bad
 | .notB a b,ρ,s=>KR.bind (zd a ρ s) fun x s=>by
  cases x with
  | bl i=>exact KR.ok
  | _=>exact KR.bad
 | .and a b,ρ,s=>KR.tru (zd a ρ s) fun c s=>KR.if (KR.tru (zd b ρ s) fun c s=>KR.ok) KR.ok
 | .or a b,ρ,s=>KR.tru (zd a ρ s) fun c s=>KR.if KR.ok (KR.tru (zd b ρ s) fun c s=>KR.ok)
 | .ite c a b,ρ,s=>KR.tru (zd c ρ s) fun k s=>KR.if (zd a ρ s) (zd b ρ s)
 | .tup es,ρ,s=>KR.bind (ae6 es ρ s) fun l s=>KR.ok
 | .lst es,ρ,s=>KR.bind (ae6 es ρ s) fun l s=>KR.al
 | .dic .nil .nil,ρ,s=>KR.al
 | .dic (.cons k .nil) (.cons v .nil),ρ,s=>by
  intro a s' h
  obtain⟨kd,s1,e1,h⟩:=R.bind_inv (show(ev F k ρ (s++[.dic []])).bind _=_ from h)
  obtain⟨vd,s2,e2,h⟩:=R.bind_inv h
  split at h
  case isFalse=>cases h
  rename_i hc
  cases h
  exact((KP.app _ _).trans ((zd k ρ _ _ _ e1).trans (zd v ρ _ _ _ e2))).trans (KP.set hc.2 rfl)
 | .dic .nil (.cons _ _),ρ,s=>KR.bad
 | .dic (.cons _ .nil) .nil,ρ,s=>KR.bad
 | .dic (.cons _ .nil) (.cons _ (.cons _ _)),ρ,s=>KR.bad
 | .dic (.cons _ (.cons _ _)) _,ρ,s=>KR.bad
 | .dicT,ρ,s=>KR.al
 | .bitl a,ρ,s=>KR.bind (zd a ρ s) fun x s=>by
  intro a s' h
  unfold bB6 at h
  repeat' split at h
  all_goals first|(cases h;exact KP.refl _;done)|(cases h;done)
 | .lrng a,ρ,s=>KR.bind (zd a ρ s) fun x s=>by
  intro a s' h
  unfold bv4 at h
  repeat' split at h
  all_goals first|(cases h;exact KP.app _ _;done)|(cases h;done)
 | .get2 o k d,ρ,s=>KR.bind (zd o ρ s) fun x s=>KR.bind (zd k ρ s) fun y s=>KR.bind (zd d ρ s) fun z s=>bq2 x y z s
 | .ix a b,ρ,s=>KR.bind (zd a ρ s) fun x s=>KR.bind (zd b ρ s) fun y s=>bP4 x y s
 | .slL a lo,ρ,s=>KR.bind (zd a ρ s) fun x s=>KR.bind (zd lo ρ s) fun y s=>by
  cases y with
  | int i=>exact bs5 _ _ _ _
  | _=>exact KR.bad
 | .slU a hi,ρ,s=>KR.bind (zd a ρ s) fun x s=>KR.bind (zd hi ρ s) fun y s=>by
  cases y with
  | int i=>exact bs5 _ _ _ _
  | _=>exact KR.bad
 | .slLU a lo hi,ρ,s=>KR.bind (zd a ρ s) fun x s=>KR.bind (zd lo ρ s) fun y s=>by
  cases y with
  | int i =>
   refine KR.bind (zd hi ρ s) fun z s=>?_
   cases z with
   | int j=>exact bs5 _ _ _ _
   | _=>exact KR.bad
  | _=>exact KR.bad
 | .rev a,ρ,s=>KR.bind (zd a ρ s) fun x s=>by
  cases x with
  | str l=>exact KR.ok
  | ref r =>
   intro a s' h
   unfold bL3 at h
   repeat' split at h
   all_goals first|(cases h;exact KP.refl _;done)|(cases h;exact KP.app _ _;done)|(cases h;done)
  | _=>exact KR.bad
 | .call f as,ρ,s=>KR.bind (ag0 as ρ s) fun l s=>hF.call f l s
 | .callC f as,ρ,s=>KR.bind (ag0 as ρ s) fun l s=>KR.bind (hF.call f l s) fun d s'=>KR.if KR.ok KR.bad
 | .callV i es,ρ,s=>KR.bind (ae6 es ρ s) fun l s=>by
  intro a s' h
  split at h
  ·exact hF.call _ _ _ _ _ h
  ·exact hF.lam _ _ _ _ _ _ h
  ·cases h
 | .bi b es,ρ,s=>KR.bind (ae6 es ρ s) fun l s=>bM9 b l s
 | .mk k it,ρ,s=>KR.bind (aR1 it ρ s) fun q s=>bz7 k q s
 | .mkD k it d,ρ,s=>KR.bind (aR1 it ρ s) fun q s=>KR.bind (zd d ρ s) fun d s=>bg1 k q d s
 | .meth m o es,ρ,s=>KR.bind (zd o ρ s) fun x s=>KR.bind (ae6 es ρ s) fun l s=>bp9 m x l s
 | .ext o it,ρ,s=>KR.bind (zd o ρ s) fun x s=>KR.bind (aR1 it ρ s) fun q s=>aS0 x q s
 | .extS o e,ρ,s=>KR.bind (zd o ρ s) fun x s=>KR.bind (zd e ρ s) fun y s=>by
  intro a s' h
  unfold extS at h
  repeat' split at h
  all_goals first|(cases h;done)|exact aS0 _ _ _ _ _ h
 | .join o e,ρ,s=>KR.bind (zd o ρ s) fun x s=>KR.bind (zd e ρ s) fun y s=>bi8 x y s
 | .mks k e,ρ,s=>KR.bind (zd e ρ s) fun x s=>KR.bind (aQ6 x s) fun q s=>bz7 k q s
 | .mkDs k e d,ρ,s=>KR.bind (zd e ρ s) fun x s=>KR.bind (zd d ρ s) fun z s=>KR.bind (aQ6 x s) fun q s=>bg1 k q z s
theorem ae6:∀(es:Es) (ρ:Env) (s:Sto),KR s (evs F es ρ s)
 | .nil,ρ,s=>KR.ok
 | .cons e es,ρ,s=>KR.bind (zd e ρ s) fun d s=>KR.bind (ae6 es ρ s) fun l s=>KR.ok
theorem ag0:∀(as:As) (ρ:Env) (s:Sto),KR s (af6 F as ρ s)
 | .nil,ρ,s=>KR.ok
 | .ex e as,ρ,s=>KR.bind (zd e ρ s) fun d s=>KR.bind (ag0 as ρ s) fun l s=>KR.ok
 | .lam id caps as,ρ,s=>by
  intro a s' h
  change(match ad3 ρ caps with|some cs=>(af6 F as ρ s).bind fun l s=>R.ok (D.clo id cs::l) s|none=>.bad)=_ at h
  split at h
  ·exact KR.bind (ag0 as ρ s) (fun l s=>KR.ok) _ _ h
  ·cases h
 | .fn f as,ρ,s=>KR.bind (ag0 as ρ s) fun l s=>KR.ok
theorem aK4:∀(it:I) (ρ:Env) (s:Sto),KR s (evI F it ρ s)
 | .seq e,ρ,s=>KR.bind (zd e ρ s) fun d s=>bo8 d s
 | .rng1 a,ρ,s=>KR.bind (zd a ρ s) fun x s=>by
  cases x with
  | int i=>exact KR.if KR.ok KR.bad
  | _=>exact KR.bad
 | .rng2 a b,ρ,s=>KR.bind (zd a ρ s) fun x s=>KR.bind (zd b ρ s) fun y s=>by
  cases x with
  | int i=>(cases y with
   | int j=>exact KR.if KR.ok KR.bad
   | _=>exact KR.bad)
  | _=>exact KR.bad
 | .rng3 a b c,ρ,s=>KR.bind (zd a ρ s) fun x s=>KR.bind (zd b ρ s) fun y s=>by
  cases x with
  | int i=>(cases y with
   | int j=>exact KR.if KR.ok KR.bad
   | _=>exact KR.bad)
  | _=>exact KR.bad
 | .enum (.seq e),ρ,s=>KR.bind (zd e ρ s) fun d s=>KR.bind (aW5 d s) fun q s=>KR.ok
 | .zip (.seq a) (.seq b),ρ,s=>KR.bind (zd a ρ s) fun x s=>KR.bind (zd b ρ s) fun y s=>KR.bind (aC6 x s) fun p s=>KR.bind (aC6 y s) fun q s=>KR.ok
 | .enum (.rng1 _),ρ,s=>KR.bad
 | .enum (.rng2 _ _),ρ,s=>KR.bad
 | .enum (.rng3 _ _ _),ρ,s=>KR.bad
 | .enum (.enum _),ρ,s=>KR.bad
 | .enum (.zip _ _),ρ,s=>KR.bad
 | .enum (.items _),ρ,s=>KR.bad
 | .zip (.rng1 _) _,ρ,s=>KR.bad
 | .zip (.rng2 _ _) _,ρ,s=>KR.bad
 | .zip (.rng3 _ _ _) _,ρ,s=>KR.bad
 | .zip (.enum _) _,ρ,s=>KR.bad
 | .zip (.zip _ _) _,ρ,s=>KR.bad
 | .zip (.items _) _,ρ,s=>KR.bad
 | .zip (.seq _) (.rng1 _),ρ,s=>KR.bad
 | .zip (.seq _) (.rng2 _ _),ρ,s=>KR.bad
 | .zip (.seq _) (.rng3 _ _ _),ρ,s=>KR.bad
 | .zip (.seq _) (.enum _),ρ,s=>KR.bad
 | .zip (.seq _) (.zip _ _),ρ,s=>KR.bad
 | .zip (.seq _) (.items _),ρ,s=>KR.bad
 | .items e,ρ,s=>KR.bad
theorem aR1:∀(it:L) (ρ:Env) (s:Sto),KR s (evL F it ρ s)
 | .comp tg it e caps,ρ,s=>KR.bind (aK4 it ρ s) fun q s0=>KR.if (ao6 (fun d ρ s=>by
   intro a s' h
   split at h
   ·exact KR.bind (zd e _ s) (fun v s=>KR.ok) _ _ h
   ·cases h) _ _ _) KR.bad
 | .compIf tg it c e caps,ρ,s=>KR.bind (aK4 it ρ s) fun q s0=>KR.if (ao6 (fun d ρ s=>by
   intro a s' h
   split at h
   ·exact KR.tru (zd c _ s) (fun k s=>KR.if (KR.bind (zd e _ s) fun v s=>KR.ok) KR.ok) _ _ h
   ·cases h) _ _ _) KR.bad
 | .disp es,ρ,s=>ae6 es ρ s
 | .seq e,ρ,s=>KR.bind (zd e ρ s) fun d s=>bj4 d s
 | .itm e,ρ,s=>KR.bind (zd e ρ s) fun d s=>bh7 d s
end
theorem ay7 {ok:Sto->Bool}{g:D->Env->Sto->R Ct}(hg:∀ d ρ s,KR s (g d ρ s)):∀(l:List D) (ρ:Env) (s:Sto),KR s (aE6 ok g l ρ s)
 | [],ρ,s=>KR.if KR.ok KR.bad
 | d::l,ρ,s=>KR.if (KR.bind (hg d ρ s) fun c s=>by
   cases c with
   | next ρ=>exact ay7 hg l ρ s
   | cont ρ=>exact ay7 hg l ρ s
   | brk ρ=>exact KR.ok
   | ret d=>exact KR.ok) KR.bad
theorem az0 {c:Env->Sto->R D}{g:Env->Sto->R Ct}(hc:∀ ρ s,KR s (c ρ s))(hg:∀ ρ s,KR s (g ρ s)):∀(n:Nat) (ρ:Env) (s:Sto),KR s (qT c g n ρ s)
 | 0,ρ,s=>KR.bad
 | n+1,ρ,s=>KR.tru (hc ρ s) fun b s=>KR.if (KR.bind (hg ρ s) fun c' s=>by
   cases c' with
   | next ρ=>exact az0 hc hg n ρ s
   | cont ρ=>exact az0 hc hg n ρ s
   | brk ρ=>exact KR.ok
   | ret d=>exact KR.ok) KR.ok
mutual
theorem bz5:∀(st:S) (ρ:Env) (s:Sto),KR s (ex F st ρ s)
 | .asg tg e,ρ,s=>KR.bind (zd hF e ρ s) fun d s=>by
  intro a s' h
  split at h<;>cases h;exact KP.refl _
 | .setIx o i e,ρ,s=>KR.bind (zd hF e ρ s) fun d s=>KR.bind (zd hF o ρ s) fun x s=>KR.bind (zd hF i ρ s) fun y s=>KR.bind (aW0 x y d s) fun _ s=>KR.ok
 | .aug i e,ρ,s=>KR.bind (aM6 ρ i s) fun x s=>KR.bind (zd hF e ρ s) fun y s=>by
  intro a s' h
  repeat' split at h
  all_goals first|(cases h;exact KP.refl _;done)|(cases h;done)
 | .ex e,ρ,s=>KR.bind (zd hF e ρ s) fun d s=>KR.ok
 | .ret e,ρ,s=>KR.bind (zd hF e ρ s) fun d s=>KR.ok
 | .retN,ρ,s=>KR.ok
 | .ite c a b,ρ,s=>KR.tru (zd hF c ρ s) fun k s=>KR.if (ag9 a ρ s) (ag9 b ρ s)
 | .whl c b,ρ,s=>by
  intro r s' h
  change whl (ev F c) (exs F b) ρ s=_ at h
  unfold whl at h
  split at h
  ·exact az0 hF (fun ρ s=>zd hF c ρ s) (fun ρ s=>ag9 b ρ s) _ ρ s _ _ h
  ·cases h
 | .for_ tg it b,ρ,s=>KR.bind (aK4 hF it ρ s) fun q s0=>ay7 hF (fun d ρ s=>by
   intro a s' h
   split at h
   ·exact ag9 b _ _ _ _ h
   ·cases h) _ _ _
 | .pass,ρ,s=>KR.ok
 | .cont,ρ,s=>KR.ok
 | .brk,ρ,s=>KR.ok
 | .raise,ρ,s=>KR.bad
 | .und i,ρ,s=>by
  intro a s' h
  change(match ad8 ρ i with|some ρ=>R.ok (Ct.next ρ) s|none=>.bad)=_ at h
  split at h<;>cases h;exact KP.refl _
theorem ag9:∀(ss:Ss) (ρ:Env) (s:Sto),KR s (exs F ss ρ s)
 | .nil,ρ,s=>KR.ok
 | .cons st ss,ρ,s=>KR.bind (bz5 st ρ s) fun c s=>by
  cases c with
  | next ρ=>exact ag9 ss ρ s
  | _=>exact KR.ok
end
end
theorem qx {s st:Sto}{d:D}(h:KP s st):KR s (ab3 s d st):=by
 have tk:∀ t,KP s (st.take s.length++t):=fun t i o e=>by
  obtain⟨o',e',k⟩:=h i o e
  have hi:=(ag.mp e).1
  have hi':=(ag.mp e').1
  refine⟨o',?_,k⟩
  rw[aL (by rw[dq];omega),gW,if_pos hi];exact e'
 have tk0:KP s (st.take s.length):=by have:=tk [];rwa [bj]at this
 intro a s' e
 unfold ab3 at e
 repeat' split at e
 all_goals first|(cases e;exact tk0;done)|(cases e;exact tk _;done)|(cases e;exact h;done)|(cases e;done)
theorem aO4 {F:Fns}(hF:FK F):∀(b:XB) (ρ:Env) (s:Sto) (c:String) (s':Sto),xB F b ρ s=some (c,s')->KP s s'
 | .no,ρ,s,c,s',h=>by cases h
 | .rais d,ρ,s,c,s',h=>by
  change(if F.xc d=true then some (d,s)else none)=_ at h
  split at h
  ·cases h;exact KP.refl _
  ·cases h
 | .call f as,ρ,s,c,s',h=>by
  change(match af6 F as ρ s with|.ok l s1=>F.xcall f l s1|_=>none)=_ at h
  split at h
  ·rename_i l s1 e;exact(ag0 hF as ρ s _ _ e).trans (hF.xcall _ _ _ _ _ h)
  ·cases h
 | .iteT d a r,ρ,s,c,s',h=>by
  change(match ev F d ρ s with|.ok (.bl b) s1=>if b then xB F a ρ s1 else xB F r ρ s1|_=>none)=_ at h
  split at h
  ·rename_i b s1 e
   have k:=zd hF d ρ s _ _ e
   split at h
   ·exact k.trans (aO4 hF a _ _ _ _ h)
   ·exact k.trans (aO4 hF r _ _ _ _ h)
  ·cases h
 | .seq st b,ρ,s,c,s',h=>by
  change(match ex F st ρ s with|.ok (.next ρ1) s1=>xB F b ρ1 s1|_=>none)=_ at h
  split at h
  ·rename_i ρ1 s1 e;exact(bz5 hF st ρ s _ _ e).trans (aO4 hF b _ _ _ _ h)
  ·cases h
theorem br3 {F:Fns}(hF:FK F)(d:Tf)(l:List D)(s:Sto):KR s (bc1 F d l s):=by
 intro a s' h
 unfold bc1 at h
 split at h
 ·rename_i c s1 e
  have k:=aO4 hF _ _ _ _ _ e
  split at h
  ·exact qx k _ _ h
  ·cases h
 ·obtain⟨c,s1,e1,h⟩:=R.bind_inv h
  have k1:=ag9 hF _ _ _ _ _ e1
  cases c with
  | ret v=>exact qx k1 _ _ h
  | next ρ =>
   obtain⟨c,s2,e2,h⟩:=R.bind_inv h
   have k2:=k1.trans (ag9 hF _ _ _ _ _ e2)
   cases c with
   | ret v=>exact qx k2 _ _ h
   | next ρ=>exact qx k2 _ _ h
   | _=>cases h
  | _=>cases h
theorem ad2 (P:Pr):∀ n,FK (aa1 P n)
 | 0=>⟨fun _ _ _=>KR.bad,fun _ _ _ _=>KR.bad,fun _ _ _ _ _ h=>by cases h⟩
 | n+1=>by
  refine⟨fun f l s=>?_,fun id cs l s=>?_,fun f l s c s' h=>?_⟩
  ·intro a s' h
   unfold aa1 at h
   simp only at h
   split at h
   case h_2 =>
    split at h
    case h_2=>cases h
    split at h
    case isFalse=>cases h
    exact br3 (ad2 P n) _ _ _ _ _ h
   split at h
   case isFalse=>cases h
   obtain⟨c,s1,e1,h⟩:=R.bind_inv h
   have k1:=ag9 (ad2 P n) _ _ _ _ _ e1
   cases c with
   | ret v=>exact qx k1 _ _ h
   | next ρ=>exact qx k1 _ _ h
   | _=>cases h
  ·intro a s' h
   unfold aa1 at h
   simp only at h
   split at h
   case h_2=>cases h
   split at h
   case isFalse=>cases h
   obtain⟨v,s1,e1,h⟩:=R.bind_inv h
   exact qx (zd (ad2 P n) _ _ _ _ _ e1) _ _ h
  ·unfold aa1 at h
   simp only at h
   split at h
   case h_2=>cases h
   split at h
   case isFalse=>cases h
   exact aO4 (ad2 P n) _ _ _ _ _ h
end DV
end
open DV renaming Sto->jx,D->jy,Env->jA,R->jB,ev->jD,aa1->jF,LIM->jG,tru->jI,Pr->jJ,aq6->jK,Fns->jL,rep->jM,DEEP->jN,ac2->jP,Es->jQ,O->jR,eqv->jS,evs->jT,ad3->jU,kd->jV,eqL->jW,subC->jX,an3->jY,af6->jZ,Bi->j0,Tg->j1,Ct->j2,aH3->j3,chk->j4,look->j5,As->j6,ac0->j7,ixn->j8,qh->ka,ad9->ke,ax7->kg,M->kh,al7->ki,ah5->kj,ac5->km,E->kn,Sq->ko,qt->kq,mk->kr,Lm->kt,Df->ku,ak5->ky,meth->kz,Mk->kA,Mt->kB,Ss->kC,xB->kD,ay6->kE,COp->kF,pur->kG,bi1->kH,ax1->kI,aE6->kJ,bi->kK,BOp->kL,isK->kM,W62->kP,S->kQ,aW9->kR,evI->kS,exs->kT,ad8->kU,aq3->kW
open DV.D renaming bndL->jz,bnd->jC,hdI->jH,keyS->jO,nclL->j9,ncl->kN
open DV.O renaming bnd->jE,ncl->kO
noncomputable section
namespace L2
theorem fb {α:Type}{d:α}{s:jx}{p:Prop}(h:(DV.R.bad:jB α)=.ok d s):p:=nomatch h
open PySem PySem.Spec PyProof.Rows
structure LamI where
 qual:Str
 params:a9
 body:Expr
 scope:Scope
 ps:List Str
 fr:List Str
 nm:Option (Str×Pos)
def CloAt (H:Hp)(f:Addr)(J:LamI)(cap:List V)(clos:List (Str×Addr)):Prop:=match J.nm with
 | none=>au1 H f J.qual J.params J.body J.scope J.fr cap clos
 | some p=>ak2 H f p.1 J.qual J.params [.Return (some J.body) p.2] J.scope J.fr cap clos
def ae4 (H:Hp)(f:Addr)(J:LamI)(clos:List (Str×Addr)):Prop:=match J.nm with
 | none=>∃ pm c' ctv,H f=some (ap9 f (bI "<lambda>" J.qual J.params J.body J.scope clos pm (.ref c') ctv))/\H c'=some (qf c' J.qual)
 | some p=>∃ doc pm c' ctv,H f=some (ap9 f (bS p.1 J.qual J.params [.Return (some J.body) p.2] J.scope clos .none .none doc pm none (.ref c') ctv))/\H c'=some (qf c' J.qual)
structure Gm where
 K:ac
 fa:String->Option Addr
 lg:String->LamI->Prop
 T:List (Addr×Str)
variable (Γ:Gm)
mutual
noncomputable def RV (φ:Nat->Addr)(H:Hp):jy->V->Prop
 | .non,v=>v=.non
 | .bl b,v=>v=.bl b
 | .int i,v=>v=.int i
 | .str x,v=>v=.str ⟨x.toArray⟩/\x.length<=jG
 | .tup l,v=>∃ a xs,v=.ref a/\(SqT Γ.K H a xs/\(jH l=true->H a=some (.tup xs)))/\RVL φ H l xs
 | .ref n,v=>v=.ref (φ n)
 | .fn f,v=>∃ a,Γ.fa f=some a/\v=.ref a
 | .clo id cs,v=>∃ f cap J clos,v=.ref f/\Γ.lg id J/\CloAt H f J cap clos/\cap.length=J.fr.length/\RVL φ H cs cap
noncomputable def RVL (φ:Nat->Addr)(H:Hp):List jy->List V->Prop
 | [],xs=>xs=[]
 | d::l,xs=>∃ x r,xs=x::r/\RV φ H d x/\RVL φ H l r
end
noncomputable def bI1:HO->Bool
 | .tup _=>true
 | .frz _ _=>true
 | .ext _=>true
 | _=>false
def Kp (H H':Hp):Prop:=∀ b o,H b=some o->bI1 o=true->H' b=some o
theorem Kp.refl (H:Hp):Kp H H:=fun _ _ h _=>h
theorem Kp.trans {H H1 H2:Hp}(a:Kp H H1)(b:Kp H1 H2):Kp H H2:=fun c o h f=>b c o (a c o h f) f
theorem Kp.new {H H1:Hp}{p:Addr}{o:HO}(a:Kp H H1)(h:H1 p=none):Kp H (upd H1 p o):=fun c u e f=>by
 have e1:=a c u e f
 rw[za (zu e1 h)];exact e1
theorem Kp.put {H H1:Hp}{p:Addr}{o u:HO}(a:Kp H H1)(h:H1 p=some u)(hu:bI1 u=false):Kp H (upd H1 p o):=fun c v e f=>by
 have e1:=a c v e f
 rw[za (fun z=>by subst z;rw[h]at e1;cases e1;rw[hu]at f;cases f)];exact e1
theorem Kp.sqT {K:ac}{H H':Hp}{a:Addr}{xs:List V}(e:Kp H H')(h:SqT K H a xs):SqT K H' a xs:=by
 rcases h with(h|⟨o,h⟩)|h
 ·exact .inl (.inl (e _ _ h rfl))
 ·exact .inl (.inr ⟨o,e _ _ h rfl⟩)
 ·exact .inr h
theorem au1.kp {H H':Hp}{f:Addr}{qual:Str}{params:a9}{body:Expr}{scope:Scope}{fr:List Str}{cap:List V}{clos:List (Str×Addr)}(h:au1 H f qual params body scope fr cap clos)(e:Kp H H'):au1 H' f qual params body scope fr cap clos:=by
 obtain⟨pm,c',ctv,h1,h2,h3,h4,h5,h6⟩:=h
 refine⟨pm,c',ctv,e _ _ h1 rfl,e _ _ h2 rfl,fun x c q=>?_,h4,h5,fun i x v a b=>?_⟩
 ·obtain⟨o,v,z,d⟩:=h3 x c q
  exact⟨o,v,e _ _ z rfl,d⟩
 ·obtain⟨c,o,u,z1,z2,z3⟩:=h6 i x v a b
  exact⟨c,o,u,z1,e _ _ z2 rfl,z3⟩
theorem ak2.kp {H H':Hp}{f:Addr}{name qual:Str}{params:a9}{body:List Stmt}{scope:Scope}{fr:List Str}{cap:List V}{clos:List (Str×Addr)}(h:ak2 H f name qual params body scope fr cap clos)(e:Kp H H'):ak2 H' f name qual params body scope fr cap clos:=by
 obtain⟨doc,pm,c',ctv,h1,h2,h3,h4,h5,h6⟩:=h
 refine⟨doc,pm,c',ctv,e _ _ h1 rfl,e _ _ h2 rfl,fun x c q=>?_,h4,h5,fun i x v a b=>?_⟩
 ·obtain⟨o,v,z,d⟩:=h3 x c q
  exact⟨o,v,e _ _ z rfl,d⟩
 ·obtain⟨c,o,u,z1,z2,z3⟩:=h6 i x v a b
  exact⟨c,o,u,z1,e _ _ z2 rfl,z3⟩
theorem CloAt.kp {H H':Hp}{f:Addr}{J:LamI}{cap:List V}{clos:List (Str×Addr)}(h:CloAt H f J cap clos)(e:Kp H H'):CloAt H' f J cap clos:=by
 unfold CloAt at h ⊢
 cases q:J.nm with
 | none=>rw[q]at h;exact au1.kp h e
 | some p=>rw[q]at h;exact ak2.kp h e
theorem ae4.kp {H H':Hp}{f:Addr}{J:LamI}{clos:List (Str×Addr)}(h:ae4 H f J clos)(e:Kp H H'):ae4 H' f J clos:=by
 unfold ae4 at h ⊢
 cases q:J.nm with
 | none =>
  rw[q]at h
  obtain⟨pm,c',ctv,h1,h2⟩:=h
  exact⟨pm,c',ctv,e _ _ h1 rfl,e _ _ h2 rfl⟩
 | some p =>
  rw[q]at h
  obtain⟨doc,pm,c',ctv,h1,h2⟩:=h
  exact⟨doc,pm,c',ctv,e _ _ h1 rfl,e _ _ h2 rfl⟩
theorem CloAt.fn {K:ac}{H:Hp}{f:Addr}{J:LamI}{cap:List V}{clos:List (Str×Addr)}(h:CloAt H f J cap clos):bi2 K H f:=by
 unfold CloAt at h
 cases q:J.nm with
 | none=>rw[q]at h;obtain⟨pm,c',ctv,h1,_⟩:=h;exact .inl ⟨_,h1⟩
 | some p=>rw[q]at h;exact ak2.fn h
structure Gw (φ:Nat->Addr)(n:Nat)(H:Hp)(φ':Nat->Addr)(H':Hp):Prop where
 map:∀ i,i<n->φ' i=φ i
 kp:Kp H H'
variable {Γ:Gm}
mutual
theorem RV.monoW {φ φ':Nat->Addr}{n:Nat}{H H':Hp}(g:Gw φ n H φ' H'):∀(d:jy) (v:V),d.bnd n=true->RV Γ φ H d v->RV Γ φ' H' d v
 | .non,_,_,h=>by unfold RV at h ⊢;exact h
 | .bl _,_,_,h=>by unfold RV at h ⊢;exact h
 | .int _,_,_,h=>by unfold RV at h ⊢;exact h
 | .str _,_,_,h=>by unfold RV at h ⊢;exact h
 | .tup l,_,b,h=>by
  unfold RV at h ⊢
  unfold jC at b
  obtain⟨a,xs,e,q,r⟩:=h
  exact⟨a,xs,e,⟨g.kp.sqT q.1,fun z=>g.kp _ _ (q.2 z) rfl⟩,RVL.monoW g l xs b r⟩
 | .ref k,_,b,h=>by
  unfold RV at h ⊢
  unfold jC at b
  rw[g.map k (of_decide_eq_true b)];exact h
 | .fn _,_,_,h=>by unfold RV at h ⊢;exact h
 | .clo id cs,_,b,h=>by
  unfold RV at h ⊢
  unfold jC at b
  obtain⟨f,cap,J,clos,e,h1,h2,h3,h4⟩:=h
  exact⟨f,cap,J,clos,e,h1,h2.kp g.kp,h3,RVL.monoW g cs cap b h4⟩
theorem RVL.monoW {φ φ':Nat->Addr}{n:Nat}{H H':Hp}(g:Gw φ n H φ' H'):∀(l:List jy) (xs:List V),jz n l=true->RVL Γ φ H l xs->RVL Γ φ' H' l xs
 | [],_,_,h=>by unfold RVL at h ⊢;exact h
 | d::l,_,b,h=>by
  unfold RVL at h ⊢
  unfold jz at b
  rw[af]at b
  obtain⟨x,r,e,q,t⟩:=h
  exact⟨x,r,e,RV.monoW g d x b.1 q,RVL.monoW g l r b.2 t⟩
end
mutual
theorem zx {n m:Nat}(h:n<=m):∀ d:jy,d.bnd n=true->d.bnd m=true
 | .non,_=>rfl
 | .bl _,_=>rfl
 | .int _,_=>rfl
 | .str _,_=>rfl
 | .tup l,b=>by unfold jC at b ⊢;exact aa6 h l b
 | .ref k,b=>by unfold jC at b ⊢;exact decide_eq_true (am (of_decide_eq_true b) h)
 | .fn _,_=>rfl
 | .clo _ l,b=>by unfold jC at b ⊢;exact aa6 h l b
theorem aa6 {n m:Nat}(h:n<=m):∀ l:List jy,jz n l=true->jz m l=true
 | [],_=>rfl
 | d::l,b=>by
  unfold jz at b ⊢
  rw[af]at b ⊢
  exact⟨zx h d b.1,aa6 h l b.2⟩
end
theorem aa9 {n:Nat}:∀ {l:List jy},jz n l=true↔∀ d∈l,d.bnd n=true
 | []=>by unfold jz;simp
 | d::l=>by
  unfold jz
  rw[af,aa9 (l:=l)]
  simp
theorem zU {n:Nat}{l m:List jy}(h:jz n l=true)(h':jz n m=true):jz n (l++m)=true :=
 aa9.mpr fun d hd=>(bZ.mp hd).elim (aa9.mp h d) (aa9.mp h' d)
theorem ai4 {n:Nat}{l:List jy}{i:Nat}{d:jy}(h:jz n l=true)(e:l[i]?=some d):d.bnd n=true:=aa9.mp h d (br e)
section
variable {φ:Nat->Addr} {H:Hp}
theorem RVL.nil:RVL Γ φ H [] []:=by unfold RVL;rfl
theorem RVL.cons {d:jy}{l:List jy}{x:V}{xs:List V}(a:RV Γ φ H d x)(b:RVL Γ φ H l xs):RVL Γ φ H (d::l) (x::xs):=by unfold RVL;exact⟨x,xs,rfl,a,b⟩
theorem RVL.unnil {xs:List V}(h:RVL Γ φ H [] xs):xs=[]:=by unfold RVL at h;exact h
theorem RVL.uncons {d:jy}{l:List jy}{xs:List V}(h:RVL Γ φ H (d::l) xs):∃ x r,xs=x::r/\RV Γ φ H d x/\RVL Γ φ H l r:=by unfold RVL at h;exact h
theorem RVL.length:∀ {l:List jy} {xs:List V},RVL Γ φ H l xs->xs.length=l.length
 | [],_,h=>by rw[h.unnil];rfl
 | d::l,_,h=>by
  obtain⟨x,r,rfl,_,t⟩:=h.uncons
  rw[aQ,aQ,RVL.length t]
theorem RVL.get:∀ {l:List jy} {xs:List V} {i:Nat} {d:jy},RVL Γ φ H l xs->l[i]?=some d->∃ x,xs[i]?=some x/\RV Γ φ H d x
 | [],_,_,_,_,e=>by simp at e
 | d::l,_,0,d',h,e=>by
  obtain⟨x,r,rfl,q,t⟩:=h.uncons
  have e':d=d':=by simpa using e
  subst e'
  exact⟨x,rfl,q⟩
 | d::l,_,i+1,_,h,e=>by
  obtain⟨x,r,rfl,q,t⟩:=h.uncons
  obtain⟨y,e1,e2⟩:=RVL.get (i:=i) t (by simpa using e)
  exact⟨y,by simpa using e1,e2⟩
theorem RVL.append:∀ {l m:List jy} {xs ys:List V},RVL Γ φ H l xs->RVL Γ φ H m ys->RVL Γ φ H (l++m) (xs++ys)
 | [],_,_,_,h,h'=>by rw[h.unnil];exact h'
 | d::l,_,_,_,h,h'=>by
  obtain⟨x,r,rfl,q,t⟩:=h.uncons
  exact .cons q (RVL.append t h')
theorem RVL.drop:∀ {l:List jy} {xs:List V} (n:Nat),RVL Γ φ H l xs->RVL Γ φ H (l.drop n) (xs.drop n)
 | _,_,0,h=>h
 | [],_,n+1,h=>by rw[h.unnil];exact .nil
 | d::l,_,n+1,h=>by
  obtain⟨x,r,rfl,q,t⟩:=h.uncons
  exact RVL.drop n t
theorem RVL.take:∀ {l:List jy} {xs:List V} (n:Nat),RVL Γ φ H l xs->RVL Γ φ H (l.take n) (xs.take n)
 | _,_,0,h=>.nil
 | [],_,n+1,h=>by rw[h.unnil];exact .nil
 | d::l,_,n+1,h=>by
  obtain⟨x,r,rfl,q,t⟩:=h.uncons
  exact .cons q (RVL.take n t)
theorem RVL.set:∀ {l:List jy} {xs:List V} {d:jy} {x:V} (i:Nat),RVL Γ φ H l xs->RV Γ φ H d x->RVL Γ φ H (l.set i d) (xs.set i x)
 | [],_,_,_,_,h,_=>by rw[h.unnil];exact .nil
 | d::l,_,_,_,0,h,q=>by
  obtain⟨x,r,rfl,_,t⟩:=h.uncons
  exact .cons q t
 | d::l,_,_,_,i+1,h,q=>by
  obtain⟨x,r,rfl,q',t⟩:=h.uncons
  exact .cons q' (RVL.set i t q)
theorem RVL.reverse:∀ {l:List jy} {xs:List V},RVL Γ φ H l xs->RVL Γ φ H l.reverse xs.reverse
 | [],_,h=>by rw[h.unnil];exact .nil
 | d::l,_,h=>by
  obtain⟨x,r,rfl,q,t⟩:=h.uncons
  rw[c6,c6]
  exact(RVL.reverse t).append (.cons q .nil)
theorem RV.intE {i:Int}{v:V}(h:RV Γ φ H (.int i) v):v=.int i:=by unfold RV at h;exact h
theorem RV.blE {i:Bool}{v:V}(h:RV Γ φ H (.bl i) v):v=.bl i:=by unfold RV at h;exact h
theorem RV.nonE {v:V}(h:RV Γ φ H .non v):v=.non:=by unfold RV at h;exact h
theorem RV.strE {x:List Nat}{v:V}(h:RV Γ φ H (.str x) v):v=.str ⟨x.toArray⟩:=by unfold RV at h;exact h.1
theorem RV.strL {x:List Nat}{v:V}(h:RV Γ φ H (.str x) v):x.length<=jG:=by unfold RV at h;exact h.2
theorem RV.tupE {l:List jy}{v:V}(h:RV Γ φ H (.tup l) v):∃ a xs,v=.ref a/\SqT Γ.K H a xs/\RVL Γ φ H l xs:=by unfold RV at h;obtain⟨a,xs,e,q,r⟩:=h;exact⟨a,xs,e,q.1,r⟩
theorem RV.tupZ {l:List jy}{v:V}(h:RV Γ φ H (.tup l) v):∃ a xs,(v=.ref a/\(jH l=true->H a=some (.tup xs)))/\SqT Γ.K H a xs/\RVL Γ φ H l xs:=by unfold RV at h;obtain⟨a,xs,e,q,r⟩:=h;exact⟨a,xs,⟨e,q.2⟩,q.1,r⟩
theorem RVL.tonil {l:List jy}(h:RVL Γ φ H l []):l=[]:=eZ.mp h.length.symm
theorem RV.tupK {l:List jy}{v:V}(h:RV Γ φ H (.tup l) v)(z:jH l=true):∃ a xs,v=.ref a/\H a=some (.tup xs)/\RVL Γ φ H l xs:=by unfold RV at h;obtain⟨a,xs,e,q,r⟩:=h;exact⟨a,xs,e,q.2 z,r⟩
theorem RV.refE {n:Nat}{v:V}(h:RV Γ φ H (.ref n) v):v=.ref (φ n):=by unfold RV at h;exact h
theorem RV.intI {i:Int}:RV Γ φ H (.int i) (.int i):=by unfold RV;rfl
theorem RV.blI {i:Bool}:RV Γ φ H (.bl i) (.bl i):=by unfold RV;rfl
theorem RV.nonI:RV Γ φ H .non .non:=by unfold RV;rfl
theorem RV.strI {x:List Nat}(h:x.length<=jG):RV Γ φ H (.str x) (.str ⟨x.toArray⟩):=by unfold RV;exact⟨rfl,h⟩
theorem RV.tupI {l:List jy}{a:Addr}{xs:List V}(h:H a=some (.tup xs))(q:RVL Γ φ H l xs):RV Γ φ H (.tup l) (.ref a):=by unfold RV;exact⟨a,xs,rfl,⟨SqT.of h,fun _=>h⟩,q⟩
theorem RV.tupC {l:List jy}{a:Addr}{xs:List V}(h:SqT Γ.K H a xs)(z:jH l=true->H a=some (.tup xs))(q:RVL Γ φ H l xs):RV Γ φ H (.tup l) (.ref a):=by unfold RV;exact⟨a,xs,rfl,⟨h,z⟩,q⟩
theorem RV.refI {n:Nat}:RV Γ φ H (.ref n) (.ref (φ n)):=by unfold RV;rfl
end
theorem bn1 {n:Nat}{l:List jy}(h:jH (j3 n l)=true):jH l=true:=by
 cases n with
 | zero=>cases h
 | succ n =>
  cases l with
  | nil => 
   have:∀ k,j3 k ([]:List jy)=[]:=fun k=>by
    induction k with
    | zero=>rfl
    | succ k ih=>show[]++j3 k []=[];rw[ih];rfl
   rw[this]at h;cases h
  | cons a l =>
   have e:j3 (n+1) (a::l)=a::(l++j3 n (a::l)):=rfl
   rw[e]at h
   cases a with
   | int _=>rfl
   | _=>cases h
def SqF (K:ac)(H:Hp)(a:Addr)(xs:List V):Prop:=SqL K H a xs/\∀ H',Kp H H'->SqL K H' a xs
noncomputable def ax5:jy->Option Key
 | .int i=>some (.inl i)
 | .str x=>some (.inr ⟨x.toArray⟩)
 | _=>none
noncomputable def qk:List jy->Option (List Key)
 | []=>some []
 | d::l=>match ax5 d,qk l with
  | some k,some r=>some (k::r)
  | _,_=>none
noncomputable def bB9:jy->Option (List Key)
 | .tup l=>if(jH l&&(l.all jO&&decide (l.length<=1000)))=true then qk l else none
 | _=>none
noncomputable def RVD {κ:Type}(kf:jy->Option κ)(Γ:Gm)(φ:Nat->Addr)(H:Hp):List (jy×jy)->List (κ×V)->Prop
 | [],kvs=>kvs=[]
 | (d,e)::l,kvs=>∃ k v r,kvs=(k,v)::r/\kf d=some k/\RV Γ φ H e v/\RVD kf Γ φ H l r
variable (Γ)
noncomputable def RO (φ:Nat->Addr)(H:Hp)(a:Addr):jR->Prop
 | .lst l=>∃ xs,H a=some (.lst xs)/\RVL Γ φ H l xs
 | .ro l=>∃ xs,SqF Γ.K H a xs/\RVL Γ φ H l xs
 | .dic l=>∃ kvs,H a=some (.dK kvs)/\RVD ax5 Γ φ H l kvs
 | .dit l=>∃ kvs,H a=some (.dT kvs)/\RVD bB9 Γ φ H l kvs
 | .ins _ _=>False
noncomputable abbrev okd:jR->Nat:=DV.O.kd
noncomputable def isMut:jR->Bool
 | .ro _=>false
 | _=>true
structure Rp (φ:Nat->Addr)(H:Hp)(s:jx):Prop where
 inj:∀(i j:Nat) (o o':jR),s[i]?=some o->s[j]?=some o'->isMut o=true->isMut o'=true->φ i=φ j->i=j
 obj:∀(i:Nat) (o:jR),s[i]?=some o->RO Γ φ H (φ i) o
 wf:∀(i:Nat) (o:jR),s[i]?=some o->o.bnd s.length=true
 tab:TabsH Γ.T H
structure RE (φ:Nat->Addr)(H:Hp)(n:Nat)(ρ:jA)(σ:St):Prop where
 len:ρ.length=σ.length
 val:∀(i:Nat) (d:jy),ρ[i]?=some (some d)->d.bnd n=true/\∃ v,σ[i]?=some (some v)/\RV Γ φ H d v
structure Gr (φ:Nat->Addr)(s:jx)(H:Hp)(φ':Nat->Addr)(s':jx)(H':Hp):Prop where
 w:Gw φ s.length H φ' H'
 le:s.length<=s'.length
 new:∀ i:Nat,s.length<=i->i<s'.length->H (φ' i)=none
 kd:∀(i:Nat) (o o':jR),s[i]?=some o->s'[i]?=some o'->okd o'=okd o
 st:∀ b,H b≠none->H' b≠none
 fr:∀ b o,H b=some o->(∀ ps,o≠.tbl ps)->(∀(i:Nat) (ob:jR),s[i]?=some ob->isMut ob=true->φ i≠b)->H' b=some o
variable {Γ}
theorem bp6 {o o':jR}(h:okd o'=okd o)(m:isMut o'=true):isMut o=true:=by
 cases o with
 | ro _=>cases o' with
  | ro _=>cases m
  | _=>cases h
 | _=>rfl
theorem Gr.mu {φ φ':Nat->Addr}{s s':jx}{H H':Hp}(g:Gr φ s H φ' s' H')(i:Nat)(o o':jR)(e:s[i]?=some o)(e':s'[i]?=some o')(m:isMut o'=true):isMut o=true:=bp6 (g.kd i o o' e e') m
theorem Gr.refl (φ:Nat->Addr)(s:jx)(H:Hp):Gr φ s H φ s H:=⟨⟨fun _ _=>rfl,Kp.refl H⟩,ai _,fun i h1 h2=>absurd h2 (by omega),fun i o o' e e'=>by rw[e]at e';cases e';rfl,fun _ h=>h,fun _ _ h _ _=>h⟩
theorem Gr.trans {φ φ1 φ2:Nat->Addr}{s s1 s2:jx}{H H1 H2:Hp}(a:Gr φ s H φ1 s1 H1)(b:Gr φ1 s1 H1 φ2 s2 H2)(_h:s.length<=s1.length):Gr φ s H φ2 s2 H2:=by
 refine⟨⟨fun i hi=>(b.w.map i (am hi a.le)).trans (a.w.map i hi),a.w.kp.trans b.w.kp⟩,aw a.le b.le,fun i h1 h2=>?_,fun i o o' e e'=>?_,fun c h=>b.st c (a.st c h),fun c o h nt ne=>?_⟩
 ·by_cases hi:i<s1.length
  ·rw[b.w.map i hi];exact a.new i h1 hi
  ·have e:=b.new i (by omega) h2
   cases q:H (φ2 i)with
   | none=>rfl
   | some o=>exact absurd e (a.st _ (by rw[q];simp))
 ·have hl:i<s1.length:=am (ag.mp e).1 a.le
  obtain⟨o1,e1⟩:∃ o1,s1[i]?=some o1:=⟨s1[i],aj hl⟩
  exact(b.kd i o1 o' e1 e').trans (a.kd i o o1 e e1)
 ·refine b.fr c o (a.fr c o h nt ne) nt fun i ob e m z=>?_
  by_cases hi:i<s.length
  ·obtain⟨o0,e0⟩:∃ o0,s[i]?=some o0:=⟨s[i],aj hi⟩
   exact ne i o0 e0 (a.mu i o0 ob e0 e m) (by rw[<-a.w.map i hi];exact z)
  ·have:=a.new i (by omega) (ag.mp e).1
   rw[z,h]at this;cases this
theorem RV.mono {φ φ':Nat->Addr}{s s':jx}{H H':Hp}(g:Gr φ s H φ' s' H')(d:jy)(v:V)(b:d.bnd s.length=true)(h:RV Γ φ H d v):RV Γ φ' H' d v:=RV.monoW g.w d v b h
theorem RVL.mono {φ φ':Nat->Addr}{s s':jx}{H H':Hp}(g:Gr φ s H φ' s' H')(d:List jy)(v:List V)(b:jz s.length d=true)(h:RVL Γ φ H d v):RVL Γ φ' H' d v:=RVL.monoW g.w d v b h
theorem RE.mono {φ φ':Nat->Addr}{s s':jx}{H H':Hp}{ρ:jA}{σ:St}(h:RE Γ φ H s.length ρ σ)(g:Gr φ s H φ' s' H')(hn:s.length<=s'.length):RE Γ φ' H' s'.length ρ σ :=
 ⟨h.len,fun i d e=>by
  obtain⟨b,v,e1,e2⟩:=h.val i d e
  exact⟨zx hn d b,v,e1,RV.mono g d v b e2⟩⟩
def ad0 (Γ:Gm)(φ:Nat->Addr)(s:jx)(H:Hp)(d:jy)(s':jx)(Q:VK):Prop :=
 ∀ v φ' H',Gr φ s H φ' s' H'->s.length<=s'.length->d.bnd s'.length=true->RV Γ φ' H' d v->Rp Γ φ' H' s'->Q v H'
theorem ad0.trans {φ φ1:Nat->Addr}{s s1 s':jx}{H H1:Hp}{d:jy}{Q:VK}(h:ad0 Γ φ s H d s' Q)(g:Gr φ s H φ1 s1 H1)(l:s.length<=s1.length):ad0 Γ φ1 s1 H1 d s' Q :=
 fun v φ' H' g' l' b r p=>h v φ' H' (g.trans g' l) (aw l l') b r p
theorem ad0.here {φ:Nat->Addr}{s:jx}{H:Hp}{d:jy}{Q:VK}{v:V}(h:ad0 Γ φ s H d s Q)(p:Rp Γ φ H s)(b:d.bnd s.length=true)(r:RV Γ φ H d v):Q v H :=
 h v φ H (Gr.refl φ s H) (ai _) b r p
theorem RVD.monoW {κ:Type}{kf:jy->Option κ}{φ φ':Nat->Addr}{n:Nat}{H H':Hp}(g:Gw φ n H φ' H'):∀(l:List (jy×jy)) (kvs:List (κ×V)),jz n (l.map (·.2))=true->RVD kf Γ φ H l kvs->RVD kf Γ φ' H' l kvs
 | [],_,_,h=>h
 | (d,e)::l,_,b,h=>by
  obtain⟨k,v,r,e1,e2,e3,e4⟩:=h
  rw[aJ]at b
  unfold jz at b
  rw[af]at b
  exact⟨k,v,r,e1,e2,RV.monoW g e v b.1 e3,RVD.monoW g l r b.2 e4⟩
theorem RO.mono {φ φ':Nat->Addr}{n:Nat}{H H':Hp}{a:Addr}{o:jR}(h:RO Γ φ H a o)(g:Gw φ n H φ' H')(b:o.bnd n=true)(hl:isMut o=true->∀ u,H a=some u->H' a=some u):RO Γ φ' H' a o:=by
 cases o with
 | lst l =>
  unfold jE at b
  obtain⟨xs,e,r⟩:=h
  exact⟨xs,hl rfl _ e,RVL.monoW g l xs b r⟩
 | ro l =>
  unfold jE at b
  obtain⟨xs,e,r⟩:=h
  exact⟨xs,⟨e.2 _ g.kp,fun H2 k=>e.2 _ (g.kp.trans k)⟩,RVL.monoW g l xs b r⟩
 | dic l =>
  unfold jE at b
  rw[af]at b
  obtain⟨kvs,e,r⟩:=h
  exact⟨kvs,hl rfl _ e,RVD.monoW g l kvs b.2 r⟩
 | dit l =>
  unfold jE at b
  rw[af]at b
  obtain⟨kvs,e,r⟩:=h
  exact⟨kvs,hl rfl _ e,RVD.monoW g l kvs b.2 r⟩
 | ins _ _=>exact h.elim
theorem RO.there {φ:Nat->Addr}{H:Hp}{a:Addr}{o:jR}(h:RO Γ φ H a o)(m:isMut o=true):∃ u,H a=some u/\bI1 u=false/\∀ ps,u≠.tbl ps:=by
 cases o with
 | lst l=>obtain⟨xs,e,_⟩:=h;exact⟨_,e,rfl,by nofun⟩
 | ro l=>cases m
 | dic l=>obtain⟨xs,e,_⟩:=h;exact⟨_,e,rfl,by nofun⟩
 | dit l=>obtain⟨xs,e,_⟩:=h;exact⟨_,e,rfl,by nofun⟩
 | ins _ _=>exact h.elim
theorem Rp.addr {φ:Nat->Addr}{H:Hp}{s:jx}(p:Rp Γ φ H s){i:Nat}{l:List jy}(e:s[i]?=some (.lst l)):∃ xs,H (φ i)=some (.lst xs)/\RVL Γ φ H l xs:=p.obj i _ e
theorem qa {n m:Nat}(h:n<=m)(o:jR)(b:o.bnd n=true):o.bnd m=true:=by
 cases o with
 | lst l=>unfold jE at b ⊢;exact aa6 h l b
 | ro l=>unfold jE at b ⊢;exact aa6 h l b
 | dic l =>
  unfold jE at b ⊢
  rw[af]at b ⊢
  exact⟨aa6 h _ b.1,aa6 h _ b.2⟩
 | dit l =>
  unfold jE at b ⊢
  rw[af]at b ⊢
  exact⟨aa6 h _ b.1,aa6 h _ b.2⟩
 | ins c l=>unfold jE at b ⊢;exact aa6 h _ b
theorem TabsH.keepF {T:List (Addr×Str)}{H H':Hp}(h:TabsH T H)(k:∀ b o,(bI1 o=true\/∃ ps,o=.tbl ps)->H b=some o->H' b=some o):TabsH T H':=fun y hy=>by
 obtain⟨ps,e,t,c⟩:=h y hy
 refine⟨ps,k _ _ (.inr ⟨_,rfl⟩) e,t,fun pos cv q=>?_⟩
 obtain⟨c',e1,e2⟩:=c pos cv q
 exact⟨c',e1,k _ _ (.inl rfl) e2⟩
theorem Rp.new {φ:Nat->Addr}{H:Hp}{s:jx}{p:Addr}{u:HO}{o:jR}(r:Rp Γ φ H s)(hp:H p=none)(hb:o.bnd s.length=true)
  (ho:∀ φ' H',Gw φ s.length H φ' H'->H' p=some u->RO Γ φ' H' p o):Gr φ s H (fun i=>if i=s.length then p else φ i) (s++[o]) (upd H p u)/\Rp Γ (fun i=>if i=s.length then p else φ i) (upd H p u) (s++[o]):=by
 have g:Gw φ s.length H (fun i=>if i=s.length then p else φ i) (upd H p u):=⟨fun i hi=>if_neg (ax hi),(Kp.refl H).new hp⟩
 have key:∀ i o',(s++[o])[i]?=some o'->(i<s.length/\s[i]?=some o')\/(i=s.length/\o'=o):=fun i o' e=>by
  rcases eD i s.length with h|h|h
  ·rw[aL h]at e;exact .inl ⟨h,e⟩
  ·subst h;simp at e;exact .inr ⟨rfl,e.symm⟩
  ·rw[bH (by simp;omega)]at e;cases e
 refine⟨⟨g,by simp,fun i h1 h2=>?_,fun i o1 o2 e1 e2=>?_,fun b hb=>?_,fun b ob hb _ _=>by rw[za (zu hb hp)];exact hb⟩,fun i j oi oj ei ej mi mj e=>?_,fun i o' e=>?_,fun i o' e=>?_,r.tab.new hp⟩
 ·rw[aV,cC]at h2
  rw[if_pos (by omega)];exact hp
 ·rcases key i o2 e2 with⟨_,e⟩|⟨hi,_⟩
  ·rw[e1]at e;cases e;rfl
  ·have:=(ag.mp e1).1;omega
 ·unfold upd;split
  ·simp
  ·exact hb
 ·rcases key i oi ei with⟨hi,ei⟩|⟨hi,rfl⟩<;>rcases key j oj ej with⟨hj,ej⟩|⟨hj,ej'⟩
  ·rw[if_neg (ax hi),if_neg (ax hj)]at e
   exact r.inj i j oi oj ei ej mi mj e
  ·rw[if_neg (ax hi),if_pos hj]at e
   obtain⟨u,hu,_,_⟩:=(r.obj i oi ei).there mi
   rw[e,hp]at hu;cases hu
  ·rw[if_neg (ax hj),if_pos hi]at e
   obtain⟨u,hu,_,_⟩:=(r.obj j oj ej).there mj
   rw[<-e,hp]at hu;cases hu
  ·rw[hi,hj]
 ·rcases key i o' e with⟨hi,e⟩|⟨hi,rfl⟩
  ·show RO Γ _ _ (if i=s.length then p else φ i) o'
   rw[if_neg (ax hi)]
   exact(r.obj i o' e).mono g (r.wf i o' e) fun _ v hv=>by rw[za (zu hv hp)];exact hv
  ·show RO Γ _ _ (if i=s.length then p else φ i) o'
   rw[if_pos hi]
   exact ho _ _ g zb
 ·rw[aV,cC]
  rcases key i o' e with⟨hi,e⟩|⟨hi,rfl⟩
  ·exact qa (dG _) _ (r.wf i o' e)
  ·exact qa (dG _) _ hb
theorem Rp.set {φ:Nat->Addr}{H:Hp}{s:jx}{k:Nat}{u:HO}{o o0:jR}(r:Rp Γ φ H s)(hk:s[k]?=some o0)(m0:isMut o0=true)(hb:o.bnd s.length=true)
  (ho:∀ H',Gw φ s.length H φ H'->H' (φ k)=some u->RO Γ φ H' (φ k) o) (hkd:okd o=okd o0:=by rfl):Gr φ s H φ (s.set k o) (upd H (φ k) u)/\Rp Γ φ (upd H (φ k) u) (s.set k o):=by
 obtain⟨v0,hv0,f0,nt0⟩:=(r.obj k o0 hk).there m0
 have hkl:k<s.length:=(ag.mp hk).1
 have g:Gw φ s.length H φ (upd H (φ k) u):=⟨fun _ _=>rfl,(Kp.refl H).put hv0 f0⟩
 have key:∀ i o',(s.set k o)[i]?=some o'->(i≠k/\s[i]?=some o')\/(i=k/\o'=o):=fun i o' e=>by
  by_cases h:i=k
  ·subst h;rw[aR hkl]at e;exact .inr ⟨rfl,(az e).symm⟩
  ·rw[bo (bL h)]at e;exact .inl ⟨h,e⟩
 have mm:∀ i o',(s.set k o)[i]?=some o'->isMut o'=true->∃ o'',s[i]?=some o''/\isMut o''=true:=fun i o' e m=>by
  rcases key i o' e with⟨_,e⟩|⟨h,_⟩
  ·exact⟨o',e,m⟩
  ·exact⟨o0,by rw[h];exact hk,m0⟩
 refine⟨⟨g,by simp,fun i h1 h2=>by rw[aY]at h2;omega,fun i o1 o2 e1 e2=>?_,fun b hb=>?_,fun b ob hb nt ne=>by rw[za (bL (ne k o0 hk m0))];exact hb⟩,fun i j oi oj ei ej mi mj e=>?_,fun i o' e=>?_,fun i o' e=>?_,r.tab.keepF fun b v hv q=>?_⟩
 ·rcases key i o2 e2 with⟨_,e⟩|⟨h,rfl⟩
  ·rw[e1]at e;cases e;rfl
  ·subst h;rw[hk]at e1;cases e1;exact hkd
 ·unfold upd;split
  ·simp
  ·exact hb
 ·obtain⟨o1,e1,m1⟩:=mm i oi ei mi
  obtain⟨o2,e2,m2⟩:=mm j oj ej mj
  exact r.inj i j o1 o2 e1 e2 m1 m2 e
 ·rcases key i o' e with⟨h,e⟩|⟨h,rfl⟩
  ·refine(r.obj i o' e).mono g (r.wf i o' e) fun m v hv=>?_
   rw[za fun z=>h (r.inj i k o' o0 e hk m m0 z)];exact hv
  ·subst h
   exact ho _ g zb
 ·rw[aY]
  rcases key i o' e with⟨_,e⟩|⟨_,rfl⟩
  ·exact r.wf i o' e
  ·exact hb
 ·rw[za fun z=>by
   subst z;rw[hv0]at q;cases q
   rcases hv with h|⟨ps,h⟩
   ·rw[f0]at h;cases h
   ·exact nt0 _ h]
  exact q
theorem Rp.same {φ:Nat->Addr}{H H':Hp}{s:jx}(r:Rp Γ φ H s)(e:ac8 H H'):Gr φ s H φ s H'/\Rp Γ φ H' s:=by
 have g:Gw φ s.length H φ H':=⟨fun _ _=>rfl,fun b o h _=>e b o h⟩
 exact⟨⟨g,ai _,fun i h1 h2=>absurd h2 (by omega),fun i o o' e e'=>by rw[e]at e';cases e';rfl,fun b hb=>by
  cases q:H b with
  | none=>exact absurd q hb
  | some o=>rw[e b o q];simp,fun b o h _ _=>e b o h⟩,r.inj,fun i o h=>(r.obj i o h).mono g (r.wf i o h) fun _ u hu=>e _ u hu,r.wf,r.tab.same e⟩
section
variable {φ:Nat->Addr} {H:Hp} {s:jx} {Q:VK}
theorem ad0.alloc {l:List jy}{xs:List V}(h:ad0 Γ φ s H (.ref s.length) (s++[.lst l]) Q)(r:Rp Γ φ H s)(hl:RVL Γ φ H l xs)(hb:jz s.length l=true){p:Addr}(hp:H p=none):Q (.ref p) (upd H p (.lst xs)):=by
 obtain⟨g,r'⟩:=r.new (o:=.lst l) (u:=.lst xs) hp hb fun φ' H' g e=>⟨xs,e,RVL.monoW g l xs hb hl⟩
 have:=h (.ref p) _ _ g (by simp) (by unfold jC;simp) (by unfold RV;simp) r'
 exact this
theorem ad0.tup {l:List jy}{xs:List V}(h:ad0 Γ φ s H (.tup l) s Q)(r:Rp Γ φ H s)(hl:RVL Γ φ H l xs)(hb:jz s.length l=true){p:Addr}(hp:H p=none):Q (.ref p) (upd H p (.tup xs)):=by
 obtain⟨g,r'⟩:=r.same (H':=upd H p (.tup xs)) ((ac8.refl H).new hp)
 exact h _ _ _ g (ai _) (by unfold jC;exact hb) (RV.tupI zb (RVL.mono g l xs hb hl)) r'
theorem ad0.put {k:Nat}{l l0:List jy}{xs:List V}{d:jy}{v:V}(h:ad0 Γ φ s H d (s.set k (.lst l)) Q)(r:Rp Γ φ H s)(hk:s[k]?=some (.lst l0))(hl:RVL Γ φ H l xs)(hb:jz s.length l=true)
  (hd:d.bnd s.length=true) (hv:RV Γ φ H d v):Q v (upd H (φ k) (.lst xs)):=by
 obtain⟨g,r'⟩:=r.set (o:=.lst l) (u:=.lst xs) hk rfl hb fun H' g e=>⟨xs,e,RVL.monoW g l xs hb hl⟩
 exact h _ _ _ g (by simp) (by rw[aY];exact hd) (RV.mono g d v hd hv) r'
end
variable {Γ:Gm}
theorem keyOf_inj {a b:jy}{k:Key}(ha:ax5 a=some k)(hb:ax5 b=some k):a=b:=by
 cases a with
 | int i =>
  cases ha
  cases b with
  | int j=>cases hb;rfl
  | str y=>cases hb
  | _=>cases hb
 | str x =>
  cases ha
  cases b with
  | int j=>cases hb
  | str y =>
   have h:=az hb
   injection h with h
   injection h with h
   have h2:y=x:=by simpa using h
   rw[h2]
  | _=>cases hb
 | _=>cases ha
theorem ap0 {d:jy}(h:d.key=true):∃ k,ax5 d=some k:=by
 cases d with
 | int i=>exact⟨_,rfl⟩
 | str x=>exact⟨_,rfl⟩
 | _=>cases h
theorem aC3 {φ:Nat->Addr}{H:Hp}{d:jy}{k:Key}{v:V}(h:ax5 d=some k)(r:RV Γ φ H d v):v=kV k:=by
 cases d with
 | int i=>cases h;exact r.intE
 | str x=>cases h;exact r.strE
 | _=>cases h
def bF4 {κ:Type}(kf:jy->Option κ):Prop:=∀ {a b:jy} {k:κ},kf a=some k->kf b=some k->a=b
theorem am7:∀ {a b:List jy} {k:List Key},qk a=some k->qk b=some k->a=b
 | [],[],k,_,_=>rfl
 | [],y::b,k,ha,hb=>by
  cases ha
  unfold qk at hb
  split at hb<;>cases hb
 | x::a,[],k,ha,hb=>by
  cases hb
  unfold qk at ha
  split at ha<;>cases ha
 | x::a,y::b,k,ha,hb=>by
  unfold qk at ha hb
  split at ha
  ·rename_i k1 r1 e1 e2
   cases ha
   split at hb
   ·rename_i k2 r2 e3 e4
    cases hb
    rw[keyOf_inj e1 e3,am7 e2 e4]
   ·cases hb
  ·cases ha
theorem an7 {d:jy}{k:List Key}(h:bB9 d=some k):∃ l,d=.tup l/\(jH l=true/\l.all jO=true/\l.length<=1000)/\qk l=some k:=by
 cases d with
 | tup l =>
  have h:(if(jH l&&(l.all jO&&decide (l.length<=1000)))=true then qk l else none)=some k:=h
  by_cases z:(jH l&&(l.all jO&&decide (l.length<=1000)))=true
  ·rw[if_pos z]at h;rw[af,af]at z;exact⟨l,rfl,⟨z.1,z.2.1,of_decide_eq_true z.2.2⟩,h⟩
  ·rw[if_neg z]at h;cases h
 | _=>cases h
theorem keyT_inj:bF4 bB9:=fun ha hb=>by
 obtain⟨l,rfl,_,h1⟩:=an7 ha
 obtain⟨m,rfl,_,h2⟩:=an7 hb
 rw[am7 h1 h2]
theorem aQ0 {d:jy}(h:d.keyS=true):∃ k,ax5 d=some k:=by
 cases d with
 | int i=>exact⟨_,rfl⟩
 | str x=>exact⟨_,rfl⟩
 | _=>cases h
theorem aj6:∀ {l:List jy},l.all jO=true->∃ k,qk l=some k
 | [],_=>⟨[],rfl⟩
 | d::l,h=>by
  rw[cB,af]at h
  obtain⟨k,hk⟩:=aQ0 h.1
  obtain⟨r,hr⟩:=aj6 h.2
  exact⟨k::r,by unfold qk;rw[hk,hr]⟩
theorem ar8 {d:jy}(h:d.keyT=true):∃ k,bB9 d=some k:=by
 cases d with
 | tup l =>
  have h:(jH l&&(l.all jO&&decide (l.length<=1000)))=true:=h
  have h':=h
  rw[af,af]at h'
  obtain⟨k,hk⟩:=aj6 h'.2.1
  exact⟨k,by show(if(jH l&&(l.all jO&&decide (l.length<=1000)))=true then qk l else none)=some k;rw[if_pos h];exact hk⟩
 | _=>cases h
theorem aN3 {φ:Nat->Addr}{H:Hp}:∀ {l:List jy} {k:List Key} {xs:List V},qk l=some k->RVL Γ φ H l xs->xs=k.map kV
 | [],k,xs,h,r=>by cases h;exact r.unnil
 | d::l,k,xs,h,r=>by
  unfold qk at h
  split at h
  ·rename_i k1 r1 e1 e2
   cases h
   obtain⟨x,ys,rfl,r1',r2'⟩:=r.uncons
   rw[aC3 e1 r1',aN3 e2 r2',aJ]
  ·cases h
theorem aM8 {φ:Nat->Addr}{H:Hp}{d:jy}{k:List Key}{v:V}(h:bB9 d=some k)(r:RV Γ φ H d v):∃ b,v=.ref b/\H b=some (.tup (k.map kV)):=by
 obtain⟨l,rfl,z,hk⟩:=an7 h
 obtain⟨a,xs,e,h1,h2⟩:=r.tupK z.1
 rw[aN3 hk h2]at h1
 exact⟨a,e,h1⟩
section
variable {κ:Type} [DecidableEq κ] {kf:jy->Option κ}
theorem RVD.val {φ:Nat->Addr}{H:Hp}{d:jy}{k:κ}(ij:bF4 kf)(hk:kf d=some k):∀ {l:List (jy×jy)} {kvs:List (κ×V)},RVD kf Γ φ H l kvs->(j5 d l=none/\aB4 kvs k=none)\/∃ e v,j5 d l=some e/\aB4 kvs k=some v/\RV Γ φ H e v/\e∈l.map (·.2)
 | [],kvs,h=>by
  have h:kvs=[]:=h
  subst h
  exact .inl ⟨rfl,rfl⟩
 | (a,e)::l,kvs,h=>by
  obtain⟨k',v,r,rfl,e2,e3,e4⟩:=h
  by_cases z:a=d
  ·subst z
   rw[hk]at e2;cases e2
   exact .inr ⟨e,v,by unfold j5;rw[if_pos rfl],ai0 rfl,e3,by simp⟩
  ·have zk:¬ k'=k:=fun q=>z (ij e2 (by rw[q];exact hk))
   have e5:j5 d ((a,e)::l)=j5 d l:=by
    conv=>lhs;unfold j5
    rw[if_neg z]
   rw[e5,ah9 (show ¬(k',v).1=k from zk)]
   rcases RVD.val ij hk e4 with q|⟨e',v',q1,q2,q3,q4⟩
   ·exact .inl q
   ·exact .inr ⟨e',v',q1,q2,q3,by simp at q4 ⊢;exact .inr q4⟩
theorem RVD.repl {φ:Nat->Addr}{H:Hp}{d e:jy}{k:κ}{v:V}(ij:bF4 kf)(hk:kf d=some k)(hv:RV Γ φ H e v):∀ {l:List (jy×jy)} {kvs:List (κ×V)},RVD kf Γ φ H l kvs->RVD kf Γ φ H (l.map fun p=>if p.1=d then(p.1,e)else p) (kvs.map fun kv=>if kv.1=k then(kv.1,v)else kv)
 | [],kvs,h=>by
  have h:kvs=[]:=h
  subst h;exact(rfl:([]:List (κ×V))=[])
 | (a,e0)::l,kvs,h=>by
  obtain⟨k',v0,r,rfl,e2,e3,e4⟩:=h
  rw[aJ,aJ]
  by_cases z:a=d
  ·subst z
   rw[hk]at e2;cases e2
   rw[if_pos rfl,if_pos rfl]
   exact⟨k,v,_,rfl,hk,hv,RVD.repl ij hk hv e4⟩
  ·have zk:¬ k'=k:=fun q=>z (ij e2 (by rw[q];exact hk))
   rw[if_neg z,if_neg zk]
   exact⟨k',v0,_,rfl,e2,e3,RVD.repl ij hk hv e4⟩
theorem RVD.snoc {φ:Nat->Addr}{H:Hp}{d e:jy}{k:κ}{v:V}(ij:bF4 kf)(hk:kf d=some k)(hv:RV Γ φ H e v):∀ {l:List (jy×jy)} {kvs:List (κ×V)},RVD kf Γ φ H l kvs->RVD kf Γ φ H (l++[(d,e)]) (kvs++[(k,v)])
 | [],kvs,h=>by
  have h:kvs=[]:=h
  subst h;exact⟨k,v,[],rfl,hk,hv,rfl⟩
 | (a,e0)::l,kvs,h=>by
  obtain⟨k',v0,r,rfl,e2,e3,e4⟩:=h
  exact⟨k',v0,_,rfl,e2,e3,RVD.snoc ij hk hv e4⟩
theorem RVD.put {φ:Nat->Addr}{H:Hp}{d e:jy}{k:κ}{v:V}{l:List (jy×jy)}{kvs:List (κ×V)}(ij:bF4 kf)(hk:kf d=some k)(hv:RV Γ φ H e v)(h:RVD kf Γ φ H l kvs):RVD kf Γ φ H (jK d e l) (am0 kvs k v):=by
 unfold jK am0
 rw[ao4]
 rcases h.val ij hk with⟨q1,q2⟩|⟨e',v',q1,q2,_⟩
 ·rw[q1,q2];exact h.snoc ij hk hv
 ·rw[q1,q2];exact h.repl ij hk hv
theorem RVD.get {φ:Nat->Addr}{H:Hp}:∀ {l:List (jy×jy)} {kvs:List (κ×V)} {i:Nat} {d e:jy},RVD kf Γ φ H l kvs->l[i]?=some (d,e)->∃ k v,kvs[i]?=some (k,v)/\kf d=some k/\RV Γ φ H e v
 | [],_,_,_,_,_,h=>by cases h
 | (a,b)::l,kvs,0,d,e,h,q=>by
  obtain⟨k,v,r,rfl,e2,e3,e4⟩:=h
  cases q
  exact⟨k,v,rfl,e2,e3⟩
 | (a,b)::l,kvs,i+1,d,e,h,q=>by
  obtain⟨k,v,r,rfl,e2,e3,e4⟩:=h
  exact RVD.get (i:=i) e4 (show l[i]?=some (d,e)from q)
theorem RVD.keys {φ:Nat->Addr}{H:Hp}:∀ {l:List (jy×jy)} {kvs:List (κ×V)},RVD kf Γ φ H l kvs->∀ kv∈kvs,∃ d,kf d=some kv.1
 | [],kvs,h,kv,hk=>by
  have h:kvs=[]:=h
  subst h;cases hk
 | (a,b)::l,kvs,h,kv,hk=>by
  obtain⟨k,v,r,rfl,e2,e3,e4⟩:=h
  rcases au.mp hk with z|z
  ·subst z;exact⟨a,e2⟩
  ·exact RVD.keys e4 kv z
theorem RVD.length {φ:Nat->Addr}{H:Hp}:∀ {l:List (jy×jy)} {kvs:List (κ×V)},RVD kf Γ φ H l kvs->kvs.length=l.length
 | [],kvs,h=>by
  have h:kvs=[]:=h
  subst h;rfl
 | (a,e)::l,kvs,h=>by
  obtain⟨k',v,r,rfl,e2,e3,e4⟩:=h
  rw[aQ,aQ,RVD.length e4]
end
theorem az9 {n:Nat}{d e:jy}{l:List (jy×jy)}(h:(DV.O.dic l).bnd n=true)(hd:d.bnd n=true)(he:e.bnd n=true):(DV.O.dic (jK d e l)).bnd n=true:=by
 unfold jE at h ⊢
 rw[af]at h ⊢
 obtain⟨h1,h2⟩:=h
 have g1:=aa9.mp h1
 have g2:=aa9.mp h2
 unfold jK
 refine⟨aa9.mpr fun x hx=>?_,aa9.mpr fun x hx=>?_⟩
 ·obtain⟨p,hp,rfl⟩:=aG.mp hx
  split at hp
  ·obtain⟨q,hq,rfl⟩:=aG.mp hp
   split
   ·exact g1 _ (bn (f:=(·.1)) hq)
   ·exact g1 _ (bn (f:=(·.1)) hq)
  ·rcases bZ.mp hp with q|q
   ·exact g1 _ (bn (f:=(·.1)) q)
   ·rw[bW.mp q];exact hd
 ·obtain⟨p,hp,rfl⟩:=aG.mp hx
  split at hp
  ·obtain⟨q,hq,rfl⟩:=aG.mp hp
   split
   ·exact he
   ·exact g2 _ (bn (f:=(·.2)) hq)
  ·rcases bZ.mp hp with q|q
   ·exact g2 _ (bn (f:=(·.2)) q)
   ·rw[bW.mp q];exact he
theorem aW1 {n:Nat}{d e:jy}{l:List (jy×jy)}(h:(DV.O.dit l).bnd n=true)(hd:d.bnd n=true)(he:e.bnd n=true):(DV.O.dit (jK d e l)).bnd n=true:=az9 h hd he
theorem aB1 {f:jy->jy->Option Bool}{a b:jy}{l m:List jy}{z:Bool}(h:jW f (a::l) (b::m)=some z):∃ x y,f a b=some x/\jW f l m=some y/\z=(x&&y):=by
 unfold jW at h
 cases e1:f a b with
 | none=>rw[e1]at h;cases h
 | some x =>
  cases e2:jW f l m with
  | none=>rw[e1,e2]at h;cases h
  | some y=>rw[e1,e2]at h;exact⟨x,y,rfl,rfl,(az h).symm⟩
theorem aJ9 {f:jy->jy->Option Bool}:∀ {l m:List jy} {z:Bool},jW f l m=some z->∃ e:Nat->Bool,(∀ j d d',l[j]?=some d->m[j]?=some d'->f d d'=some (e j))/\((l.length==m.length)&&(ao (min l.length m.length)).all e)=z
 | [],[],z,h=>by
  unfold jW at h
  cases h
  exact⟨fun _=>true,fun j d d' h=>by simp at h,by simp⟩
 | [],b::m,z,h=>by
  unfold jW at h
  cases h
  exact⟨fun _=>true,fun j d d' h=>by simp at h,by simp⟩
 | a::l,[],z,h=>by
  unfold jW at h
  cases h
  exact⟨fun _=>true,fun j d d' h1 h2=>by simp at h2,by simp⟩
 | a::l,b::m,z,h=>by
  obtain⟨x,y,e1,e2,ez⟩:=aB1 h
  obtain⟨e,h1,h2⟩:=aJ9 e2
  refine⟨fun j=>match j with|0=>x|j+1=>e j,fun j d d' g1 g2=>?_,?_⟩
  ·cases j with
   | zero=>simp at g1 g2;subst g1;subst g2;exact e1
   | succ j=>exact h1 j d d' (by simpa using g1) (by simpa using g2)
  ·rw[aQ,aQ,show min (l.length+1) (m.length+1)=min l.length m.length+1 by omega,fD,cB,List.all_map,ez,<-h2]
   have:((l.length+1==m.length+1)=(l.length==m.length)):=by
    by_cases q:l.length=m.length
    ·simp[q]
    ·have:¬ l.length+1=m.length+1:=by omega
     simp[q]
   rw[this]
   show((l.length==m.length)&&(x&&(ao _).all e))=_
   cases x<;>cases(l.length==m.length)<;>simp
section
variable {X:Cx} {pins:List (Addr×Obj)} {σ:St} {H:Hp} {sh:ae} {φ:Nat->Addr} {s:jx}
theorem aj0 (I:Inv X pins σ H sh){a:Addr}{xs ys:List V}(h:H a=some (.lst xs))(h':SqT X.K H a ys):False:=by
 rcases h' with(z|⟨o,z⟩)|⟨o,its,n,hk,_⟩
 ·rw[h]at z;cases z
 ·rw[h]at z;cases z
 ·have:=(I.bs a o (I.mod.kin a o hk)).2
  rw[h]at this;cases this
theorem rv_two (I:Inv X pins σ H sh)(hK:X.K=Γ.K)(R:Rp Γ φ H s){a b:jy}{x:V}(h1:RV Γ φ H a x)(h2:RV Γ φ H b x)(n1:jV s a≠9)(n2:jV s b≠9):a=b\/∃ l m p xs,a=.tup l/\b=.tup m/\x=.ref p/\RVL Γ φ H l xs/\RVL Γ φ H m xs:=by
 have ofR:∀ {r:Nat},jV s (.ref r)≠9->∃ l,s[r]?=some (.lst l):=fun {r} h=>by
  have h:(match s[r]? with|some (DV.O.lst l)=>4|_=>9:Nat)≠9:=h
  cases hs:s[r]? with
  | none=>rw[hs]at h;exact absurd rfl h
  | some o =>
   rw[hs]at h
   cases o with
   | lst l=>exact⟨l,rfl⟩
   | _=>exact absurd rfl h
 cases a with
 | non=>have e:=h1.nonE;subst e;cases b with
  | non=>exact .inl rfl
  | bl _=>cases h2.blE
  | int _=>cases h2.intE
  | str _=>cases h2.strE
  | tup _=>obtain⟨_,_,e,_⟩:=h2.tupE;cases e
  | ref _=>cases h2.refE
  | fn _=>exact absurd rfl n2
  | clo _ _=>exact absurd rfl n2
 | bl p=>have e:=h1.blE;subst e;cases b with
  | non=>cases h2.nonE
  | bl _=>cases h2.blE;exact .inl rfl
  | int _=>cases h2.intE
  | str _=>cases h2.strE
  | tup _=>obtain⟨_,_,e,_⟩:=h2.tupE;cases e
  | ref _=>cases h2.refE
  | fn _=>exact absurd rfl n2
  | clo _ _=>exact absurd rfl n2
 | int p=>have e:=h1.intE;subst e;cases b with
  | non=>cases h2.nonE
  | bl _=>cases h2.blE
  | int _=>cases h2.intE;exact .inl rfl
  | str _=>cases h2.strE
  | tup _=>obtain⟨_,_,e,_⟩:=h2.tupE;cases e
  | ref _=>cases h2.refE
  | fn _=>exact absurd rfl n2
  | clo _ _=>exact absurd rfl n2
 | str p=>have e:=h1.strE;subst e;cases b with
  | non=>cases h2.nonE
  | bl _=>cases h2.blE
  | int _=>cases h2.intE
  | str q =>
   have e':p.toArray=q.toArray:=Str.mk.inj (V.str.inj h2.strE)
   have e'':p=q:=by simpa using congrArg g6 e'
   subst e'';exact .inl rfl
  | tup _=>obtain⟨_,_,e,_⟩:=h2.tupE;cases e
  | ref _=>cases h2.refE
  | fn _=>exact absurd rfl n2
  | clo _ _=>exact absurd rfl n2
 | tup l =>
  obtain⟨p,xs,e,q1,d1⟩:=h1.tupE;subst e;cases b with
  | non=>cases h2.nonE
  | bl _=>cases h2.blE
  | int _=>cases h2.intE
  | str _=>cases h2.strE
  | tup m =>
   obtain⟨p',ys,e,q2,d2⟩:=h2.tupE
   cases e
   rw[<-hK]at q1 q2
   rw[I.tuple_inj q2 q1]at d2
   exact .inr ⟨l,m,p,xs,rfl,rfl,rfl,d1,d2⟩
  | ref r =>
   cases h2.refE
   obtain⟨m,hm⟩:=ofR n2
   obtain⟨ys,hy,_⟩:=R.addr hm
   rw[<-hK]at q1
   exact(aj0 I hy q1).elim
  | fn _=>exact absurd rfl n2
  | clo _ _=>exact absurd rfl n2
 | ref r =>
  have e:=h1.refE;subst e
  obtain⟨l,hl⟩:=ofR n1
  obtain⟨xs,hx,_⟩:=R.addr hl
  cases b with
  | non=>cases h2.nonE
  | bl _=>cases h2.blE
  | int _=>cases h2.intE
  | str _=>cases h2.strE
  | tup m =>
   obtain⟨p',ys,e,q2,d2⟩:=h2.tupE
   cases e
   rw[<-hK]at q2
   exact(aj0 I hx q2).elim
  | ref r' =>
   obtain⟨m,hm⟩:=ofR n2
   have e:φ r=φ r':=V.ref.inj h2.refE
   rw[R.inj r r' _ _ hl hm rfl rfl e]
   exact .inl rfl
  | fn _=>exact absurd rfl n2
  | clo _ _=>exact absurd rfl n2
 | fn _=>exact absurd rfl n1
 | clo _ _=>exact absurd rfl n1
theorem qO {a b:jy}{z:Bool}(h:ke s a b=some z):kE a b=some z\/(kE a b=none/\kg (jV s a) (jV s b)=false/\z=false):=by
 unfold ke at h
 cases e:kE a b with
 | some w=>rw[e]at h;exact .inl h
 | none =>
  rw[e]at h
  cases q:kg (jV s a) (jV s b)with
  | true=>rw[q]at h;cases h
  | false=>rw[q]at h;exact .inr ⟨rfl,rfl,(az h).symm⟩
theorem aT4 {a b:jy}{z:Bool}(h:kE a b=some z):jV s a≠9/\jV s b≠9:=by
 cases a<;>cases b<;>first|(cases h;done)|(constructor<;>(intro z;cases z))
theorem au0 {a b:jy}{z:Bool}(h:ke s a b=some z):jV s a≠9/\jV s b≠9:=by
 rcases qO h with h|⟨_,h,_⟩
 ·exact aT4 h
 ·unfold kg at h
  simp only[dE,beq_eq_false_iff_ne]at h
  exact⟨h.1.1,h.1.2⟩
theorem av8 {a:jy}{z:Bool}(h:ke s a a=some z):z=true:=by
 rcases qO h with h|⟨_,h,_⟩
 ·cases a<;>cases h<;>first|rfl|exact beq_self_eq_true _
 ·unfold kg at h;simp at h
theorem az6 (I:Inv X pins σ H sh)(hK:X.K=Γ.K)(R:Rp Γ φ H s):∀(n:Nat) (a b:jy) (x:V) (z:Bool),jS s n a b=some z->RV Γ φ H a x->RV Γ φ H b x->z=true:=by
 have atom:∀(a b:jy) (x:V) (z:Bool),ke s a b=some z->RV Γ φ H a x->RV Γ φ H b x->z=true:=by
  intro a b x z h h1 h2
  rcases rv_two I hK R h1 h2 (au0 h).1 (au0 h).2 with e|⟨l,m,_,_,rfl,rfl,_⟩
  ·subst e;exact av8 h
  ·rcases qO h with h|⟨_,h,_⟩
   ·cases h
   ·unfold kg at h;simp[jV]at h
 intro n
 induction n with
 | zero=>intro a b x z h;unfold jS at h;exact atom a b x z h
 | succ n ih =>
  have ihL:∀(l m:List jy) (xs:List V) (z:Bool),jW (jS s n) l m=some z->RVL Γ φ H l xs->RVL Γ φ H m xs->z=true:=by
   intro l
   induction l with
   | nil =>
    intro m xs z h h1 h2
    cases m with
    | nil=>unfold jW at h;exact(az h).symm
    | cons b m=>obtain⟨x,r,e,_⟩:=h2.uncons;rw[h1.unnil]at e;cases e
   | cons a l ihl =>
    intro m xs z h h1 h2
    cases m with
    | nil=>obtain⟨x,r,e,_⟩:=h1.uncons;rw[h2.unnil]at e;cases e
    | cons b m =>
     obtain⟨p,q,e1,e2,ez⟩:=aB1 h
     obtain⟨v,r,rfl,g1,g2⟩:=h1.uncons
     obtain⟨v',r',e,g3,g4⟩:=h2.uncons
     cases e
     rw[ez,ih a b v p e1 g1 g3,ihl m r q e2 g2 g4];rfl
  intro a b x z h h1 h2
  unfold jS at h
  split at h
  ·rename_i l m
   obtain⟨a,xs,rfl,q1,d1⟩:=h1.tupE
   obtain⟨b,ys,e,q2,d2⟩:=h2.tupE
   cases e
   rw[<-hK]at q1 q2
   rw[I.tuple_inj q2 q1]at d2
   exact ihL l m xs z h d1 d2
  ·rename_i p q
   split at h
   ·rename_i l m hl hm
    obtain⟨xs,e1,d1⟩:=R.addr hl
    obtain⟨ys,e2,d2⟩:=R.addr hm
    have e:=h1.refE.symm.trans h2.refE
    have e':φ p=φ q:=V.ref.inj e
    rw[e',e2]at e1
    have e3:ys=xs:=by injection (az e1)
    subst e3
    split at h
    ·exact ihL l m ys z h d1 d2
    ·rename_i hlen;exact absurd (d1.length.symm.trans d2.length) hlen
   ·cases h
  ·exact atom a b x z h h1 h2
end
variable {Γ:Gm}
inductive Vw (sh:ae):Nat->Value->Prop where
 | non:Vw sh 0 .none
 | bl (b:Bool):Vw sh 1 (.bool b)
 | int (i:Int) (t:Tok):Vw sh 1 (.int i t)
 | str (x:Str) (t:Tok):Vw sh 2 (.str x t)
 | tup {l:Addr} {items:Array Value} (h:sh.heap.IsTuple l items):Vw sh 3 (.ref l)
 | lst {l:Addr} {items:Array Value} (h:sh.heap.IsList l items):Vw sh 4 (.ref l)
theorem Vw.eq {A:aO}{sh:ae}{k k':Nat}{u v:Value}(a:Vw sh k u)(b:Vw sh k' v)(hne:k≠k')(hu:A.units<cLine):gX A sh u v false:=by
 cases a with
 | non=>cases b with
  | non=>exact absurd rfl hne
  | bl b=>exact SeqAt.EqAt.none_bool b
  | int i t=>exact SeqAt.EqAt.none_int i t
  | str x t=>exact SeqAt.EqAt.none_str x t
  | tup h=>exact SeqAt.EqAt.none_tuple h hu
  | lst h=>exact SeqAt.EqAt.none_list h hu
 | bl a=>cases b with
  | non=>exact SeqAt.EqAt.bool_none a
  | bl b=>exact absurd rfl hne
  | int i t=>exact absurd rfl hne
  | str x t=>exact SeqAt.EqAt.bool_str a x t
  | tup h=>exact SeqAt.EqAt.bool_tuple a h hu
  | lst h=>exact SeqAt.EqAt.bool_list a h hu
 | int a q=>cases b with
  | non=>exact SeqAt.EqAt.int_none a q
  | bl b=>exact absurd rfl hne
  | int i t=>exact absurd rfl hne
  | str x t=>exact gI a q x t
  | tup h=>exact SeqAt.EqAt.int_tuple a q h hu
  | lst h=>exact SeqAt.EqAt.int_list a q h hu
 | str a q=>cases b with
  | non=>exact SeqAt.EqAt.str_none a q
  | bl b=>exact SeqAt.EqAt.str_bool a q b
  | int i t=>exact gJ a q i t
  | str x t=>exact absurd rfl hne
  | tup h=>exact SeqAt.EqAt.str_tuple a q h hu
  | lst h=>exact SeqAt.EqAt.str_list a q h hu
 | tup g=>cases b with
  | non=>exact SeqAt.EqAt.tuple_none g hu
  | bl b=>exact SeqAt.EqAt.tuple_bool b g hu
  | int i t=>exact SeqAt.EqAt.tuple_int i t g hu
  | str x t=>exact SeqAt.EqAt.tuple_str x t g hu
  | tup h=>exact absurd rfl hne
  | lst h=>exact SeqAt.EqAt.tuple_list g h hu
 | lst g=>cases b with
  | non=>exact SeqAt.EqAt.list_none g hu
  | bl b=>exact SeqAt.EqAt.list_bool b g hu
  | int i t=>exact SeqAt.EqAt.list_int i t g hu
  | str x t=>exact SeqAt.EqAt.list_str x t g hu
  | tup h=>exact SeqAt.EqAt.list_tuple g h hu
  | lst h=>exact absurd rfl hne
theorem Vw.rc {A:aO}{sh:ae}{k k':Nat}{u v:Value}(a:Vw sh k u)(b:Vw sh k' v)(hne:k≠k')(hu:A.units<cLine):ju A sh u v false:=by
 cases a with
 | non=>cases b with
  | non=>exact absurd rfl hne
  | bl b=>exact SeqAt.RcAt.none_bool b
  | int i t=>exact SeqAt.RcAt.none_int i t
  | str x t=>exact SeqAt.RcAt.none_str x t
  | tup h=>exact SeqAt.RcAt.none_tuple h hu
  | lst h=>exact SeqAt.RcAt.none_list h hu
 | bl a=>cases b with
  | non=>exact SeqAt.RcAt.bool_none a
  | bl b=>exact absurd rfl hne
  | int i t=>exact absurd rfl hne
  | str x t=>exact SeqAt.RcAt.bool_str a x t
  | tup h=>exact SeqAt.RcAt.bool_tuple a h hu
  | lst h=>exact SeqAt.RcAt.bool_list a h hu
 | int a q=>cases b with
  | non=>exact SeqAt.RcAt.int_none a q
  | bl b=>exact absurd rfl hne
  | int i t=>exact absurd rfl hne
  | str x t=>exact SeqAt.RcAt.int_str a q x t
  | tup h=>exact SeqAt.RcAt.int_tuple a q h hu
  | lst h=>exact SeqAt.RcAt.int_list a q h hu
 | str a q=>cases b with
  | non=>exact SeqAt.RcAt.str_none a q
  | bl b=>exact SeqAt.RcAt.str_bool a q b
  | int i t=>exact SeqAt.RcAt.str_int a q i t
  | str x t=>exact absurd rfl hne
  | tup h=>exact SeqAt.RcAt.str_tuple a q h hu
  | lst h=>exact SeqAt.RcAt.str_list a q h hu
 | tup g=>cases b with
  | non=>exact SeqAt.RcAt.tuple_none g hu
  | bl b=>exact SeqAt.RcAt.tuple_bool b g hu
  | int i t=>exact SeqAt.RcAt.tuple_int i t g hu
  | str x t=>exact SeqAt.RcAt.tuple_str x t g hu
  | tup h=>exact absurd rfl hne
  | lst h=>exact SeqAt.RcAt.tuple_list g h hu
 | lst g=>cases b with
  | non=>exact SeqAt.RcAt.list_none g hu
  | bl b=>exact SeqAt.RcAt.list_bool b g hu
  | int i t=>exact SeqAt.RcAt.list_int i t g hu
  | str x t=>exact SeqAt.RcAt.list_str x t g hu
  | tup h=>exact SeqAt.RcAt.list_tuple g h hu
  | lst h=>exact absurd rfl hne
theorem Vw.ne {A:aO}{sh:ae}{k k':Nat}{u v:Value}(a:Vw sh k u)(b:Vw sh k' v)(hne:k≠k')(hu:A.units<cLine):jj A sh u v true:=by
 cases a with
 | non=>cases b with
  | non=>exact absurd rfl hne
  | bl b=>exact SeqAt.RcNeAt.none_bool b
  | int i t=>exact SeqAt.RcNeAt.none_int i t
  | str x t=>exact SeqAt.RcNeAt.none_str x t
  | tup h=>exact SeqAt.RcNeAt.none_tuple h hu
  | lst h=>exact SeqAt.RcNeAt.none_list h hu
 | bl a=>cases b with
  | non=>exact SeqAt.RcNeAt.bool_none a
  | bl b=>exact absurd rfl hne
  | int i t=>exact absurd rfl hne
  | str x t=>exact SeqAt.RcNeAt.bool_str a x t
  | tup h=>exact SeqAt.RcNeAt.bool_tuple a h hu
  | lst h=>exact SeqAt.RcNeAt.bool_list a h hu
 | int a q=>cases b with
  | non=>exact SeqAt.RcNeAt.int_none a q
  | bl b=>exact absurd rfl hne
  | int i t=>exact absurd rfl hne
  | str x t=>exact SeqAt.RcNeAt.int_str a q x t
  | tup h=>exact SeqAt.RcNeAt.int_tuple a q h hu
  | lst h=>exact SeqAt.RcNeAt.int_list a q h hu
 | str a q=>cases b with
  | non=>exact SeqAt.RcNeAt.str_none a q
  | bl b=>exact SeqAt.RcNeAt.str_bool a q b
  | int i t=>exact SeqAt.RcNeAt.str_int a q i t
  | str x t=>exact absurd rfl hne
  | tup h=>exact SeqAt.RcNeAt.str_tuple a q h hu
  | lst h=>exact SeqAt.RcNeAt.str_list a q h hu
 | tup g=>cases b with
  | non=>exact SeqAt.RcNeAt.tuple_none g hu
  | bl b=>exact SeqAt.RcNeAt.tuple_bool b g hu
  | int i t=>exact SeqAt.RcNeAt.tuple_int i t g hu
  | str x t=>exact SeqAt.RcNeAt.tuple_str x t g hu
  | tup h=>exact absurd rfl hne
  | lst h=>exact SeqAt.RcNeAt.tuple_list g h hu
 | lst g=>cases b with
  | non=>exact SeqAt.RcNeAt.list_none g hu
  | bl b=>exact SeqAt.RcNeAt.list_bool b g hu
  | int i t=>exact SeqAt.RcNeAt.list_int i t g hu
  | str x t=>exact SeqAt.RcNeAt.list_str x t g hu
  | tup h=>exact SeqAt.RcNeAt.list_tuple g h hu
  | lst h=>exact absurd rfl hne
theorem bv6 (a b:List Nat):((⟨a.toArray⟩:Str)==⟨b.toArray⟩)=(a==b):=by
 by_cases e:a=b
 ·subst e;simp
 ·have:(⟨a.toArray⟩:Str)≠⟨b.toArray⟩:=fun q=>e (by simpa using congrArg (fun z=>z.cps.toList) q)
  rw[beq_eq_false_iff_ne.mpr this,beq_eq_false_iff_ne.mpr e]
structure Cmp (A:aO)(sh:ae)(u v:Value)(z:Bool):Prop where
 rc:ju A sh u v z
 ne:jj A sh u v (!z)
section
variable {X:Cx} {pins:List (Addr×Obj)} {σ:St} {H:Hp} {sh:ae} {φ:Nat->Addr} {s:jx}
theorem bC0 (I:Inv X pins σ H sh)(hK:X.K=Γ.K)(R:Rp Γ φ H s){d:jy}{x:V}{u:Value}(h:RV Γ φ H d x)(r:RelV x u)(hk:jV s d≠9):Vw sh (jV s d) u:=by
 cases d with
 | non=>have e:=h.nonE;subst e;cases r;exact .non
 | bl b=>have e:=h.blE;subst e;cases r;exact .bl b
 | int i=>have e:=h.intE;subst e;obtain⟨t,rfl⟩:=r;exact .int i t
 | str y=>have e:=h.strE;subst e;obtain⟨t,rfl⟩:=r;exact .str _ t
 | tup l =>
  obtain⟨a,xs,e,q,_⟩:=h.tupE
  subst e;cases r
  rw[<-hK]at q
  obtain⟨its,_,t,_⟩:=I.tuple q
  exact .tup t
 | ref n =>
  have e:=h.refE;subst e;cases r
  have hk:(match s[n]? with|some (DV.O.lst l)=>4|_=>9:Nat)≠9:=hk
  show Vw sh (match s[n]? with|some (DV.O.lst l)=>4|_=>9:Nat) _
  cases hs:s[n]? with
  | none=>rw[hs]at hk;exact absurd rfl hk
  | some o =>
   rw[hs]at hk
   cases o with
   | lst l =>
    obtain⟨xs,e,_⟩:=R.addr hs
    obtain⟨its,_,t,_⟩:=I.list (SqL.of e)
    exact .lst t.isList
   | _=>exact absurd rfl hk
 | fn _=>exact absurd rfl hk
 | clo _ _=>exact absurd rfl hk
theorem ar5 (I:Inv X pins σ H sh)(hK:X.K=Γ.K)(R:Rp Γ φ H s){a b:jy}{x y:V}{u v:Value}{A:aO}{z:Bool}(h:ke s a b=some z)(h1:RV Γ φ H a x)(h2:RV Γ φ H b y)(r1:RelV x u)(r2:RelV y v)(hu:A.units<cLine) :
  gX A sh u v z/\Cmp A sh u v z:=by
 rcases qO h with h|⟨_,hn,hz⟩
 ·cases a<;>cases b<;>try cases h
  ·cases h1.nonE;cases h2.nonE;cases r1;cases r2
   exact⟨fI _,SeqAt.RcAt.none_none,SeqAt.RcNeAt.none_none⟩
  ·cases h1.blE;cases h2.blE;cases r1;cases r2
   exact⟨SeqAt.EqAt.bool_bool _ _,SeqAt.RcAt.bool_bool _ _,SeqAt.RcNeAt.bool_bool _ _⟩
  ·cases h1.blE;cases h2.intE;cases r1;obtain⟨t',rfl⟩:=r2
   exact⟨SeqAt.EqAt.bool_int _ _ _,SeqAt.RcAt.bool_int _ _ _,SeqAt.RcNeAt.bool_int _ _ _⟩
  ·cases h1.intE;cases h2.blE;obtain⟨t,rfl⟩:=r1;cases r2
   exact⟨SeqAt.EqAt.int_bool _ _ _,SeqAt.RcAt.int_bool _ _ _,SeqAt.RcNeAt.int_bool _ _ _⟩
  ·cases h1.intE;cases h2.intE;obtain⟨t,rfl⟩:=r1;obtain⟨t',rfl⟩:=r2
   exact⟨SeqAt.EqAt.int_int _ _ _ _,SeqAt.RcAt.int_int _ _ _ _,SeqAt.RcNeAt.int_int _ _ _ _⟩
  ·cases h1.strE;cases h2.strE;obtain⟨t,rfl⟩:=r1;obtain⟨t',rfl⟩:=r2
   rw[<-bv6]
   exact⟨SeqAt.EqAt.str_str _ _ _ _,SeqAt.RcAt.str_str _ _ _ _,SeqAt.RcNeAt.str_str _ _ _ _⟩
 ·subst hz
  unfold kg at hn
  simp only[dE,beq_eq_false_iff_ne]at hn
  have w1:=bC0 I hK R h1 r1 hn.1.1
  have w2:=bC0 I hK R h2 r2 hn.1.2
  exact⟨w1.eq w2 hn.2 hu,w1.rc w2 hn.2 hu,w1.ne w2 hn.2 hu⟩
theorem bb7 (I:Inv X pins σ H sh)(hK:X.K=Γ.K)(R:Rp Γ φ H s):∀(n:Nat) (a b:jy) (x y:V) (u v:Value) (A:aO) (z:Bool),jS s n a b=some z->RV Γ φ H a x->RV Γ φ H b y->RelV x u->RelV y v->Room n A ->
  gX A sh u v z/\Cmp A sh u v z:=by
 intro n
 induction n with
 | zero=>intro a b x y u v A z h h1 h2 r1 r2 hr;unfold jS at h;exact ar5 I hK R h h1 h2 r1 r2 hr.units0
 | succ n ih =>
  have items:∀ {l m:List jy} {xs ys:List V} {its its':List Value} {A:aO} {e:Nat->Bool},RVL Γ φ H l xs->RVL Γ φ H m ys->Vals xs its->Vals ys its'->Room n A->(∀ j d d',l[j]?=some d->m[j]?=some d'->jS s n d d'=some (e j)) ->
    ∀ j (h1:j<its.toArray.size) (h2:j<its'.toArray.size),gX A sh its.toArray[j] its'.toArray[j] (e j):=by
   intro l m xs ys its its' A e d1 d2 v1 v2 hr he j h1 h2
   have l1:=v1.length
   have l2:=v2.length
   have e1:=d1.length
   have e2:=d2.length
   have h1':j<its.length:=by simpa using h1
   have h2':j<its'.length:=by simpa using h2
   have hj:j<l.length:=by omega
   have hj':j<m.length:=by omega
   obtain⟨x,ex,dx⟩:=d1.get (aj hj)
   obtain⟨y,ey,dy⟩:=d2.get (aj hj')
   obtain⟨u,eu,ru⟩:=v1.get ex
   obtain⟨w,ew,rw'⟩:=v2.get ey
   have g1:its.toArray[j]=u:=by
    have:=aj h1'
    rw[eu]at this
    simpa using(az this).symm
   have g2:its'.toArray[j]=w:=by
    have:=aj h2'
    rw[ew]at this
    simpa using(az this).symm
   rw[g1,g2]
   exact(ih _ _ x y u w A (e j) (he j _ _ (aj hj) (aj hj')) dx dy ru rw' hr).1
  intro a b x y u v A z h h1 h2 r1 r2 hr
  have hz:=h
  unfold jS at h
  split at h
  ·rename_i l m
   obtain⟨p,xs,ex,q1,d1⟩:=id h1.tupE
   obtain⟨q,ys,ey,q2,d2⟩:=id h2.tupE
   subst ex;subst ey
   cases r1;cases r2
   rw[<-hK]at q1 q2
   obtain⟨its,v1,t1,_⟩:=I.tuple q1
   obtain⟨its',v2,t2,_⟩:=I.tuple q2
   obtain⟨e,he,hall⟩:=aJ9 h
   have l1:=v1.length
   have l2:=v2.length
   have e1:=d1.length
   have e2:=d2.length
   have sz:((ao (min its.toArray.size its'.toArray.size)).all e&&its.toArray.size==its'.toArray.size)=z:=by
    rw[<-hall,Bool.and_comm,show its.toArray.size=l.length by simp;omega,show its'.toArray.size=m.length by simp;omega]
   have key:=SeqAt.RcAt.tuples (A:=A) (s:=sh) (e:=e) t1 t2 hr.units0 (items d1 d2 v1 v2 hr.in1 he)
   have kne:=SeqAt.RcNeAt.tuples (A:=A) (s:=sh) (e:=e) t1 t2 hr.units0 (items d1 d2 v1 v2 hr.in1 he)
   rw[sz]at key kne
   refine⟨?_,key,kne⟩
   by_cases hab:p=q
   ·subst hab
    rw[az6 I hK R _ _ _ _ _ hz h1 h2]
    exact fI _
   ·exact gY hab key
  ·rename_i p q
   split at h
   ·rename_i l m hl hm
    obtain⟨xs,e1,d1⟩:=R.addr hl
    obtain⟨ys,e2,d2⟩:=R.addr hm
    have ex:=h1.refE
    have ey:=h2.refE
    subst ex;subst ey
    cases r1;cases r2
    obtain⟨its,v1,t1,_⟩:=I.list (SqL.of e1)
    obtain⟨its',v2,t2,_⟩:=I.list (SqL.of e2)
    have l1:=v1.length
    have l2:=v2.length
    have c1:=d1.length
    have c2:=d2.length
    have fin:Cmp A sh (.ref (φ p)) (.ref (φ q)) z:=by
     split at h
     ·rename_i hlen
      obtain⟨e,he,hall⟩:=aJ9 h
      have sz:(ao its.toArray.size).all e=z:=by
       rw[<-hall,show its.toArray.size=l.length by simp;omega,hlen]
       simp
      have key:=SeqAt.RcAt.lists (A:=A) (s:=sh) (e:=e) t1.isList t2.isList (by simp;omega) hr.units0 (items d1 d2 v1 v2 hr.in1 he)
      have kne:=SeqAt.RcNeAt.lists (A:=A) (s:=sh) (e:=e) t1.isList t2.isList (by simp;omega) hr.units0 (items d1 d2 v1 v2 hr.in1 he)
      rw[sz]at key kne
      exact⟨key,kne⟩
     ·rename_i hlen
      cases h
      have hs:(its.toArray.size != its'.toArray.size)=true:=by simp;omega
      exact⟨SeqAt.RcAt.lists_lengths t1.isList t2.isList hs hr.units0,SeqAt.RcNeAt.lists_lengths t1.isList t2.isList hs hr.units0⟩
    refine⟨?_,fin⟩
    by_cases hab:φ p=φ q
    ·rw[az6 I hK R _ _ _ _ _ hz RV.refI (by rw[hab];exact RV.refI),hab]
     exact fI _
    ·exact gY hab fin.rc
   ·cases h
  ·exact ar5 I hK R h h1 h2 r1 r2 hr.units0
end
variable {Γ:Gm} {X:Cx}
noncomputable def bM1:kL->iQ
 | .add=>.Add|.sub=>.Sub|.mul=>.Mult|.fdiv=>.FloorDiv|.mod=>.Mod|.pow=>.Pow|.shl=>.LShift|.shr=>.RShift|.band=>.BitAnd|.bor=>.BitOr
noncomputable def br8:kF->CmpOp
 | .eq=>.Eq|.ne=>.NotEq|.lt=>.Lt|.le=>.LtE|.gt=>.Gt|.ge=>.GtE|.isin=>.In|.notin=>.NotIn
def rOp (Γ:Gm)(f:jy->jy->jx->jB jy):R2:=fun x y H Q=>∃ φ s a b d s',Rp Γ φ H s/\RV Γ φ H a x/\RV Γ φ H b y/\a.bnd s.length=true/\b.bnd s.length=true/\f a b s=.ok d s'/\ad0 Γ φ s H d s' Q
theorem zW {d e:jy}{s t:jx}(h:kG d s=.ok e t):d=e/\s=t:=by
 unfold kG at h
 cases h
 exact⟨rfl,rfl⟩
theorem qr {o:jR}{e:jy}{s t:jx}(h:j7 o s=.ok e t):e=.ref s.length/\t=s++[o]:=by
 unfold j7 at h
 cases h
 exact⟨rfl,rfl⟩
theorem bm3 (a b:List Nat):(⟨a.toArray⟩:Str)++⟨b.toArray⟩=⟨(a++b).toArray⟩:=by
 show Str.append _ _=_
 unfold Str.append
 simp
theorem qi:jG<=aH:=by rw[eh];decide
theorem bh3:OpR X (bM .Mult) (rI (fun i j=>DV.mulOk i j=true) fun i j=>.int (i*j)):=opI fun i j _ _ _ _ _ hc q=>mul_int q (by
 unfold DV.mulOk at hc
 simp only[bK,af,decide_eq_true_eq]at hc
 rcases hc with(h|h)|⟨h1,h2⟩
 ·exact bI6.ok (.inl (by omega))
 ·exact bI6.ok (.inr (by omega))
 ·unfold DV.BIG at h1 h2
  exact IntMulOk.of_le (m:=60000) (n:=60000) (intBits_le_iff.mpr h1) (intBits_le_iff.mpr h2) (by decide))
theorem az3 (l:List Nat):∀(n:Nat) (acc:Array Nat),(av n l.toArray).foldl (·++·) acc=acc++(jM n l).toArray
 | 0,acc=>by simp[jM]
 | n+1,acc=>by
  rw[bB,cx,az3 l n]
  simp[jM,gK]
theorem bh5 (l:List Nat):jM 1 l=l:=by simp[jM]
theorem aR6:∀ n,jM n []=[]
 | 0=>rfl
 | n+1=>by simp[jM,aR6 n]
theorem rep_len (l:List Nat):∀ n,(jM n l).length=l.length*n
 | 0=>by simp[jM]
 | n+1=>by simp[jM,rep_len l n,iz];omega
theorem bj5:OpR X (bM .Mult) (fun x y H Q=>∃(l:List Nat) (n:Int),x=.str ⟨l.toArray⟩/\y=.int n/\(0<=n/\n<=1000000/\l.length*n.toNat<=jG)/\Q (.str ⟨(jM n.toNat l).toArray⟩) H):=by
 intro pins s σ H x y v u Q I rx ry h
 obtain⟨l,n,rfl,rfl,⟨h0,h1,h2⟩,q⟩:=h
 obtain⟨t,rfl⟩:=rx
 obtain⟨t',rfl⟩:=ry
 have hlen:(⟨l.toArray⟩:Str).length=l.length:=by show l.toArray.size=_;simp
 have hL:=qi
 have h64:=ak1
 refine SB.mul ⟨?_,fun hn _=>?_,fun hn _=>?_⟩ fun t2 k=>?_
 ·rw[decide_eq_false (by omega),decide_eq_false (by omega)];rfl
 ·rw[hlen]
  have hn1:1<=n:=by omega
  intro hgt
  have h3:(l.length:Int)*n<=1000000:=by
   have:((l.length*n.toNat:Nat):Int)<=(jG:Nat):=Int.ofNat_le.mpr h2
   rw[iC,gz h0]at this
   have e:((jG:Nat):Int)=1000000:=by unfold jG;rfl
   omega
  have h4:(l.length:Int)<=1000000:=by
   have:(l.length:Int)*1<=(l.length:Int)*n:=dH hn1 (by omega)
   omega
  have h5:(1000000:Int)<=(2^63 - 1) / n:=by
   rw[Int.le_ediv_iff_mul_le (by omega)]
   have:(1000000:Int)*n<=1000000*1000000:=dH h1 (by omega)
   omega
  omega
 ·rw[hlen]
  unfold i7
  exact decide_eq_false (by omega)
 ·have e:Txt.mul ⟨l.toArray⟩ n=⟨(jM n.toNat l).toArray⟩:=by
   unfold Txt.mul
   split
   ·have:n.toNat=0:=by omega
    rw[this];rfl
   ·split
    ·rename_i hc
     rw[bK]at hc
     rcases hc with hc|hc
     ·have:n=1:=by simpa using hc
      subst this
      show(⟨l.toArray⟩:Str)=⟨(jM 1 l).toArray⟩
      rw[bh5]
     ·have:l=[]:=by
       have:=eq_of_beq hc
       rw[hlen]at this
       exact eZ.mp this
      subst this
      rw[aR6]
    ·show(⟨(av n.toNat l.toArray).foldl (·++·) #[]⟩:Str)=_
     rw[az3];simp
  rw[e]
  exact⟨.str _,H,I.tok _,⟨_,rfl⟩,q⟩
theorem ai6 {n:Nat}{l:List jy}(h:jz n l=true):∀ k,jz n (j3 k l)=true
 | 0=>rfl
 | k+1=>zU h (ai6 h k)
theorem RVL.repD {φ:Nat->Addr}{H:Hp}{l:List jy}{xs:List V}(h:RVL Γ φ H l xs):∀ k,RVL Γ φ H (j3 k l) (al3 k xs)
 | 0=>RVL.nil
 | k+1=>h.append (RVL.repD h k)
theorem av1 {α:Type}(xs:List α):∀ k,al3 k xs=(av k xs).flatten
 | 0=>rfl
 | k+1=>by rw[bB,cF,<-av1 xs k];rfl
theorem bB5 (hK:X.K=Γ.K)(op:kL):OpR X (bM (bM1 op)) (rOp Γ (DV.aj8 op)):=by
 intro pins s σ H x y v u Q I rx ry h
 obtain⟨φ,st,a,b,d,st',R,ha,hb,na,nb,hf,q⟩:=h
 cases op with
 | add =>
  cases a with
  | int a =>
   cases b with
   | int b =>
    change(kG _) st=_ at hf
    obtain⟨rfl,rfl⟩:=zW hf
    have ex:=ha.intE;have ey:=hb.intE;subst ex;subst ey
    exact bC9 pins s σ H _ _ v u Q I rx ry ⟨_,_,rfl,rfl,q.here R rfl RV.intI⟩
   | _=>exact fb hf
  | str a =>
   cases b with
   | str b =>
    change(if _ then _ else _:kh jy) st=_ at hf
    split at hf
    ·rename_i hl
     obtain⟨rfl,rfl⟩:=zW hf
     have ex:=ha.strE;have ey:=hb.strE;subst ex;subst ey
     refine aD8 pins s σ H _ _ v u Q I rx ry ⟨_,_,rfl,rfl,?_,?_⟩
     ·show a.toArray.size+b.toArray.size<=_
      simp only[aB]
      exact aw hl qi
     ·rw[bm3];exact q.here R rfl (RV.strI (by rw[aV];exact hl))
    ·exact fb hf
   | _=>exact fb hf
  | tup a =>
   cases b with
   | tup b =>
    change(if _ then _ else _:kh jy) st=_ at hf
    split at hf
    ·rename_i hl
     obtain⟨rfl,rfl⟩:=zW hf
     obtain⟨p,xs,⟨rfl,z1⟩,h1,d1⟩:=ha.tupZ
     obtain⟨p',ys,⟨rfl,z2⟩,h2,d2⟩:=hb.tupZ
     refine bm0 hK pins s σ H _ _ v u Q I rx ry ⟨p,p',xs,ys,rfl,rfl,h1,h2,?_,fun t H' e ht hn=>?_⟩
     ·rw[d1.length,d2.length];exact aw hl qi
     ·obtain⟨g,r'⟩:=R.same e
      unfold jC at na nb
      refine q _ _ _ g (ai _) (by unfold jC;exact zU na nb) (RV.tupC ht (fun z=>?_) ((RVL.mono g _ _ na d1).append (RVL.mono g _ _ nb d2))) r'
      rcases hn with hn|⟨rfl,rfl⟩|⟨rfl,rfl⟩
      ·exact hn
      ·rw[d2.tonil,bj]at z;rw[bj];exact e _ _ (z1 z)
      ·rw[d1.tonil]at z;exact e _ _ (z2 z)
    ·exact fb hf
   | _=>exact fb hf
  | ref a =>
   cases b with
   | ref b =>
    change(match st[a]?,st[b]? with|some (DV.O.lst l),some (DV.O.lst m)=>if l.length+m.length<=jG then j7 (.lst (l++m)) st else .bad|_,_=>.bad:jB jy)=_ at hf
    split at hf
    ·rename_i l m h1 h2
     split at hf
     ·rename_i hl
      obtain⟨rfl,rfl⟩:=qr hf
      obtain⟨xs,e1,d1⟩:=R.addr h1
      obtain⟨ys,e2,d2⟩:=R.addr h2
      have ex:=ha.refE;have ey:=hb.refE;subst ex;subst ey
      have b1:=R.wf _ _ h1
      have b2:=R.wf _ _ h2
      unfold jE at b1 b2
      refine bB7 pins s σ H _ _ v u Q I rx ry ⟨φ a,φ b,xs,ys,rfl,rfl,e1,e2,?_,fun p hp=>?_⟩
      ·rw[d1.length,d2.length];exact aw hl qi
      ·exact q.alloc R (d1.append d2) (zU b1 b2) hp
     ·exact fb hf
    ·exact fb hf
   | _=>exact fb hf
  | _=>exact fb hf
 | sub =>
  cases a with
  | int a =>
   cases b with
   | int b =>
    change(kG _) st=_ at hf
    obtain⟨rfl,rfl⟩:=zW hf
    have ex:=ha.intE;have ey:=hb.intE;subst ex;subst ey
    exact bx7 pins s σ H _ _ v u Q I rx ry ⟨_,_,rfl,rfl,q.here R rfl RV.intI⟩
   | _=>exact fb hf
  | _=>exact fb hf
 | mul =>
  cases a with
  | int a =>
   cases b with
   | int b =>
    change(if _ then _ else _:kh jy) st=_ at hf
    split at hf
    ·rename_i hc
     obtain⟨rfl,rfl⟩:=zW hf
     have ex:=ha.intE;have ey:=hb.intE;subst ex;subst ey
     exact bh3 pins s σ H _ _ v u Q I rx ry ⟨_,_,rfl,rfl,hc,q.here R rfl RV.intI⟩
    ·exact fb hf
   | _=>exact fb hf
  | str a =>
   cases b with
   | int b =>
    change(if _ then _ else _:kh jy) st=_ at hf
    split at hf
    ·rename_i hc
     obtain⟨rfl,rfl⟩:=zW hf
     have ex:=ha.strE;have ey:=hb.intE;subst ex;subst ey
     exact bj5 pins s σ H _ _ v u Q I rx ry ⟨_,_,rfl,rfl,hc,q.here R rfl (RV.strI (by rw[rep_len];exact hc.2.2))⟩
    ·exact fb hf
   | _=>exact fb hf
  | tup a =>
   cases b with
   | int b =>
    change(if _ then _ else _:kh jy) st=_ at hf
    split at hf
    ·rename_i hc
     obtain⟨rfl,rfl⟩:=zW hf
     obtain⟨p,xs,⟨rfl,z1⟩,h1,d1⟩:=ha.tupZ
     have ey:=hb.intE;subst ey
     refine bp3 hK pins s σ H _ _ v u Q I rx ry ⟨p,xs,_,rfl,rfl,h1,⟨hc.1,hc.2.1,by rw[d1.length];exact hc.2.2⟩,fun t H' e ht hn=>?_⟩
     obtain⟨g,r'⟩:=R.same e
     unfold jC at na
     refine q _ _ _ g (ai _) (by unfold jC;exact ai6 na _) (RV.tupC ht (fun z=>?_) (RVL.repD (RVL.mono g _ _ na d1) _)) r'
     rcases hn with hn|⟨rfl,ex⟩
     ·exact hn
     ·rw[ex];exact e _ _ (z1 (bn1 z))
    ·exact fb hf
   | _=>exact fb hf
  | ref a =>
   cases b with
   | int b =>
    change(match st[a]? with|some (DV.O.lst l)=>if 0<=b/\b<=1000000/\l.length*b.toNat<=jG then j7 (.lst (j3 b.toNat l)) st else .bad|_=>.bad:jB jy)=_ at hf
    split at hf
    ·rename_i l h1
     split at hf
     ·rename_i hc
      obtain⟨rfl,rfl⟩:=qr hf
      obtain⟨xs,e1,d1⟩:=R.addr h1
      have ex:=ha.refE;have ey:=hb.intE;subst ex;subst ey
      have b1:=R.wf _ _ h1
      unfold jE at b1
      refine bE1 pins s σ H _ _ v u Q I rx ry ⟨φ a,b,xs,rfl,rfl,e1,by omega,by omega,?_,fun p hp=>?_⟩
      ·rw[d1.length];exact aw hc.2.2 qi
      ·rw[<-av1];exact q.alloc R (RVL.repD d1 _) (ai6 b1 _) hp
     ·exact fb hf
    ·exact fb hf
   | _=>exact fb hf
  | _=>exact fb hf
 | fdiv =>
  cases a with
  | int a =>
   cases b with
   | int b =>
    change(if _ then _ else _:kh jy) st=_ at hf
    split at hf
    ·rename_i hc
     obtain⟨rfl,rfl⟩:=zW hf
     have ex:=ha.intE;have ey:=hb.intE;subst ex;subst ey
     refine aV4 pins s σ H _ _ v u Q I rx ry ⟨_,_,rfl,rfl,⟨hc.1,?_⟩,q.here R rfl RV.intI⟩
     have:=hc.2
     unfold DV.DIVL at this
     simpa using this
    ·exact fb hf
   | _=>exact fb hf
  | _=>exact fb hf
 | mod =>
  cases a with
  | int a =>
   cases b with
   | int b =>
    change(if _ then _ else _:kh jy) st=_ at hf
    split at hf
    ·rename_i hc
     obtain⟨rfl,rfl⟩:=zW hf
     have ex:=ha.intE;have ey:=hb.intE;subst ex;subst ey
     exact bv2 pins s σ H _ _ v u Q I rx ry ⟨_,_,rfl,rfl,hc,q.here R rfl RV.intI⟩
    ·exact fb hf
   | _=>exact fb hf
  | _=>exact fb hf
 | pow =>
  cases a with
  | int a =>
   cases b with
   | int b =>
    change(if _ then _ else _:kh jy) st=_ at hf
    split at hf
    ·rename_i hc
     obtain⟨rfl,rfl⟩:=zW hf
     have ex:=ha.intE;have ey:=hb.intE;subst ex;subst ey
     exact bw3 pins s σ H _ _ v u Q I rx ry ⟨_,_,rfl,rfl,hc,q.here R rfl RV.intI⟩
    ·exact fb hf
   | _=>exact fb hf
  | _=>exact fb hf
 | shl =>
  cases a with
  | int a =>
   cases b with
   | int b =>
    change(if _ then _ else _:kh jy) st=_ at hf
    split at hf
    ·rename_i hc
     obtain⟨rfl,rfl⟩:=zW hf
     have ex:=ha.intE;have ey:=hb.intE;subst ex;subst ey
     exact bz9 pins s σ H _ _ v u Q I rx ry ⟨_,_,rfl,rfl,hc,q.here R rfl RV.intI⟩
    ·exact fb hf
   | _=>exact fb hf
  | _=>exact fb hf
 | shr =>
  cases a with
  | int a =>
   cases b with
   | int b =>
    change(if _ then _ else _:kh jy) st=_ at hf
    split at hf
    ·rename_i hc
     obtain⟨rfl,rfl⟩:=zW hf
     have ex:=ha.intE;have ey:=hb.intE;subst ex;subst ey
     exact bw2 pins s σ H _ _ v u Q I rx ry ⟨_,_,rfl,rfl,hc,q.here R rfl RV.intI⟩
    ·exact fb hf
   | _=>exact fb hf
  | _=>exact fb hf
 | band =>
  cases a with
  | int a =>
   cases b with
   | int b =>
    change(if _ then _ else _:kh jy) st=_ at hf
    split at hf
    ·rename_i hc
     obtain⟨rfl,rfl⟩:=zW hf
     have ex:=ha.intE;have ey:=hb.intE;subst ex;subst ey
     exact bk1 pins s σ H _ _ v u Q I rx ry ⟨_,_,rfl,rfl,hc,q.here R rfl RV.intI⟩
    ·exact fb hf
   | _=>exact fb hf
  | _=>exact fb hf
 | bor=>exact fb hf
variable {Γ:Gm} {X:Cx} {pins:List (Addr×Obj)} {σ:St} {H:Hp} {sh:ae} {φ:Nat->Addr} {s:jx}
variable {Γ:Gm} {X:Cx}
theorem aa0 {α β:Type}{r:jB α}{f:α->jx->jB β}{b:β}{t:jx}(h:r.bind f=.ok b t):∃ a s,r=.ok a s/\f a s=.ok b t:=DV.R.bind_inv h
theorem ao0 {op:kF}{a b d:jy}{st st':jx}(ho:op=.lt\/op=.le\/op=.gt\/op=.ge)(h:DV.qp op a b st=.ok d st'):∃ i j,a=.int i/\b=.int j:=by
 rcases ho with rfl|rfl|rfl|rfl <;>
 (cases a with
 | int i =>
  (cases b with
  | int j=>exact⟨i,j,rfl,rfl⟩
  | _=>cases h)
 | _=>cases h)
theorem bC7 (hK:X.K=Γ.K)(hr:Room (jN+1) X.A)(op:kF):OpR X (dk (br8 op)) (rOp Γ (DV.qp op)):=by
 intro pins s σ H x y v u Q I rx ry h
 obtain⟨φ,st,a,b,d,st',R,ha,hb,na,nb,hf,q⟩:=h
 cases op with
 | eq =>
  have hf:DV.eqM a b st=.ok d st':=hf
  unfold DV.eqM at hf
  cases e:jS st jN a b with
  | none=>rw[e]at hf;cases hf
  | some z =>
   rw[e]at hf;cases hf
   exact(bb7 I hK R _ a b x y v u X.A z e ha hb rx ry (hr.mono (by omega))).2.rc X.prog X.w X.xe _ ⟨.bl z,H,I,rfl,q.here R rfl RV.blI⟩
 | ne =>
  have hf:(match jS st jN a b with|some r=>.ok (.bl (!r)) st|none=>.bad:jB jy)=.ok d st':=hf
  cases e:jS st jN a b with
  | none=>rw[e]at hf;cases hf
  | some z =>
   rw[e]at hf;cases hf
   exact(bb7 I hK R _ a b x y v u X.A z e ha hb rx ry (hr.mono (by omega))).2.ne X.prog X.w X.xe _ ⟨.bl (!z),H,I,rfl,q.here R rfl RV.blI⟩
 | lt =>
  obtain⟨i,j,rfl,rfl⟩:=ao0 (.inl rfl) hf
  cases hf
  have ex:=ha.intE;have ey:=hb.intE;subst ex;subst ey
  exact bL2 pins s σ H _ _ v u Q I rx ry ⟨_,_,rfl,rfl,q.here R rfl RV.blI⟩
 | le =>
  obtain⟨i,j,rfl,rfl⟩:=ao0 (.inr (.inl rfl)) hf
  cases hf
  have ex:=ha.intE;have ey:=hb.intE;subst ex;subst ey
  exact bK3 pins s σ H _ _ v u Q I rx ry ⟨_,_,rfl,rfl,q.here R rfl RV.blI⟩
 | gt =>
  obtain⟨i,j,rfl,rfl⟩:=ao0 (.inr (.inr (.inl rfl))) hf
  cases hf
  have ex:=ha.intE;have ey:=hb.intE;subst ex;subst ey
  exact bN3 pins s σ H _ _ v u Q I rx ry ⟨_,_,rfl,rfl,q.here R rfl RV.blI⟩
 | ge =>
  obtain⟨i,j,rfl,rfl⟩:=ao0 (.inr (.inr (.inr rfl))) hf
  cases hf
  have ex:=ha.intE;have ey:=hb.intE;subst ex;subst ey
  exact bL6 pins s σ H _ _ v u Q I rx ry ⟨_,_,rfl,rfl,q.here R rfl RV.blI⟩
 | isin=>cases hf
 | notin=>cases hf
theorem aP2 {φ:Nat->Addr}{H:Hp}{l:List jy}{xs:List V}{i:Int}{d:jy}(h:RVL Γ φ H l xs)(e:((j8 l.length i).bind fun j=>l[j]?)=some d):∃ v,atI xs i=some v/\RV Γ φ H d v:=by
 cases hj:j8 l.length i with
 | none=>rw[hj]at e;cases e
 | some j =>
  rw[hj]at e
  obtain⟨v,e1,e2⟩:=h.get (show l[j]?=some d from e)
  refine⟨v,?_,e2⟩
  unfold atI
  have:ixN xs.length i=some j:=by rw[h.length];exact hj
  rw[this];exact e1
theorem aw1 {l:List jy}{i:Int}{d:jy}(e:((j8 l.length i).bind fun j=>l[j]?)=some d):d∈l:=by
 cases hj:j8 l.length i with
 | none=>rw[hj]at e;cases e
 | some j=>rw[hj]at e;exact br (show l[j]?=some d from e)
theorem bK1 (hK:X.K=Γ.K)(hu:X.A.units+1<cLine):IxR X (rOp Γ DV.ixM):=by
 intro value slice pins s σ H x y v u Q I rx ry h hs
 obtain⟨φ,st,a,b,d,st',R,ha,hb,na,nb,hf,q⟩:=h
 unfold DV.ixM at hf
 cases a with
 | tup l =>
  cases b with
  | int i =>
   simp only at hf
   split at hf
   ·rename_i d' e
    cases hf
    obtain⟨p,xs,rfl,h1,d1⟩:=ha.tupE
    have ey:=hb.intE;subst ey
    obtain⟨w,e1,e2⟩:=aP2 d1 e
    unfold jC at na
    exact bq6 hK value slice pins s σ H _ _ v u Q I rx ry ⟨p,xs,i,w,rfl,rfl,h1,e1,q.here R (aa9.mp na _ (aw1 e)) e2⟩ hs
   ·exact fb hf
  | _=>exact fb hf
 | str l =>
  cases b with
  | int i =>
   simp only at hf
   split at hf
   ·rename_i c e
    cases hf
    have hl:=ha.strL
    have ex:=ha.strE;have ey:=hb.intE;subst ex;subst ey
    exact ix_str value slice pins s σ H _ _ v u Q I rx ry ⟨⟨l.toArray⟩,i,c,rfl,rfl,by show l.toArray.size<=_;rw[aB];exact aw hl qi,e,q.here R rfl (RV.strI (by simp;decide))⟩ hs
   ·exact fb hf
  | _=>exact fb hf
 | ref r =>
  have ex:=ha.refE;subst ex
  simp only at hf
  cases hsr:st[r]? with
  | none=>rw[hsr]at hf;cases hf
  | some o =>
   rw[hsr]at hf
   cases o with
   | lst l =>
    cases b with
    | int i =>
     simp only at hf
     split at hf
     ·rename_i d' e
      cases hf
      have ey:=hb.intE;subst ey
      obtain⟨xs,e1,d1⟩:=R.addr hsr
      obtain⟨w,e2,e3⟩:=aP2 d1 e
      have wf:=R.wf _ _ hsr
      unfold jE at wf
      exact aA7 hK value slice pins s σ H _ _ v u Q I rx ry ⟨φ r,xs,i,w,rfl,rfl,SqL.of e1,e2,q.here R (aa9.mp wf _ (aw1 e)) e3⟩ hs
     ·exact fb hf
    | _=>exact fb hf
   | ro l =>
    cases b with
    | int i =>
     simp only at hf
     split at hf
     ·rename_i d' e
      cases hf
      have ey:=hb.intE;subst ey
      obtain⟨xs,e1,d1⟩:=R.obj _ _ hsr
      obtain⟨w,e2,e3⟩:=aP2 d1 e
      have wf:=R.wf _ _ hsr
      unfold jE at wf
      exact aA7 hK value slice pins s σ H _ _ v u Q I rx ry ⟨φ r,xs,i,w,rfl,rfl,e1.1,e2,q.here R (aa9.mp wf _ (aw1 e)) e3⟩ hs
     ·exact fb hf
    | _=>exact fb hf
   | dic l =>
    simp only at hf
    split at hf
    case isFalse=>exact fb hf
    rename_i hkey
    obtain⟨k,hk⟩:=ap0 hkey
    obtain⟨kvs,e1,d1⟩:=R.obj r _ hsr
    have ey:=aC3 hk hb;subst ey
    cases rx
    rcases d1.val keyOf_inj hk with⟨q1,_⟩|⟨e,v',q1,q2,q3,q4⟩
    ·rw[q1]at hf;cases hf
    ·rw[q1]at hf
     cases hf
     have wf:=R.wf _ _ hsr
     unfold jE at wf
     rw[af]at wf
     have g:aT0 H (φ r) (kV k) (some v'):=by rw[<-q2];exact aT0.k e1
     exact tail_any (al2 I g) d7.lookup (as3 hu I g ry fun w' s' I' rw'=>⟨v',H,I',rw',q.here R (aa9.mp wf.2 _ q4) q3⟩) hs
   | dit l =>
    simp only at hf
    split at hf
    case isFalse=>exact fb hf
    rename_i hkey
    obtain⟨k,hk⟩:=ar8 hkey
    obtain⟨kvs,e1,d1⟩:=R.obj r _ hsr
    obtain⟨kb,ey,hkb⟩:=aM8 hk hb;subst ey
    cases rx
    rcases d1.val keyT_inj hk with⟨q1,_⟩|⟨e,v',q1,q2,q3,q4⟩
    ·rw[q1]at hf;cases hf
    ·rw[q1]at hf
     cases hf
     have wf:=R.wf _ _ hsr
     unfold jE at wf
     rw[af]at wf
     have g:aT0 H (φ r) (.ref kb) (some v'):=by rw[<-q2];exact aT0.t e1 hkb
     exact tail_any (al2 I g) d7.lookup (as3 hu I g ry fun w' s' I' rw'=>⟨v',H,I',rw',q.here R (aa9.mp wf.2 _ q4) q3⟩) hs
   | ins c l=>cases b<;>cases hf
 | _=>cases b<;>cases hf
variable {Γ:Gm} {X:Cx}
def rCl (Γ:Gm)(f:List jy->jx->jB jy):List V->Hp->VK->Prop:=fun xs H Q=>∃ φ s l d s',Rp Γ φ H s/\RVL Γ φ H l xs/\jz s.length l=true/\f l s=.ok d s'/\ad0 Γ φ s H d s' Q
theorem RVL.one {φ:Nat->Addr}{H:Hp}{d:jy}{xs:List V}(h:RVL Γ φ H [d] xs):∃ x,xs=[x]/\RV Γ φ H d x:=by
 obtain⟨x,r,rfl,h1,h2⟩:=h.uncons
 rw[h2.unnil];exact⟨x,rfl,h1⟩
theorem bh0 (a b c:Int):mx3 a b c=max (max a b) c:=by unfold mx3 mx;split<;>split<;>omega
noncomputable def biN:j0->Option (String×Nat)
 | .len=>some ("len",1)|.abs=>some ("abs",1)|.min2=>some ("min",2)|.max2=>some ("max",2)|.max3=>some ("max",3)|_=>none
theorem z9:∀ {l:List jy} {is:List Int},ka l=some is->l=is.map DV.D.int
 | [],is,h=>by unfold ka at h;cases h;rfl
 | d::l,is,h=>by
  cases d with
  | int i =>
   have h:(ka l).map (i::·)=some is:=h
   cases e:ka l with
   | none=>rw[e]at h;cases h
   | some m=>rw[e]at h;cases h;rw[z9 e];rfl
  | _=>cases h
theorem ai7:∀ {l:List jy} {is:List Bool},ki l=some is->l=is.map DV.D.bl
 | [],is,h=>by unfold ki at h;cases h;rfl
 | d::l,is,h=>by
  cases d with
  | bl i =>
   have h:(ki l).map (i::·)=some is:=h
   cases e:ki l with
   | none=>rw[e]at h;cases h
   | some m=>rw[e]at h;cases h;rw[ai7 e];rfl
  | _=>cases h
theorem RVL.ints {φ:Nat->Addr}{H:Hp}:∀ {is:List Int} {xs:List V},RVL Γ φ H (is.map DV.D.int) xs->xs=is.map V.int
 | [],_,h=>h.unnil
 | i::is,_,h=>by
  obtain⟨x,r,rfl,h1,h2⟩:=RVL.uncons h
  rw[h1.intE,RVL.ints h2];rfl
theorem RVL.bls {φ:Nat->Addr}{H:Hp}:∀ {is:List Bool} {xs:List V},RVL Γ φ H (is.map DV.D.bl) xs->xs=is.map V.bl
 | [],_,h=>h.unnil
 | i::is,_,h=>by
  obtain⟨x,r,rfl,h1,h2⟩:=RVL.uncons h
  rw[h1.blE,RVL.bls h2];rfl
theorem aL9 {f:jy->kh jy}{l:List jy}{s s':jx}{d:jy}(h:kH f l s=.ok d s'):∃ a,l=[a]/\f a s=.ok d s':=by
 match l,h with
 | [a],h=>exact⟨a,rfl,h⟩
 | [],h=>exact fb h
 | _::_::_,h=>exact fb h
theorem aS4 (hK:X.K=Γ.K)(hc:X.calm=true){b:j0}{nm:String}{k:Nat}(hn:biN b=some (nm,k)):ab8 X (.builtin nm) (rCl Γ (kK b)):=by
 intro pins s σ H xs us Q I r h
 obtain⟨φ,st,l,d,st',R,hl,nl,hf,q⟩:=h
 cases b with
 | len =>
  cases hn
  have hf:kH DV.bu1 l st=.ok d st':=hf
  obtain⟨a,rfl,hg⟩:=aL9 hf
  clear hf
  obtain⟨x,rfl,hx⟩:=hl.one
  unfold DV.bu1 at hg
  cases a with
  | tup l =>
   cases hg
   obtain⟨p,ys,rfl,h1,d1⟩:=hx.tupE
   refine ai8 hK pins s σ H _ us Q I r ⟨p,ys,rfl,.inr h1,?_⟩
   rw[d1.length];exact q.here R rfl RV.intI
  | str l =>
   cases hg
   have hL:=hx.strL
   have e:=hx.strE;subst e
   refine at0 pins s σ H _ us Q I r ⟨_,rfl,by show l.toArray.size<=_;rw[aB];exact aw hL qi,?_⟩
   show Q (.int ((l.toArray.size:Nat):Int)) H
   rw[aB]
   exact q.here R rfl RV.intI
  | ref n =>
   have e:=hx.refE;subst e
   simp only at hg
   cases hs:st[n]? with
   | none=>rw[hs]at hg;cases hg
   | some o =>
    rw[hs]at hg
    cases o with
    | lst l =>
     cases hg
     obtain⟨ys,e1,d1⟩:=R.addr hs
     refine ai8 hK pins s σ H _ us Q I r ⟨φ n,ys,rfl,.inl (SqL.of e1),?_⟩
     rw[d1.length];exact q.here R rfl RV.intI
    | ro l =>
     cases hg
     obtain⟨ys,e1,d1⟩:=R.obj _ _ hs
     refine ai8 hK pins s σ H _ us Q I r ⟨φ n,ys,rfl,.inl e1.1,?_⟩
     rw[d1.length];exact q.here R rfl RV.intI
    | dic l=>exact fb hg
    | dit l=>exact fb hg
    | ins c l=>exact fb hg
  | _=>exact fb hg
 | abs =>
  cases hn
  have hf:(match ka l with|some [i]=>.ok (.int (if i<0 then -i else i)) st|_=>.bad:jB jy)=.ok d st':=hf
  split at hf
  ·rename_i i e
   cases hf
   have:=z9 e;subst this
   have:=RVL.ints hl;subst this
   exact aT6 pins s σ H _ us Q I r ⟨i,rfl,q.here R rfl RV.intI⟩
  ·exact fb hf
 | min2 =>
  cases hn
  have hf:(match ka l with|some [a,b]=>.ok (.int (if b<a then b else a)) st|_=>.bad:jB jy)=.ok d st':=hf
  split at hf
  ·rename_i a b e
   cases hf
   have:=z9 e;subst this
   have:=RVL.ints hl;subst this
   exact aQ7 hc pins s σ H _ us Q I r ⟨_,_,rfl,q.here R rfl RV.intI⟩
  ·exact fb hf
 | max2 =>
  cases hn
  have hf:(match ka l with|some [a,b]=>.ok (.int (if b > a then b else a)) st|_=>.bad:jB jy)=.ok d st':=hf
  split at hf
  ·rename_i a b e
   cases hf
   have:=z9 e;subst this
   have:=RVL.ints hl;subst this
   exact aL1 hc pins s σ H _ us Q I r ⟨_,_,rfl,q.here R rfl RV.intI⟩
  ·exact fb hf
 | max3 =>
  cases hn
  have hf:(match ka l with|some [a,b,c]=>.ok (.int (max (max a b) c)) st|_=>.bad:jB jy)=.ok d st':=hf
  split at hf
  ·rename_i a b c e
   cases hf
   have:=z9 e;subst this
   have:=RVL.ints hl;subst this
   refine aM4 hc pins s σ H _ us Q I r ⟨_,_,_,rfl,?_⟩
   rw[bh0]
   exact q.here R rfl RV.intI
  ·exact fb hf
 | _=>cases hn
theorem bD0:ab8 X (.type "int") (rCl Γ (kK .int)):=by
 intro pins s σ H xs us Q I r h
 obtain⟨φ,st,l,d,st',R,hl,nl,hf,q⟩:=h
 have hf:(match ki l with|some [b]=>.ok (.int (if b then 1 else 0)) st|_=>.bad:jB jy)=.ok d st':=hf
 split at hf
 ·rename_i b e
  cases hf
  have:=ai7 e;subst this
  have:=RVL.bls hl;subst this
  exact aR4 pins s σ H _ us Q I r (.inr ⟨b,rfl,q.here R rfl RV.intI⟩)
 ·exact fb hf
noncomputable def al9:Nat->String
 | 1 => "int" | 2 => "bool" | 3 => "str" | 4 => "tuple" | _ => "list"
theorem bl6 {K:ac}(k:Nat)(hk:1<=k/\k<=5):bA K (.type "NoneType") (.type (al9 k))=some false/\bA K (.type "bool") (.type (al9 k))=some (k==1||k==2) /\
  bA K (.type "int") (.type (al9 k))=some (k==1)/\bA K (.type "str") (.type (al9 k))=some (k==3)/\bA K (.type "tuple") (.type (al9 k))=some (k==4)/\bA K (.type "list") (.type (al9 k))=some (k==5):=by
 obtain⟨h1,h5⟩:=hk
 rcases(by omega:k=1\/k=2\/k=3\/k=4\/k=5)with h|h|h|h|h<;>subst h<;>refine⟨?_,?_,?_,?_,?_,?_⟩<;>with_unfolding_all rfl
theorem aD6 {pins:List (Addr×Obj)}{σ:St}{H:Hp}{s:ae}{A:aO}{E:Value->ae->Prop}{Q:Value->ae->Prop}{c:Value}{b:Bool}{a:Addr}{xs:List V}(I:Inv X pins σ H s)(h1:SqT X.K H a xs)(e:bA X.K (.type "tuple") c=some b)
  (h:∀ tk,Q (.bool b) { s with toks:=tk }):wpAny (model X.prog X.w) A (call (.builtin "isinstance") [.ref a,c]) Q E s:=by
 obtain⟨its,_,⟨o,g1,g2,_⟩,_⟩:=I.tuple h1
 exact bz gN I.kIn ⟨o,g1,g2⟩ e (fun z=>nomatch z) h
theorem by6 (hK:X.K=Γ.K){k:Nat}(hk:1<=k/\k<=5):ab8 X (.builtin "isinstance") (fun xs H Q=>∃ x,xs=[x,.ty (al9 k)]/\rCl Γ (kH (kM k)) [x] H Q):=by
 intro pins s σ H xs us Q I r h
 obtain⟨x,rfl,φ,st,l,d,st',R,hl,nl,hf,q⟩:=h
 obtain⟨a,rfl,hg⟩:=aL9 hf
 clear hf
 obtain⟨u,w',rfl,r1,r2⟩:=aU7 r
 cases r2
 obtain⟨x',e',hx⟩:=hl.one
 cases e'
 obtain⟨k0,k1,k2,k3,k4,k5⟩:=bl6 (K:=X.K) k hk
 unfold kM at hg
 cases a with
 | non=>cases hg;have e:=hx.nonE;subst e;exact qF I r1 .non k0 fun tk=>⟨.bl _,H,I.tok _,rfl,q.here R rfl RV.blI⟩
 | bl b=>cases hg;have e:=hx.blE;subst e;exact qF I r1 (.bl b) k1 fun tk=>⟨.bl _,H,I.tok _,rfl,q.here R rfl RV.blI⟩
 | int b=>cases hg;have e:=hx.intE;subst e;exact qF I r1 (.int b) k2 fun tk=>⟨.bl _,H,I.tok _,rfl,q.here R rfl RV.blI⟩
 | str b=>cases hg;have e:=hx.strE;subst e;exact qF I r1 (.str _) k3 fun tk=>⟨.bl _,H,I.tok _,rfl,q.here R rfl RV.blI⟩
 | tup l =>
  cases hg
  obtain⟨p,ys,rfl,h1,d1⟩:=hx.tupE
  cases r1
  rw[<-hK]at h1
  exact aD6 I h1 k4 fun tk=>⟨.bl _,H,I.tok _,rfl,q.here R rfl RV.blI⟩
 | ref n =>
  have e:=hx.refE;subst e
  have hg:(match st[n]? with|some (.lst _)=>.ok (.bl (k==5)) st|_=>.bad:jB jy)=.ok d st':=hg
  cases hs:st[n]? with
  | none=>rw[hs]at hg;cases hg
  | some o =>
   rw[hs]at hg
   cases o with
   | lst l =>
    cases hg
    obtain⟨ys,e1,d1⟩:=R.addr hs
    exact qF I r1 (.lst e1) k5 fun tk=>⟨.bl _,H,I.tok _,rfl,q.here R rfl RV.blI⟩
   | _=>exact fb hg
 | _=>exact fb hg
variable {X:Cx}
theorem bt3 {bs:List Bool}{its:List Value}(r:Vals (bs.map V.bl) its){i:Nat}{v:Value}(h:its[i]?=some v):∃ z,bs[i]?=some z/\v=Value.bool z:=by
 induction bs generalizing its i with
 | nil=>rw[c7]at r;cases r;simp at h
 | cons b bs ih =>
  rw[aJ]at r
  cases r with
  | cons r1 r2 =>
   cases i with
   | zero =>
    cases r1
    have:_=v:=az h
    exact⟨b,rfl,this.symm⟩
   | succ i=>exact ih r2 h
theorem aO5 {bs:List Bool}:(ao bs.length).all (fun i=>bs.getD i false)=bs.all id:=by
 rw[fJ,aD,aD]
 constructor
 ·intro h b hb
  obtain⟨i,hi,e⟩:=fZ.mp hb
  have:=h i (bp.mpr hi)
  rw[be,aj hi]at this
  rw[<-e];exact this
 ·intro h i hi
  have hi:=bp.mp hi
  rw[be,aj hi]
  exact h _ (dv hi)
theorem aM3 {K:ac}(hc:X.calm=true)(hK:X.K=K):ab8 X (.builtin "all") (fun xs H Q=>∃(a:Addr) (bs:List Bool),xs=[.ref a]/\SqL K H a (bs.map V.bl)/\Q (.bl (bs.all id)) H):=by
 subst hK
 intro pins s σ H xs us Q I r h
 obtain⟨a,bs,rfl,hS,q⟩:=h
 obtain⟨u,rfl,ru⟩:=ak7 r
 cases ru
 obtain⟨its,rv,pl,hz⟩:=I.list hS
 have hl:=rv.length
 rw[aM]at hl
 refine call_all_walk (cZ pl.isList ?_)
 have hal:a<s.heap.objs.size:=by obtain⟨o,_,e,_⟩:=pl;exact aA e
 have W:=jt (prog:=X.prog) (w:=X.w) (A:=X.A.in1) (I.ok.hd hc) s.heap.objs.size a (ax hal) its.toArray
 refine⟨_,_,_,_,_,_,fun i=>bs.getD i false,rfl,W,⟨⟨_,aS _ rfl,rfl,rfl⟩,?_⟩,fun i v s' Q' E' hP hQ=>?_,fun h' tk k=>?_⟩
 ·obtain⟨o,e,r⟩:=pl.isList
  exact⟨o,ak _ e,r⟩
 ·obtain⟨z,e1,e2⟩:=bt3 rv (i:=i) (v:=v) (by have hP:its.toArray[i]?=some v:=hP;rw[dh]at hP;exact hP)
  subst e2
  refine b9 ?_
  have:bs.getD i false=z:=by rw[be,e1];rfl
  rw[<-this];exact hQ
 ·have es:its.toArray.size=bs.length:=by rw[aB];omega
  rw[es,aO5]
  refine⟨.bl (bs.all id),H,I.kept (h':=h') (t':=tk) fun b o q=>k b o ?_ (ak _ q),rfl,q⟩
  intro z
  have z':b=s.heap.objs.size:=by simpa using z
  exact absurd (aA q) (by rw[z'];exact bu _)
noncomputable def sgV (x:List Nat):List V:=x.map fun c=>.str ⟨#[c]⟩
theorem bk5 {vs:List V}{acc:List Value}(hl:vs.length=acc.length)(h:∀(i:Nat) (x:V) (u:Value),vs[i]?=some x->acc[i]?=some u->RelV x u):Vals vs acc:=by
 induction vs generalizing acc with
 | nil=>cases acc with
  | nil=>exact .nil
  | cons _ _=>cases hl
 | cons v vs ih=>cases acc with
  | nil=>cases hl
  | cons a acc=>exact .cons (h 0 v a rfl rfl) (ih (by simpa using hl) fun i x u e1 e2=>h (i+1) x u e1 e2)
theorem am8 {x:List Nat}{acc:Array Value}(h:ItemsOf (SignAt ⟨x.toArray⟩) acc x.length):Vals (sgV x) acc.toList:=by
 have hl:(sgV x).length=acc.toList.length:=by unfold sgV;rw[aM];simpa using h.1.symm
 refine bk5 hl fun i v u e1 e2=>?_
 obtain⟨c,t,h1,h2⟩:=h.2 i u (by rw[<-Array.getElem?_toList];exact e2)
 unfold sgV at e1
 rw[aE]at e1
 have h1:x[i]?=some c:=by simpa using h1
 rw[h1]at e1
 cases e1
 exact⟨t,h2⟩
theorem av5 (hc:X.calm=true):ab8 X (.type "tuple") (fun xs H Q=>∃ x:List Nat,xs=[.str ⟨x.toArray⟩]/\x.length<=jG/\∀ l,H l=none->Q (.ref l) (upd H l (.tup (sgV x)))):=by
 intro pins s σ H xs us Q I r h
 obtain⟨x,rfl,hl,q⟩:=h
 obtain⟨u,rfl,rx⟩:=ak7 r
 obtain⟨t,rfl⟩:=rx
 have hz:(sgV x).length<=aH:=by unfold sgV;rw[aM];exact aw hl qi
 refine call_tuple_str (I.ok.hd hc) _ t (fun h' tk acc kp hi=>?_) (by show x.toArray.size<=_;rw[aB];exact aw hl qi)
 have hi:ItemsOf (SignAt ⟨x.toArray⟩) acc x.length:=by simpa using hi
 have rv:=am8 hi
 have I1:Inv X pins σ H { s with heap:=h',toks:=tk }:=I.kept (t':=tk) kp
 have I2:Inv X pins σ (upd H h'.objs.size (.tup (sgV x))) { s with heap:=h'.push { cls:=.type "tuple",data:=.seq acc },toks:=tk } :=
  I1.laid (t':=tk) (fun b o e=>ak _ e) (ai _) (show ab6 X.prog X.w _ _ _ (.tup (sgV x))from⟨hz,acc.toList,rv,jc _ _⟩)
 exact⟨.ref h'.objs.size,_,I2,rfl,q _ (I1.hok.fresh (ai _))⟩
theorem aF9 (hc:X.calm=true):ab8 X (.type "list") (fun xs H Q=>∃ x:List Nat,xs=[.str ⟨x.toArray⟩]/\x.length<=jG/\∀ l,H l=none->Q (.ref l) (upd H l (.lst (sgV x)))):=by
 intro pins s σ H xs us Q I r h
 obtain⟨x,rfl,hl,q⟩:=h
 obtain⟨u,rfl,rx⟩:=ak7 r
 obtain⟨t,rfl⟩:=rx
 have hz:(sgV x).length<=aH:=by unfold sgV;rw[aM];exact aw hl qi
 refine call_list_str (I.ok.hd hc) _ t (fun h' tk acc c' kp e hi=>?_) (by show x.toArray.size<=_;rw[aB];exact aw hl qi)
 have hi:ItemsOf (SignAt ⟨x.toArray⟩) acc x.length:=by simpa using hi
 have rv:=am8 hi
 exact⟨.ref s.heap.objs.size,_,I.laid (t':=tk) kp (ai _) (show ab6 X.prog X.w _ h' _ (.lst (sgV x))from⟨hz,acc.toList,c',rv,e⟩),rfl,q _ (I.hok.fresh (ai _))⟩
section
variable {Γ:Gm} {φ φ':Nat->Addr} {H H' H1 H2 H3:Hp} {clos:List (Str×Addr)} {s s':jx}
theorem zR (hc:Cells clos H){a:Addr}{u:HO}(e:H a=some u)(hu:∀ o,u≠.frz o (.own a)):isC clos a≠true:=fun z=>by
 obtain⟨o,v,q,_⟩:=hc.at z
 rw[e]at q;cases q;exact hu o rfl
theorem SqT.dropC {K:ac}{a:Addr}{xs:List V}(hc:Cells clos H)(h:SqT K H a xs):SqT K (ab4 clos H) a xs:=by
 rcases h with(h|⟨o,h⟩)|h
 ·exact .inl (.inl (by rw[ab4.ne (zR hc h (fun _ z=>by cases z))];exact h))
 ·exact .inl (.inr ⟨o,by rw[ab4.ne (zR hc h (fun _ z=>by cases z))];exact h⟩)
 ·exact .inr h
theorem SqL.dropC {K:ac}{a:Addr}{xs:List V}(hc:Cells clos H)(h:SqL K H a xs):SqL K (ab4 clos H) a xs:=by
 rcases h with(h|⟨o,h⟩)|h
 ·exact .inl (.inl (by rw[ab4.ne (zR hc h (fun _ z=>by cases z))];exact h))
 ·exact .inl (.inr ⟨o,by rw[ab4.ne (zR hc h (fun _ z=>by cases z))];exact h⟩)
 ·exact .inr h
theorem SqF.dropC {K:ac}{a:Addr}{xs:List V}(hc:Cells clos H)(h:SqF K H a xs):SqF K (ab4 clos H) a xs:=by
 refine⟨SqL.dropC hc h.1,fun H2 k=>?_⟩
 have hk:Kp H (fun b=>if isC clos b=true then H b else H2 b):=fun b o e f=>by
  by_cases z:isC clos b=true
  ·show(if isC clos b=true then H b else H2 b)=_;rw[if_pos z];exact e
  ·show(if isC clos b=true then H b else H2 b)=_
   rw[if_neg z]
   exact k b o (by rw[ab4.ne z];exact e) f
 have q:=h.2 _ hk
 have at_:∀ u,(if isC clos a=true then H a else H2 a)=some u->(∀ o,u≠.frz o (.own a))->H2 a=some u:=fun u e hu=>by
  by_cases z:isC clos a=true
  ·rw[if_pos z]at e
   exact absurd z (zR hc e hu)
  ·rw[if_neg z]at e;exact e
 rcases q with(q|⟨o,q⟩)|q
 ·exact .inl (.inl (at_ _ q (fun _ z=>by cases z)))
 ·exact .inl (.inr ⟨o,at_ _ q (fun _ z=>by cases z)⟩)
 ·exact .inr q
mutual
theorem RV.dropC (hc:Cells clos H):∀(d:jy) (v:V),d.ncl=true->RV Γ φ H d v->RV Γ φ (ab4 clos H) d v
 | .non,_,_,h=>by unfold RV at h ⊢;exact h
 | .bl _,_,_,h=>by unfold RV at h ⊢;exact h
 | .int _,_,_,h=>by unfold RV at h ⊢;exact h
 | .str _,_,_,h=>by unfold RV at h ⊢;exact h
 | .tup l,_,n,h=>by
  unfold RV at h ⊢
  unfold kN at n
  obtain⟨a,xs,e,q,r⟩:=h
  exact⟨a,xs,e,⟨SqT.dropC hc q.1,fun z=>by rw[ab4.ne (zR hc (q.2 z) (fun _ z=>by cases z))];exact q.2 z⟩,RVL.dropC hc l xs n r⟩
 | .ref k,_,_,h=>by unfold RV at h ⊢;exact h
 | .fn _,_,_,h=>by unfold RV at h ⊢;exact h
 | .clo id cs,_,n,h=>by unfold kN at n;cases n
theorem RVL.dropC (hc:Cells clos H):∀(l:List jy) (xs:List V),j9 l=true->RVL Γ φ H l xs->RVL Γ φ (ab4 clos H) l xs
 | [],_,_,h=>by unfold RVL at h ⊢;exact h
 | d::l,_,n,h=>by
  unfold j9 at n
  rw[af]at n
  obtain⟨x,r,e,h1,h2⟩:=h.uncons
  subst e
  exact .cons (RV.dropC hc d x n.1 h1) (RVL.dropC hc l r n.2 h2)
end
theorem RVD.dropC {κ:Type}{kf:jy->Option κ}(hc:Cells clos H):∀(l:List (jy×jy)) (kvs:List (κ×V)),j9 (l.map (·.2))=true->RVD kf Γ φ H l kvs->RVD kf Γ φ (ab4 clos H) l kvs
 | [],_,_,h=>h
 | (d,e)::l,_,n,h=>by
  obtain⟨k,v,r,e1,e2,e3,e4⟩:=h
  rw[aJ]at n
  unfold j9 at n
  rw[af]at n
  exact⟨k,v,r,e1,e2,RV.dropC hc e v n.1 e3,RVD.dropC hc l r n.2 e4⟩
theorem RO.dropC {a:Addr}{o:jR}(hc:Cells clos H)(h:RO Γ φ H a o)(n:o.ncl=true):RO Γ φ (ab4 clos H) a o:=by
 cases o with
 | lst l =>
  obtain⟨xs,e,r⟩:=h
  exact⟨xs,by rw[ab4.ne (zR hc e (fun _ z=>by cases z))];exact e,RVL.dropC hc l xs n r⟩
 | ro l =>
  obtain⟨xs,e,r⟩:=h
  exact⟨xs,SqF.dropC hc e,RVL.dropC hc l xs n r⟩
 | dic l =>
  obtain⟨xs,e,r⟩:=h
  exact⟨xs,by rw[ab4.ne (zR hc e (fun _ z=>by cases z))];exact e,RVD.dropC hc l xs n r⟩
 | dit l =>
  obtain⟨xs,e,r⟩:=h
  exact⟨xs,by rw[ab4.ne (zR hc e (fun _ z=>by cases z))];exact e,RVD.dropC hc l xs n r⟩
 | ins _ _=>exact h.elim
theorem TabsH.dropC {T:List (Addr×Str)}(hc:Cells clos H)(h:TabsH T H):TabsH T (ab4 clos H):=fun y hy=>by
 obtain⟨ps,e,t,c⟩:=h y hy
 refine⟨ps,by rw[ab4.ne (zR hc e (fun _ z=>by cases z))];exact e,t,fun pos cv q=>?_⟩
 obtain⟨c',e1,e2⟩:=c pos cv q
 exact⟨c',e1,by rw[ab4.ne (zR hc e2 (fun _ z=>by unfold qf at z;cases z))];exact e2⟩
theorem Rp.dropC (hc:Cells clos H)(r:Rp Γ φ H s)(n:s.all kO=true):Rp Γ φ (ab4 clos H) s :=
 ⟨r.inj,fun i o e=>RO.dropC hc (r.obj i o e) (aD.mp n o (br e)),r.wf,TabsH.dropC hc r.tab⟩
theorem Gr.caught {N:List Str}{kd:Str->Option bE}{σ:St}(ca:Caught clos N kd σ H1 H2)(g:Gr φ s H2 φ' s' H3):Gr φ s H1 φ' s' (ab4 clos H3):=by
 have nc:∀ b o,H1 b=some o->isC clos b≠true:=fun b o e z=>by rw[ca.free b z]at e;cases e
 have up:∀ b o,H1 b=some o->H2 b=some o:=fun b o e=>by rw[ca.ne b (nc b o e)];exact e
 refine⟨⟨g.w.map,fun b o e f=>?_⟩,g.le,fun i h1 h2=>?_,g.kd,fun b e=>?_,fun b o e nt no=>?_⟩
 ·rw[ab4.ne (nc b o e)];exact g.w.kp b o (up b o e) f
 ·have:=g.new i h1 h2
  by_cases z:isC clos (φ' i)=true
  ·exact ca.free _ z
  ·rw[<-ca.ne _ z];exact this
 ·cases q:H1 b with
  | none=>exact absurd q e
  | some o =>
   rw[ab4.ne (nc b o q)]
   exact g.st b (by rw[up b o q];simp)
 ·rw[ab4.ne (nc b o e)];exact g.fr b o (up b o e) nt no
theorem aK6 (gone:∀ b,isC clos b=true->H' b=none):ac8 H' (Put clos H H'):=fun b o e=>by
 rw[Put.ne (fun z=>by rw[gone b z]at e;cases e)];exact e
theorem Gr.put (hc:Cells clos H)(gone:∀ b,isC clos b=true->H' b=none)(hK:∀ b o,Γ.K.lookup b=some o->H b=none)(R':Rp Γ φ' H' s')(g:Gr φ s (ab4 clos H) φ' s' H'):Gr φ s H φ' s' (Put clos H H'):=by
 refine⟨⟨g.w.map,fun b o e f=>?_⟩,g.le,fun i h1 h2=>?_,g.kd,fun b e=>?_,fun b o e nt no=>?_⟩
 ·by_cases z:isC clos b=true
  ·rw[Put.cell z];exact e
  ·rw[Put.ne z];exact g.w.kp b o (by rw[ab4.ne z];exact e) f
 ·have hd:=g.new i h1 h2
  by_cases z:isC clos (φ' i)=true
  ·have hg:=gone _ z
   obtain⟨o,eo⟩:∃ o,s'[i]?=some o:=⟨s'[i],aj h2⟩
   have hob:=R'.obj i o eo
   cases o with
   | lst l=>obtain⟨xs,e,_⟩:=hob;rw[hg]at e;cases e
   | ro l =>
    obtain⟨xs,e,_⟩:=hob
    rcases e.1 with(e|⟨_,e⟩)|⟨ob,its,n,e,_⟩
    ·rw[hg]at e;cases e
    ·rw[hg]at e;cases e
    ·exact hK _ _ e
   | dic l=>obtain⟨xs,e,_⟩:=hob;rw[hg]at e;cases e
   | dit l=>obtain⟨xs,e,_⟩:=hob;rw[hg]at e;cases e
   | ins _ _=>exact hob.elim
  ·rw[ab4.ne z]at hd;exact hd
 ·by_cases z:isC clos b=true
  ·rw[Put.cell z];exact e
  ·rw[Put.ne z];exact g.st b (by rw[ab4.ne z];exact e)
 ·by_cases z:isC clos b=true
  ·rw[Put.cell z];exact e
  ·rw[Put.ne z];exact g.fr b o (by rw[ab4.ne z];exact e) nt no
theorem aT5 {T:List (Addr×Str)}{cells:List (Str×Addr)}{P:Addr}{q:Str}{params:a9}{body:Expr}{scope:Scope}{pos:Pos}{σ:St}{H:Hp}{Q:VK}(hT:TabsH T H)(nd:(T.map (·.1)).Nodup)(hm:(P,q)∈T)
  (go:∀(f:Addr) (H':Hp),aP5 H H'->(∀ b,H b≠none->H' b≠none)->TabsH T H'->H f=none->(∃ pm c' ctv,H' f=some (ap9 f (bI "<lambda>" q params body scope (ac6 cells scope.names []) pm (.ref c') ctv))/\H' c'=some (qf c' q))->Q (.ref f) H') :
  bT3 cells P q params body scope pos σ H Q:=by
 obtain⟨ps,hP,ht,hc⟩:=hT _ hm
 refine⟨ps,hP,ht,fun hn c' f pm ctv n1 n2 ne=>?_,fun cv e=>?_⟩
 ·have cP:c'≠P:=fun z=>by rw[z,hP]at n1;cases n1
  have fP:f≠P:=fun z=>by rw[z,hP]at n2;cases n2
  have at':∀ b,b≠P->H b≠none->∀ o1 o2 o3,upd (upd (upd H P o1) c' o2) f o3 b=H b:=fun b z1 z2 o1 o2 o3=>by
   rw[za fun z=>by subst z;exact z2 n2,za fun z=>by subst z;exact z2 n1,za z1]
  refine go f _ (fun b o d e=>?_) (fun b hb=>?_) (fun y hy=>?_) n2 ⟨pm,c',ctv,zb,by rw[za ne,zb]⟩
  ·rw[at' b (fun z=>by subst z;rw[hP]at e;cases e;exact d _ rfl) (by rw[e];simp)];exact e
  ·by_cases z:b=P
   ·subst z;rw[za (bL fP),za (bL cP),zb];simp
   ·rw[at' b z hb];exact hb
  ·by_cases z:y.1=P
   ·have ey:y=(P,q):=by
     have:∀(l:List (Addr×Str)),(l.map (·.1)).Nodup->y∈l->(P,q)∈l->y=(P,q):=by
      intro l
      induction l with
      | nil=>intro _ h;simp at h
      | cons a l ih =>
       intro hn h1 h2
       rw[aJ,cw]at hn
       rcases au.mp h1 with e1|h1<;>rcases au.mp h2 with e2|h2
       ·rw[e1,e2]
       ·exact absurd (by rw[<-e1,z];exact bn (f:=(·.1)) h2) hn.1
       ·exact absurd (by rw[<-e2,<-z];exact bn (f:=(·.1)) h1) hn.1
       ·exact ih hn.2 h1 h2
     exact this T nd hy hm
    subst ey
    refine⟨_,by rw[za (bL fP),za (bL cP),zb],?_,fun pos2 cv e=>?_⟩
    ·rw[cM];exact TriplesOk_snoc _ _ _ _ ht
    ·rw[cM]at e
     rcases codeAmong_add _ ht e with e'|e'
     ·obtain⟨c2,e1,e2⟩:=hc pos2 cv e'
      exact⟨c2,e1,by rw[at' c2 (fun z=>by subst z;rw[hP]at e2;unfold qf at e2;cases e2) (by rw[e2];simp)];exact e2⟩
     ·exact⟨c',e',by rw[za ne,zb]⟩
   ·obtain⟨qs,e1,e2,e3⟩:=hT y hy
    refine⟨qs,by rw[at' y.1 z (by rw[e1];simp)];exact e1,e2,fun pos2 cv e=>?_⟩
    obtain⟨c2,e4,e5⟩:=e3 pos2 cv e
    exact⟨c2,e4,by rw[at' c2 (fun z=>by subst z;rw[hP]at e5;unfold qf at e5;cases e5) (by rw[e5];simp)];exact e5⟩
 ·obtain⟨c',e1,e2⟩:=hc pos cv e
  refine⟨c',e1,fun f pm ctv n=>go f _ (.of ((ac8.refl H).new n)) (fun b hb=>by
   by_cases z:b=f
   ·subst z;rw[zb];simp
   ·rw[za z];exact hb) (hT.new n) n ⟨pm,c',ctv,zb,?_⟩⟩
  rw[za (zu e2 n)];exact e2
theorem bs3 {P:aC}{w:World}{K:ac}{mg:Str->Option Value}{base:Heap}{k:Nat}{f:Addr}{N ps fr:List Str}{name qual:Str}{params:a9}{body:List Stmt}{scope:Scope}{clos:List (Str×Addr)}{cap:List V}{sp:Sp}
  (S:LamScope N ps fr scope) (len:∀ vs H Q E,sp vs H Q E->vs.length=ps.length) (hlc:cap.length=fr.length)
  (hbind:∀(doc pm:Value) (c':Addr) (ctv:Value) (us:List Value),us.length=ps.length->dC (bS name qual params body scope clos .none .none doc pm none (.ref c') ctv) ⟨us,[]⟩=pure (ps.zip us))
  (hbody:∀(A:aO) (outer:List Env) (s:ae) (H:Hp) (cd:Value) (vs:List V) (Q:VK),Room k (A.deeper (cq qual scope s.heap.objs.size f cd (aF (s.heap.objs.size+1) scope.names clos)))->ak2 H f name qual params body scope fr cap clos->(∀ b o,K.lookup b=some o->H b=none)->sp vs H Q E0 ->
   ∃ t,PSs (av3 P w K mg base N qual scope f cd clos A outer s H) body t/\t { nx:=fun _ H'=>(∀ b,isC clos b=true->H' b=none)->Q .non (Put clos H H'),rt:=fun v H'=>(∀ b,isC clos b=true->H' b=none)->Q v (Put clos H H') } (vs.map some++cap.map some) (ab4 clos H)) :
  ClOk P w K mg base (k+1) (fun H=>ak2 H f name qual params body scope fr cap clos) f sp:=by
 refine⟨fun A outer s H us vs Q hr e0 hR r hsp=>?_⟩
 have hl:=len _ _ _ _ hsp
 obtain⟨doc,pm,c',ctv,h1,h2,h3,h4,h5,h6⟩:=id hR
 have lim:s.heap.NoLimit:=e0.mod.nolimit.keeps fun b o e=>(e0.bs b o e).1
 refine fL hr.depth (an9 e0.hok h1) rfl S.co S.gen rfl (at5 e0.hok h2) ?_
 rw[hbind doc pm c' ctv us (by rw[<-r.length];exact hl)]
 refine aN (am4 S.kind (fun y hy=>?_) fun env he s1 x=>?_)
 ·rcases S.par y.1 (cT (show(y.1,y.2)∈ps.zip us from hy)).1 with q|q
  ·exact .inl q
  ·exact .inr ⟨q,zX q⟩
 ·subst he
  refine⟨lim.keeps x.toInCall.keep,codeAny_func ?_⟩
  obtain⟨t,ht,hq⟩:=hbody A outer s H (.ref c') vs Q (hr.deeper _) hR (fun b o e=>(e0.bs b o (e0.mod.kin b o e)).2) hsp
  have I:=aL5 S hr.hd e0 hl hlc r h3 h4 h5 h6 x
  refine bv (ht [] s1 _ _ _ I hq) (fun fl s' hs=>?_) fun e s' hs=>hs.elim
  have fin:∀ {σ':St} {H':Hp} {v:V} {u:Value},Inv (av3 P w K mg base N qual scope f (.ref c') clos A outer s H) [] σ' H' s'->RelV v u->((∀ b,isC clos b=true->H' b=none)->Q v (Put clos H H'))->CE outer P w H s Q u s':=fun {σ' H' v u} J rv q=>by
   obtain⟨un,ok'⟩:=aP4 e0.hok h3 e0.frf J.base J.hok
   have gone:∀ b,isC clos b=true->H' b=none:=fun b y=>by
    obtain⟨o,v,z,_⟩:=h3.at y
    exact(show Un (frs outer) [] (ab4 clos H) H' s.heap s'.heap from J.base).free b o (e0.hok b _ z).1 (ab4.cell y) (by simp)
   exact⟨v,_,J.os,J.bare,un,ok',rv,q gone⟩
  cases fl with
  | ret u =>
   obtain⟨v,σ',H',J,rv,q⟩:=hs
   exact fin J rv q
  | next =>
   obtain⟨σ',H',J,q⟩:=hs
   exact fin (v:=V.non) (u:=Value.none) J rfl q
  | brk =>
   obtain⟨_,_,_,q⟩:=hs
   exact aZ q
  | cont =>
   obtain⟨_,_,_,q⟩:=hs
   exact aZ q
theorem bg4 {P:aC}{w:World}{K:ac}{mg:Str->Option Value}{base:Heap}{k:Nat}{f:Addr}{N ps fr:List Str}{qual:Str}{params:a9}{body:Expr}{scope:Scope}{clos:List (Str×Addr)}{cap:List V}{sp:Sp}
  (S:LamScope N ps fr scope) (len:∀ vs H Q E,sp vs H Q E->vs.length=ps.length) (hlc:cap.length=fr.length)
  (hbind:∀(pm:Value) (c':Addr) (ctv:Value) (us:List Value),us.length=ps.length->dC (bI "<lambda>" qual params body scope clos pm (.ref c') ctv) ⟨us,[]⟩=pure (ps.zip us))
  (hbody:∀(A:aO) (outer:List Env) (s:ae) (H:Hp) (cd:Value) (vs:List V) (Q:VK),Room k (A.deeper (cq qual scope s.heap.objs.size f cd (aF (s.heap.objs.size+1) scope.names clos)))->au1 H f qual params body scope fr cap clos->(∀ b o,K.lookup b=some o->H b=none)->sp vs H Q E0 ->
   ∃ t,PE (av3 P w K mg base N qual scope f cd clos A outer s H) body t/\t (vs.map some++cap.map some) (ab4 clos H) fun v H'=>(∀ b,isC clos b=true->H' b=none)->Q v (Put clos H H')) :
  ClOk P w K mg base (k+1) (fun H=>au1 H f qual params body scope fr cap clos) f sp:=by
 refine⟨fun A outer s H us vs Q hr e0 hR r hsp=>?_⟩
 have hl:=len _ _ _ _ hsp
 obtain⟨pm,c',ctv,h1,h2,h3,h4,h5,h6⟩:=id hR
 have lim:s.heap.NoLimit:=e0.mod.nolimit.keeps fun b o e=>(e0.bs b o e).1
 refine PySem.W.kla_callFunE hr.depth (an9 e0.hok h1) rfl S.co S.gen rfl (at5 e0.hok h2) ?_
 rw[hbind pm c' ctv us (by rw[<-r.length];exact hl)]
 refine aN (am4 S.kind (fun y hy=>?_) fun env he s1 x=>?_)
 ·rcases S.par y.1 (cT (show(y.1,y.2)∈ps.zip us from hy)).1 with q|q
  ·exact .inl q
  ·exact .inr ⟨q,zX q⟩
 ·subst he
  refine⟨lim.keeps x.toInCall.keep,PySem.W.kla_codeExpr ?_⟩
  obtain⟨t,ht,hq⟩:=hbody A outer s H (.ref c') vs Q (hr.deeper _) hR (fun b o e=>(e0.bs b o (e0.mod.kin b o e)).2) hsp
  have I:=aL5 S hr.hd e0 hl hlc r h3 h4 h5 h6 x
  refine bv (ht [] s1 _ _ _ I hq) (fun u s' hs=>?_) fun e s' hs=>hs.elim
  obtain⟨v,H',J,rv,q⟩:=hs
  obtain⟨un,ok'⟩:=aP4 e0.hok h3 e0.frf J.base J.hok
  have gone:∀ b,isC clos b=true->H' b=none:=fun b y=>by
   obtain⟨o,v,z,_⟩:=h3.at y
   exact(show Un (frs outer) [] (ab4 clos H) H' s.heap s'.heap from J.base).free b o (e0.hok b _ z).1 (ab4.cell y) (by simp)
  exact⟨v,_,J.os,J.bare,un,ok',rv,q gone⟩
theorem Rp.sameT {φ:Nat->Addr}{H H':Hp}{s:jx}(r:Rp Γ φ H s)(e:aP5 H H')(st:∀ b,H b≠none->H' b≠none)(tb:TabsH Γ.T H'):Gr φ s H φ s H'/\Rp Γ φ H' s:=by
 have kp:Kp H H':=fun b o h f=>e b o (fun ps z=>by subst z;cases f) h
 have gw:Gw φ s.length H φ H':=⟨fun _ _=>rfl,kp⟩
 refine⟨⟨gw,ai _,fun i h1 h2=>absurd h2 (by omega),fun i o o' e e'=>by rw[e]at e';cases e';rfl,st,fun b o h nt _=>e b o nt h⟩,r.inj,fun i o eo=>?_,r.wf,tb⟩
 exact(r.obj i o eo).mono gw (r.wf i o eo) fun m u hu=>by
  obtain⟨u',hu',_,nt⟩:=(r.obj i o eo).there m
  rw[hu]at hu';cases hu'
  exact e _ _ nt hu
theorem Cells.kp {H H':Hp}(h:Cells clos H)(k:Kp H H'):Cells clos H':=fun x c e=>by
 obtain⟨o,v,q,d⟩:=h x c e
 exact⟨o,v,k _ _ q rfl,d⟩
noncomputable def PVp (Γ : Gm) (cells : List (Str × Addr)) (N : List Str) (σ : St) (φ : Nat -> Addr) (H : Hp) (d : DV.D) (v : V) : Prop := RV Γ φ H d v \/ ∃ id cs, d = .clo id cs /\ ∃ f J, v = .ref f /\ Γ.lg id J /\ ae4 H f J (ac6 cells J.scope.names []) /\
      cs.length = J.fr.length /\ (∀ x, J.scope.names.lookup x = some .free -> ∃ c, cells.lookup x = some c) /\
      ∃ cap, RVL Γ φ H cs cap /\ ∀(i : Nat) (x : Str) (v : V), J.fr[i]? = some x -> cap[i]? = some v -> J.scope.names.lookup x = some .free /\ ∃ j : Nat, N[j]? = some x /\ σ[j]? = some (some v)
inductive PVL (Γ:Gm)(cells:List (Str×Addr))(N:List Str)(σ:St)(φ:Nat->Addr)(H:Hp):List jy->List V->Prop where
 | nil:PVL Γ cells N σ φ H [] []
 | cons {d v l vs} (a:PVp Γ cells N σ φ H d v) (b:PVL Γ cells N σ φ H l vs):PVL Γ cells N σ φ H (d::l) (v::vs)
theorem PVp.mono {cells:List (Str×Addr)}{N:List Str}{σ:St}{φ φ':Nat->Addr}{s s':jx}{H H':Hp}(g:Gr φ s H φ' s' H'){d:jy}{v:V}(b:d.bnd s.length=true)(h:PVp Γ cells N σ φ H d v):PVp Γ cells N σ φ' H' d v:=by
 rcases h with h|⟨id,cs,rfl,h⟩
 ·exact .inl (RV.mono g _ _ b h)
 ·obtain⟨f,J,e,h1,h2,h4,h5,cap,h6,h7⟩:=h
  unfold jC at b
  exact .inr ⟨id,cs,rfl,f,J,e,h1,h2.kp g.w.kp,h4,h5,cap,RVL.mono g cs cap b h6,h7⟩
theorem PVp.caught {cells:List (Str×Addr)}{N:List Str}{kd:Str->Option bE}{σ:St}{φ:Nat->Addr}{n:Nat}{H1 H2:Hp}(ca:Caught cells N kd σ H1 H2)(hkd:∀ x c,cells.lookup x=some c->kd x=some .cell\/kd x=some .free){d:jy}{v:V}(b:d.bnd n=true)(h:PVp Γ cells N σ φ H1 d v):RV Γ φ H2 d v:=by
 have gw:Gw φ n H1 φ H2:=⟨fun _ _=>rfl,fun b o e _=>ca.same b o e⟩
 rcases h with h|⟨id,cs,rfl,h⟩
 ·exact RV.monoW gw _ _ b h
 ·obtain⟨f,J,e,h1,h2,h4,h5,cap,h6,h7⟩:=h
  unfold jC at b
  unfold RV
  have hcap:∀(i:Nat) (x:Str) (v:V),J.fr[i]?=some x->cap[i]?=some v->J.scope.names.lookup x=some .free/\(kd x=some .cell\/kd x=some .free)/\∃ j:Nat,N[j]?=some x/\σ[j]?=some (some v):=fun i x v e1 e2=>by
   obtain⟨q1,q2⟩:=h7 i x v e1 e2
   obtain⟨c,q3⟩:=h5 x q1
   exact⟨q1,hkd x c q3,q2⟩
  have hat:CloAt H2 f J cap (ac6 cells J.scope.names []):=by
   unfold CloAt
   unfold ae4 at h2
   cases q:J.nm with
   | none=>rw[q]at h2;exact aW4 ca h2 h5 hcap
   | some p=>rw[q]at h2;exact aY5 ca h2 h5 hcap
  exact⟨f,cap,J,_,e,h1,hat,by rw[h6.length,h4],RVL.monoW gw cs cap b h6⟩
theorem PVL.caught {cells:List (Str×Addr)}{N:List Str}{kd:Str->Option bE}{σ:St}{φ:Nat->Addr}{n:Nat}{H1 H2:Hp}(ca:Caught cells N kd σ H1 H2)(hkd:∀ x c,cells.lookup x=some c->kd x=some .cell\/kd x=some .free){l:List jy}{vs:List V}(h:PVL Γ cells N σ φ H1 l vs)(b:jz n l=true):RVL Γ φ H2 l vs:=by
 induction h with
 | nil=>exact .nil
 | cons a _ ih =>
  unfold jz at b
  rw[af]at b
  exact .cons (a.caught ca hkd b.1) (ih b.2)
end
variable {Γ:Gm} {X:Cx}
def TEv (Γ:Gm)(m:jA->jx->jB jy):TE:=fun σ H Q=>∃ φ ρ s d s',RE Γ φ H s.length ρ σ/\Rp Γ φ H s/\m ρ s=.ok d s'/\ad0 Γ φ s H d s' Q
def bw6 (Γ:Gm)(φ:Nat->Addr)(s:jx)(H:Hp)(l:List jy)(s':jx)(Q:List V->Hp->Prop):Prop :=
 ∀ vs φ' H',Gr φ s H φ' s' H'->s.length<=s'.length->jz s'.length l=true->RVL Γ φ' H' l vs->Rp Γ φ' H' s'->Q vs H'
def TAv (Γ:Gm)(m:jA->jx->jB (List jy)):TA:=fun σ H Q=>∃ φ ρ s l s',RE Γ φ H s.length ρ σ/\Rp Γ φ H s/\m ρ s=.ok l s'/\bw6 Γ φ s H l s' Q
def az7 (Γ:Gm)(φ:Nat->Addr)(s:jx)(H:Hp)(b:Bool)(s':jx)(Q:Bool->Hp->Prop):Prop :=
 ∀ φ' H',Gr φ s H φ' s' H'->s.length<=s'.length->Rp Γ φ' H' s'->Q b H'
def TTv (Γ:Gm)(m:jA->jx->jB jy):TT:=fun σ H Q=>∃ φ ρ s b s',RE Γ φ H s.length ρ σ/\Rp Γ φ H s/\m ρ s=.ok (.bl b) s'/\az7 Γ φ s H b s' Q
theorem PE.imp {e:Expr}{t t':TE}(h:PE X e t)(i:∀ σ H Q,t' σ H Q->t σ H Q):PE X e t':=fun pins s σ H Q I q=>h pins s σ H Q I (i σ H Q q)
theorem PT.imp {e:Expr}{t t':TT}(h:PT X e t)(i:∀ σ H Q,t' σ H Q->t σ H Q):PT X e t':=fun pins s σ H Q I q=>h pins s σ H Q I (i σ H Q q)
theorem PA.imp {e:List Expr}{t t':TA}(h:PA X e t)(i:∀ σ H Q,t' σ H Q->t σ H Q):PA X e t':=fun pos pins s σ H Q I q=>h pos pins s σ H Q I (i σ H Q q)
theorem az7.trans {φ φ1:Nat->Addr}{s s1 s':jx}{H H1:Hp}{b:Bool}{Q:Bool->Hp->Prop}(h:az7 Γ φ s H b s' Q)(g:Gr φ s H φ1 s1 H1)(l:s.length<=s1.length):az7 Γ φ1 s1 H1 b s' Q :=
 fun φ' H' g' l' p=>h φ' H' (g.trans g' l) (aw l l') p
theorem bw4 (i:Nat){σ:St}{H:Hp}{Q:VK}(h:TEv Γ (fun ρ s=>kI ρ i s) σ H Q):aS8 i σ H Q:=by
 obtain⟨φ,ρ,s,d,s',E,R,hm,q⟩:=h
 simp only[kI]at hm
 split at hm
 ·rename_i d' e
  cases hm
  obtain⟨b,v,e1,e2⟩:=E.val i _ e
  exact⟨v,e1,q.here R b e2⟩
 ·exact fb hm
theorem au8 {c:jy}{v:V}(hb:∀ n,c.bnd n=true)(hv:∀ φ H,RV Γ φ H c v){σ:St}{H:Hp}{Q:VK}(h:TEv Γ (fun ρ s=>.ok c s) σ H Q):tC v σ H Q:=by
 obtain⟨φ,ρ,s,d,s',E,R,hm,q⟩:=h
 cases hm
 exact q.here R (hb _) (hv _ _)
theorem aG3 {m1 m2:jA->jx->jB jy}{f:jy->jy->jx->jB jy}{σ:St}{H:Hp}{Q:VK}(h:TEv Γ (fun ρ s=>(m1 ρ s).bind fun x s=>(m2 ρ s).bind fun y s=>f x y s) σ H Q):tOp (rOp Γ f) (TEv Γ m1) (TEv Γ m2) σ H Q:=by
 obtain⟨φ,ρ,s,d,s',E,R,hm,q⟩:=h
 obtain⟨x,s1,e1,hm⟩:=aa0 hm
 obtain⟨y,s2,e2,hm⟩:=aa0 hm
 refine⟨φ,ρ,s,x,s1,E,R,e1,fun v1 φ1 H1 g1 l1 b1 r1 R1=>?_⟩
 refine⟨φ1,ρ,s1,y,s2,E.mono g1 l1,R1,e2,fun v2 φ2 H2 g2 l2 b2 r2 R2=>?_⟩
 exact⟨φ2,s2,x,y,d,s',R2,RV.mono g2 x v1 b1 r1,r2,zx l2 x b1,b2,hm,q.trans (g1.trans g2 l1) (aw l1 l2)⟩
theorem zP {α:Type}{r:jB jy}{f:Bool->jx->jB α}{a:α}{t:jx}(h:jI r f=.ok a t):∃ b s,r=.ok (.bl b) s/\f b s=.ok a t:=by
 unfold jI at h
 obtain⟨d,s,e,h⟩:=aa0 h
 cases d with
 | bl b=>exact⟨b,s,e,h⟩
 | _=>exact fb h
theorem bf7 {m:jA->jx->jB jy}{σ:St}{H:Hp}{Q:Bool->Hp->Prop}(h:TTv Γ m σ H Q):tB (TEv Γ m) σ H Q:=by
 obtain⟨φ,ρ,s,b,s',E,R,hm,q⟩:=h
 refine⟨φ,ρ,s,.bl b,s',E,R,hm,fun v φ' H' g l bb r R'=>?_⟩
 exact⟨b,r.blE,q φ' H' g l R'⟩
theorem aJ7 {m:jA->jx->jB jy}{σ:St}{H:Hp}{Q:Bool->Hp->Prop}(h:TTv Γ m σ H Q):bw1 (TEv Γ m) σ H Q:=bf7 h
theorem bx4 {m:jA->jx->jB jy}{σ:St}{H:Hp}{Q:Bool->Hp->Prop}(h:TTv Γ (fun ρ s=>jI (m ρ s) fun b s=>.ok (.bl (!b)) s) σ H Q):bS5 (TTv Γ m) σ H Q:=by
 obtain⟨φ,ρ,s,b,s',E,R,hm,q⟩:=h
 obtain⟨c,s1,e1,hm⟩:=zP hm
 cases hm
 exact⟨φ,ρ,s,c,_,E,R,e1,q⟩
theorem be1 {m1 m2:jA->jx->jB jy}{σ:St}{H:Hp}{Q:Bool->Hp->Prop}(h:TTv Γ (fun ρ s=>jI (m1 ρ s) fun c s=>if c then jI (m2 ρ s) fun c s=>.ok (.bl c) s else .ok (.bl false) s) σ H Q):bR9 (TTv Γ m1) (TTv Γ m2) σ H Q:=by
 obtain⟨φ,ρ,s,b,s',E,R,hm,q⟩:=h
 obtain⟨c,s1,e1,hm⟩:=zP hm
 refine⟨φ,ρ,s,c,s1,E,R,e1,fun φ1 H1 g1 l1 R1=>?_⟩
 cases c with
 | true =>
  rw[if_pos rfl]at hm ⊢
  obtain⟨c',s2,e2,hm⟩:=zP hm
  cases hm
  exact⟨φ1,ρ,s1,_,_,E.mono g1 l1,R1,e2,q.trans g1 l1⟩
 | false =>
  rw[if_neg aP]at hm ⊢
  cases hm
  exact q φ1 H1 g1 l1 R1
theorem by5 {m1 m2:jA->jx->jB jy}{σ:St}{H:Hp}{Q:Bool->Hp->Prop}(h:TTv Γ (fun ρ s=>jI (m1 ρ s) fun c s=>if c then .ok (.bl true) s else jI (m2 ρ s) fun c s=>.ok (.bl c) s) σ H Q):tOr (TTv Γ m1) (TTv Γ m2) σ H Q:=by
 obtain⟨φ,ρ,s,b,s',E,R,hm,q⟩:=h
 obtain⟨c,s1,e1,hm⟩:=zP hm
 refine⟨φ,ρ,s,c,s1,E,R,e1,fun φ1 H1 g1 l1 R1=>?_⟩
 cases c with
 | true =>
  rw[if_pos rfl]at hm ⊢
  cases hm
  exact q φ1 H1 g1 l1 R1
 | false =>
  rw[if_neg aP]at hm ⊢
  obtain⟨c',s2,e2,hm⟩:=zP hm
  cases hm
  exact⟨φ1,ρ,s1,_,_,E.mono g1 l1,R1,e2,q.trans g1 l1⟩
theorem by1 {m:jA->jx->jB jy}{σ:St}{H:Hp}{Q:VK}(h:TEv Γ (fun ρ s=>jI (m ρ s) fun b s=>.ok (.bl (!b)) s) σ H Q):bx2 (TEv Γ m) σ H Q:=by
 obtain⟨φ,ρ,s,d,s',E,R,hm,q⟩:=h
 obtain⟨c,s1,e1,hm⟩:=zP hm
 cases hm
 exact⟨φ,ρ,s,.bl c,_,E,R,e1,fun v φ1 H1 g l b r R1=>⟨c,r.blE,q _ φ1 H1 g l rfl RV.blI R1⟩⟩
theorem be9 {m1 m2:jA->jx->jB jy}{σ:St}{H:Hp}{Q:VK}(h:TEv Γ (fun ρ s=>jI (m1 ρ s) fun c s=>if c then jI (m2 ρ s) fun c s=>.ok (.bl c) s else .ok (.bl false) s) σ H Q):bC8 (TEv Γ m1) (TEv Γ m2) σ H Q:=by
 obtain⟨φ,ρ,s,d,s',E,R,hm,q⟩:=h
 obtain⟨c,s1,e1,hm⟩:=zP hm
 refine⟨φ,ρ,s,.bl c,s1,E,R,e1,fun v φ1 H1 g1 l1 b1 r1 R1=>⟨c,r1.blE,?_⟩⟩
 cases c with
 | true =>
  rw[if_pos rfl]at hm ⊢
  obtain⟨c,s2,e2,hm⟩:=zP hm
  cases hm
  exact⟨φ1,ρ,s1,.bl c,_,E.mono g1 l1,R1,e2,q.trans g1 l1⟩
 | false =>
  rw[if_neg aP]at hm ⊢
  cases hm
  exact q _ φ1 H1 g1 l1 rfl RV.blI R1
theorem bu4 {m1 m2:jA->jx->jB jy}{σ:St}{H:Hp}{Q:VK}(h:TEv Γ (fun ρ s=>jI (m1 ρ s) fun c s=>if c then .ok (.bl true) s else jI (m2 ρ s) fun c s=>.ok (.bl c) s) σ H Q):bT1 (TEv Γ m1) (TEv Γ m2) σ H Q:=by
 obtain⟨φ,ρ,s,d,s',E,R,hm,q⟩:=h
 obtain⟨c,s1,e1,hm⟩:=zP hm
 refine⟨φ,ρ,s,.bl c,s1,E,R,e1,fun v φ1 H1 g1 l1 b1 r1 R1=>⟨c,r1.blE,?_⟩⟩
 cases c with
 | true =>
  rw[if_pos rfl]at hm ⊢
  cases hm
  exact q _ φ1 H1 g1 l1 rfl RV.blI R1
 | false =>
  rw[if_neg aP]at hm ⊢
  obtain⟨c,s2,e2,hm⟩:=zP hm
  cases hm
  exact⟨φ1,ρ,s1,.bl c,_,E.mono g1 l1,R1,e2,q.trans g1 l1⟩
theorem bD9 {mc m1 m2:jA->jx->jB jy}{σ:St}{H:Hp}{Q:VK}(h:TEv Γ (fun ρ s=>jI (mc ρ s) fun k s=>if k then m1 ρ s else m2 ρ s) σ H Q):tIf (TTv Γ mc) (TEv Γ m1) (TEv Γ m2) σ H Q:=by
 obtain⟨φ,ρ,s,d,s',E,R,hm,q⟩:=h
 obtain⟨c,s1,e1,hm⟩:=zP hm
 refine⟨φ,ρ,s,c,s1,E,R,e1,fun φ1 H1 g1 l1 R1=>?_⟩
 cases c with
 | true =>
  rw[if_pos rfl]at hm ⊢
  exact⟨φ1,ρ,s1,d,s',E.mono g1 l1,R1,hm,q.trans g1 l1⟩
 | false =>
  rw[if_neg aP]at hm ⊢
  exact⟨φ1,ρ,s1,d,s',E.mono g1 l1,R1,hm,q.trans g1 l1⟩
theorem aB3 {σ:St}{H:Hp}{Q:List V->Hp->Prop}(h:TAv Γ (fun ρ s=>.ok [] s) σ H Q):aU0 σ H Q:=by
 obtain⟨φ,ρ,s,d,s',E,R,hm,q⟩:=h
 cases hm
 exact q [] φ H (Gr.refl _ _ _) (ai _) rfl .nil R
theorem bo1 {m:jA->jx->jB jy}{ms:jA->jx->jB (List jy)}{σ:St}{H:Hp}{Q:List V->Hp->Prop}(h:TAv Γ (fun ρ s=>(m ρ s).bind fun d s=>(ms ρ s).bind fun l s=>.ok (d::l) s) σ H Q):ap6 (TEv Γ m) (TAv Γ ms) σ H Q:=by
 obtain⟨φ,ρ,s,l,s',E,R,hm,q⟩:=h
 obtain⟨x,s1,e1,hm⟩:=aa0 hm
 obtain⟨y,s2,e2,hm⟩:=aa0 hm
 cases hm
 refine⟨φ,ρ,s,x,s1,E,R,e1,fun v1 φ1 H1 g1 l1 b1 r1 R1=>?_⟩
 refine⟨φ1,ρ,s1,y,_,E.mono g1 l1,R1,e2,fun v2 φ2 H2 g2 l2 b2 r2 R2=>?_⟩
 refine q (v1::v2) φ2 H2 (g1.trans g2 l1) (aw l1 l2) ?_ (.cons (RV.mono g2 x v1 b1 r1) r2) R2
 unfold jz
 rw[zx l2 x b1,b2];rfl
theorem av4 {ms:jA->jx->jB (List jy)}{f:List jy->jx->jB jy}{σ:St}{H:Hp}{Q:VK}(h:TEv Γ (fun ρ s=>(ms ρ s).bind fun l s=>f l s) σ H Q):tCB (rCl Γ f) (TAv Γ ms) σ H Q:=by
 obtain⟨φ,ρ,s,d,s',E,R,hm,q⟩:=h
 obtain⟨l,s1,e1,hm⟩:=aa0 hm
 exact⟨φ,ρ,s,l,s1,E,R,e1,fun vs φ1 H1 g1 l1 b1 r1 R1=>⟨φ1,s1,l,d,s',R1,r1,b1,hm,q.trans g1 l1⟩⟩
variable {Γ:Gm} {X:Cx}
def an2 (Γ:Gm)(J:It)(φ0:Nat->Addr)(H0:Hp)(s0:jx)(q:ko):Prop :=
 ∀ φ H s,Gr φ0 s0 H0 φ s H->s0.length<=s.length->Rp Γ φ H s->j4 s0 s q.src=true->∀ i:Nat,
  (i<q.its.length->J.go i H/\∀ x H',J.yld i H x H'->ac8 H H'/\∀ d,q.its[i]?=some d->RV Γ φ H' d x)/\(q.its.length<=i->J.stop i H)
def TIv (Γ:Gm)(m:jA->jx->jB ko):TI:=fun σ H R=>∃ φ ρ s q s',RE Γ φ H s.length ρ σ/\Rp Γ φ H s/\m ρ s=.ok q s' /\
 ∀ J φ' H',Gr φ s H φ' s' H'->s.length<=s'.length->jz s'.length q.its=true->Rp Γ φ' H' s'->an2 Γ J φ' H' s' q->R J H'
theorem PI.imp {tg e:Expr}{t t':TI}(h:PI X tg e t)(i:∀ σ H R,t' σ H R->t σ H R):PI X tg e t':=fun pins s σ H R I q=>h pins s σ H R I (i σ H R q)
theorem PI.or {tg e:Expr}{t t':TI}(h:PI X tg e t)(h':PI X tg e t'):PI X tg e (fun σ H R=>t σ H R\/t' σ H R):=fun pins s σ H R I q=>q.elim (h pins s σ H R I) (h' pins s σ H R I)
theorem ba0 {φ0:Nat->Addr}{H0:Hp}{s0:jx}{a:Addr}{xs:List V}{l:List jy}(h:SqT Γ.K H0 a xs)(hl:RVL Γ φ0 H0 l xs)(hb:jz s0.length l=true):an2 Γ (Itt Γ.K a) φ0 H0 s0 ⟨l,[]⟩:=by
 intro φ H s g _ R _ i
 have h':=g.w.kp.sqT h
 have hl':=RVL.mono g l xs hb hl
 refine⟨fun hlt=>⟨⟨xs,xs[i]'(by rw[hl'.length];exact hlt),h',aj _⟩,fun x H' y=>?_⟩,fun hle=>⟨xs,h',by rw[hl'.length];exact hle⟩⟩
 obtain⟨e,y⟩:=y
 subst e
 refine⟨ac8.refl _,fun d hd=>?_⟩
 obtain⟨v,e1,e2⟩:=hl'.get hd
 rw[y xs h']at e1;cases e1
 exact e2
theorem bq3 {φ0:Nat->Addr}{H0:Hp}{s0:jx}{a:Addr}{xs:List V}{l:List jy}(h:SqF Γ.K H0 a xs)(hl:RVL Γ φ0 H0 l xs)(hb:jz s0.length l=true):an2 Γ (Itl Γ.K a) φ0 H0 s0 ⟨l,[]⟩:=by
 intro φ H s g _ R _ i
 have h':=h.2 _ g.w.kp
 have hl':=RVL.mono g l xs hb hl
 refine⟨fun hlt=>⟨⟨xs,xs[i]'(by rw[hl'.length];exact hlt),h',aj _⟩,fun x H' y=>?_⟩,fun hle=>⟨xs,h',by rw[hl'.length];exact hle⟩⟩
 obtain⟨e,y⟩:=y
 subst e
 refine⟨ac8.refl _,fun d hd=>?_⟩
 obtain⟨v,e1,e2⟩:=hl'.get hd
 rw[y xs h']at e1;cases e1
 exact e2
theorem aY0 {φ0:Nat->Addr}{H0:Hp}{s0:jx}{r:Nat}{l:List jy}(hr:s0[r]?=some (.lst l)):an2 Γ (Itl Γ.K (φ0 r)) φ0 H0 s0 ⟨l,[r]⟩:=by
 intro φ H s g _ R ck i
 have hlt0:r<s0.length:=(ag.mp hr).1
 have hs:s[r]?=some (.lst l):=by
  unfold j4 at ck
  simp only[cB,hX,eO,decide_eq_true_eq]at ck
  rw[ck];exact hr
 obtain⟨xs,e,hl'⟩:=R.addr hs
 rw[g.w.map r hlt0]at e
 have h':SqL Γ.K H (φ0 r) xs:=SqL.of e
 refine⟨fun hlt=>⟨⟨xs,xs[i]'(by rw[hl'.length];exact hlt),h',aj _⟩,fun x H' y=>?_⟩,fun hle=>⟨xs,h',by rw[hl'.length];exact hle⟩⟩
 obtain⟨e,y⟩:=y
 subst e
 refine⟨ac8.refl _,fun d hd=>?_⟩
 obtain⟨v,e1,e2⟩:=hl'.get hd
 rw[y xs h']at e1;cases e1
 exact e2
theorem aV8 {φ0:Nat->Addr}{H0:Hp}{s0:jx}{l:List Nat}:an2 Γ (Its ⟨l.toArray⟩) φ0 H0 s0 ⟨l.map fun c=>.str [c],[]⟩:=by
 intro φ H s g _ R _ i
 have hsz:(⟨l.toArray⟩:Str).cps.size=l.length:=by simp
 refine⟨fun hlt=>?_,fun hle=>?_⟩
 ·simp only[aM]at hlt
  refine⟨show i<(⟨l.toArray⟩:Str).cps.size by rw[hsz];exact hlt,fun x H' y=>?_⟩
  obtain⟨e,c,hc,rfl⟩:=y
  subst e
  refine⟨ac8.refl _,fun d hd=>?_⟩
  have hc':l[i]?=some c:=by simpa using hc
  rw[aE,hc']at hd
  cases hd
  exact RV.strI (by simp;decide)
 ·simp only[aM]at hle
  show(⟨l.toArray⟩:Str).cps.size<=i
  rw[hsz];exact hle
theorem aV0 {φ0:Nat->Addr}{H0:Hp}{s0:jx}{a b:Int}:an2 Γ (Itr a (b - a).toNat) φ0 H0 s0 ⟨kj a b,[]⟩:=by
 intro φ H s g _ R _ i
 have hn:(kj a b).length=(b - a).toNat:=by simp[kj]
 refine⟨fun hlt=>⟨show i<(b - a).toNat by rw[<-hn];exact hlt,fun x H' y=>?_⟩,fun hle=>show(b - a).toNat<=i by rw[<-hn];exact hle⟩
 obtain⟨e,rfl⟩:=y
 subst e
 refine⟨ac8.refl _,fun d hd=>?_⟩
 simp only[kj]at hd hlt
 rw[aE,bO (by simpa using hlt)]at hd
 cases hd
 exact RV.intI
theorem bk0 {m:jA->jx->jB jy}{σ:St}{H:Hp}{R:It->Hp->Prop}(h:TIv Γ (fun ρ s=>(m ρ s).bind fun x s=>match x with|.int i=>if -kP<=i/\i<kP then .ok ⟨kj 0 i,[]⟩ s else .bad|_=>.bad) σ H R) :
  bu2 (ap6 (TEv Γ m) aU0) σ H R:=by
 obtain⟨φ,ρ,s,q,s',E,P,hm,k⟩:=h
 obtain⟨x,s1,e1,hm⟩:=aa0 hm
 refine⟨φ,ρ,s,x,s1,E,P,e1,fun v φ1 H1 g l b r P1=>?_⟩
 cases x with
 | int i =>
  simp only at hm
  split at hm
  ·rename_i hi
   cases hm
   have hw:kP=2^62:=by decide
   rw[hw]at hi
   refine⟨i,by rw[r.intE],hi.1,hi.2,k _ φ1 H1 g l ?_ P1 ?_⟩
   ·refine aa9.mpr fun d hd=>?_
    simp only[kj,aG]at hd
    obtain⟨_,_,rfl⟩:=hd
    rfl
   ·have:=aV0 (Γ:=Γ) (φ0:=φ1) (H0:=H1) (s0:=s') (a:=0) (b:=i)
    rwa [Int.sub_zero]at this
  ·exact fb hm
 | _=>exact fb hm
theorem bC1 {m:jA->jx->jB jy}{σ:St}{H:Hp}{R:It->Hp->Prop}(h:TIv Γ (fun ρ s=>(m ρ s).bind fun d s=>DV.be5 d s) σ H R) :
  bP7 Γ.K (TEv Γ m) σ H R\/bl7 Γ.K (TEv Γ m) σ H R\/bS9 (TEv Γ m) σ H R:=by
 obtain⟨φ,ρ,s,q,s',E,P,hm,k⟩:=h
 obtain⟨x,s1,e1,hm⟩:=aa0 hm
 unfold DV.be5 at hm
 cases x with
 | tup l =>
  cases hm
  refine .inl ⟨φ,ρ,s,_,_,E,P,e1,fun v φ1 H1 g l b r P1=>?_⟩
  obtain⟨a,xs,rfl,h1,d1⟩:=r.tupE
  unfold jC at b
  exact⟨a,rfl,⟨xs,h1⟩,k _ φ1 H1 g l b P1 (ba0 h1 d1 b)⟩
 | str l =>
  cases hm
  refine .inr (.inr ⟨φ,ρ,s,_,_,E,P,e1,fun v φ1 H1 g ll b r P1=>?_⟩)
  refine⟨_,r.strE,k _ φ1 H1 g ll ?_ P1 aV8⟩
  refine aa9.mpr fun d hd=>?_
  simp only[aG]at hd
  obtain⟨_,_,rfl⟩:=hd
  rfl
 | ref r =>
  simp only at hm
  cases hs:s1[r]? with
  | none=>rw[hs]at hm;cases hm
  | some o =>
   rw[hs]at hm
   cases o with
   | lst l =>
    cases hm
    refine .inr (.inl ⟨φ,ρ,s,_,_,E,P,e1,fun v φ1 H1 g ll b rr P1=>?_⟩)
    have e:=rr.refE;subst e
    obtain⟨xs,e2,d1⟩:=P1.addr hs
    have wf:=P1.wf _ _ hs
    unfold jE at wf
    exact⟨φ1 r,rfl,⟨xs,SqL.of e2⟩,k _ φ1 H1 g ll wf P1 (aY0 hs)⟩
   | ro l =>
    cases hm
    refine .inr (.inl ⟨φ,ρ,s,_,_,E,P,e1,fun v φ1 H1 g ll b rr P1=>?_⟩)
    have e:=rr.refE;subst e
    obtain⟨xs,e2,d1⟩:=P1.obj _ _ hs
    have wf:=P1.wf _ _ hs
    unfold jE at wf
    exact⟨φ1 r,rfl,⟨xs,e2.1⟩,k _ φ1 H1 g ll wf P1 (bq3 e2 d1 wf)⟩
   | dic l=>exact fb hm
   | dit l=>exact fb hm
   | ins c l=>exact fb hm
 | _=>exact fb hm
variable {Γ:Gm} {X:Cx}
noncomputable def bI4:List Nat->TGs
 | []=>bS6
 | i::is=>bw8 (av0 i) (bI4 is)
noncomputable def gOf (K:ac):j1->TG
 | .one i=>av0 i
 | .tup is=>bO0 K is.length (bI4 is)
theorem aP3 {φ:Nat->Addr}{H:Hp}{n:Nat}{ρ ρ':jA}{σ:St}{i:Nat}{d:jy}{v:V}(E:RE Γ φ H n ρ σ)(r:RV Γ φ H d v)(b:d.bnd n=true)(h:jY ρ i d=some ρ'):RE Γ φ H n ρ' (σ.set i (some v)):=by
 unfold jY at h
 split at h
 ·rename_i hi
  cases h
  refine⟨by rw[aY,aY];exact E.len,fun j e hj=>?_⟩
  by_cases hij:j=i
  ·subst hij
   rw[aR hi]at hj
   cases hj
   exact⟨b,v,by rw[aR (by rw[<-E.len];exact hi)],r⟩
  ·rw[bo (bL hij)]at hj
   obtain⟨h1,w,h2,h3⟩:=E.val j e hj
   exact⟨h1,w,by rw[bo (bL hij)];exact h2,h3⟩
 ·cases h
theorem bH2 {φ:Nat->Addr}{H:Hp}{n:Nat}{Q:St->Hp->Prop}:∀(is:List Nat) (l:List jy) (xs:List V) (ρ ρ':jA) (σ:St),RE Γ φ H n ρ σ->RVL Γ φ H l xs->jz n l=true->ky ρ is l=some ρ'->(∀ σ',RE Γ φ H n ρ' σ'->Q σ' H)->bI4 is xs σ H Q
 | [],[],xs,ρ,ρ',σ,E,r,_,h,k=>by
  cases h
  exact⟨r.unnil,k σ E⟩
 | [],d::l,_,_,_,_,_,_,_,h,_=>by cases h
 | i::is,[],_,_,_,_,_,_,_,h,_=>by cases h
 | i::is,d::l,xs,ρ,ρ',σ,E,r,b,h,k=>by
  have h:(jY ρ i d).bind (fun ρ=>ky ρ is l)=some ρ':=h
  obtain⟨x,r',rfl,h1,h2⟩:=r.uncons
  unfold jz at b
  rw[af]at b
  cases e:jY ρ i d with
  | none=>rw[e]at h;cases h
  | some ρ1 =>
   rw[e]at h
   exact⟨x,r',rfl,bH2 is l r' ρ1 ρ' _ (aP3 E h1 b.1 e) h2 b.2 h k⟩
theorem aI9 {l:List jy}:∀ {is:List Nat} {ρ ρ':jA},ky ρ is l=some ρ'->is.length=l.length:=by
 induction l with
 | nil=>intro is ρ ρ' h;cases is with
  | nil=>rfl
  | cons i is=>cases h
 | cons d l ih=>intro is ρ ρ' h;cases is with
  | nil=>cases h
  | cons i is =>
   have h:(jY ρ i d).bind (fun ρ=>ky ρ is l)=some ρ':=h
   cases e:jY ρ i d with
   | none=>rw[e]at h;cases h
   | some ρ1=>rw[e]at h;rw[aQ,aQ,ih h]
theorem br1 {φ:Nat->Addr}{H:Hp}{n:Nat}{Q:St->Hp->Prop}{tg:j1}{d:jy}{v:V}{ρ ρ':jA}{σ:St}(E:RE Γ φ H n ρ σ)(r:RV Γ φ H d v)(b:d.bnd n=true)(h:jP ρ tg d=some ρ')(k:∀ σ',RE Γ φ H n ρ' σ'->Q σ' H):gOf Γ.K tg v σ H Q:=by
 cases tg with
 | one i=>exact k _ (aP3 E r b h)
 | tup is =>
  cases d with
  | tup l =>
   have h:ky ρ is l=some ρ':=h
   obtain⟨a,xs,rfl,h1,d1⟩:=r.tupE
   unfold jC at b
   exact⟨a,xs,rfl,h1,by rw[d1.length,aI9 h],bH2 is l xs ρ ρ' σ E d1 b h k⟩
  | _=>cases h
def Off (φ:Nat->Addr)(s:jx)(b:Addr):Prop:=∀(i:Nat) (ob:jR),s[i]?=some ob->isMut ob=true->φ i≠b
theorem Off.mono {φ φ':Nat->Addr}{s s':jx}{H H':Hp}{b:Addr}{o:HO}(h:Off φ s b)(g:Gr φ s H φ' s' H')(hb:H b=some o):Off φ' s' b:=fun i ob e m z=>by
 by_cases hi:i<s.length
 ·obtain⟨o0,e0⟩:∃ o0,s[i]?=some o0:=⟨s[i],aj hi⟩
  exact h i o0 e0 (g.mu i o0 ob e0 e m) (by rw[<-g.w.map i hi];exact z)
 ·have:=g.new i (by omega) (ag.mp e).1
  rw[z,hb]at this;cases this
theorem Off.new {φ:Nat->Addr}{s:jx}{H:Hp}{b:Addr}(r:Rp Γ φ H s)(h:H b=none):Off φ s b:=fun i ob e m z=>by
 obtain⟨u,hu,_⟩:=(r.obj i ob e).there m
 rw[z,h]at hu;cases hu
theorem Rp.foreign {φ:Nat->Addr}{s:jx}{H:Hp}{b:Addr}{ys zs:List V}(r:Rp Γ φ H s)(hb:H b=some (.lst ys))(ho:Off φ s b):Rp Γ φ (upd H b (.lst zs)) s:=by
 have g:Gw φ s.length H φ (upd H b (.lst zs)):=⟨fun _ _=>rfl,(Kp.refl H).put hb rfl⟩
 exact⟨r.inj,fun i o e=>(r.obj i o e).mono g (r.wf i o e) fun m u hu=>by rw[za (ho i o e m)];exact hu,r.wf,r.tab.put hb⟩
theorem Gr.foreign {φ φ':Nat->Addr}{s s':jx}{H H':Hp}{b:Addr}{ys zs:List V}(g:Gr φ s H φ' s' H')(h0:H b=none)(hb:H' b=some (.lst ys)):Gr φ s H φ' s' (upd H' b (.lst zs)):=by
 have ne:∀ c o,H c=some o->c≠b:=fun c o e=>zu e h0
 refine⟨⟨g.w.map,fun c o e f=>?_⟩,g.le,g.new,g.kd,fun c hc=>?_,fun c o e nt no=>?_⟩
 ·rw[za (ne c o e)];exact g.w.kp c o e f
 ·unfold upd;split
  ·simp
  ·exact g.st c hc
 ·rw[za (ne c o e)];exact g.fr c o e nt no
def bw7 (Γ:Gm)(φ:Nat->Addr)(s:jx)(H:Hp)(l:List jy)(s':jx)(Q:VK):Prop :=
 ∀ p ys φ' H',Gr φ s H φ' s' H'->s.length<=s'.length->jz s'.length l=true->H' p=some (.lst ys)->H p=none->Off φ' s' p->RVL Γ φ' H' l ys->Rp Γ φ' H' s'->Q (.ref p) H'
def TFv (Γ:Gm)(m:jA->jx->jB (List jy)):TE:=fun σ H Q=>∃ φ ρ s l s',RE Γ φ H s.length ρ σ/\Rp Γ φ H s/\m ρ s=.ok l s'/\bw7 Γ φ s H l s' Q
theorem aO3 {m:jA->jx->jB (List jy)}{σ:St}{H:Hp}{Q:VK}(h:TEv Γ (fun ρ s=>(m ρ s).bind fun l s=>j7 (.lst l) s) σ H Q):TFv Γ m σ H Q:=by
 obtain⟨φ,ρ,s,d,s',E,R,hm,q⟩:=h
 obtain⟨l,s1,e1,hm⟩:=aa0 hm
 obtain⟨rfl,rfl⟩:=qr hm
 refine⟨φ,ρ,s,l,s1,E,R,e1,fun p ys φ' H' g hl hb hp h0 ho r R'=>?_⟩
 have gw:Gw φ' s1.length H' (fun i=>if i=s1.length then p else φ' i) H':=⟨fun i hi=>if_neg (ax hi),Kp.refl _⟩
 have key:∀(i:Nat) (o':jR),(s1++[DV.O.lst l])[i]?=some o'->(i<s1.length/\s1[i]?=some o')\/(i=s1.length/\o'=.lst l):=fun i o' e=>by
  rcases eD i s1.length with h|h|h
  ·rw[aL h]at e;exact .inl ⟨h,e⟩
  ·subst h;simp at e;exact .inr ⟨rfl,e.symm⟩
  ·rw[bH (by simp;omega)]at e;cases e
 have G:Gr φ s H (fun i=>if i=s1.length then p else φ' i) (s1++[.lst l]) H':=by
  refine⟨⟨fun i hi=>by show(if i=s1.length then p else φ' i)=_;rw[if_neg (by omega)];exact g.w.map i hi,g.w.kp⟩,by simp;omega,fun i h1 h2=>?_,fun i o o' e e'=>?_,g.st,g.fr⟩
  ·by_cases hi:i=s1.length
   ·show H (if i=s1.length then p else φ' i)=none
    rw[if_pos hi];exact h0
   ·show H (if i=s1.length then p else φ' i)=none
    rw[if_neg hi];exact g.new i h1 (by simp at h2;omega)
  ·rcases key i o' e' with⟨_,e2⟩|⟨hi,_⟩
   ·exact g.kd i o o' e e2
   ·have:=(ag.mp e).1;omega
 have P:Rp Γ (fun i=>if i=s1.length then p else φ' i) H' (s1++[.lst l]):=by
  refine⟨fun i j oi oj ei ej mi mj e=>?_,fun i o e=>?_,fun i o e=>?_,R'.tab⟩
  ·rcases key i oi ei with⟨hi,ei⟩|⟨hi,_⟩<;>rcases key j oj ej with⟨hj,ej⟩|⟨hj,_⟩
   ·rw[if_neg (ax hi),if_neg (ax hj)]at e
    exact R'.inj i j oi oj ei ej mi mj e
   ·rw[if_neg (ax hi),if_pos hj]at e
    exact absurd e (ho i oi ei mi)
   ·rw[if_neg (ax hj),if_pos hi]at e
    exact absurd e.symm (ho j oj ej mj)
   ·rw[hi,hj]
  ·rcases key i o e with⟨hi,e⟩|⟨hi,rfl⟩
   ·show RO Γ _ _ (if i=s1.length then p else φ' i) o
    rw[if_neg (ax hi)]
    exact(R'.obj i o e).mono gw (R'.wf i o e) fun _ u hu=>hu
   ·show RO Γ _ _ (if i=s1.length then p else φ' i) _
    rw[if_pos hi]
    exact⟨ys,hp,RVL.monoW gw l ys hb r⟩
  ·rw[aV,cC]
   rcases key i o e with⟨_,e⟩|⟨_,rfl⟩
   ·exact qa (dG _) _ (R'.wf i o e)
   ·exact qa (dG _) _ (by unfold jE;exact hb)
 exact q (.ref p) _ H' G (by simp;omega) (by unfold jC;simp) (by unfold RV;simp) P
theorem bF7 {φ:Nat->Addr}{H:Hp}{n:Nat}{ρ:jA}{σ:St}(E:RE Γ φ H n ρ σ)(caps:List (Option Nat)):RE Γ φ H n (kq ρ caps) (at1 caps σ):=by
 refine⟨by unfold kq at1;simp,fun i d e=>?_⟩
 unfold kq at e
 rw[aE]at e
 cases q:caps[i]? with
 | none=>rw[q]at e;cases e
 | some o =>
  rw[q]at e
  cases o with
  | none=>cases e
  | some j =>
   have e':(ρ[j]?).join=some d:=az e
   have ej:ρ[j]?=some (some d):=by
    cases q2:ρ[j]? with
    | none=>rw[q2]at e';cases e'
    | some o2=>rw[q2]at e';exact congrArg some e'
   obtain⟨b,v,h1,h2⟩:=E.val j d ej
   refine⟨b,v,?_,h2⟩
   unfold at1
   rw[aE,q]
   show some ((σ[j]?).join)=_
   rw[h1];rfl
theorem aN0 {mI:jA->jx->jB ko}{mc me:jA->jx->jB jy}{tg:j1}{caps:List (Option Nat)}{σ:St}{H:Hp}{Q:VK}
  (h:TFv Γ (fun ρ s=>(mI ρ s).bind fun q s0=>if q.its.length<=jG then km (fun s=>j4 s0 s q.src) (fun d ρ s=>match jP ρ tg d with
   | some ρ=>jI (mc ρ s) fun k s=>if k then(me ρ s).bind fun v s=>.ok (some v,ρ) s else .ok (none,ρ) s
   | none=>.bad) q.its (kq ρ caps) s0 else .bad) σ H Q):tComp caps (TIv Γ mI) (gOf Γ.K tg) (TTv Γ mc) (TEv Γ me) σ H Q:=by
 obtain⟨φ,ρ,s,l,s',E,R,hm,k⟩:=h
 obtain⟨q,s0,e1,hm⟩:=aa0 hm
 split at hm
 case isFalse=>exact fb hm
 rename_i hlim
 refine⟨φ,ρ,s,q,s0,E,R,e1,fun J φ1 H1 g1 l1 b1 R1 wk D hD=>?_⟩
 have h0:H D=none:=by
  cases e:H D with
  | none=>rfl
  | some o=>exact absurd hD (g1.st D (by rw[e];simp))
 refine⟨fun i m σ' H'=>∃ φ' ρ' t acc ys rest,Gr φ1 s0 H1 φ' t H'/\Rp Γ φ' H' t/\RE Γ φ' H' t.length ρ' σ'/\H' D=some (.lst ys)/\Off φ' t D/\RVL Γ φ' H' acc ys/\jz t.length acc=true/\acc.length<=i/\i<=q.its.length/\m=q.its.length - i /\
  km (fun s=>j4 s0 s q.src) (fun d ρ s=>match jP ρ tg d with
   | some ρ=>jI (mc ρ s) fun k s=>if k then(me ρ s).bind fun v s=>.ok (some v,ρ) s else .ok (none,ρ) s
   | none=>.bad) (q.its.drop i) ρ' t=.ok rest s'/\l=acc++rest,⟨q.its.length,?_⟩,?_⟩
 ·obtain⟨g2,R2⟩:=R1.same (H':=upd H1 D (.lst [])) ((ac8.refl H1).new hD)
  exact⟨φ1,kq ρ caps,s0,[],[],l,g2,R2,bF7 ((E.mono g1 l1).mono g2 (ai _)) caps,zb,Off.new R1 hD,.nil,rfl,ai _,dD _,by simp,by rw[i4];exact hm,rfl⟩
 ·rintro i m σ' H' ⟨φ',ρ',t,acc,ys,rest,g,R',E',hy,off,ra,ba,hai,hil,rfl,hc,hl⟩
  have hle:=g.le
  rcases jk i q.its.length with hlt|hge
  ·have hd:q.its[i]?=some q.its[i]:=aj hlt
   rw[d8 hlt]at hc
   unfold km at hc
   split at hc
   case isFalse=>exact fb hc
   rename_i hck
   obtain⟨hgo,hy2⟩:=(wk φ' H' t g hle R' hck i).1 hlt
   refine .inr ⟨hgo,_,fun σ2 H2 n=>⟨q.its.length - (i+1),by omega,n⟩,fun x H2 hyl=>?_⟩
   obtain⟨sm,rv⟩:=hy2 x H2 hyl
   obtain⟨g2,R2⟩:=R'.same sm
   have rd:=rv _ hd
   have bd:(q.its[i]).bnd t.length=true:=zx hle _ (ai4 b1 hd)
   obtain⟨p,t3,hs,hc⟩:=aa0 hc
   obtain⟨r2,t4,hr2,hc⟩:=aa0 hc
   cases hb:jP ρ' tg q.its[i]with
   | none=>rw[hb]at hs;cases hs
   | some ρ3 =>
    rw[hb]at hs
    refine br1 (E'.mono g2 (ai _)) rd bd hb fun σ3 E3=>?_
    obtain⟨c,t1,ec,hs⟩:=zP hs
    refine⟨φ',ρ3,t,c,t1,E3,R2,ec,fun φ2 H4 g4 l4 R4=>?_⟩
    have hy4:H2 D=some (.lst ys):=sm _ _ hy
    have hD4:H4 D=some (.lst ys):=g4.fr D _ hy4 (by nofun) off
    have off4:Off φ2 t1 D:=off.mono g4 hy4
    have G4:=(g.trans g2 hle).trans g4 hle
    cases c with
    | true =>
     rw[if_pos rfl]at hs
     refine iteT ?_
     obtain⟨v,t2,ev,hs⟩:=aa0 hs
     cases hs
     refine⟨φ2,ρ3,t1,v,t3,E3.mono g4 l4,R4,ev,fun w φ3 H5 g5 l5 b5 r5 R5=>?_⟩
     have hD5:H5 D=some (.lst ys):=g5.fr D _ hD4 (by nofun) off4
     have off5:Off φ3 t3 D:=off4.mono g5 hD4
     refine⟨ys,hD5,?_,?_⟩
     ·rw[ra.length]
      have:=qi
      omega
     ·have gw:Gw φ3 t3.length H5 φ3 (upd H5 D (.lst (ys++[w]))):=⟨fun _ _=>rfl,(Kp.refl H5).put hD5 rfl⟩
      have G5:=G4.trans g5 (aw hle l4)
      have GG:=g2.trans (g4.trans g5 l4) (ai _)
      have ra5:RVL Γ φ3 H5 acc ys:=RVL.mono GG _ _ ba ra
      have bb:jz t3.length (acc++[v])=true:=zU (aa6 GG.le _ ba) (by unfold jz;rw[b5];rfl)
      refine⟨φ3,ρ3,t3,acc++[v],ys++[w],r2,G5.foreign hD hD5,R5.foreign hD5 off5,?_,zb,off5,RVL.monoW gw _ _ bb (ra5.append (.cons r5 .nil)),bb,by simp;omega,hlt,rfl,?_,?_⟩
      ·have E5:=(E3.mono g4 l4).mono g5 l5
       exact⟨E5.len,fun j e hj=>by
        obtain⟨h1,z,h2,h3⟩:=E5.val j e hj
        exact⟨h1,z,h2,RV.monoW gw _ _ h1 h3⟩⟩
      ·cases hc;exact hr2
      ·cases hc;rw[hl];simp
    | false =>
     rw[if_neg aP]at hs
     refine bV6 ?_
     cases hs
     have GG:=g2.trans g4 (ai _)
     exact⟨φ2,ρ3,t3,acc,ys,r2,G4,R4,E3.mono g4 l4,hD4,off4,RVL.mono GG _ _ ba ra,aa6 l4 _ ba,by omega,hlt,rfl,by cases hc;exact hr2,by cases hc;exact hl⟩
  ·have hi:i=q.its.length:=by omega
   rw[fF hge]at hc
   unfold km at hc
   split at hc
   case isFalse=>exact fb hc
   rename_i hck
   cases hc
   refine .inl ⟨(wk φ' H' s' g hle R' hck i).2 hge,?_⟩
   rw[bj]at hl
   subst hl
   exact k D ys φ' H' (g1.trans g l1) (aw l1 hle) ba hy h0 off ra R'
variable {Γ:Gm} {X:Cx}
noncomputable def bT7 (Γ:Gm)(φ:Nat->Addr)(H:Hp)(n:Nat)(D:Ends):j2->Prop
 | .next ρ=>∀ σ,RE Γ φ H n ρ σ->D.nx σ H
 | .ret d=>∀ v,d.bnd n=true->RV Γ φ H d v->D.rt v H
 | .cont ρ=>∀ σ,RE Γ φ H n ρ σ->D.ct σ H
 | .brk ρ=>∀ σ,RE Γ φ H n ρ σ->D.bk σ H
def aj3 (Γ:Gm)(φ:Nat->Addr)(s:jx)(H:Hp)(c:j2)(s':jx)(D:Ends):Prop :=
 ∀ φ' H',Gr φ s H φ' s' H'->s.length<=s'.length->Rp Γ φ' H' s'->bT7 Γ φ' H' s'.length D c
def TSv (Γ:Gm)(m:jA->jx->jB j2):TS:=fun D σ H=>∃ φ ρ s c s',RE Γ φ H s.length ρ σ/\Rp Γ φ H s/\m ρ s=.ok c s'/\aj3 Γ φ s H c s' D
theorem PS.imp {e:Stmt}{t t':TS}(h:PS X e t)(i:∀ D σ H,t' D σ H->t D σ H):PS X e t':=fun pins s σ H Q I q=>h pins s σ H Q I (i Q σ H q)
theorem PSs.imp {e:List Stmt}{t t':TS}(h:PSs X e t)(i:∀ D σ H,t' D σ H->t D σ H):PSs X e t':=fun pins s σ H Q I q=>h pins s σ H Q I (i Q σ H q)
theorem aj3.trans {φ φ1:Nat->Addr}{s s1 s':jx}{H H1:Hp}{c:j2}{D:Ends}(h:aj3 Γ φ s H c s' D)(g:Gr φ s H φ1 s1 H1)(l:s.length<=s1.length):aj3 Γ φ1 s1 H1 c s' D :=
 fun φ' H' g' l' p=>h φ' H' (g.trans g' l) (aw l l') p
theorem aj3.here {φ:Nat->Addr}{s:jx}{H:Hp}{c:j2}{D:Ends}(h:aj3 Γ φ s H c s D)(p:Rp Γ φ H s):bT7 Γ φ H s.length D c:=h φ H (Gr.refl φ s H) (ai _) p
variable {D:Ends} {σ:St} {H:Hp}
theorem bp5 {m:jA->jx->jB j2}(hm:∀ ρ s,m ρ s=.ok (.next ρ) s)(h:TSv Γ m D σ H):bx0 D σ H:=by
 obtain⟨φ,ρ,s,c,s',E,R,e,q⟩:=h
 rw[hm]at e;cases e
 exact q.here R σ E
theorem bu7 {m:jA->jx->jB jy}(h:TSv Γ (fun ρ s=>(m ρ s).bind fun d s=>.ok (.ret d) s) D σ H):bS4 (TEv Γ m) D σ H:=by
 obtain⟨φ,ρ,s,c,s',E,R,e,q⟩:=h
 obtain⟨x,s1,e1,e⟩:=aa0 e
 cases e
 exact⟨φ,ρ,s,x,_,E,R,e1,fun v φ1 H1 g1 l1 b1 r1 R1=>q φ1 H1 g1 l1 R1 v b1 r1⟩
theorem bs2 {m:jA->jx->jB jy}(h:TSv Γ (fun ρ s=>(m ρ s).bind fun _ s=>.ok (.next ρ) s) D σ H):bA9 (TEv Γ m) D σ H:=by
 obtain⟨φ,ρ,s,c,s',E,R,e,q⟩:=h
 obtain⟨x,s1,e1,e⟩:=aa0 e
 cases e
 exact⟨φ,ρ,s,x,_,E,R,e1,fun v φ1 H1 g1 l1 b1 r1 R1=>q φ1 H1 g1 l1 R1 σ (E.mono g1 l1)⟩
theorem aP1 {m:jA->jx->jB jy}{tg:j1}(h:TSv Γ (fun ρ s=>(m ρ s).bind fun d s=>match jP ρ tg d with|some ρ=>.ok (.next ρ) s|none=>.bad) D σ H):aU5 (TEv Γ m) (gOf Γ.K tg) D σ H:=by
 obtain⟨φ,ρ,s,c,s',E,R,e,q⟩:=h
 obtain⟨x,s1,e1,e⟩:=aa0 e
 refine⟨φ,ρ,s,x,s1,E,R,e1,fun v φ1 H1 g1 l1 b1 r1 R1=>?_⟩
 cases hb:jP ρ tg x with
 | none=>rw[hb]at e;cases e
 | some ρ1 =>
  rw[hb]at e
  cases e
  exact br1 (E.mono g1 l1) r1 b1 hb fun σ' E'=>q φ1 H1 g1 l1 R1 σ' E'
theorem aX7 {m:jA->jx->jB (List jy)}(h:TSv Γ (fun ρ s=>((m ρ s).bind fun l s=>j7 (.lst l) s).bind fun d s=>match jP ρ tg d with|some ρ=>.ok (.next ρ) s|none=>.bad) D σ H):aU5 (TFv Γ m) (gOf Γ.K tg) D σ H :=
 aO3 (aP1 h)
def bA8 (Γ:Gm):bI7:=fun o i v H Q=>∃ φ s x y d s',Rp Γ φ H s/\RV Γ φ H x o/\RV Γ φ H y i/\RV Γ φ H d v/\x.bnd s.length=true/\y.bnd s.length=true/\d.bnd s.length=true/\DV.setIx x y d s=.ok () s' /\
 ∀ φ' H',Gr φ s H φ' s' H'->s.length<=s'.length->Rp Γ φ' H' s'->Q H'
theorem aZ2 {me mo mi:jA->jx->jB jy}(h:TSv Γ (fun ρ s=>(me ρ s).bind fun d s=>(mo ρ s).bind fun x s=>(mi ρ s).bind fun y s=>(DV.setIx x y d s).bind fun _ s=>.ok (.next ρ) s) D σ H) :
  aU5 (TEv Γ me) (bS1 (TEv Γ mo) (TEv Γ mi) (bA8 Γ)) D σ H:=by
 obtain⟨φ,ρ,s,c,s',E,R,e,q⟩:=h
 obtain⟨d,s1,e1,e⟩:=aa0 e
 obtain⟨x,s2,e2,e⟩:=aa0 e
 obtain⟨y,s3,e3,e⟩:=aa0 e
 obtain⟨u,s4,e4,e⟩:=aa0 e
 cases e
 refine⟨φ,ρ,s,d,s1,E,R,e1,fun v1 φ1 H1 g1 l1 b1 r1 R1=>?_⟩
 refine⟨φ1,ρ,s1,x,s2,E.mono g1 l1,R1,e2,fun v2 φ2 H2 g2 l2 b2 r2 R2=>?_⟩
 have G2:=g1.trans g2 l1
 have L2:=aw l1 l2
 refine⟨φ2,ρ,s2,y,s3,E.mono G2 L2,R2,e3,fun v3 φ3 H3 g3 l3 b3 r3 R3=>?_⟩
 refine⟨φ3,s3,x,y,d,_,R3,RV.mono g3 x v2 b2 r2,r3,RV.mono (g2.trans g3 l2) d v1 b1 r1,zx l3 x b2,b3,zx (aw l2 l3) d b1,e4,fun φ4 H4 g4 l4 R4=>?_⟩
 have G3:=G2.trans g3 L2
 have L3:=aw L2 l3
 exact q φ4 H4 (G3.trans g4 L3) (aw L3 l4) R4 σ (E.mono (G3.trans g4 L3) (aw L3 l4))
theorem bx1 (hu:X.A.units+1<cLine):bK0 X (bA8 Γ):=by
 intro pins sh σ H o i v ov iv u Q I ro ri rv h
 obtain⟨φ,s,x,y,d,s',R,rx,ry,rd,bx,by',bd,hm,q⟩:=h
 cases x with
 | ref r =>
  have hm:(match s[r]? with
   | some (.lst l)=>(match y with
    | .int i=>(match j8 l.length i with|some j=>DV.R.ok () (s.set r (.lst (l.set j d)))|none=>.bad)
    | _=>.bad)
   | some (.dic l)=>if y.key&&decide (l.length<jG)then .ok () (s.set r (.dic (jK y d l)))else .bad
   | some (.dit l)=>if y.keyT&&decide (l.length<jG)then .ok () (s.set r (.dit (jK y d l)))else .bad
   | _=>.bad)=.ok () s':=hm
  cases e:s[r]? with
  | none=>rw[e]at hm;cases hm
  | some ob =>
   rw[e]at hm
   cases ob with
   | lst l =>
    cases y with
    | int k =>
     have hm:(match j8 l.length k with|some j=>DV.R.ok () (s.set r (.lst (l.set j d)))|none=>.bad)=.ok () s':=hm
     cases ej:j8 l.length k with
     | none=>rw[ej]at hm;cases hm
     | some j =>
      rw[ej]at hm
      cases hm
      obtain⟨xs,h1,h2⟩:=R.addr e
      have hb:jz s.length (l.set j d)=true:=aa9.mpr fun z hz=>by
       rcases d9 hz with h|h
       ·exact aa9.mp (by have:=R.wf r _ e;unfold jE at this;exact this) z h
       ·subst h;exact bd
      refine aU1 pins sh σ H o i v ov iv u Q I ro ri rv ⟨φ r,xs,k,j,rx.refE,ry.intE,h1,?_,?_⟩
      ·rw[h2.length];exact ej
      ·obtain⟨g,R'⟩:=R.set (o:=.lst (l.set j d)) (u:=.lst (xs.set j v)) e rfl hb fun H' g e=>⟨_,e,RVL.monoW g _ _ hb (h2.set j rd)⟩
       exact q _ _ g (by simp) R'
    | _=>exact fb hm
   | dic l =>
    have hm:(if y.key&&decide (l.length<jG)then DV.R.ok () (s.set r (.dic (jK y d l)))else .bad)=.ok () s':=hm
    split at hm
    case isFalse=>exact fb hm
    rename_i hc
    cases hm
    rw[af]at hc
    obtain⟨k,hk⟩:=ap0 hc.1
    have hlt:=of_decide_eq_true hc.2
    obtain⟨kvs,h1,h2⟩:=R.obj r _ e
    have ex:=rx.refE;subst ex
    cases ro
    have ey:=aC3 hk ry;subst ey
    have hb:(DV.O.dic (jK y d l)).bnd s.length=true:=az9 (R.wf r _ e) by' bd
    have hb2:jz s.length ((jK y d l).map (·.2))=true:=by
     unfold jE at hb
     rw[af]at hb
     exact hb.2
    obtain⟨g,R'⟩:=R.set (o:=.dic (jK y d l)) (u:=.dK (am0 kvs k v)) e rfl hb fun H' g e=>⟨_,e,RVD.monoW g _ _ hb2 (h2.put keyOf_inj hk rd)⟩
    exact ar9 hu I (bg6.k h1 (by rw[h2.length];exact am hlt qi)) ri rv fun s4 I4=>⟨_,I4,q _ _ g (by simp) R'⟩
   | dit l =>
    have hm:(if y.keyT&&decide (l.length<jG)then DV.R.ok () (s.set r (.dit (jK y d l)))else .bad)=.ok () s':=hm
    split at hm
    case isFalse=>exact fb hm
    rename_i hc
    cases hm
    rw[af]at hc
    obtain⟨k,hk⟩:=ar8 hc.1
    have hlt:=of_decide_eq_true hc.2
    obtain⟨kvs,h1,h2⟩:=R.obj r _ e
    have ex:=rx.refE;subst ex
    cases ro
    obtain⟨kb,ey,hkb⟩:=aM8 hk ry;subst ey
    have hb:(DV.O.dit (jK y d l)).bnd s.length=true:=aW1 (R.wf r _ e) by' bd
    have hb2:jz s.length ((jK y d l).map (·.2))=true:=by
     unfold jE at hb
     rw[af]at hb
     exact hb.2
    obtain⟨g,R'⟩:=R.set (o:=.dit (jK y d l)) (u:=.dT (am0 kvs k v)) e rfl hb fun H' g e=>⟨_,e,RVD.monoW g _ _ hb2 (h2.put keyT_inj hk rd)⟩
    exact ar9 hu I (bg6.t h1 hkb (by rw[h2.length];exact am hlt qi)) ri rv fun s4 I4=>⟨_,I4,q _ _ g (by simp) R'⟩
   | _=>exact fb hm
 | _=>exact fb hm
theorem bE9 {i:Nat}{m:jA->jx->jB jy} (h:TSv Γ (fun ρ s=>(kI ρ i s).bind fun x s=>(m ρ s).bind fun y s=>match x,y with
  | .int a,.int b=>match jY ρ i (.int (a+b))with|some ρ=>.ok (.next ρ) s|none=>.bad
  | _,_=>.bad) D σ H):bR5 i (TEv Γ m) (ipI fun i j=>i+j) D σ H:=by
 obtain⟨φ,ρ,s,c,s',E,R,f0,q⟩:=h
 obtain⟨x,s1,e1,f1⟩:=aa0 f0
 obtain⟨y,s2,e2,e⟩:=aa0 f1
 clear f0 f1
 unfold kI at e1
 split at e1
 case h_2=>cases e1
 rename_i d hd
 cases e1
 obtain⟨b,v,h1,h2⟩:=E.val i _ hd
 refine⟨v,h1,φ,ρ,s,y,s2,E,R,e2,fun w φ1 H1 g1 l1 b1 r1 R1=>?_⟩
 cases x with
 | int a =>
  cases y with
  | int b =>
   refine⟨a,b,h2.intE,r1.intE,?_⟩
   have e:(match jY ρ i (.int (a+b))with|some ρ=>DV.R.ok (DV.Ct.next ρ) s2|none=>.bad)=.ok c s':=e
   cases hs:jY ρ i (.int (a+b))with
   | none=>rw[hs]at e;cases e
   | some ρ1 =>
    rw[hs]at e
    cases e
    exact q φ1 H1 g1 l1 R1 _ (aP3 (E.mono g1 l1) RV.intI rfl hs)
  | _=>cases e
 | _=>cases e
theorem bM5 {mc:jA->jx->jB jy}{m1 m2:jA->jx->jB j2}(h:TSv Γ (fun ρ s=>jI (mc ρ s) fun k s=>if k then m1 ρ s else m2 ρ s) D σ H):bT6 (TTv Γ mc) (TSv Γ m1) (TSv Γ m2) D σ H:=by
 obtain⟨φ,ρ,s,d,s',E,R,hm,q⟩:=h
 obtain⟨c,s1,e1,hm⟩:=zP hm
 refine⟨φ,ρ,s,c,s1,E,R,e1,fun φ1 H1 g1 l1 R1=>?_⟩
 cases c with
 | true =>
  rw[if_pos rfl]at hm ⊢
  exact⟨φ1,ρ,s1,d,s',E.mono g1 l1,R1,hm,q.trans g1 l1⟩
 | false =>
  rw[if_neg aP]at hm ⊢
  exact⟨φ1,ρ,s1,d,s',E.mono g1 l1,R1,hm,q.trans g1 l1⟩
theorem bB1 {m1 m2:jA->jx->jB j2}(h:TSv Γ (fun ρ s=>(m1 ρ s).bind fun c s=>match c with|.next ρ=>m2 ρ s|c=>.ok c s) D σ H):bS2 (TSv Γ m1) (TSv Γ m2) D σ H:=by
 obtain⟨φ,ρ,s,c,s',E,R,hm,q⟩:=h
 obtain⟨c1,s1,e1,hm⟩:=aa0 hm
 refine⟨φ,ρ,s,c1,s1,E,R,e1,fun φ1 H1 g1 l1 R1=>?_⟩
 cases c1 with
 | next ρ1=>exact fun σ1 E1=>⟨φ1,ρ1,s1,c,s',E1,R1,hm,q.trans g1 l1⟩
 | ret d=>cases hm;exact q φ1 H1 g1 l1 R1
 | cont ρ=>cases hm;exact q φ1 H1 g1 l1 R1
 | brk ρ=>cases hm;exact q φ1 H1 g1 l1 R1
theorem ba1 {mc:jA->jx->jB jy}{mb:jA->jx->jB j2}(h:TSv Γ (DV.whl mc mb) D σ H):bb3 (TTv Γ mc) (TSv Γ mb) D σ H:=by
 obtain⟨φ,ρ,s,c,s',E,R,hm,q⟩:=h
 unfold DV.whl at hm
 split at hm
 case isFalse=>exact fb hm
 rename_i hn
 generalize hn.choose=n at hm
 refine⟨fun n σ H=>∃ φ ρ s,RE Γ φ H s.length ρ σ/\Rp Γ φ H s/\DV.qT mc mb n ρ s=.ok c s'/\aj3 Γ φ s H c s' D,⟨n,φ,ρ,s,E,R,hm,q⟩,?_⟩
 clear E R hm q hn
 rintro n σ H ⟨φ,ρ,s,E,R,hm,q⟩
 cases n with
 | zero=>exact fb hm
 | succ n =>
  unfold DV.qT at hm
  obtain⟨b,s1,e1,hm⟩:=zP hm
  refine⟨φ,ρ,s,b,s1,E,R,e1,fun φ1 H1 g1 l1 R1=>?_⟩
  cases b with
  | false =>
   rw[if_neg aP]at hm ⊢
   cases hm
   exact q φ1 H1 g1 l1 R1 σ (E.mono g1 l1)
  | true =>
   rw[if_pos rfl]at hm ⊢
   obtain⟨c1,s2,e2,hm⟩:=aa0 hm
   refine⟨_,fun σ' H' w=>⟨n,eU n,w⟩,φ1,ρ,s1,c1,s2,E.mono g1 l1,R1,e2,fun φ2 H2 g2 l2 R2=>?_⟩
   have G:=g1.trans g2 l1
   have L:=aw l1 l2
   cases c1 with
   | next ρ1=>exact fun σ1 E1=>⟨φ2,ρ1,s2,E1,R2,hm,q.trans G L⟩
   | cont ρ1=>exact fun σ1 E1=>⟨φ2,ρ1,s2,E1,R2,hm,q.trans G L⟩
   | ret d=>cases hm;exact q φ2 H2 G L R2
   | brk ρ=>cases hm;exact q φ2 H2 G L R2
theorem bB8 {mI : DV.Env -> DV.Sto -> DV.R DV.Sq} {mb : DV.Env -> DV.Sto -> DV.R DV.Ct} {tg : DV.Tg} (h : TSv Γ (fun ρ s => (mI ρ s).bind fun q s0 => DV.aE6 (fun s => DV.chk s0 s q.src) (fun d ρ s => match DV.ac2 ρ tg d with
      | some ρ => mb ρ s
      | none => .bad) q.its ρ s0) D σ H) : bQ8 (TIv Γ mI) (gOf Γ.K tg) (TSv Γ mb) D σ H := by
  obtain⟨φ, ρ, s, c, s', E, R, hm, k⟩ := h
  obtain⟨q, s0, e1, hm⟩ := aa0 hm
  refine⟨φ, ρ, s, q, s0, E, R, e1, fun J φ1 H1 g1 l1 b1 R1 wk => ?_⟩
  refine⟨fun i m σ' H' => ∃ φ' ρ' t, Gr φ1 s0 H1 φ' t H' /\ Rp Γ φ' H' t /\ RE Γ φ' H' t.length ρ' σ' /\ i <= q.its.length /\ m = q.its.length - i /\
    kJ (fun s => j4 s0 s q.src) (fun d ρ s => match jP ρ tg d with
      | some ρ => mb ρ s
      | none => .bad) (q.its.drop i) ρ' t = .ok c s', ⟨q.its.length, ?_⟩, ?_⟩
  · exact⟨φ1, ρ, s0, Gr.refl _ _ _, R1, E.mono g1 l1, dD _, by simp, by rw[i4]; exact hm⟩
  · rintro i m σ' H' ⟨φ', ρ', t, g, R', E', hil, rfl, hc⟩
    have hle := g.le
    rcases jk i q.its.length with hlt|hge
    · have hd : q.its[i]? = some q.its[i] := aj hlt
      rw[d8 hlt]at hc
      unfold kJ at hc
      split at hc
      case isFalse => exact fb hc
      rename_i hck
      obtain⟨hgo, hy2⟩ := (wk φ' H' t g hle R' hck i).1 hlt
      refine .inr ⟨hgo, _, fun σ2 H2 n => ⟨q.its.length - (i + 1), by omega, n⟩, fun x H2 hyl => ?_⟩
      obtain⟨sm, rv⟩ := hy2 x H2 hyl
      obtain⟨g2, R2⟩ := R'.same sm
      have rd := rv _ hd
      have bd : (q.its[i]).bnd t.length = true := zx hle _ (ai4 b1 hd)
      obtain⟨c1, t3, hs, hc⟩ := aa0 hc
      cases hb : jP ρ' tg q.its[i]with
      | none => rw[hb]at hs; cases hs
      | some ρ3 =>
        rw[hb]at hs
        refine br1 (E'.mono g2 (ai _)) rd bd hb fun σ3 E3 => ?_
        refine⟨φ', ρ3, t, c1, t3, E3, R2, hs, fun φ2 H4 g4 l4 R4 => ?_⟩
        have G4 := (g.trans g2 hle).trans g4 hle
        have L4 := aw hle l4
        have GG := g1.trans G4 l1
        cases c1 with
        | next ρ1 => exact fun σ1 E1 => ⟨φ2, ρ1, t3, G4, R4, E1, hlt, rfl, hc⟩
        | cont ρ1 => exact fun σ1 E1 => ⟨φ2, ρ1, t3, G4, R4, E1, hlt, rfl, hc⟩
        | ret d => cases hc; exact k φ2 H4 GG (aw l1 L4) R4
        | brk ρ => cases hc; exact k φ2 H4 GG (aw l1 L4) R4
    · rw[fF hge]at hc
      unfold kJ at hc
      split at hc
      case isFalse => exact fb hc
      rename_i hck
      cases hc
      exact .inl ⟨(wk φ' H' s' g hle R' hck i).2 hge, k φ' H' (g1.trans g l1) (aw l1 hle) R' σ' E'⟩
structure Ck where
 N:List Str
 sc:Scope
 lk:String->List Nat->Expr->Bool
noncomputable abbrev ck0 (N:List Str)(sc:Scope):Ck:=⟨N,sc,fun _ _ _=>false⟩
noncomputable def Ck.vis (c:Ck)(x:Str):Bool:=match c.sc.names.lookup x with|some .local=>true|some .cell=>true|some .free=>true|_=>false
noncomputable def Ck.loc (c:Ck)(x:Str):Bool:=match c.sc.names.lookup x with|some .local=>true|some .cell=>true|_=>false
noncomputable def Ck.gl (c:Ck)(x:Str):Bool:=(match c.sc.names.lookup x with|some .globalImplicit=>true|_=>false)&&!(x==("__debug__":Str))&&!decide (x=("__name__":Str))
noncomputable def Ck.var (c:Ck)(i:Nat)(x:Str):Bool:=decide (c.N[i]?=some x)&&c.vis x&&!(x==("__debug__":Str))&&!(x==("__classdict__":Str))
noncomputable def shp:Expr->Bool
 | .Starred ..=>false
 | .Set ..=>false
 | .SetComp ..=>false
 | .DictComp ..=>false
 | .GeneratorExp ..=>false
 | .Slice ..=>false
 | .NamedExpr ..=>false
 | _=>true
noncomputable def at2:Expr->Bool
 | .ListComp ..=>false
 | .SetComp ..=>false
 | .DictComp ..=>false
 | _=>true
noncomputable def aW8:Expr->Bool
 | .Tuple ..=>false
 | _=>true
noncomputable def bN4:Expr->Bool
 | .Call _ [] [] _=>false
 | _=>true
noncomputable def mC:DV.Cn->Const->Bool
 | .non,.none=>true
 | .bl b,.bool c=>b==c
 | .int i,.int j=>decide (i=j)
 | .str x,.str y=>decide (y=⟨x.toArray⟩)&&decide (x.length<=1000)
 | _,_=>false
noncomputable def bI3 (ck:Ck):List Nat->List Expr->Bool
 | [],[]=>true
 | i::is,.Name x _::es=>decide (ck.N[i]?=some x)&&ck.loc x&&bI3 ck is es
 | _,_=>false
noncomputable def mTg (ck:Ck):j1->Expr->Bool
 | .one i,.Name x _=>decide (ck.N[i]?=some x)&&ck.loc x
 | .tup is,.Tuple es _ _=>bI3 ck is es
 | _,_=>false
noncomputable def tgN:Expr->List Str
 | .Name x _=>[x]
 | .Tuple es _ _=>es.filterMap fun e=>match e with|.Name x _=>some x|_=>none
 | _=>[]
structure ItT where
 x:Str
 y:Str
 ob:Expr
 sc:Scope
 p1:Pos
 p2:Pos
 p3:Pos
 p4:Pos
 p5:Pos
 p6:Pos
 p7:Pos
 k1:Nat
 k2:Nat
 ap:Pos
 cp:Pos
 pos:Pos
noncomputable def ItT.tg (q:ItT):Expr:=.Tuple [.Name q.x q.p5,.Name q.y q.p6] q.k2 q.p7
noncomputable def ItT.it (q:ItT):Expr:=.Call (.Attribute q.ob "items" q.ap) [] [] q.cp
noncomputable def ItT.text (q:ItT):Expr:=.ListComp (.BinOp (.Name q.x q.p1) .Add (.Tuple [.Name q.y q.p2] q.k1 q.p3) q.p4) [⟨q.tg,q.it,[],0⟩] q.sc q.pos
noncomputable def ckC (ck:Ck)(tgt:Expr)(caps:List (Option Nat))(scope:Scope):Ck:=⟨tgN tgt++(caps.filterMap id).map fun j=>ck.N.getD j "",scope,fun _ _ _=>false⟩
noncomputable def aF4 (ck:Ck)(tg:j1)(tgt iter:Expr)(caps:List (Option Nat))(scope:Scope):Bool :=
 zZ (ckC ck tgt caps scope).N caps scope ck.N ck.sc&&decide ((ckC ck tgt caps scope).N.Nodup)&&mTg (ckC ck tgt caps scope) tg tgt&&shp iter
noncomputable def biT:j0->Option Str
 | .len=>some "len" | .abs=>some "abs" | .min2=>some "min" | .max2=>some "max" | .max3=>some "max" | .int=>some "int" | _=>none
noncomputable def biK:j0->Option (Nat×Str)
 | .isInt=>some (1, "int")|.isBool=>some (2, "bool")|.isStr=>some (3, "str")|.isTup=>some (4, "tuple")|.isList=>some (5, "list")|_=>none
noncomputable def mkT:kA->Option Str
 | .tuple=>some "tuple" | .list=>some "list" | _=>none
noncomputable def mkF:kA->Option Str
 | .all=>some "all" | .min=>some "min" | _=>none
noncomputable def mtT:kB->Option (Str×Nat)
 | .append=>some ("append",1)|_=>none
noncomputable def aV5:j6->Bool
 | .nil=>false
 | .ex _ as=>aV5 as
 | .lam _ _ _=>true
 | .fn _ as=>aV5 as
noncomputable def bI5 (ck:Ck)(b:j0)(x:Str)(xs:List Expr)(m1 m2:Bool):Bool:=match biK b with
 | some p=>(match xs with|[_,.Name y _]=>decide (x=("isinstance":Str))&&ck.gl x&&decide (y=p.2)&&ck.gl y&&m2|_=>false)
 | none=>(match xs with|_::_=>decide (biT b=some x)&&ck.gl x&&m1|[]=>false)
mutual
noncomputable def mE (ck:Ck):kn->Expr->Bool
 | .var i,E=>match E with|.Name x _=>ck.var i x|_=>false
 | .cst c,E=>match E with|.Constant v _ _=>mC c v|_=>false
 | .glob g,E=>match E with|.Name x _=>decide (x=(g:Str))&&ck.gl x|_=>false
 | .bin op a b,E=>match E with|.BinOp l o r _=>decide (o=bM1 op)&&mE ck a l&&mE ck b r|_=>false
 | .neg _,_=>false
 | .not a,E=>match E with|.UnaryOp .Not l _=>mE ck a l|_=>false
 | .cmp op a b,E=>match E with|.Compare l [o] [r] _=>decide (o=br8 op)&&mE ck a l&&mE ck b r|_=>false
 | .chain _ _ _ _ _,_=>false
 | .isN _,_=>false
 | .notN _,_=>false
 | .isB _ _,_=>false
 | .notB a b,E=>match E with|.Compare l [.IsNot] [.Constant v _ _] _=>mC (.bl b) v&&mE ck a l|_=>false
 | .and a b,E=>match E with
  | .BoolOp .And [l,r] _=>mE ck a l&&mE ck b r
  | .BoolOp .And (l::m::r::es) p=>mE ck a l&&mE ck b (.BoolOp .And (m::r::es) p)
  | _=>false
 | .or a b,E=>match E with
  | .BoolOp .Or [l,r] _=>mE ck a l&&mE ck b r
  | .BoolOp .Or (l::m::r::es) p=>mE ck a l&&mE ck b (.BoolOp .Or (m::r::es) p)
  | _=>false
 | .ite c a b,E=>match E with|.IfExp t l r _=>mE ck c t&&mE ck a l&&mE ck b r|_=>false
 | .tup es,E=>match E with|.Tuple xs _ _=>mEs ck es xs&&decide (xs.length<=1000)|_=>false
 | .lst es,E=>match E with|.List xs _=>mEs ck es xs&&decide (xs.length<=1000)|_=>false
 | .dic ks vs,E=>match E with|.Dict a b _=>(match a,b with|[],[]=>mEs ck ks []&&mEs ck vs []|[some x],[y]=>mEs ck ks [x]&&mEs ck vs [y]|_,_=>false)|_=>false
 | .slL _ _,_=>false
 | .slU _ _,_=>false
 | .slLU _ _ _,_=>false
 | .rev _,_=>false
 | .bitl _,_=>false
 | .lrng _,_=>false
 | .dicT,_=>false
 | .get2 _ _ _,_=>false
 | .ix a b,E=>match E with|.Subscript o i _=>mE ck a o&&mE ck b i|_=>false
 | .call f as,E=>match E with|.Call (.Name x _) xs [] _=>decide (x=(f:Str))&&ck.gl x&&mAs ck as xs|_=>false
 | .callC f as,E=>match E with|.Call (.Name x _) (y::ys) [] _=>decide (x=(f:Str))&&ck.gl x&&aV5 as&&bt8 ck as (y::ys)|_=>false
 | .callV i es,E=>match E with|.Call (.Name x _) (y::ys) [] _=>ck.var i x&&mEs ck es (y::ys)|_=>false
 | .bi b es,E=>match E with|.Call (.Name x _) xs [] _=>bI5 ck b x xs (mEs ck es xs) (mEs ck es (xs.take 1))|_=>false
 | .mk k l,E=>match E with
  | .Call (.Name x _) [a] [] _=>ck.gl x&&shp a&&((decide (mkT k=some x)&&mL ck 2 l a)||(decide (mkF k=some x)&&mL ck 1 l a))
  | .ListComp e gs sc p=>decide (k=.list)&&mL ck 0 l (.ListComp e gs sc p)
  | _=>false
 | .mkD _ _ _,_=>false
 | .meth m o es,E=>match E with
  | .Call (.Attribute ob x ap) xs [] cp=>decide (mtT m=some (x,xs.length))&&bN4 ob&&(ap.endLine==cp.line)&&mE ck o ob&&mEs ck es xs
  | _=>false
 | .ext _ _,_=>false
 | .extS _ _,_=>false
 | .mks _ _,_=>false
 | .mkDs _ _ _,_=>false
 | .join _ _,_=>false
noncomputable def mEs (ck:Ck):jQ->List Expr->Bool
 | .nil,xs=>match xs with|[]=>true|_=>false
 | .cons e es,xs=>match xs with|x::xs=>mE ck e x&&shp x&&mEs ck es xs|_=>false
noncomputable def mAs (ck:Ck):j6->List Expr->Bool
 | .nil,xs=>match xs with|[]=>true|_=>false
 | .ex e es,xs=>match xs with|x::xs=>mE ck e x&&shp x&&mAs ck es xs|_=>false
 | .lam _ _ _,_=>false
 | .fn _ _,_=>false
noncomputable def bt8 (ck:Ck):j6->List Expr->Bool
 | .nil,xs=>match xs with|[]=>true|_=>false
 | .ex e es,xs=>match xs with|x::xs=>mE ck e x&&shp x&&bt8 ck es xs|_=>false
 | .lam id caps es,xs=>match xs with|x::xs=>ck.lk id caps x&&shp x&&bt8 ck es xs|_=>false
 | .fn _ _,_=>false
noncomputable def mI (ck:Ck)(tgt:Expr):DV.I->Expr->Bool
 | .rng1 a,E=>match E with|.Call (.Name x _) [l] [] _=>decide (x=("range":Str))&&ck.gl x&&mE ck a l&&shp l|_=>false
 | .rng2 _ _,_=>false
 | .seq e,x=>mE ck e x&&shp x
 | .rng3 _ _ _,_=>false
 | .enum (.seq _),_=>false
 | .zip (.seq _) (.seq _),_=>false
 | .enum _,_=>false
 | .zip _ _,_=>false
 | .items _,_=>false
noncomputable def mL (ck:Ck)(k:Nat):DV.L->Expr->Bool
 | .comp tg it e caps,E=>match E with|.ListComp elt [⟨tgt,iter,[],z⟩] scope _=>decide (z=0)&&aF4 ck tg tgt iter caps scope&&mI ck tgt it iter&&mE (ckC ck tgt caps scope) e elt|_=>false
 | .compIf tg it c e caps,E=>match E with|.ListComp elt [⟨tgt,iter,[i],z⟩] scope _=>decide (z=0)&&aF4 ck tg tgt iter caps scope&&mI ck tgt it iter&&mE (ckC ck tgt caps scope) c i&&mE (ckC ck tgt caps scope) e elt|_=>false
 | .disp es,E=>match E with|.List xs _=>decide (1<=k)&&mEs ck es xs&&decide (xs.length<=1000)|_=>false
 | .seq e,x=>decide (k=2)&&mE ck e x
 | .itm _,_=>false
end
theorem ff {p:Prop}(h:false=true):p:=Bool.noConfusion h
noncomputable def bp8:a9->Bool
 | ⟨[], args, none, [], [], none, []⟩ => args.all fun y => y.annotation.isNone
 | _=>false
noncomputable def bQ3:List Stmt->Option (Str×a9×Expr×Pos×Scope×Pos×List Stmt)
 | .FunctionDef nm params [.Return (some b) rp] [] none [] scope none nm' pos::xs=>if nm'=nm then some (nm,params,b,rp,scope,pos,xs)else none
 | _=>none
noncomputable def bQ6 (nm:Str):List Stmt->Option (Str×Pos×Expr×Pos×Pos×Pos)
 | [.Return (some (.Call (.Name g gp) [a,.Name x p2] [] cp)) rp2]=>if x=nm then some (g,gp,a,p2,cp,rp2)else none
 | _=>none
noncomputable def bM0:kQ->kC->Option (Nat×String×kn×String×List Nat)
 | .und i,.cons (.ret (.callC g (.ex e (.lam id caps .nil)))) .nil=>some (i,g,e,id,caps)
 | _,_=>none
noncomputable def bF3 (ck:Ck)(s:kQ)(ss:kC)(S:List Stmt):Bool :=
 (bM0 s ss).any fun d=>(bQ3 S).any fun q=>(bQ6 q.1 q.2.2.2.2.2.2).any fun r =>
  decide (ck.N[d.1]?=some q.1)&&ck.loc q.1&&ck.var d.1 q.1&&ck.lk d.2.2.2.1 d.2.2.2.2 (.NamedExpr (.Name q.1 q.2.2.2.1) (.Lambda q.2.1 q.2.2.1 q.2.2.2.2.1 q.2.2.2.2.2.1) q.2.2.2.2.2.1)&&decide (r.1=(d.2.1:Str))&&ck.gl r.1&&mE ck d.2.2.1 r.2.2.1&&shp r.2.2.1&&bp8 q.2.1
mutual
noncomputable def mS (ck:Ck):kQ->Stmt->Bool
 | .asg tg e,S=>match S with
  | .Assign [t] v _=>mTg ck tg t&&mE ck e v&&(match tg with|.one _=>true|.tup _=>aW8 v&&at2 v)
  | _=>false
 | .setIx o i e,S=>match S with|.Assign [.Subscript ob ix _] v _=>mE ck o ob&&mE ck i ix&&mE ck e v&&at2 v&&aW8 v|_=>false
 | .aug i e,S=>match S with|.AugAssign (.Name x _) .Add v _=>decide (ck.N[i]?=some x)&&ck.loc x&&mE ck e v|_=>false
 | .ex e,S=>match S with|.Expr v _=>mE ck e v&&at2 v|_=>false
 | .ret e,S=>match S with|.Return (some v) _=>mE ck e v|_=>false
 | .retN,_=>false
 | .ite c a b,S=>match S with|.If t l r _=>mE ck c t&&mSs ck a l&&mSs ck b r|_=>false
 | .whl c b,S=>match S with|.While t l [] _=>mE ck c t&&mSs ck b l|_=>false
 | .for_ tg it b,S=>match S with|.For tgt iter l [] _=>mTg ck tg tgt&&mI ck tgt it iter&&mSs ck b l|_=>false
 | .pass,_=>false
 | .cont,_=>false
 | .brk,_=>false
 | .raise,_=>true
 | .und _,_=>false
noncomputable def mSs (ck:Ck):kC->List Stmt->Bool
 | .nil,xs=>match xs with|[]=>true|_=>false
 | .cons s ss,xs=>match xs with|x::xs=>bF3 ck s ss (x::xs)||(mS ck s x&&mSs ck ss xs)|_=>false
end
theorem aC8 {ck:Ck}{e:kn}{E:Expr}(h:mE ck e E=true):shp E=true:=by
 cases E<;>first|rfl|(exfalso;cases e<;>exact ff h)
theorem bH3 {ck:Ck}{tgt:Expr}{e:DV.I}{E:Expr}(h:mI ck tgt e E=true):shp E=true:=by
 cases e with
 | seq e=>have h:(mE ck e E&&shp E)=true:=h;rw[af]at h;exact h.2
 | enum a=>cases E<;>first|rfl|(exfalso;cases a<;>exact ff h)
 | zip a b=>cases E<;>first|rfl|(exfalso;cases a<;>first|exact ff h|(cases b<;>exact ff h))
 | _=>cases E<;>first|rfl|exact ff h
theorem ze {e:Expr}{es:List Expr}{env:Env}(h:shp e=true):bh (e::es) env=(false,eval e env)::bh es env:=by
 cases e<;>first|rfl|cases h
theorem zB {env:Env}{pos:Pos}:∀ {es:List Expr},(∀ e∈es,shp e=true)->(cL pos (bh es env)).any (·.1)=false/\(cL pos (bh es env)).all (fun x=>!x.1)=true
 | [],_=>⟨rfl,rfl⟩
 | e::es,h=>by
  have h1:=ze (es:=es) (env:=env) (h e (aq ..))
  obtain⟨h2,h3⟩:=zB (env:=env) (pos:=pos) (es:=es) fun x hx=>h x (ah _ hx)
  rw[h1]
  unfold cL at h2 h3 ⊢
  simp only[aJ,dA,cB,h2,h3]
  exact⟨rfl,rfl⟩
theorem ax8 {e:Expr}{env:Env}(h:shp e=true)(x:Value):cE e env x=pure x:=by
 cases e<;>first|rfl|cases h
theorem ae1 {e:Expr}{op:CmpOp}(h:shp e=true):gE op e=false:=by
 cases e<;>first|rfl|cases h
theorem al1 {e:Expr}{t:Option Expr}{l:Nat}{env:Env}(h:at2 e=true):dX e t l env=pure false:=by
 cases e<;>first|rfl|cases h
theorem aH7 {e:Expr}{f:Str}{env:Env}(h:bN4 e=true):dw e f env (eval e env)=eval e env:=by
 cases e with
 | Call g a k p =>
  cases g with
  | Name x p' =>
   cases a with
   | nil=>cases k with
    | nil=>cases h
    | cons _ _=>rfl
   | cons _ _=>rfl
  | _=>rfl
 | _=>rfl
theorem aF5 {es:List Expr}{k:Nat}{p:Pos}{e:Expr}{env:Env}(h:aW8 e=true):gD [.Tuple es k p] e env=pure none:=by
 cases e<;>first|rfl|cases h
theorem aE9 {o i:Expr}{p:Pos}{e:Expr}{env:Env}(h:aW8 e=true):gD [.Subscript o i p] e env=pure none:=by
 cases e<;>first|rfl|cases h
theorem aF3 {e:Expr}(h:shp e=true):aS5 e:=by
 intro o i
 cases e<;>first|rfl|cases h
def spV (Γ:Gm)(c:List jy->jx->jB jy):Sp:=fun vs H Q _=>rCl Γ c vs H Q
noncomputable def bNames:List Str:=["len", "abs", "min", "max", "int", "isinstance", "bool", "str", "tuple", "list", "range", "sum", "all", "any", "sorted", "zip", "enumerate", "ord"]
def spL (Γ:Gm)(c:List jy->List jy->jx->jB jy)(cap:List V):Sp:=fun vs H Q _=>∃ φ s cs l d s',Rp Γ φ H s/\RVL Γ φ H l vs/\RVL Γ φ H cs cap/\jz s.length l=true/\jz s.length cs=true/\c cs l s=.ok d s'/\ad0 Γ φ s H d s' Q
noncomputable def LamI.own (J:LamI):Str:=match J.nm with|none => "<lambda>" | some p=>p.1
noncomputable def lamText (J:LamI)(params:a9)(body:Expr)(scope:Scope)(pos:Pos):Expr:=match J.nm with
 | none=>.Lambda params body scope pos
 | some p=>.NamedExpr (.Name p.1 p.2) (.Lambda params body scope pos) pos
structure LamHere (Γ:Gm)(X:Cx)(N:List Str)(id:String)(caps:List Nat)(params:a9)(body:Expr)(scope:Scope)(c P:Addr)(J:LamI):Prop where
 code:X.env.code=.ref c
 hd:bt X.base c P
 bm:BM X.mg X.base
 ck:lamCheck scope X.env.scope=true
 df:iV params X.env=([],[])
 lg:Γ.lg id J
 q:J.qual=X.env.qual++J.own
 p:J.params=params
 b:J.body=body
 s:J.scope=scope
 len:J.fr.length=caps.length
 at_:∀(i j:Nat) (x:Str),caps[i]?=some j->J.fr[i]?=some x->N[j]?=some x
 fr:∀ x∈J.fr,scope.names.lookup x=some .free
 cl:∀ x,scope.names.lookup x=some .free->∃ c,X.env.cells.lookup x=some c
 tab:(P,J.qual)∈Γ.T
 nd:(Γ.T.map (·.1)).Nodup
 fn:∀ x,X.fn x=true
 kd:∀ x c,X.env.cells.lookup x=some c->X.env.kindOf x=some .cell\/X.env.kindOf x=some .free
structure CG (Γ:Gm)(F:jL)(n:Nat)(X:Cx)(ck:Ck):Prop where
 K:X.K=Γ.K
 N:X.N=ck.N
 nd:ck.N.Nodup
 xe:X.xe=fun _ _=>False
 calm:X.calm=true
 deep:jN+1<=n
 room:Room n X.A
 sc:∀ x k,ck.sc.names.lookup x=some k->X.env.scope.names.lookup x=some k\/(k=.free/\X.env.scope.names.lookup x=some .cell)
 fn:∀ x,ck.sc.names.lookup x=some .cell->X.fn x=true
 bi:∀ x∈bNames,X.mg x=none
 call:∀ f:String,(∀ l s,F.call f l s=.bad)\/∃ a fd ps,FnOk X.prog X.w X.K X.mg X.base CX0 n a fd ps (spV Γ (F.call f))/\X.mg (f:Str)=some (.ref a)/\bN X.K (.ref a)=true/\Binds X.K fd ps []
 con:∀ x d,F.con x=some d->∃ v u,X.mg (x:Str)=some u/\RelV v u/\(∀ m,d.bnd m=true)/\∀ φ H,RV Γ φ H d v
 lam:∀ id caps E,ck.lk id caps E=true->∃ c P params body scope pos J,E=lamText J params body scope pos/\LamHere Γ X ck.N id caps params body scope c P J
 cl:∀(id:String) (J:LamI) (f:Addr) (cap:List V) (clos:List (Str×Addr)),Γ.lg id J->cap.length=J.fr.length->ClOk X.prog X.w X.K X.mg X.base n (fun H=>CloAt H f J cap clos) f (spL Γ (F.lam id) cap)
 fa:∀(f:String) (a:Addr),Γ.fa f=some a->X.mg (f:Str)=some (.ref a)/\∃ oc od fd sl,X.K.lookup a=some ⟨oc,od,.func fd,sl⟩
 fk:DV.FK F
section
variable {Γ:Gm} {F:jL} {n:Nat} {X:Cx} {ck:Ck}
theorem CG.vis (G:CG Γ F n X ck){x:Str}(h:ck.vis x=true):Vis X.env.scope x:=by
 unfold Ck.vis at h
 split at h
 ·rename_i e;rcases G.sc _ _ e with z|⟨z,_⟩
  ·exact .inl z
  ·cases z
 ·rename_i e;rcases G.sc _ _ e with z|⟨z,_⟩
  ·exact .inr (.inl z)
  ·cases z
 ·rename_i e;rcases G.sc _ _ e with z|⟨_,z⟩
  ·exact .inr (.inr z)
  ·exact .inr (.inl z)
 ·cases h
theorem CG.loc (G:CG Γ F n X ck){x:Str}(h:ck.loc x=true):Loc X.env.scope x/\(X.fn x=true\/X.env.scope.names.lookup x=some .local):=by
 unfold Ck.loc at h
 split at h
 ·rename_i e;rcases G.sc _ _ e with z|⟨z,_⟩
  ·exact⟨.inl z,.inr z⟩
  ·cases z
 ·rename_i e;rcases G.sc _ _ e with z|⟨z,_⟩
  ·exact⟨.inr z,.inl (G.fn _ e)⟩
  ·cases z
 ·cases h
theorem CG.gl (G:CG Γ F n X ck){x:Str}(h:ck.gl x=true):Gl X x/\(x==("__debug__":Str))=false/\x ≠ "__name__":=by
 unfold Ck.gl at h
 simp only[af,de]at h
 obtain⟨⟨h1,h2⟩,h3⟩:=h
 refine⟨?_,h2,of_decide_eq_false h3⟩
 split at h1
 ·rename_i e;rcases G.sc _ _ e with z|⟨z,_⟩
  ·exact z
  ·cases z
 ·cases h1
theorem bf8 (G:CG Γ F n X ck):∀ {is:List Nat} {es:List Expr},bI3 ck is es=true->PGs X es (bI4 is)/\(bT es X.env).length=is.length/\(bT es X.env).findIdx? (·.1)=none
 | [],[],_=>⟨bj1,rfl,rfl⟩
 | [],_::_,h=>by cases h
 | i::is,[],h=>by cases h
 | i::is,e::es,h=>by
  cases e with
  | Name x p =>
   unfold bI3 at h
   simp only[af,decide_eq_true_eq]at h
   obtain⟨⟨h1,h2⟩,h3⟩:=h
   obtain⟨l1,l2⟩:=G.loc h2
   obtain⟨a,b,c⟩:=bf8 G h3
   have hs:bT (.Name x p::es) X.env=(false,fi (.Name x p) X.env)::bT es X.env:=rfl
   refine⟨aW2 (aQ3 (by rw[G.N];exact G.nd) (by rw[G.N];exact h1) l1 l2) a (by rw[hs];rfl),by rw[hs,aQ,aQ,b],?_⟩
   rw[hs,List.findIdx?_cons]
   simp[c]
  | _=>cases h
theorem bq1 (G:CG Γ F n X ck){tg:j1}{e:Expr}(h:mTg ck tg e=true):PG X e (gOf Γ.K tg):=by
 unfold mTg at h
 split at h
 ·simp only[af,decide_eq_true_eq]at h
  obtain⟨l1,l2⟩:=G.loc h.2
  exact aQ3 (by rw[G.N];exact G.nd) (by rw[G.N];exact h.1) l1 l2
 ·obtain⟨a,b,c⟩:=bf8 G h
  exact bn0 G.K G.calm a b c
 ·cases h
theorem CG.comp (G:CG Γ F n X ck){tg:j1}{tgt iter:Expr}{caps:List (Option Nat)}{scope:Scope}(h:aF4 ck tg tgt iter caps scope=true) :
  zZ (ckC ck tgt caps scope).N caps scope X.N X.env.scope=true/\shp iter=true /\
  ∀(C:Addr) (cells:List (Str×Addr)) (s:ae) (H:Hp) (ex:List Addr),CG Γ F n (zM X (ckC ck tgt caps scope).N scope C cells s H ex) (ckC ck tgt caps scope)/\PG (zM X (ckC ck tgt caps scope).N scope C cells s H ex) tgt (gOf Γ.K tg):=by
 unfold aF4 at h
 simp only[af,decide_eq_true_eq]at h
 obtain⟨⟨⟨h1,h2⟩,h3⟩,h4⟩:=h
 refine⟨?_,h4,fun C cells s H ex=>?_⟩
 ·rw[G.N]
  unfold zZ at h1 ⊢
  simp only[af]at h1 ⊢
  obtain⟨⟨⟨⟨⟨a1,a2⟩,a3⟩,a4⟩,a5⟩,a6⟩:=h1
  refine⟨⟨⟨⟨⟨a1,?_⟩,a3⟩,a4⟩,a5⟩,a6⟩
  rw[aD]at a2 ⊢
  intro y hy
  have:=a2 y hy
  rw[bK]at this ⊢
  rcases this with q|q
  ·exact .inl q
  ·right
   rw[bK]at q ⊢
   rcases q with q|q
   ·rcases G.sc _ _ (eq_of_beq q)with z|⟨z,_⟩
    ·left;rw[z];exact beq_self_eq_true _
    ·cases z
   ·rcases G.sc _ _ (eq_of_beq q)with z|⟨_,z⟩
    ·right;rw[z];exact beq_self_eq_true _
    ·left;rw[z];exact beq_self_eq_true _
 ·have G':CG Γ F n (zM X (ckC ck tgt caps scope).N scope C cells s H ex) (ckC ck tgt caps scope):=by
   refine⟨G.K,rfl,h2,rfl,G.calm,G.deep,G.room,fun x k e=>?_,fun x e=>?_,G.bi,G.call,G.con,fun _ _ _ h=>(by cases h),G.cl,G.fa,G.fk⟩
   ·have q:=qo (env:=X.env) e
    have q':(dz scope X.env).names.lookup x=some (if(k==NameKind.free&&X.env.scope.kind==.function&&X.env.kindOf x==some .cell)then NameKind.cell else k):=q
    show(dz scope X.env).names.lookup x=some k\/_
    rw[q']
    split
    ·rename_i hc
     simp only[af]at hc
     exact .inr ⟨eq_of_beq hc.1.1,rfl⟩
    ·exact .inl rfl
   ·show(scope.names.lookup x==some .cell)=true
    rw[show scope.names.lookup x=some .cell from e];rfl
  exact⟨G',bq1 G' h3⟩
end
section
variable {Γ:Gm} {F:jL} {n:Nat} {X:Cx} {ck:Ck} {σ:St} {H:Hp} {Q:VK}
theorem TEv.eq {m m':jA->jx->jB jy}(e:∀ ρ s,m ρ s=m' ρ s)(q:TEv Γ m σ H Q):TEv Γ m' σ H Q:=by
 have:m=m':=funext fun ρ=>funext fun s=>e ρ s
 subst this;exact q
theorem TTv.eq {m m':jA->jx->jB jy}{Q:Bool->Hp->Prop}(e:∀ ρ s,m ρ s=m' ρ s)(q:TTv Γ m σ H Q):TTv Γ m' σ H Q:=by
 have:m=m':=funext fun ρ=>funext fun s=>e ρ s
 subst this;exact q
theorem TAv.eq {m m':jA->jx->jB (List jy)}{Q:List V->Hp->Prop}(e:∀ ρ s,m ρ s=m' ρ s)(q:TAv Γ m σ H Q):TAv Γ m' σ H Q:=by
 have:m=m':=funext fun ρ=>funext fun s=>e ρ s
 subst this;exact q
theorem TFv.eq {m m':jA->jx->jB (List jy)}(e:∀ ρ s,m ρ s=m' ρ s)(q:TFv Γ m σ H Q):TFv Γ m' σ H Q:=by
 have:m=m':=funext fun ρ=>funext fun s=>e ρ s
 subst this;exact q
theorem TIv.eq {m m':jA->jx->jB ko}{R:It->Hp->Prop}(e:∀ ρ s,m ρ s=m' ρ s)(q:TIv Γ m σ H R):TIv Γ m' σ H R:=by
 have:m=m':=funext fun ρ=>funext fun s=>e ρ s
 subst this;exact q
theorem TSv.eq {m m':jA->jx->jB j2}{D:Ends}(e:∀ ρ s,m ρ s=m' ρ s)(q:TSv Γ m D σ H):TSv Γ m' D σ H:=by
 have:m=m':=funext fun ρ=>funext fun s=>e ρ s
 subst this;exact q
def EvT (Γ:Gm)(X:Cx)(E:Expr)(m:jA->jx->jB jy):Prop:=PE X E (TEv Γ m)/\PT X E (TTv Γ m)
theorem EvT.val {E:Expr}{m:jA->jx->jB jy}(h:PE X E (TEv Γ m))(he:∀ whole,cU E X.env whole=(do let v <- whole;standAt E.pos;iJ [v] (truthy v)):=by intro _;rfl):EvT Γ X E m :=
 ⟨h,(aR9 h he).imp fun σ H Q q=>bf7 q⟩
theorem ba5 {c a b:Expr}{pos:Pos}{tA tb tc:TT}(hc:PT X c tA)(ha:PT X a tb)(hb:PT X b tc):PT X (.IfExp c a b pos) (fun σ H Q=>tA σ H fun k H1=>if k=true then tb σ H1 Q else tc σ H1 Q):=by
 intro pins s σ H Q I h
 have e:cU (.IfExp c a b pos) X.env (eval (.IfExp c a b pos) X.env)=(do if <- cU c X.env (eval c X.env)then cU a X.env (eval a X.env)else cU b X.env (eval b X.env)):=by rw[cU]
 rw[e]
 refine ar (thn (hc pins s σ H _ I h) fun k s1 ⟨H1,I1,q1⟩=>?_)
 cases k with
 | true=>exact ha pins s1 σ H1 Q I1 q1
 | false=>exact hb pins s1 σ H1 Q I1 q1
theorem bC5 {mc m1 m2:jA->jx->jB jy}{Q:Bool->Hp->Prop}(h:TTv Γ (fun ρ s=>jI (mc ρ s) fun k s=>if k then m1 ρ s else m2 ρ s) σ H Q):TTv Γ mc σ H fun k H1=>if k=true then TTv Γ m1 σ H1 Q else TTv Γ m2 σ H1 Q:=by
 obtain⟨φ,ρ,s,d,s',E,R,hm,q⟩:=h
 obtain⟨c,s1,e1,hm⟩:=zP hm
 refine⟨φ,ρ,s,c,s1,E,R,e1,fun φ1 H1 g1 l1 R1=>?_⟩
 cases c with
 | true =>
  rw[if_pos rfl]at hm ⊢
  exact⟨φ1,ρ,s1,d,s',E.mono g1 l1,R1,hm,q.trans g1 l1⟩
 | false =>
  rw[if_neg aP]at hm ⊢
  exact⟨φ1,ρ,s1,d,s',E.mono g1 l1,R1,hm,q.trans g1 l1⟩
section
variable {a b c:kn} {l r t:Expr} {pos:Pos}
theorem bg7 (G:CG Γ F n X ck)(op:kL)(ha:EvT Γ X l (jD F a))(hb:EvT Γ X r (jD F b)):EvT Γ X (.BinOp l (bM1 op) r pos) (jD F (.bin op a b)) :=
 .val ((bO9 (bB5 G.K op) ha.1 hb.1).imp fun σ H Q q=>aG3 (TEv.eq (fun ρ s=>rfl) q))
theorem bm7 (ha:EvT Γ X l (jD F a)):EvT Γ X (.UnaryOp .Not l pos) (jD F (.not a)) :=
 ⟨(bf0 ha.1).imp fun σ H Q q=>by1 (TEv.eq (fun ρ s=>rfl) q),(bc5 ha.2).imp fun σ H Q q=>bx4 (TTv.eq (fun ρ s=>rfl) q)⟩
theorem bs8 (G:CG Γ F n X ck)(op:kF)(hs:shp r=true)(ha:EvT Γ X l (jD F a))(hb:EvT Γ X r (jD F b)):EvT Γ X (.Compare l [br8 op] [r] pos) (jD F (.cmp op a b)):=by
 have ho:=bC7 (Γ:=Γ) G.K (G.room.mono G.deep) op
 refine⟨(aQ1 ho ha.1 hb.1 (ae1 hs)).imp fun σ H Q q=>aG3 (TEv.eq (fun ρ s=>rfl) q),(aJ0 ho ha.1 hb.1 (ae1 hs)).imp fun σ H Q q=>?_⟩
 have q:=aJ7 q
 exact aG3 (TEv.eq (fun ρ s=>rfl) q)
noncomputable def bk9 (n:Bool)(x y:jy)(s:jx):jB jy:=match x,y with
 | .bl c,.bl b=>.ok (.bl (if n then !(c==b)else c==b)) s
 | _,_=>.bad
theorem aR2 {n:Bool}{x y d:jy}{s s':jx}(h:bk9 n x y s=.ok d s'):∃ c b,x=.bl c/\y=.bl b/\d=.bl (if n then !(c==b)else c==b)/\s'=s:=by
 cases x<;>cases y<;>first|(cases h;done)|skip
 cases h
 exact⟨_,_,rfl,rfl,rfl,rfl⟩
theorem aO8:OpR X (dk .IsNot) (rOp Γ (bk9 true)):=by
 intro pins s σ H x y v u Q I rx ry h
 obtain⟨φ,s',a,b,d,s'',R,ra,rb,_,_,e,q⟩:=h
 obtain⟨c,b',rfl,rfl,rfl,rfl⟩:=aR2 e
 rw[ra.blE]at rx
 rw[rb.blE]at ry
 cases rx
 cases ry
 exact PySem.wpAny_isNot_plain rfl (by3 I (q.here R rfl RV.blI) (by cases c<;>cases b'<;>rfl))
theorem aW3 {b:Bool}(hs:shp r=true)(ha:EvT Γ X l (jD F a))(hb:EvT Γ X r (jD F (.cst (.bl b)))):EvT Γ X (.Compare l [.IsNot] [r] pos) (jD F (.notB a b)):=by
 have e:∀ ρ s,jD F (.notB a b) ρ s=(jD F a ρ s).bind fun x s=>(jD F (.cst (.bl b)) ρ s).bind fun y s=>bk9 true x y s:=fun ρ s=>by
  show(jD F a ρ s).bind (fun x s=>match x with|.bl c=>DV.R.ok (DV.D.bl (!(c==b))) s|_=>.bad)=_
  congr 1;funext x s;cases x<;>rfl
 refine⟨(aQ1 (aO8 (Γ:=Γ)) ha.1 hb.1 (ae1 (op:=.IsNot) hs)).imp fun σ H Q q=>aG3 (TEv.eq e q),(aJ0 (aO8 (Γ:=Γ)) ha.1 hb.1 (ae1 (op:=.IsNot) hs)).imp fun σ H Q q=>?_⟩
 have q:=aJ7 q
 exact aG3 (TEv.eq e q)
theorem aI8 {op:BoolOp}{es:List Expr}{t:TT}(h:PT X (.BoolOp op es pos) t):PW X (.BoolOp op es pos) t:=by
 intro wh pins s σ H Q I q
 have:=h pins s σ H Q I q
 have e:∀ w,cU (.BoolOp op es pos) X.env w=allTrue op es X.env:=fun w=>by rw[cU]
 rw[e]at this ⊢
 exact this
theorem bk4 (ha:EvT Γ X l (jD F a))(hb:EvT Γ X r (jD F b)):EvT Γ X (.BoolOp .And [l,r] pos) (jD F (.and a b)) :=
 ⟨(bd4 ha.1 (aM9 hb.1)).imp fun σ H Q q=>be9 (TEv.eq (fun ρ s=>rfl) q),(bd7 ha.2 (bn7 hb.2)).pt.imp fun σ H Q q=>be1 (TTv.eq (fun ρ s=>rfl) q)⟩
theorem bs1 {es:List Expr}(ha:EvT Γ X l (jD F a))(hb:EvT Γ X (.BoolOp .And (r::es) pos) (jD F b)):EvT Γ X (.BoolOp .And (l::r::es) pos) (jD F (.and a b)) :=
 ⟨(bd4 ha.1 hb.1).imp fun σ H Q q=>be9 (TEv.eq (fun ρ s=>rfl) q),(bd7 ha.2 (aI8 hb.2)).pt.imp fun σ H Q q=>be1 (TTv.eq (fun ρ s=>rfl) q)⟩
theorem bF2 (ha:EvT Γ X l (jD F a))(hb:EvT Γ X r (jD F b)):EvT Γ X (.BoolOp .Or [l,r] pos) (jD F (.or a b)) :=
 ⟨(bn5 ha.1 (aM9 hb.1)).imp fun σ H Q q=>bu4 (TEv.eq (fun ρ s=>rfl) q),(bs6 ha.2 (bd5 hb.2)).pt.imp fun σ H Q q=>by5 (TTv.eq (fun ρ s=>rfl) q)⟩
theorem bG8 {es:List Expr}(ha:EvT Γ X l (jD F a))(hb:EvT Γ X (.BoolOp .Or (r::es) pos) (jD F b)):EvT Γ X (.BoolOp .Or (l::r::es) pos) (jD F (.or a b)) :=
 ⟨(bn5 ha.1 hb.1).imp fun σ H Q q=>bu4 (TEv.eq (fun ρ s=>rfl) q),(bs6 ha.2 (aI8 hb.2)).pt.imp fun σ H Q q=>by5 (TTv.eq (fun ρ s=>rfl) q)⟩
theorem bs7 (hc:EvT Γ X t (jD F c))(ha:EvT Γ X l (jD F a))(hb:EvT Γ X r (jD F b)):EvT Γ X (.IfExp t l r pos) (jD F (.ite c a b)) :=
 ⟨(aU4 hc.2 ha.1 hb.1).imp fun σ H Q q=>bD9 (TEv.eq (fun ρ s=>rfl) q),(ba5 hc.2 ha.2 hb.2).imp fun σ H Q q=>bC5 (TTv.eq (fun ρ s=>rfl) q)⟩
theorem by0 (G:CG Γ F n X ck)(hs:shp r=true)(ha:EvT Γ X l (jD F a))(hb:EvT Γ X r (jD F b)):EvT Γ X (.Subscript l r pos) (jD F (.ix a b)) :=
 .val ((bL9 (bK1 G.K (bB3 G.room)) ha.1 hb.1 (aF3 hs)).imp fun σ H Q q=>aG3 (TEv.eq (fun ρ s=>rfl) q))
end
end
section
variable {Γ:Gm} {F:jL} {n:Nat} {X:Cx} {ck:Ck} {σ:St} {H:Hp} {Q:VK}
theorem ao3:∀ {es:jQ} {ρ:jA} {s s':jx} {l:List jy} {xs:List Expr} {ck:Ck},jT F es ρ s=.ok l s'->mEs ck es xs=true->l.length=xs.length
 | .nil,ρ,s,s',l,xs,ck,h,m=>by
  cases h
  cases xs with
  | nil=>rfl
  | cons _ _=>rw[mEs]at m<;>first|cases m|(intros;simp_all)
 | .cons e es,ρ,s,s',l,xs,ck,h,m=>by
  obtain⟨d,s1,e1,h⟩:=aa0 h
  obtain⟨r,s2,e2,h⟩:=aa0 h
  cases h
  cases xs with
  | nil=>rw[mEs]at m<;>first|cases m|(intros;simp_all)
  | cons x xs =>
   rw[mEs,af]at m
   rw[aQ,aQ,ao3 e2 m.2]
theorem an5:∀ {es:jQ} {xs:List Expr},mEs ck es xs=true->∀ x∈xs,shp x=true
 | .nil,[],_,x,hx=>by cases hx
 | .nil,_::_,m,_,_=>by rw[mEs]at m<;>first|cases m|(intros;simp_all)
 | .cons e es,[],m,x,hx=>by cases hx
 | .cons e es,y::xs,m,x,hx=>by
  rw[mEs,af,af]at m
  rcases au.mp hx with h|h
  ·rw[h];exact m.1.2
  ·exact an5 m.2 x h
theorem ax9:∀ {es:j6} {xs:List Expr},mAs ck es xs=true->∀ x∈xs,shp x=true
 | .nil,[],_,x,hx=>by cases hx
 | .nil,_::_,m,_,_=>by rw[mAs]at m<;>first|cases m|(intros;simp_all)
 | .ex e es,[],m,x,hx=>by cases hx
 | .lam _ _ _,_,m,_,_=>by rw[mAs]at m<;>first|cases m|(intros;simp_all)
 | .fn _ _,_,m,_,_=>by rw[mAs]at m<;>first|cases m|(intros;simp_all)
 | .ex e es,y::xs,m,x,hx=>by
  rw[mAs,af,af]at m
  rcases au.mp hx with h|h
  ·rw[h];exact m.1.2
  ·exact ax9 m.2 x h
theorem aD2 {e:kn}{x:Expr}{xs:List Expr}{ms:jA->jx->jB (List jy)}(hs:shp x=true)(h1:PE X x (TEv Γ (jD F e)))(h2:PA X xs (TAv Γ ms)) :
  PA X (x::xs) (TAv Γ (fun ρ s=>(jD F e ρ s).bind fun d s=>(ms ρ s).bind fun l s=>.ok (d::l) s)) :=
 (zF h1 h2 (ze hs)).imp fun σ H Q q=>bo1 q
theorem aS3 {k:Nat}(h:k<=1000):k<=aH:=by rw[eh];omega
theorem bs9 {es:jQ}{xs:List Expr}{k:Nat}{pos:Pos}(m:mEs ck es xs=true)(hz:xs.length<=1000)(h:PA X xs (TAv Γ (jT F es))):EvT Γ X (.Tuple xs k pos) (jD F (.tup es)) :=
 .val ((be8 h).imp fun σ H Q q=>tv_tup' hz m q)
where
 tv_tup' {es:jQ} {xs:List Expr} {σ:St} {H:Hp} {Q:VK} (hz:xs.length<=1000) (m:mEs ck es xs=true) (q:TEv Γ (jD F (.tup es)) σ H Q):bR0 (TAv Γ (jT F es)) σ H Q:=by
  obtain⟨φ,ρ,s,d,s',E,R,hm,q⟩:=q
  obtain⟨l,s1,e1,hm⟩:=aa0 hm
  cases hm
  refine⟨φ,ρ,s,l,_,E,R,e1,fun vs φ1 H1 g1 l1 b1 r1 R1=>⟨by rw[r1.length,ao3 e1 m];exact aS3 hz,fun p hp=>?_⟩⟩
  exact(q.trans g1 l1).tup R1 r1 b1 hp
theorem bm8 {es:jQ}{xs:List Expr}{pos:Pos}(m:mEs ck es xs=true)(hz:xs.length<=1000)(h:PA X xs (TAv Γ (jT F es))):EvT Γ X (.List xs pos) (jD F (.lst es)):=by
 refine .val ((bc7 h).imp fun σ H Q q=>?_)
 obtain⟨φ,ρ,s,d,s',E,R,hm,q⟩:=q
 obtain⟨l,s1,e1,hm⟩:=aa0 hm
 obtain⟨rfl,rfl⟩:=qr hm
 refine⟨φ,ρ,s,l,_,E,R,e1,fun vs φ1 H1 g1 l1 b1 r1 R1=>⟨by rw[r1.length,ao3 e1 m];exact aS3 hz,fun p hp=>?_⟩⟩
 exact(q.trans g1 l1).alloc R1 r1 b1 hp
theorem aU6 {f:String}{as:j6}{xs:List Expr}{p pos:Pos}(G:CG Γ F n X ck)(hg:ck.gl (f:Str)=true)(m:mAs ck as xs=true)(h:PA X xs (TAv Γ (jZ F as))):EvT Γ X (.Call (.Name (f:Str) p) xs [] pos) (jD F (.call f as)):=by
 refine .val ?_
 obtain⟨g1,g2,g3⟩:=G.gl hg
 rcases G.call f with hbad|⟨a,fd,ps,hF,hmg,hk,hb⟩
 ·intro pins s σ H Q I q
  obtain⟨φ,ρ,s,d,s',E,R,hm,q⟩:=q
  obtain⟨l,s1,e1,hm⟩:=aa0 hm
  rw[hbad]at hm
  cases hm
 have key:∀ σ H Q,TEv Γ (jD F (.call f as)) σ H Q->aE3 (spV Γ (F.call f)) [] E0 (TAv Γ (jZ F as)) σ H Q:=fun σ H Q q=>by
  have:=av4 (TEv.eq (m':=fun ρ s=>(jZ F as ρ s).bind fun l s=>F.call f l s) (fun ρ s=>rfl) q)
  unfold tCB at this
  unfold aE3 spV
  simpa only[bj]using this
 cases xs with
 | nil =>
  have h0:PE X (.Call (.Name (f:Str) p) [] [] pos) (aE3 (spV Γ (F.call f)) [] E0 aU0):=aY9 hF G.room g1 hmg hk hb .nil bA1 g2
  cases as with
  | nil =>
   refine h0.imp fun σ H Q q=>?_
   have q1:=key σ H Q q
   unfold aE3 at q1 ⊢
   exact aB3 (TAv.eq (fun ρ s=>rfl) q1)
  | _=>rw[mAs]at m<;>first|cases m|(intros;simp_all)
 | cons x xs =>
  have hs:=ax9 m
  exact(aS6 hF G.room g1 hmg hk hb .nil bA1 h g2 (ze (hs x (aq ..))) (zB fun e he=>hs e (ah _ he)).1).imp key
def BiC (Γ:Gm)(X:Cx)(b:j0)(x:Str):Prop:=(∃ id,bf x=some (.builtin id)/\ab8 X (.builtin id) (rCl Γ (kK b)))\/∃ T,bf x=some (.type T)/\ab8 X (.type T) (rCl Γ (kK b))
theorem bG4 (G:CG Γ F n X ck){b:j0}{x:Str}(h:biT b=some x):x∈bNames/\BiC Γ X b x:=by
 cases b<;>first|cases h|skip
 ·exact⟨by decide,.inl ⟨_,bM3,aS4 G.K G.calm (k:=1) rfl⟩⟩
 ·exact⟨by decide,.inl ⟨_,bN9,aS4 G.K G.calm (k:=1) rfl⟩⟩
 ·exact⟨by decide,.inr ⟨_,bE5,bD0⟩⟩
 ·exact⟨by decide,.inl ⟨_,bx3,aS4 G.K G.calm (k:=2) rfl⟩⟩
 ·exact⟨by decide,.inl ⟨_,bE3,aS4 G.K G.calm (k:=2) rfl⟩⟩
 ·exact⟨by decide,.inl ⟨_,bE3,aS4 G.K G.calm (k:=3) rfl⟩⟩
theorem bz8 {b:j0}{es:jQ}{x:Str}{y:Expr}{xs:List Expr}{p pos:Pos}(G:CG Γ F n X ck)(hb:biT b=some x)(hg:ck.gl x=true)(m:mEs ck es (y::xs)=true)(h:PA X (y::xs) (TAv Γ (jT F es))) :
  EvT Γ X (.Call (.Name x p) (y::xs) [] pos) (jD F (.bi b es)):=by
 refine .val ?_
 obtain⟨g1,g2,g3⟩:=G.gl hg
 obtain⟨hm,hc⟩:=bG4 G hb
 have hs:=an5 m
 have s1:=ze (es:=xs) (env:=X.env) (hs y (aq ..))
 have s2:=(zB (env:=X.env) (pos:=pos) fun e he=>hs e (ah _ he)).1
 rcases hc with⟨id,h1,h2⟩|⟨T,h1,h2⟩
 ·exact(af5 h2 g1 (G.bi _ hm) h1 h g3 g2 s1 s2).imp fun σ H Q q=>av4 (TEv.eq (fun ρ s=>rfl) q)
 ·exact(aj9 h2 g1 (G.bi _ hm) h1 h g3 g2 s1 s2).imp fun σ H Q q=>av4 (TEv.eq (fun ρ s=>rfl) q)
theorem bz0 {b:j0}{k:Nat}{t:Str}(h:biK b=some (k,t)):(1<=k/\k<=5)/\t∈bNames/\bf t=some (.type (al9 k))/\kK b=kH (kM k):=by
 cases b<;>cases h
 ·exact⟨by omega,by decide,bE5,rfl⟩
 ·exact⟨by omega,by decide,bx5,rfl⟩
 ·exact⟨by omega,by decide,bJ3,rfl⟩
 ·exact⟨by omega,by decide,aL2,rfl⟩
 ·exact⟨by omega,by decide,be2,rfl⟩
noncomputable def PEs (Γ:Gm)(F:jL)(X:Cx):jQ->List Expr->Prop
 | .nil,[]=>True
 | .cons e es,x::xs=>(shp x=true/\EvT Γ X x (jD F e))/\PEs Γ F X es xs
 | _,_=>False
theorem ak6:∀ {es:jQ} {xs:List Expr},PEs Γ F X es xs->PA X xs (TAv Γ (jT F es))
 | .nil,[],_=>ac7.imp fun σ H Q q=>aB3 (TAv.eq (fun ρ s=>rfl) q)
 | .nil,_::_,h=>h.elim
 | .cons _ _,[],h=>h.elim
 | .cons e es,x::xs,h=>(aD2 h.1.1 h.1.2.1 (ak6 h.2)).imp fun σ H Q q=>TAv.eq (fun ρ s=>rfl) q
theorem bi5 {b:j0}{es:jQ}{k:Nat}{t:Str}{a:Expr}{p py pos:Pos}(G:CG Γ F n X ck)(hb:biK b=some (k,t))(hg:ck.gl "isinstance"=true)(hg2:ck.gl t=true)(h:PEs Γ F X es [a]) :
  EvT Γ X (.Call (.Name "isinstance" p) [a,.Name t py] [] pos) (jD F (.bi b es)):=by
 refine .val ?_
 obtain⟨g1,g2,g3⟩:=G.gl hg
 obtain⟨t1,t2,t3⟩:=G.gl hg2
 obtain⟨hk,hm,hv,hbi⟩:=bz0 hb
 have pty:PE X (.Name t py) (tC (.ty (al9 k))):=bi6 t1 (G.bi _ hm) hv rfl t3 t2
 cases es with
 | nil=>exact h.elim
 | cons e es =>
  cases es with
  | cons _ _=>exact h.2.elim
  | nil =>
   obtain⟨⟨hs,ha,_⟩,_⟩:=h
   have hA:PA X [a,.Name t py] (ap6 (TEv Γ (jD F e)) (ap6 (tC (.ty (al9 k))) aU0)):=zF ha (zF pty ac7 (ze rfl)) (ze hs)
   refine(af5 (by6 G.K hk) g1 (G.bi _ (by decide)) qI hA g3 g2 (ze hs) (zB fun e he=>by rw[bW.mp he];rfl).1).imp fun σ H Q q=>?_
   obtain⟨φ,ρ,s,d,s',E,R,hm,q⟩:=q
   obtain⟨l,s1,e1,hm⟩:=aa0 hm
   obtain⟨x,s2,e2,e1⟩:=aa0 e1
   obtain⟨l2,s3,e3,e1⟩:=aa0 e1
   cases e3
   cases e1
   rw[hbi]at hm
   refine⟨φ,ρ,s,x,_,E,R,e2,fun v φ1 H1 g1 l1 b1 r1 R1=>?_⟩
   exact⟨v,rfl,φ1,_,[x],d,s',R1,.cons r1 .nil,by unfold jz;rw[b1];rfl,hm,q.trans g1 l1⟩
end
section
variable {Γ:Gm} {F:jL} {n:Nat} {X:Cx} {ck:Ck} {σ:St} {H:Hp}
def TAp (Γ:Gm)(cells:List (Str×Addr))(N:List Str)(m:jA->jx->jB (List jy)):TA:=fun σ H Q=>∃ φ ρ s l s',RE Γ φ H s.length ρ σ/\Rp Γ φ H s/\m ρ s=.ok l s' /\
 ∀ vs φ' H',Gr φ s H φ' s' H'->s.length<=s'.length->jz s'.length l=true->PVL Γ cells N σ φ' H' l vs->Rp Γ φ' H' s'->Q vs H'
theorem TAp.eq {cells:List (Str×Addr)}{N:List Str}{m m':jA->jx->jB (List jy)}{Q:List V->Hp->Prop}(e:∀ ρ s,m ρ s=m' ρ s)(q:TAp Γ cells N m σ H Q):TAp Γ cells N m' σ H Q:=by
 obtain⟨φ,ρ,s,l,s',E,R,hm,q⟩:=q
 exact⟨φ,ρ,s,l,s',E,R,by rw[<-e];exact hm,q⟩
theorem bm4 {cells:List (Str×Addr)}{N:List Str}{Q:List V->Hp->Prop}(h:TAp Γ cells N (fun ρ s=>.ok [] s) σ H Q):aU0 σ H Q:=by
 obtain⟨φ,ρ,s,l,s',E,R,hm,q⟩:=h
 cases hm
 exact q [] φ H (Gr.refl _ _ _) (ai _) rfl .nil R
theorem bB0 {cells:List (Str×Addr)}{N:List Str}{m:jA->jx->jB jy}{ms:jA->jx->jB (List jy)}{Q:List V->Hp->Prop}(h:TAp Γ cells N (fun ρ s=>(m ρ s).bind fun d s=>(ms ρ s).bind fun l s=>.ok (d::l) s) σ H Q):ap6 (TEv Γ m) (TAp Γ cells N ms) σ H Q:=by
 obtain⟨φ,ρ,s,l,s',E,R,hm,q⟩:=h
 obtain⟨x,s1,e1,hm⟩:=aa0 hm
 obtain⟨y,s2,e2,hm⟩:=aa0 hm
 cases hm
 refine⟨φ,ρ,s,x,s1,E,R,e1,fun v φ1 H1 g1 l1 b1 r1 R1=>?_⟩
 refine⟨φ1,ρ,s1,y,s',E.mono g1 l1,R1,e2,fun vs φ2 H2 g2 l2 b2 r2 R2=>?_⟩
 exact q (v::vs) φ2 H2 (g1.trans g2 l1) (aw l1 l2) (by unfold jz;rw[zx l2 x b1,b2];rfl) (.cons (PVp.mono g2 b1 (.inl r1)) r2) R2
theorem ai5 {ρ:jA}:∀ {is:List Nat} {cs:List jy},jU ρ is=some cs->cs.length=is.length/\∀(i j:Nat),is[i]?=some j->∃ d,cs[i]?=some d/\ρ[j]?=some (some d)
 | [],cs,h=>by cases h;exact⟨rfl,fun i j e=>by cases e⟩
 | k::is,cs,h=>by
  unfold jU at h
  cases e:ρ[k]? with
  | none=>rw[e]at h;cases h
  | some o =>
   cases o with
   | none=>rw[e]at h;cases h
   | some d =>
    cases e2:jU ρ is with
    | none=>rw[e,e2]at h;cases h
    | some l =>
     rw[e,e2]at h
     cases h
     obtain⟨h1,h2⟩:=ai5 e2
     refine⟨by rw[aQ,aQ,h1],fun i j ei=>?_⟩
     cases i with
     | zero=>cases ei;exact⟨d,rfl,e⟩
     | succ i=>exact h2 i j ei
theorem aK7 {φ:Nat->Addr}{s:jx}{ρ:jA}(E:RE Γ φ H s.length ρ σ):∀ {is:List Nat} {cs:List jy},jU ρ is=some cs->∃ cap,RVL Γ φ H cs cap/\jz s.length cs=true/\∀(i j:Nat) (v:V),is[i]?=some j->cap[i]?=some v->σ[j]?=some (some v)
 | [],cs,h=>by cases h;exact⟨[],.nil,rfl,fun i j v e=>by cases e⟩
 | k::is,cs,h=>by
  unfold jU at h
  cases e:ρ[k]? with
  | none=>rw[e]at h;cases h
  | some o =>
   cases o with
   | none=>rw[e]at h;cases h
   | some d =>
    cases e2:jU ρ is with
    | none=>rw[e,e2]at h;cases h
    | some l =>
     rw[e,e2]at h
     cases h
     obtain⟨cap,h1,h2,h3⟩:=aK7 E e2
     obtain⟨hb,v,hσ,hv⟩:=E.val k d e
     refine⟨v::cap,.cons hv h1,by unfold jz;rw[hb,h2];rfl,fun i j w ei ec=>?_⟩
     cases i with
     | zero=>cases ei;cases ec;exact hσ
     | succ i=>exact h3 i j w ei ec
theorem bF1 {id:String}{caps:List Nat}{params:a9}{body:Expr}{scope:Scope}{pos:Pos}{c P:Addr}{J:LamI}{xs:List Expr}{ms:jA->jx->jB (List jy)}(L:LamHere Γ X X.N id caps params body scope c P J)(hnm:J.nm=none)(h2:PA X xs (TAp Γ X.env.cells X.N ms)) :
  PA X (.Lambda params body scope pos::xs) (TAp Γ X.env.cells X.N (fun ρ s=>match jU ρ caps with|some cs=>(ms ρ s).bind fun l s=>.ok (.clo id cs::l) s|none=>.bad)):=by
 refine(zF (aK8 L.code L.hd L.bm L.ck L.df) h2).imp fun σ H Q q=>?_
 obtain⟨φ,ρ,s,l,s',E,R,hm,q⟩:=q
 have hm:(match jU ρ caps with|some cs=>(ms ρ s).bind fun l s=>DV.R.ok (DV.D.clo id cs::l) s|none=>DV.R.bad)=.ok l s':=hm
 cases eg:jU ρ caps with
 | none=>rw[eg]at hm;exact fb hm
 | some cs =>
  rw[eg]at hm
  obtain⟨y,s2,e2,hm⟩:=aa0 hm
  cases hm
  obtain⟨cap,hcap,hcb,hσ⟩:=aK7 E eg
  have hlen:=(ai5 eg).1
  have hq:J.qual=X.env.qual ++ "<lambda>":=by rw[L.q];unfold LamI.own;rw[hnm]
  rw[<-hq]
  refine aT5 R.tab L.nd L.tab fun f H' e st tb hf ho=>?_
  obtain⟨g1,R1⟩:=R.sameT e st tb
  refine⟨φ,ρ,s,y,s',E.mono g1 (ai _),R1,e2,fun vs φ2 H2 g2 l2 b2 r2 R2=>?_⟩
  refine q (.ref f::vs) φ2 H2 (g1.trans g2 (ai _)) l2 (by unfold jz jC;rw[aa6 l2 cs hcb,b2];rfl) (.cons ?_ r2) R2
  have p1:PVp Γ X.env.cells X.N σ φ H' (.clo id cs) (.ref f):=by
   refine .inr ⟨id,cs,rfl,f,J,rfl,L.lg,by unfold ae4;rw[hnm];dsimp only;rw[L.p,L.b,L.s];exact ho,by rw[hlen,L.len],by rw[L.s];exact L.cl,cap,RVL.mono g1 cs cap hcb hcap,fun i x v e1 e3=>?_⟩
   have hi:i<caps.length:=by rw[<-L.len];exact(ag.mp e1).1
   have hj:caps[i]?=some caps[i]:=aj hi
   exact⟨by rw[L.s];exact L.fr x (br e1),caps[i],L.at_ i _ x hj e1,hσ i _ v hj e3⟩
  exact p1.mono g2 (by unfold jC;exact hcb)
theorem aK5 {f:String}{ms:jA->jx->jB (List jy)}{e:Expr}{es:List Expr}{p pos:Pos}(G:CG Γ F n X ck)(hg:ck.gl (f:Str)=true)(hfn:∀ x,X.fn x=true)(hkd:∀ x c,X.env.cells.lookup x=some c->X.env.kindOf x=some .cell\/X.env.kindOf x=some .free)
  (hs:∀ y∈e::es,shp y=true) (h:PA X (e::es) (TAp Γ X.env.cells X.N ms)) :
  PE X (.Call (.Name (f:Str) p) (e::es) [] pos) (TEv Γ (fun ρ s=>(ms ρ s).bind fun l s=>(F.call f l s).bind fun d s'=>if(d.ncl&&s'.all kO)=true then .ok d s' else .bad)):=by
 obtain⟨g1,g2,g3⟩:=G.gl hg
 rcases G.call f with hb|⟨a,fd,ps,hF,hmg,hk,hB⟩
 ·intro pins s σ H Q I q
  obtain⟨φ,ρ,s,d,s',E,R,hm,q⟩:=q
  obtain⟨l,s1,e1,hm⟩:=aa0 hm
  rw[hb]at hm;exact fb hm
 ·refine(aB5 hF G.room g1 hmg hk hB hfn h g2 (ze (hs e (aq ..))) (zB fun y hy=>hs y (ah _ hy)).1).imp fun σ H Q q=>?_
  obtain⟨φ,ρ,s,d,s',E,R,hm,q⟩:=q
  obtain⟨l,s1,e1,hm⟩:=aa0 hm
  obtain⟨d2,s2,e2,hm⟩:=aa0 hm
  split at hm
  case isFalse=>exact fb hm
  rename_i hn
  cases hm
  rw[af]at hn
  refine⟨φ,ρ,s,l,s1,E,R,e1,fun vs φ1 H1 gg l1 b1 r1 R1=>fun H2 ca=>?_⟩
  obtain⟨gs,R2⟩:=R1.same ca.same
  refine⟨φ1,s1,l,d,s',R2,r1.caught ca hkd b1,b1,e2,fun v φ' H3 g' l' b' r' R'=>?_⟩
  have hc:Cells X.env.cells H3:=ca.cells.kp g'.w.kp
  exact q v φ' (ab4 X.env.cells H3) (gg.trans (Gr.caught ca g') l1) (aw l1 l') b' (RV.dropC hc d v hn.1 r') (R'.dropC hc hn.2)
theorem aM7 {i:Nat}{x:Str}{es:jQ}{e:Expr}{xs:List Expr}{p pos:Pos}(G:CG Γ F n X ck)(hv:ck.var i x=true)(hs:∀ y∈e::xs,shp y=true)(h:PA X (e::xs) (TAv Γ (jT F es)))(hvar:PE X (.Name x p) (aS8 i)) :
  PE X (.Call (.Name x p) (e::xs) [] pos) (TEv Γ (jD F (.callV i es))):=by
 refine(aX6 rfl rfl rfl rfl rfl G.room hvar h (ze (hs e (aq ..))) (zB fun y hy=>hs y (ah _ hy)).1).imp fun σ H Q q=>?_
 obtain⟨φ,ρ,s,d,s',E,R,hm,q⟩:=q
 have hm:((jT F es ρ s).bind fun l s=>match ρ[i]? with
  | some (some (.fn f))=>F.call f l s
  | some (some (.clo id cs))=>F.lam id cs l s
  | _=>.bad)=.ok d s':=hm
 obtain⟨l,s1,e1,hm⟩:=aa0 hm
 cases eρ:ρ[i]? with
 | none=>rw[eρ]at hm;exact fb hm
 | some o =>
  cases o with
  | none=>rw[eρ]at hm;exact fb hm
  | some v0 =>
   obtain⟨hb,v,hσ,rv⟩:=E.val i v0 eρ
   cases v0 with
   | fn f =>
    rw[eρ]at hm
    have hm:F.call f l s1=.ok d s':=hm
    unfold RV at rv
    obtain⟨a,ha,e2⟩:=rv
    subst e2
    obtain⟨h1,h2⟩:=G.fa f a ha
    rcases G.call f with hb|⟨a',fd,ps,hF,hmg,hk,hB⟩
    ·rw[hb]at hm;exact fb hm
    ·rw[h1]at hmg
     cases hmg
     refine⟨a,hσ,.inr h2,φ,ρ,s,l,s1,E,R,e1,fun vs φ1 H1 g1 l1 b1 r1 R1=>?_⟩
     exact⟨.inr h2,_,_,ClOk.ofFn hF hB,trivial,φ1,s1,l,d,s',R1,r1,b1,hm,q.trans g1 l1⟩
   | clo id cs =>
    rw[eρ]at hm
    have hm:F.lam id cs l s1=.ok d s':=hm
    unfold RV at rv
    unfold jC at hb
    obtain⟨f,cap,J,clos,e2,hlg,hat,hcl,hcs⟩:=rv
    subst e2
    have fin:∀ H',CloAt H' f J cap clos->bi2 X.K H' f:=fun H' h'=>h'.fn
    refine⟨f,hσ,fin H hat,φ,ρ,s,l,s1,E,R,e1,fun vs φ1 H1 g1 l1 b1 r1 R1=>?_⟩
    have hat1:=hat.kp g1.w.kp
    exact⟨fin H1 hat1,_,_,G.cl id J f cap clos hlg hcl,hat1,φ1,s1,cs,l,d,s',R1,r1,RVL.mono g1 cs cap hb hcs,b1,aa6 l1 cs hb,hm,q.trans g1 l1⟩
   | _=>rw[eρ]at hm;exact fb hm
end
section
variable {Γ:Gm} {F:jL} {n:Nat} {X:Cx} {ck:Ck} {σ:St} {H:Hp} {Q:VK}
def bU6 (K:ac)(H:Hp)(v:V)(ys:List V)(z:Bool):Prop:=(∃ a,v=.ref a/\(SqL K H a ys\/(SqT K H a ys/\(z=true->H a=some (.tup ys)))))\/∃ x:List Nat,v=.str ⟨x.toArray⟩/\x.length<=jG/\ys=sgV x
def TLv (Γ:Gm)(m:jA->jx->jB (List jy)):TE:=fun σ H Q=>∃ φ ρ s l s',RE Γ φ H s.length ρ σ/\Rp Γ φ H s/\m ρ s=.ok l s' /\
 ∀ v ys φ' H',Gr φ s H φ' s' H'->s.length<=s'.length->jz s'.length l=true->bU6 Γ.K H' v ys (jH l)->RVL Γ φ' H' l ys->Rp Γ φ' H' s'->Q v H'
theorem aC9 {m:jA->jx->jB (List jy)}(h:TLv Γ m σ H Q):TFv Γ m σ H Q:=by
 obtain⟨φ,ρ,s,l,s',E,R,hm,q⟩:=h
 exact⟨φ,ρ,s,l,s',E,R,hm,fun p ys φ' H' g hl hb hp h0 ho r R'=>q (.ref p) ys φ' H' g hl hb (.inl ⟨p,rfl,.inl (SqL.of hp)⟩) r R'⟩
theorem aq9 {φ:Nat->Addr}:∀ x:List Nat,RVL Γ φ H (x.map fun c=>.str [c]) (sgV x)
 | []=>.nil
 | c::x=>.cons (RV.strI (by unfold jG;simp)) (aq9 x)
theorem am1 {k:Nat}:∀ x:List Nat,jz k (x.map fun c=>.str [c])=true
 | []=>rfl
 | c::x=>by rw[aJ];unfold jz;rw[am1 x];rfl
theorem bD8 {m:jA->jx->jB jy}(h:TLv Γ (fun ρ s=>(m ρ s).bind fun d s=>DV.aT1 d s) σ H Q):TEv Γ m σ H Q:=by
 obtain⟨φ,ρ,s,l,s',E,R,hm,q⟩:=h
 obtain⟨d,s1,e1,hm⟩:=aa0 hm
 refine⟨φ,ρ,s,d,s1,E,R,e1,fun v φ1 H1 g1 l1 b1 r1 R1=>?_⟩
 cases d with
 | tup l' =>
  cases hm
  obtain⟨a,xs,⟨rfl,z1⟩,h1,h2⟩:=r1.tupZ
  unfold jC at b1
  exact q _ xs φ1 H1 g1 l1 b1 (.inl ⟨a,rfl,.inr ⟨h1,z1⟩⟩) h2 R1
 | str x =>
  cases hm
  exact q v (sgV x) φ1 H1 g1 l1 (am1 x) (.inr ⟨x,r1.strE,r1.strL,rfl⟩) (aq9 x) R1
 | ref k =>
  have hm:(match s1[k]? with
   | some (.lst l)=>DV.R.ok l s1
   | some (.ro l)=>.ok l s1
   | _=>.bad)=.ok l s':=hm
  rw[r1.refE]
  cases e:s1[k]? with
  | none=>rw[e]at hm;exact fb hm
  | some ob =>
   rw[e]at hm
   cases ob with
   | lst l' =>
    cases hm
    obtain⟨xs,h1,h2⟩:=R1.addr e
    have:=R1.wf k _ e
    unfold jE at this
    exact q _ xs φ1 H1 g1 l1 this (.inl ⟨_,rfl,.inl (SqL.of h1)⟩) h2 R1
   | ro l' =>
    cases hm
    obtain⟨xs,h1,h2⟩:=R1.obj k _ e
    have:=R1.wf k _ e
    unfold jE at this
    exact q _ xs φ1 H1 g1 l1 this (.inl ⟨_,rfl,.inl h1.1⟩) h2 R1
   | _=>exact fb hm
 | _=>exact fb hm
theorem TLv.eq {m m':jA->jx->jB (List jy)}(e:∀ ρ s,m ρ s=m' ρ s)(q:TLv Γ m σ H Q):TLv Γ m' σ H Q:=by
 have:m=m':=funext fun ρ=>funext fun s=>e ρ s
 subst this;exact q
theorem aG6 {m:jA->jx->jB (List jy)}{a:Expr}{p pos:Pos}(G:CG Γ F n X ck)(hg:ck.gl "tuple"=true)(hs:shp a=true)(h:PE X a (TLv Γ m)) :
  PE X (.Call (.Name "tuple" p) [a] [] pos) (TEv Γ (fun ρ s=>(m ρ s).bind fun l s=>kr .tuple l s)):=by
 obtain⟨g1,g2,g3⟩:=G.gl hg
 refine(aj9 ((ay4 G.K).or (av5 G.calm)) g1 (G.bi _ (by decide)) aL2 (zF h ac7 (ze hs)) g3 g2 (ze hs) rfl).imp fun σ H Q q=>?_
 obtain⟨φ,ρ,s,d,s',E,R,hm,q⟩:=q
 obtain⟨l,s1,e1,hm⟩:=aa0 hm
 cases hm
 refine⟨φ,ρ,s,l,_,E,R,e1,fun v ys φ1 H1 g1 l1 b1 hq r1 R1=>?_⟩
 rcases hq with⟨a,rfl,hq|hq⟩|⟨x,rfl,hx,rfl⟩
 ·exact .inl ⟨a,ys,rfl,.inl ⟨hq,fun p hp=>(q.trans g1 l1).tup R1 r1 b1 hp⟩⟩
 ·exact .inl ⟨a,ys,rfl,.inr ⟨hq.1,q _ φ1 H1 g1 l1 (by unfold jC;exact b1) (RV.tupC hq.1 hq.2 r1) R1⟩⟩
 ·exact .inr ⟨x,rfl,hx,fun p hp=>(q.trans g1 l1).tup R1 r1 b1 hp⟩
theorem aL3 {m:jA->jx->jB (List jy)}{a:Expr}{p pos:Pos}(G:CG Γ F n X ck)(hg:ck.gl "list"=true)(hs:shp a=true)(h:PE X a (TLv Γ m)) :
  PE X (.Call (.Name "list" p) [a] [] pos) (TEv Γ (fun ρ s=>(m ρ s).bind fun l s=>kr .list l s)):=by
 obtain⟨g1,g2,g3⟩:=G.gl hg
 refine(aj9 ((aG1 G.K).or (aF9 G.calm)) g1 (G.bi _ (by decide)) be2 (zF h ac7 (ze hs)) g3 g2 (ze hs) rfl).imp fun σ H Q q=>?_
 obtain⟨φ,ρ,s,d,s',E,R,hm,q⟩:=q
 obtain⟨l,s1,e1,hm⟩:=aa0 hm
 obtain⟨rfl,rfl⟩:=qr hm
 refine⟨φ,ρ,s,l,_,E,R,e1,fun v ys φ1 H1 g1 l1 b1 hq r1 R1=>?_⟩
 rcases hq with⟨a,rfl,hq⟩|⟨x,rfl,hx,rfl⟩
 ·exact .inl ⟨a,ys,rfl,hq.imp id (·.1),fun p hp=>(q.trans g1 l1).alloc R1 r1 b1 hp⟩
 ·exact .inr ⟨x,rfl,hx,fun p hp=>(q.trans g1 l1).alloc R1 r1 b1 hp⟩
theorem bG3 {m:jA->jx->jB (List jy)}{k:kA}{x:Str}{a:Expr}{p pos:Pos}(G:CG Γ F n X ck)(hk:mkT k=some x)(hg:ck.gl x=true)(hs:shp a=true)(h:PE X a (TLv Γ m)) :
  PE X (.Call (.Name x p) [a] [] pos) (TEv Γ (fun ρ s=>(m ρ s).bind fun l s=>kr k l s)):=by
 cases k<;>cases hk
 ·exact aG6 G hg hs h
 ·exact aL3 G hg hs h
def FrC (Γ:Gm)(X:Cx)(x:Str)(k:kA):Prop:=∃ id r,bf x=some (.builtin id)/\x∈bNames/\ab8 X (.builtin id) r/\∀ φ H s l ys p d s' Q,Rp Γ φ H s->RVL Γ φ H l ys->H p=some (.lst ys)->kr k l s=.ok d s'->ad0 Γ φ s H d s' Q->r [.ref p] H Q
theorem az4:∀(l:List Int) (a:Int),(l.foldl min a=a\/l.foldl min a∈l)/\l.foldl min a<=a/\∀ y∈l,l.foldl min a<=y
 | [],a=>⟨.inl rfl,bR _,fun y hy=>by cases hy⟩
 | b::l,a=>by
  obtain⟨h1,h2,h3⟩:=az4 l (min a b)
  rw[cx]
  refine⟨?_,by omega,fun y hy=>?_⟩
  ·rcases h1 with h|h
   ·rw[h]
    rcases Int.le_total a b with z|z
    ·left;omega
    ·right;rw[show min a b=b by omega];exact aq ..
   ·exact .inr (ah _ h)
  ·rcases au.mp hy with z|z
   ·rw[z];omega
   ·exact h3 y z
theorem aV1 {l:List Int}{m:Int}(h:kR l=some m):m∈l/\∀ y∈l,m<=y:=by
 cases l with
 | nil=>cases h
 | cons a l =>
  cases h
  obtain⟨h1,h2,h3⟩:=az4 l a
  refine⟨?_,fun y hy=>?_⟩
  ·rcases h1 with h|h
   ·rw[h];exact aq ..
   ·exact ah _ h
  ·rcases au.mp hy with z|z
   ·rw[z];exact h2
   ·exact h3 y z
theorem bn9 (G:CG Γ F n X ck){k:kA}{x:Str}(hk:mkF k=some x):FrC Γ X x k:=by
 cases k<;>cases hk
 ·refine⟨_,_,bK8,by decide,aM3 G.calm G.K,fun φ H s l ys p d s' Q R r hp hm q=>?_⟩
  unfold kr at hm
  dsimp only at hm
  cases e:ki l with
  | none=>rw[e]at hm;exact fb hm
  | some bs =>
   rw[e]at hm
   cases hm
   have:=ai7 e
   subst this
   exact⟨p,bs,rfl,SqL.of (by rw[<-r.bls];exact hp),q.here R rfl RV.blI⟩
 ·refine⟨_,_,bx3,by decide,aR8 G.calm G.K,fun φ H s l ys p d s' Q R r hp hm q=>?_⟩
  unfold kr at hm
  dsimp only at hm
  cases e:ka l with
  | none=>rw[e]at hm;exact fb hm
  | some is =>
   rw[e]at hm
   have hm:(match kR is with|some m=>DV.R.ok (DV.D.int m) s|none=>.bad)=.ok d s':=hm
   cases e2:kR is with
   | none=>rw[e2]at hm;exact fb hm
   | some mm =>
    rw[e2]at hm
    cases hm
    have:=z9 e
    subst this
    refine⟨p,is,rfl,SqL.of (by rw[<-r.ints];exact hp),(fun(z:is=[])=>by rw[z]at e2;cases e2),fun m hm hmin=>?_⟩
    obtain⟨a,b⟩:=aV1 e2
    have:m=mm:=Int.le_antisymm (hmin mm a) (b m hm)
    rw[this]
    exact q.here R rfl RV.intI
theorem bG7 {m:jA->jx->jB (List jy)}{k:kA}{x:Str}{a:Expr}{p pos:Pos}(G:CG Γ F n X ck)(hk:mkF k=some x)(hg:ck.gl x=true)(hs:shp a=true)(h:PE X a (TFv Γ m)) :
  PE X (.Call (.Name x p) [a] [] pos) (TEv Γ (fun ρ s=>(m ρ s).bind fun l s=>kr k l s)):=by
 obtain⟨g1,g2,g3⟩:=G.gl hg
 obtain⟨id,r,hb,hx,hc,hr⟩:=bn9 (Γ:=Γ) G hk
 refine(af5 hc g1 (G.bi _ hx) hb (zF h ac7 (ze hs)) g3 g2 (ze hs) rfl).imp fun σ H Q q=>?_
 obtain⟨φ,ρ,s,d,s',E,R,hm,q⟩:=q
 obtain⟨l,s1,e1,hm⟩:=aa0 hm
 exact⟨φ,ρ,s,l,_,E,R,e1,fun p ys φ1 H1 g1 l1 b1 hp h0 ho r1 R1=>hr φ1 H1 s1 l ys p d s' Q R1 r1 hp hm (q.trans g1 l1)⟩
theorem aZ0 {φ φ':Nat->Addr}{s s':jx}{H':Hp}{r:Nat}{l:List jy}(R:Rp Γ φ H s)(g:Gr φ s H φ' s' H')(hb:r<s.length)(e:s'[r]?=some (.lst l)):tyV Γ.K "list" (.ref (φ r)) H:=by
 obtain⟨o0,e0⟩:∃ o0,s[r]?=some o0:=⟨s[r],aj hb⟩
 have hm:=g.mu r o0 _ e0 e rfl
 have ho:=R.obj r o0 e0
 cases o0 with
 | lst l0 =>
  obtain⟨xs,h1,_⟩:=ho
  exact .inl ⟨rfl,xs,SqL.of h1⟩
 | ro _=>cases hm
 | dic _=>have:=g.kd r _ _ e0 e;cases this
 | dit _=>have:=g.kd r _ _ e0 e;cases this
 | ins _ _=>exact ho.elim
def mtR (Γ:Gm)(m:kB):V->List V->Hp->VK->Prop:=fun x vs H Q=>∃ φ s a l d s',Rp Γ φ H s/\RV Γ φ H a x/\RVL Γ φ H l vs/\a.bnd s.length=true/\jz s.length l=true/\kz m a l s=.ok d s'/\ad0 Γ φ s H d s' Q
theorem bz6:jG<aH:=by rw[eh];decide
theorem aA5 {m:kB}{x:Str}{k:Nat}(hm:mtT m=some (x,k)){a:jy}{l:List jy}{s s':jx}{d:jy}(h:kz m a l s=.ok d s'):∃ r l0,a=.ref r/\s[r]?=some (.lst l0):=by
 have go:∀ {r:Nat} {f:List jy->jB jy},(match s[r]? with|some (.lst l)=>f l|_=>.bad)=.ok d s'->∃ l0,s[r]?=some (.lst l0):=fun {r f} h=>by
  cases e:s[r]? with
  | none=>rw[e]at h;exact fb h
  | some ob =>
   cases ob with
   | lst l0=>exact⟨l0,rfl⟩
   | _=>rw[e]at h;exact fb h
 unfold kz at h
 split at h
 ·obtain⟨l0,e⟩:=go h;exact⟨_,l0,rfl,e⟩
 ·obtain⟨l0,e⟩:=go h;exact⟨_,l0,rfl,e⟩
 ·obtain⟨l0,e⟩:=go h;exact⟨_,l0,rfl,e⟩
 ·obtain⟨l0,e⟩:=go h;exact⟨_,l0,rfl,e⟩
 ·obtain⟨l0,e⟩:=go h;exact⟨_,l0,rfl,e⟩
 ·exact fb h
theorem aW7:MtR X "list.append" (mtR Γ .append):=by
 intro pins sh σ H x vs v us Q I rx rv h
 obtain⟨φ,s,a,l,d,s',R,ra,rl,ba,bl,hm,q⟩:=h
 obtain⟨r,l0,rfl,e⟩:=aA5 (m:=.append) rfl hm
 cases l with
 | nil=>exact fb hm
 | cons y t =>
  cases t with
  | cons _ _=>exact fb hm
  | nil =>
   simp only[kz,e]at hm
   split at hm
   case isFalse=>exact fb hm
   rename_i hlt
   cases hm
   obtain⟨z,rfl,rz⟩:=rl.one
   obtain⟨xs,h1,h2⟩:=R.addr e
   have hb0:jz s.length l0=true:=by have:=R.wf r _ e;unfold jE at this;exact this
   refine as7 pins sh σ H x [z] v us Q I rx rv ⟨φ r,xs,z,ra.refE,rfl,h1,by rw[h2.length];have:=bz6;omega,?_⟩
   exact q.put R e (h2.append (.cons rz .nil)) (zU hb0 bl) rfl RV.nonI
structure MtOk (Γ:Gm)(X:Cx)(m:kB)(x:Str):Prop where
 ex:∃ id,PySem.Slot "list" x id/\ik (.builtin id)=pure (.type "method_descriptor")/\MtR X id (mtR Γ m)
theorem bD2 (hK:X.K=Γ.K)(hroom:Room (jN+1) X.A){m:kB}{x:Str}{k:Nat}(h:mtT m=some (x,k)):MtOk Γ X m x:=by
 cases m<;>cases h
 ·exact⟨_,fN,PySem.F.type_list_append,aW7⟩
theorem aT7 {m:kB}{o:kn}{es:jQ}{ob:Expr}{xs:List Expr}{x:Str}{ap cp:Pos}(G:CG Γ F n X ck)(hm:mtT m=some (x,xs.length))(hab:bN4 ob=true)(hl:(ap.endLine==cp.line)=true)(ho:PE X ob (TEv Γ (jD F o)))
  (hmE:mEs ck es xs=true) (h:PEs Γ F X es xs):EvT Γ X (.Call (.Attribute ob x ap) xs [] cp) (jD F (.meth m o es)):=by
 refine .val ?_
 obtain⟨id,slot,hty,hr⟩:=(bD2 (Γ:=Γ) (X:=X) G.K (G.room.mono G.deep) hm).ex
 have hs:=an5 hmE
 have key:∀ σ H Q,TEv Γ (jD F (.meth m o es)) σ H Q->tBM Γ.K "list" (mtR Γ m) (TEv Γ (jD F o)) (TAv Γ (jT F es)) σ H Q:=fun σ H Q q=>by
  obtain⟨φ,ρ,s,d,s',E,R,hmm,q⟩:=q
  obtain⟨a,s1,e1,hmm⟩:=aa0 hmm
  obtain⟨l,s2,e2,hmm⟩:=aa0 hmm
  refine⟨φ,ρ,s,a,s1,E,R,e1,fun v φ1 H1 g1 l1 b1 r1 R1=>?_⟩
  obtain⟨r,l0,rfl,er⟩:=aA5 hm hmm
  rw[r1.refE]
  have hk:∀ φ2 H2,Gr φ1 s1 H1 φ2 s2 H2->tyV Γ.K "list" (.ref (φ1 r)) H1:=fun φ2 H2 g2=>aZ0 R1 g2 (by unfold jC at b1;exact of_decide_eq_true b1) er
  have goal2:TAv Γ (jT F es) σ H1 fun xs H2=>mtR Γ m (.ref (φ1 r)) xs H2 Q:=by
   refine⟨φ1,ρ,s1,l,s2,E.mono g1 l1,R1,e2,fun vs φ2 H2 g2 l2 b2 r2 R2=>?_⟩
   refine⟨φ2,s2,.ref r,l,d,s',R2,?_,r2,zx l2 _ b1,b2,hmm,q.trans (g1.trans g2 l1) (aw l1 l2)⟩
   have:=RV.mono g2 _ _ b1 r1
   rw[r1.refE]at this
   exact this
  refine⟨?_,goal2⟩
  have hlt:r<s1.length:=by unfold jC at b1;exact of_decide_eq_true b1
  obtain⟨o0,e0⟩:∃ o0,s1[r]?=some o0:=⟨s1[r],aj hlt⟩
  have hob:=R1.obj r o0 e0
  cases o0 with
  | lst l0 =>
   obtain⟨xs,h1,_⟩:=hob
   exact .inl ⟨rfl,xs,SqL.of h1⟩
  | ro l0 =>
   obtain⟨xs,h1,_⟩:=hob
   exact .inl ⟨rfl,xs,h1.1⟩
  | dic _ =>
   obtain⟨o',eo,ek⟩:=DV.ae6 G.fk es ρ s1 _ _ e2 r _ e0
   rw[er]at eo;cases eo;cases ek
  | dit _ =>
   obtain⟨o',eo,ek⟩:=DV.ae6 G.fk es ρ s1 _ _ e2 r _ e0
   rw[er]at eo;cases eo;cases ek
  | ins _ _=>exact hob.elim
 cases xs with
 | nil =>
  have p0:PE X (.Call (.Attribute ob x ap) [] [] cp) (bS3 X.K "list" (mtR Γ m) (TEv Γ (jD F o))):=bx9 fc slot hty hr ho (aH7 hab) hl
  rw[G.K]at p0
  refine p0.imp fun σ H Q q=>?_
  cases es with
  | cons _ _=>exact h.elim
  | nil =>
   obtain⟨φ,ρ,s,d,s',E,R,hmm,k⟩:=key σ H Q q
   refine⟨φ,ρ,s,d,s',E,R,hmm,fun v φ1 H1 g1 l1 b1 r1 R1=>?_⟩
   obtain⟨h1,h2⟩:=k v φ1 H1 g1 l1 b1 r1 R1
   exact⟨h1,aB3 (TAv.eq (fun ρ s=>rfl) h2)⟩
 | cons y ys =>
  refine(bD6 G.K fc slot hty hr ho (ak6 h) (aH7 hab) ?_ hl (ze (hs y (aq ..))) (zB fun e he=>hs e (ah _ he)).1).imp key
  rw[(zB hs).2]
  have:(y::ys).length<=1:=by
   unfold mtT at hm
   split at hm<;>first|(have:=az hm;have:=congrArg Prod.snd this;simp at this;simp;omega)|cases hm
  simp only[eP,dN,jl]
  show(true&&decide ((y::ys).length+0+0<30))=true
  rw[eP]
  exact decide_eq_true (by omega)
end
section
variable {Γ:Gm} {F:jL} {n:Nat} {X:Cx} {ck:Ck} {σ:St} {H:Hp} {Q:VK}
theorem PIf.imp {e:List Expr}{t t':TT}(h:PIf X e t)(i:∀ σ H Q,t' σ H Q->t σ H Q):PIf X e t':=fun pins s σ H Q I q=>h pins s σ H Q I (i σ H Q q)
structure CompF (Γ:Gm)(X:Cx)(m:jA->jx->jB (List jy))(E:Expr):Prop where
 ex:∃ elt tgt iter ifs scope pos N' caps wi g tc te,E=.ListComp elt [⟨tgt,iter,ifs,0⟩] scope pos/\zZ N' caps scope X.N X.env.scope=true/\PI X tgt iter wi /\
  (∀(C:Addr) (cells:List (Str×Addr)) (s:ae) (H:Hp) (ex:List Addr),PG (zM X N' scope C cells s H ex) tgt g/\PIf (zM X N' scope C cells s H ex) ifs tc/\PE (zM X N' scope C cells s H ex) elt te) /\
  (∀ x,cE iter X.env x=pure x)/\∀ σ H Q,TFv Γ m σ H Q->tComp caps wi g tc te σ H Q
theorem CompF.pe {m:jA->jx->jB (List jy)}{E:Expr}(h:CompF Γ X m E)(hc:X.calm=true):PE X E (TFv Γ m):=by
 obtain⟨elt,tgt,iter,ifs,scope,pos,N',caps,wi,g,tc,te,rfl,h1,h2,h3,h4,h5⟩:=h.ex
 exact(aJ4 N' caps h1 h2 hc h3 h4).imp h5
theorem bg5 {tg:j1}{mI:jA->jx->jB ko}{mc me:jA->jx->jB jy}{caps:List (Option Nat)}{elt tgt iter i:Expr}{scope:Scope}{pos:Pos}(G:CG Γ F n X ck)(hm:aF4 ck tg tgt iter caps scope=true)
  (hi:PI X tgt iter (TIv Γ mI)) (hc:∀ C cells s H ex,PT (zM X (ckC ck tgt caps scope).N scope C cells s H ex) i (TTv Γ mc)) (he:∀ C cells s H ex,PE (zM X (ckC ck tgt caps scope).N scope C cells s H ex) elt (TEv Γ me)) :
  CompF Γ X (fun ρ s=>(mI ρ s).bind fun q s0=>if q.its.length<=jG then km (fun s=>j4 s0 s q.src) (fun d ρ s=>match jP ρ tg d with
   | some ρ=>jI (mc ρ s) fun k s=>if k then(me ρ s).bind fun v s=>.ok (some v,ρ) s else .ok (none,ρ) s
   | none=>.bad) q.its (kq ρ caps) s0 else .bad) (.ListComp elt [⟨tgt,iter,[i],0⟩] scope pos):=by
 obtain⟨c1,c2,c3⟩:=G.comp hm
 exact⟨elt,tgt,iter,[i],scope,pos,_,caps,_,_,_,_,rfl,c1,hi,fun C cells s H ex=>⟨(c3 C cells s H ex).2,bl2 (hc C cells s H ex),he C cells s H ex⟩,ax8 c2,fun σ H Q q=>aN0 q⟩
theorem aX9 {tg:j1}{mI:jA->jx->jB ko}{me:jA->jx->jB jy}{caps:List (Option Nat)}{elt tgt iter:Expr}{scope:Scope}{pos:Pos}(G:CG Γ F n X ck)(hm:aF4 ck tg tgt iter caps scope=true)
  (hi:PI X tgt iter (TIv Γ mI)) (he:∀ C cells s H ex,PE (zM X (ckC ck tgt caps scope).N scope C cells s H ex) elt (TEv Γ me)) :
  CompF Γ X (fun ρ s=>(mI ρ s).bind fun q s0=>if q.its.length<=jG then km (fun s=>j4 s0 s q.src) (fun d ρ s=>match jP ρ tg d with
   | some ρ=>(me ρ s).bind fun v s=>.ok (some v,ρ) s
   | none=>.bad) q.its (kq ρ caps) s0 else .bad) (.ListComp elt [⟨tgt,iter,[],0⟩] scope pos):=by
 obtain⟨c1,c2,c3⟩:=G.comp hm
 refine⟨elt,tgt,iter,[],scope,pos,_,caps,_,_,TTv Γ (fun ρ s=>.ok (.bl true) s),_,rfl,c1,hi,fun C cells s H ex=>⟨(c3 C cells s H ex).2,bp7.imp fun σ H Q q=>?_,he C cells s H ex⟩,ax8 c2,fun σ H Q q=>aN0 (TFv.eq (fun ρ s=>?_) q)⟩
 ·obtain⟨φ,ρ,s,b,s',E,R,hm,q⟩:=q
  cases hm
  exact q φ H (Gr.refl _ _ _) (ai _) R
 ·congr 1
theorem bh2 {tg:Expr}{e:kn}{E:Expr}(G:CG Γ F n X ck)(h:PE X E (TEv Γ (jD F e))):PI X tg E (TIv Γ (kS F (.seq e))):=by
 refine(PI.or (br2 G.K h) (PI.or (aV2 G.K h) (bv0 h))).imp fun σ H R q=>bC1 (TIv.eq (fun ρ s=>rfl) q)
theorem ba8 {tg:Expr}{a:kn}{l:Expr}{p pos:Pos}(G:CG Γ F n X ck)(hg:ck.gl "range"=true)(hs:shp l=true)(h:PE X l (TEv Γ (jD F a))):PI X tg (.Call (.Name "range" p) [l] [] pos) (TIv Γ (kS F (.rng1 a))) :=
 (aH8 (G.gl hg).1 (G.bi _ (by decide)) (zF h ac7 (ze hs)) (ze hs)).imp fun σ H R q=>bk0 (TIv.eq (fun ρ s=>rfl) q)
theorem by9 (h:TEv Γ (fun ρ s=>j7 (.dic []) s) σ H Q):bb5 σ H Q:=by
 obtain⟨φ,ρ,s,d,s',E,R,hm,q⟩:=h
 obtain⟨rfl,rfl⟩:=qr hm
 intro p hp
 obtain⟨g,R'⟩:=R.new (o:=.dic []) (u:=.dK []) hp rfl fun φ' H' g e=>⟨[],e,rfl⟩
 exact q (.ref p) _ _ g (by simp) (by unfold jC;simp) (by unfold RV;simp) R'
theorem bx6 {mk mv:jA->jx->jB jy}(h:TEv Γ (fun ρ s=>(mk ρ (s++[.dic []])).bind fun kd s1=>(mv ρ s1).bind fun vd s2=>if kd.key=true/\s2[s.length]?=some (.dic [])then .ok (.ref s.length) (s2.set s.length (.dic [(kd,vd)]))else .bad) σ H Q):bF9 [(TEv Γ mk,TEv Γ mv)] σ H Q:=by
 obtain⟨φ,ρ,s,d,s',E,R,hm,q⟩:=h
 obtain⟨kd,s1,e1,hm⟩:=aa0 hm
 obtain⟨vd,s2,e2,hm⟩:=aa0 hm
 split at hm
 case isFalse=>exact fb hm
 rename_i hc
 cases hm
 intro p hp
 obtain⟨g0,R0⟩:=R.new (o:=.dic []) (u:=.dK []) hp rfl fun φ' H' g e=>⟨[],e,rfl⟩
 have l0:s.length<=(s++[DV.O.dic []]).length:=by simp
 refine⟨_,ρ,s++[DV.O.dic []],kd,s1,E.mono g0 l0,R0,e1,fun v1 φ1 H1 g1 l1 b1 r1 R1=>?_⟩
 refine⟨φ1,ρ,s1,vd,s2,(E.mono g0 l0).mono g1 l1,R1,e2,fun v2 φ2 H2 g2 l2 b2 r2 R2=>?_⟩
 have hp2:φ2 s.length=p:=by
  rw[g2.w.map s.length (am (by simp) l1),g1.w.map s.length (by simp)];simp
 obtain⟨k,hk⟩:=ap0 hc.1
 have ek:=aC3 hk (RV.mono g2 kd v1 b1 r1)
 obtain⟨kvs,z1,z2⟩:=R2.obj s.length _ hc.2
 have z2:kvs=[]:=z2
 subst z2
 rw[hp2]at z1
 refine⟨z1,[(k,v2)],by rw[ek];rfl,by simp,?_⟩
 have hb:(DV.O.dic [(kd,vd)]).bnd s2.length=true:=by
  unfold jE
  simp only[aJ,c7,jz,eO,af]
  exact⟨zx l2 _ b1,b2⟩
 obtain⟨g3,R3⟩:=R2.set (o:=.dic [(kd,vd)]) (u:=.dK [(k,v2)]) hc.2 rfl hb fun H' g e=>⟨_,e,k,v2,[],rfl,hk,RV.monoW g _ _ b2 r2,rfl⟩
 rw[hp2]at g3 R3
 have L:s.length<=s2.length:=aw l0 (aw l1 l2)
 have lt:s.length<s2.length:=am (by simp) (aw l1 l2)
 exact q (.ref p) _ _ (((g0.trans g1 l0).trans g2 (aw l0 l1)).trans g3 L) (by rw[aY];exact L) (by unfold jC;rw[aY];exact decide_eq_true lt) (by unfold RV;rw[hp2]) R3
end
section
variable {Γ:Gm} {F:jL} {n:Nat}
theorem bb2 {X:Cx}{c:DV.Cn}{v:Const}{k:Nat}{pos:Pos}(h:mC c v=true):EvT Γ X (.Constant v k pos) (jD F (.cst c)):=by
 refine .val ?_
 unfold mC at h
 split at h
 ·exact bF5.imp fun σ H Q q=>au8 (c:=.non) (fun _=>rfl) (fun _ _=>RV.nonI) (TEv.eq (fun ρ s=>rfl) q)
 ·rename_i b c
  have e:=eq_of_beq h
  subst e
  exact bG9.imp fun σ H Q q=>au8 (c:=.bl b) (fun _=>rfl) (fun _ _=>RV.blI) (TEv.eq (fun ρ s=>rfl) q)
 ·rename_i i j
  have e:=of_decide_eq_true h
  subst e
  exact by7.imp fun σ H Q q=>au8 (c:=.int i) (fun _=>rfl) (fun _ _=>RV.intI) (TEv.eq (fun ρ s=>rfl) q)
 ·rename_i x y
  rw[af]at h
  have e:=of_decide_eq_true h.1
  have e2:=of_decide_eq_true h.2
  subst e
  exact bg3.imp fun σ H Q q=>au8 (c:=.str x) (fun _=>rfl) (fun _ _=>RV.strI (by unfold jG;omega)) (TEv.eq (fun ρ s=>rfl) q)
 ·cases h
theorem bq8 {X:Cx}{ck:Ck}{es:jQ}{xs:List Expr}{pos:Pos}(m:mEs ck es xs=true)(hz:xs.length<=1000)(h:PA X xs (TAv Γ (jT F es))):PE X (.List xs pos) (TFv Γ (DV.evL F (.disp es))):=by
 refine(bc7 h).imp fun σ H Q q=>?_
 obtain⟨φ,ρ,s,l,s',E,R,hm,q⟩:=q
 refine⟨φ,ρ,s,l,s',E,R,hm,fun vs φ1 H1 g1 l1 b1 r1 R1=>⟨by rw[r1.length,ao3 hm m];exact aS3 hz,fun p hp=>?_⟩⟩
 obtain⟨g2,R2⟩:=R1.same (H':=upd H1 p (.lst vs)) ((ac8.refl H1).new hp)
 refine q p vs φ1 _ (g1.trans g2 l1) l1 b1 zb ?_ (Off.new R1 hp) (RVL.mono g2 _ _ b1 r1) R2
 cases e:H p with
 | none=>rfl
 | some o=>exact absurd hp (g1.st p (by rw[e];simp))
theorem CompF.eq {X:Cx}{m m':jA->jx->jB (List jy)}{E:Expr}(c:CompF Γ X m E)(e:∀ ρ s,m' ρ s=m ρ s):CompF Γ X m' E:=by
 have:m'=m:=funext fun ρ=>funext fun s=>e ρ s
 subst this;exact c
theorem zg {a b:Bool}(h:(a&&b)=true):a=true/\b=true:=by rw[af]at h;exact h
theorem bp1 {X:Cx}{ck:Ck}{g:String}{p:Pos}(G:CG Γ F n X ck)(h:ck.gl (g:Str)=true):EvT Γ X (.Name (g:Str) p) (jD F (.glob g)):=by
 refine .val ?_
 obtain⟨g1,g2,g3⟩:=G.gl h
 cases e:F.con g with
 | none =>
  intro pins s σ H Q I q
  obtain⟨φ,ρ,s,d,s',E,R,hm,q⟩:=q
  have hm:(match F.con g with|some d=>DV.R.ok d s|none=>.bad)=.ok d s':=hm
  rw[e]at hm
  cases hm
 | some d =>
  obtain⟨v,u,h1,h2,h3,h4⟩:=G.con g d e
  exact(aj4 g1 h1 h2 g2).imp fun σ H Q q=>au8 (c:=d) h3 h4 (TEv.eq (fun ρ s=>by show(match F.con g with|some d=>DV.R.ok d s|none=>.bad)=DV.R.ok d s;rw[e]) q)
theorem bB4 {X:Cx}{ck:Ck}{i:Nat}{x:Str}{p:Pos}(G:CG Γ F n X ck)(h:ck.var i x=true):EvT Γ X (.Name x p) (jD F (.var i)):=by
 refine .val ?_
 unfold Ck.var at h
 obtain⟨h,h4⟩:=zg h
 obtain⟨h,h3⟩:=zg h
 obtain⟨h1,h2⟩:=zg h
 have e1:(x==("__debug__":Str))=false:=by simpa using h3
 have e2:(x==("__classdict__":Str))=false:=by simpa using h4
 exact(au9 (by rw[G.N];exact of_decide_eq_true h1) (G.vis h2) e1 e2).imp fun σ H Q q=>bw4 i (TEv.eq (fun ρ s=>rfl) q)
theorem bf5 {X:Cx}{ck:Ck}{i:Nat}{x:Str}{p:Pos}(G:CG Γ F n X ck)(h:ck.var i x=true):PE X (.Name x p) (aS8 i):=by
 unfold Ck.var at h
 obtain⟨h,h4⟩:=zg h
 obtain⟨h,h3⟩:=zg h
 obtain⟨h1,h2⟩:=zg h
 exact au9 (by rw[G.N];exact of_decide_eq_true h1) (G.vis h2) (by simpa using h3) (by simpa using h4)
theorem an6 {ck:Ck}:∀ {es:j6} {xs:List Expr},bt8 ck es xs=true->∀ x∈xs,shp x=true
 | .nil,[],_,x,hx=>by cases hx
 | .nil,_::_,h,_,_=>ff h
 | .ex e es,[],h,_,_=>ff h
 | .ex e es,y::ys,h,x,hx=>by
  obtain⟨h,h3⟩:=zg h
  obtain⟨h1,h2⟩:=zg h
  rcases au.mp hx with rfl|hx
  ·exact h2
  ·exact an6 h3 x hx
 | .lam _ _ es,[],h,_,_=>ff h
 | .lam _ _ es,y::ys,h,x,hx=>by
  obtain⟨h,h3⟩:=zg h
  obtain⟨h1,h2⟩:=zg h
  rcases au.mp hx with rfl|hx
  ·exact h2
  ·exact an6 h3 x hx
 | .fn _ _,_,h,_,_=>ff h
theorem aA3 {ck:Ck}:∀ {es:j6} {xs:List Expr},bt8 ck es xs=true->aV5 es=true->∃ id caps E,ck.lk id caps E=true
 | .nil,_,_,h=>by cases h
 | .ex e es,[],h,_=>ff h
 | .ex e es,y::ys,h,hl=>by
  obtain⟨h,h3⟩:=zg h
  exact aA3 h3 hl
 | .lam id caps es,[],h,_=>ff h
 | .lam id caps es,y::ys,h,_=>by
  obtain⟨h,h3⟩:=zg h
  obtain⟨h1,h2⟩:=zg h
  exact⟨id,caps,y,h1⟩
 | .fn _ _,_,h,_=>ff h
theorem aA0 {X:Cx}{E:Expr}{m:jA->jx->jB jy}(h:∀ ρ s,m ρ s=.bad):EvT Γ X E m:=by
 refine⟨fun pins s σ H Q I q=>?_,fun pins s σ H Q I q=>?_⟩
 ·obtain⟨φ,ρ,s,d,s',E,R,hm,q⟩:=q
  rw[h]at hm;exact fb hm
 ·obtain⟨φ,ρ,s,d,s',E,R,hm,q⟩:=q
  rw[h]at hm;exact fb hm
inductive LK (Γ:Gm)(X:Cx)(m:jA->jx->jB (List jy))(E:Expr)(k:Nat):Prop where
 | c (h:CompF Γ X m E):LK Γ X m E k
 | f (hk:1<=k) (h:PE X E (TFv Γ m)):LK Γ X m E k
 | s (hk:k=2) (h:PE X E (TLv Γ m)):LK Γ X m E k
theorem bE2 {X:Cx}{m:jA->jx->jB (List jy)}{E:Expr}(h:LK Γ X m E 0):CompF Γ X m E:=by
 cases h with
 | c h=>exact h
 | f hk h=>omega
 | s hk h=>omega
theorem bM8 {X:Cx}{ck:Ck}{m:jA->jx->jB (List jy)}{E:Expr}(G:CG Γ F n X ck)(h:LK Γ X m E 1):PE X E (TFv Γ m):=by
 cases h with
 | c h=>exact h.pe G.calm
 | f hk h=>exact h
 | s hk h=>omega
theorem bO1 {X:Cx}{ck:Ck}{m:jA->jx->jB (List jy)}{E:Expr}(G:CG Γ F n X ck)(h:LK Γ X m E 2):PE X E (TLv Γ m):=by
 cases h with
 | c h=>exact(h.pe G.calm).imp fun σ H Q q=>aC9 q
 | f hk h=>exact h.imp fun σ H Q q=>aC9 q
 | s hk h=>exact h
theorem biOk_inv {ck:Ck}{b:j0}{x:Str}{xs:List Expr}{es:jQ}(h:bI5 ck b x xs (mEs ck es xs) (mEs ck es (xs.take 1))=true) :
  (∃ k t a y py,biK b=some (k,t)/\xs=[a,.Name y py]/\x=("isinstance":Str)/\y=t/\ck.gl x=true/\ck.gl y=true/\mEs ck es [a]=true)\/∃ a ys,xs=a::ys/\biT b=some x/\ck.gl x=true/\mEs ck es (a::ys)=true:=by
 unfold bI5 at h
 cases hk:biK b with
 | none =>
  rw[hk]at h
  cases xs with
  | nil=>exact ff h
  | cons a ys =>
   obtain⟨h,h3⟩:=zg h
   obtain⟨h1,h2⟩:=zg h
   exact .inr ⟨a,ys,rfl,of_decide_eq_true h1,h2,h3⟩
 | some p =>
  rw[hk]at h
  cases xs with
  | nil=>exact ff h
  | cons a ys=>cases ys with
   | nil=>exact ff h
   | cons b ys=>cases b with
    | Name y py=>cases ys with
     | nil =>
      obtain⟨h,h5⟩:=zg h
      obtain⟨h,h4⟩:=zg h
      obtain⟨h,h3⟩:=zg h
      obtain⟨h1,h2⟩:=zg h
      exact .inl ⟨p.1,p.2,a,y,py,rfl,rfl,of_decide_eq_true h1,of_decide_eq_true h3,h2,h4,h5⟩
     | cons _ _=>exact ff h
    | _=>exact ff h
mutual
theorem sE:∀(e:kn) (E:Expr) (X:Cx) (ck:Ck),CG Γ F n X ck->mE ck e E=true->EvT Γ X E (jD F e)
 | .var i,E,X,ck,G,h=>by
  cases E with
  | Name x p =>
   exact bB4 G h
  | _=>exact ff h
 | .cst c,E,X,ck,G,h=>by
  cases E with
  | Constant v k p =>
   exact bb2 h
  | _=>exact ff h
 | .glob g,E,X,ck,G,h=>by
  cases E with
  | Name x p =>
   obtain⟨h1,h2⟩:=zg h
   have e:=of_decide_eq_true h1
   subst e
   exact bp1 G h2
  | _=>exact ff h
 | .bin op a b,E,X,ck,G,h=>by
  cases E with
  | BinOp l o r pE =>
   obtain⟨h,h3⟩:=zg h
   obtain⟨h1,h2⟩:=zg h
   have e:=of_decide_eq_true h1
   subst e
   exact bg7 G op (sE a _ X ck G h2) (sE b _ X ck G h3)
  | _=>exact ff h
 | .neg _,E,X,ck,G,h=>ff h
 | .not a,E,X,ck,G,h=>by
  cases E with
  | UnaryOp o l p =>
   cases o with
   | Not =>
    exact bm7 (sE a _ X ck G h)
   | _=>exact ff h
  | _=>exact ff h
 | .cmp op a b,E,X,ck,G,h=>by
  cases E with
  | Compare l os rs pE =>
   cases os with
   | cons o os_0 =>
    cases os_0 with
    | nil =>
     cases rs with
     | cons r rs_0 =>
      cases rs_0 with
      | nil =>
       obtain⟨h,h3⟩:=zg h
       obtain⟨h1,h2⟩:=zg h
       have e:=of_decide_eq_true h1
       subst e
       exact bs8 G op (aC8 h3) (sE a _ X ck G h2) (sE b _ X ck G h3)
      | _=>exact ff h
     | _=>exact ff h
    | _=>exact ff h
   | _=>exact ff h
  | _=>exact ff h
 | .chain _ _ _ _ _,E,X,ck,G,h=>ff h
 | .isN _,E,X,ck,G,h=>ff h
 | .notN _,E,X,ck,G,h=>ff h
 | .isB _ _,E,X,ck,G,h=>ff h
 | .notB a b,E,X,ck,G,h=>by
  cases E with
  | Compare l os rs pE =>
   cases os with
   | cons o os1 =>
    cases o with
    | IsNot =>
     cases os1 with
     | nil =>
      cases rs with
      | cons r rs1 =>
       cases r with
       | Constant v k p1 =>
        cases rs1 with
        | nil =>
         obtain⟨h1,h2⟩:=zg h
         exact aW3 rfl (sE a _ X ck G h2) (bb2 h1)
        | _=>exact ff h
       | _=>exact ff h
      | _=>exact ff h
     | _=>exact ff h
    | _=>exact ff h
   | _=>exact ff h
  | _=>exact ff h
 | .and a b,E,X,ck,G,h=>by
  cases E with
  | BoolOp op vs p=>cases op with
   | And =>
    cases vs with
    | nil=>exact ff h
    | cons l vs=>cases vs with
     | nil=>exact ff h
     | cons r vs=>cases vs with
      | nil =>
       obtain⟨h1,h2⟩:=zg h
       exact bk4 (sE a _ X ck G h1) (sE b _ X ck G h2)
      | cons r2 vs =>
       obtain⟨h1,h2⟩:=zg h
       exact bs1 (sE a _ X ck G h1) (sE b _ X ck G h2)
   | _=>exact ff h
  | _=>exact ff h
 | .or a b,E,X,ck,G,h=>by
  cases E with
  | BoolOp op vs p=>cases op with
   | Or =>
    cases vs with
    | nil=>exact ff h
    | cons l vs=>cases vs with
     | nil=>exact ff h
     | cons r vs=>cases vs with
      | nil =>
       obtain⟨h1,h2⟩:=zg h
       exact bF2 (sE a _ X ck G h1) (sE b _ X ck G h2)
      | cons r2 vs =>
       obtain⟨h1,h2⟩:=zg h
       exact bG8 (sE a _ X ck G h1) (sE b _ X ck G h2)
   | _=>exact ff h
  | _=>exact ff h
 | .ite c a b,E,X,ck,G,h=>by
  cases E with
  | IfExp tE l r pE =>
   obtain⟨h,h3⟩:=zg h
   obtain⟨h1,h2⟩:=zg h
   exact bs7 (sE c _ X ck G h1) (sE a _ X ck G h2) (sE b _ X ck G h3)
  | _=>exact ff h
 | .tup es,E,X,ck,G,h=>by
  cases E with
  | Tuple xs k p =>
   obtain⟨h1,h2⟩:=zg h
   exact bs9 h1 (of_decide_eq_true h2) (ak6 (sEs es _ X ck G h1))
  | _=>exact ff h
 | .lst es,E,X,ck,G,h=>by
  cases E with
  | List xs p =>
   obtain⟨h1,h2⟩:=zg h
   exact bm8 h1 (of_decide_eq_true h2) (ak6 (sEs es _ X ck G h1))
  | _=>exact ff h
 | .dic .nil .nil,E,X,ck,G,h=>by
  cases E with
  | Dict a b p=>cases a with
   | nil=>cases b with
    | nil=>exact .val (ba3.imp fun σ H Q q=>by9 (TEv.eq (fun ρ s=>rfl) q))
    | _=>exact ff h
   | cons x a=>cases x with
    | none=>exact ff h
    | some x=>cases a with
     | nil=>cases b with
      | nil=>exact ff h
      | cons y b=>cases b with
       | nil=>exact ff h
       | _=>exact ff h
     | _=>exact ff h
  | _=>exact ff h
 | .dic (.cons k .nil) (.cons v .nil),E,X,ck,G,h=>by
  cases E with
  | Dict a b p=>cases a with
   | nil=>cases b with
    | nil=>exact ff h
    | _=>exact ff h
   | cons x a=>cases x with
    | none=>exact ff h
    | some x=>cases a with
     | nil=>cases b with
      | nil=>exact ff h
      | cons y b=>cases b with
       | nil =>
        obtain⟨h1,h2⟩:=zg h
        obtain⟨h1,_⟩:=zg h1
        obtain⟨h1,_⟩:=zg h1
        obtain⟨h2,_⟩:=zg h2
        obtain⟨h2,_⟩:=zg h2
        exact .val ((bo5 (aX4 (sE k _ X ck G h1).1 (sE v _ X ck G h2).1 bn4) rfl rfl (by nofun) (by show 1<=15;decide)).imp fun σ H Q q=>bx6 (TEv.eq (fun ρ s=>rfl) q))
       | _=>exact ff h
     | _=>exact ff h
  | _=>exact ff h
 | .dic .nil (.cons _ _),E,X,ck,G,h=>aA0 fun _ _=>rfl
 | .dic (.cons _ .nil) .nil,E,X,ck,G,h=>aA0 fun _ _=>rfl
 | .dic (.cons _ .nil) (.cons _ (.cons _ _)),E,X,ck,G,h=>aA0 fun _ _=>rfl
 | .dic (.cons _ (.cons _ _)) _,E,X,ck,G,h=>aA0 fun _ _=>rfl
 | .bitl _,E,X,ck,G,h=>ff h
 | .lrng _,E,X,ck,G,h=>ff h
 | .dicT,E,X,ck,G,h=>ff h
 | .get2 _ _ _,E,X,ck,G,h=>ff h
 | .ix a b,E,X,ck,G,h=>by
  cases E with
  | Subscript o i p =>
   obtain⟨h1,h2⟩:=zg h
   exact by0 G (aC8 h2) (sE a _ X ck G h1) (sE b _ X ck G h2)
  | _=>exact ff h
 | .slL _ _,E,X,ck,G,h=>ff h
 | .slU _ _,E,X,ck,G,h=>ff h
 | .slLU _ _ _,E,X,ck,G,h=>ff h
 | .rev _,E,X,ck,G,h=>ff h
 | .call f as,E,X,ck,G,h=>by
  cases E with
  | Call fE xs kw p =>
   cases fE with
   | Name x pN =>
    cases kw with
    | nil =>
     obtain⟨h,h3⟩:=zg h
     obtain⟨h1,h2⟩:=zg h
     have e:=of_decide_eq_true h1
     subst e
     exact aU6 G h2 h3 (sAs as _ X ck G h3)
    | _=>exact ff h
   | _=>exact ff h
  | _=>exact ff h
 | .callC f as,E,X,ck,G,h=>by
  cases E with
  | Call fE xs kw p =>
   cases fE with
   | Name x pN =>
    cases xs with
    | cons y ys =>
     cases kw with
     | nil =>
      obtain⟨h,h3⟩:=zg h
      obtain⟨h,h4⟩:=zg h
      obtain⟨h1,h2⟩:=zg h
      have e:=of_decide_eq_true h1
      subst e
      obtain⟨id,caps,E',hlk⟩:=aA3 h3 h4
      obtain⟨_,_,_,_,_,_,_,_,L⟩:=G.lam id caps E' hlk
      exact .val ((aK5 G h2 L.fn L.kd (an6 h3) (bJ6 as _ X ck G h3)).imp fun σ H Q q=>TEv.eq (fun ρ s=>rfl) q)
     | _=>exact ff h
    | _=>exact ff h
   | _=>exact ff h
  | _=>exact ff h
 | .callV i es,E,X,ck,G,h=>by
  cases E with
  | Call fE xs kw p =>
   cases fE with
   | Name x pN =>
    cases xs with
    | cons y ys =>
     cases kw with
     | nil =>
      obtain⟨h1,h2⟩:=zg h
      exact .val (aM7 G h1 (an5 h2) (ak6 (sEs es _ X ck G h2)) (bf5 G h1))
     | _=>exact ff h
    | _=>exact ff h
   | _=>exact ff h
  | _=>exact ff h
 | .bi b es,E,X,ck,G,h=>by
  cases E with
  | Call fE xs kw p =>
   cases fE with
   | Name x pN =>
    cases kw with
    | nil =>
     have h:bI5 ck b x xs (mEs ck es xs) (mEs ck es (xs.take 1))=true:=h
     rcases biOk_inv h with⟨k,t,a,y,py,hk,rfl,rfl,rfl,h2,h4,h5⟩|⟨a,ys,rfl,h1,h2,h3⟩
     ·exact bi5 G hk h2 h4 (sEs es _ X ck G h5)
     ·exact bz8 G h1 h2 h3 (ak6 (sEs es _ X ck G h3))
    | _=>exact ff h
   | _=>exact ff h
  | _=>exact ff h
 | .mk k l,E,X,ck,G,h=>by
  cases E with
  | ListComp e gs sc p =>
   obtain⟨h1,h2⟩:=zg h
   have e:=of_decide_eq_true h1
   subst e
   exact .val (((bE2 (sL l _ X ck G 0 h2)).pe G.calm).imp fun σ H Q q=>aO3 (TEv.eq (fun ρ s=>rfl) q))
  | Call fE xs kw p =>
   cases fE with
   | Name x pN =>
    cases xs with
    | cons a xs_0 =>
     cases xs_0 with
     | nil =>
      cases kw with
      | nil =>
       obtain⟨h,h4⟩:=zg h
       obtain⟨h2,h3⟩:=zg h
       rw[bK]at h4
       rcases h4 with h4|h4
       ·obtain⟨h5,h6⟩:=zg h4
        exact .val ((bG3 G (of_decide_eq_true h5) h2 h3 (bO1 G (sL l _ X ck G 2 h6))).imp fun σ H Q q=>TEv.eq (fun ρ s=>rfl) q)
       ·obtain⟨h5,h6⟩:=zg h4
        exact .val ((bG7 G (of_decide_eq_true h5) h2 h3 (bM8 G (sL l _ X ck G 1 h6))).imp fun σ H Q q=>TEv.eq (fun ρ s=>rfl) q)
      | _=>exact ff h
     | _=>exact ff h
    | _=>exact ff h
   | _=>exact ff h
  | _=>exact ff h
 | .mks _ _,E,X,ck,G,h=>ff h
 | .mkDs _ _ _,E,X,ck,G,h=>ff h
 | .mkD _ _ _,E,X,ck,G,h=>ff h
 | .meth m o es,E,X,ck,G,h=>by
  cases E with
  | Call fE xs kw p =>
   cases fE with
   | Attribute ob x ap =>
    cases kw with
    | nil =>
     obtain⟨h,h5⟩:=zg h
     obtain⟨h,h4⟩:=zg h
     obtain⟨h,h3⟩:=zg h
     obtain⟨h1,h2⟩:=zg h
     exact aT7 G (of_decide_eq_true h1) h2 h3 (sE o _ X ck G h4).1 h5 (sEs es _ X ck G h5)
    | _=>exact ff h
   | _=>exact ff h
  | _=>exact ff h
 | .ext _ _,E,X,ck,G,h=>ff h
 | .extS _ _,E,X,ck,G,h=>ff h
 | .join _ _,E,X,ck,G,h=>ff h
theorem sEs:∀(es:jQ) (xs:List Expr) (X:Cx) (ck:Ck),CG Γ F n X ck->mEs ck es xs=true->PEs Γ F X es xs
 | .nil,xs,X,ck,G,h=>by
  cases xs with
  | nil =>
   exact trivial
  | _=>exact ff h
 | .cons e es,xs,X,ck,G,h=>by
  cases xs with
  | cons x xs =>
   obtain⟨h,h3⟩:=zg h
   obtain⟨h1,h2⟩:=zg h
   exact⟨⟨h2,sE e _ X ck G h1⟩,sEs es _ X ck G h3⟩
  | _=>exact ff h
theorem sAs:∀(es:j6) (xs:List Expr) (X:Cx) (ck:Ck),CG Γ F n X ck->mAs ck es xs=true->PA X xs (TAv Γ (jZ F es))
 | .nil,xs,X,ck,G,h=>by
  cases xs with
  | nil =>
   exact ac7.imp fun σ H Q q=>aB3 (TAv.eq (fun ρ s=>rfl) q)
  | _=>exact ff h
 | .ex e es,xs,X,ck,G,h=>by
  cases xs with
  | cons x xs =>
   obtain⟨h,h3⟩:=zg h
   obtain⟨h1,h2⟩:=zg h
   exact(aD2 h2 (sE e _ X ck G h1).1 (sAs es _ X ck G h3)).imp fun σ H Q q=>TAv.eq (fun ρ s=>rfl) q
  | _=>exact ff h
 | .lam _ _ _,xs,X,ck,G,h=>ff h
 | .fn _ _,xs,X,ck,G,h=>ff h
theorem bJ6:∀(es:j6) (xs:List Expr) (X:Cx) (ck:Ck),CG Γ F n X ck->bt8 ck es xs=true->PA X xs (TAp Γ X.env.cells X.N (jZ F es))
 | .nil,xs,X,ck,G,h=>by
  cases xs with
  | nil =>
   exact ac7.imp fun σ H Q q=>bm4 (TAp.eq (fun ρ s=>rfl) q)
  | _=>exact ff h
 | .ex e es,xs,X,ck,G,h=>by
  cases xs with
  | cons x xs =>
   obtain⟨h,h3⟩:=zg h
   obtain⟨h1,h2⟩:=zg h
   exact(zF (sE e _ X ck G h1).1 (bJ6 es _ X ck G h3) (ze h2)).imp fun σ H Q q=>bB0 (TAp.eq (fun ρ s=>rfl) q)
  | _=>exact ff h
 | .lam id caps es,xs,X,ck,G,h=>by
  cases xs with
  | cons x xs =>
   obtain⟨h,h3⟩:=zg h
   obtain⟨h1,h2⟩:=zg h
   obtain⟨c,P,params,body,scope,pos,J,e,L⟩:=G.lam id caps _ h1
   have hnm:J.nm=none:=by
    cases q:J.nm with
    | none=>rfl
    | some p=>unfold lamText at e;rw[q]at e;rw[e]at h2;cases h2
   unfold lamText at e
   rw[hnm]at e
   dsimp only at e
   subst e
   rw[<-G.N]at L
   exact(bF1 L hnm (bJ6 es _ X ck G h3)).imp fun σ H Q q=>TAp.eq (fun ρ s=>rfl) q
  | _=>exact ff h
 | .fn _ _,xs,X,ck,G,h=>ff h
theorem sI:∀(i:DV.I) (E tg:Expr) (X:Cx) (ck:Ck),CG Γ F n X ck->mI ck tg i E=true->PI X tg E (TIv Γ (kS F i))
 | .seq e,E,tg,X,ck,G,h=>by
  obtain⟨h1,h2⟩:=zg h
  exact bh2 G (sE e _ X ck G h1).1
 | .rng1 a,E,tg,X,ck,G,h=>by
  cases E with
  | Call fE xs kw p =>
   cases fE with
   | Name x pN =>
    cases xs with
    | cons l xs_0 =>
     cases xs_0 with
     | nil =>
      cases kw with
      | nil =>
       obtain⟨h,h4⟩:=zg h
       obtain⟨h,h3⟩:=zg h
       obtain⟨h1,h2⟩:=zg h
       have e:=of_decide_eq_true h1
       subst e
       exact ba8 G h2 h4 (sE a _ X ck G h3).1
      | _=>exact ff h
     | _=>exact ff h
    | _=>exact ff h
   | _=>exact ff h
  | _=>exact ff h
 | .rng2 _ _,E,tg,X,ck,G,h=>ff h
 | .rng3 _ _ _,E,tg,X,ck,G,h=>ff h
 | .enum (.seq _),E,tg,X,ck,G,h=>ff h
 | .enum (.rng1 _),E,tg,X,ck,G,h=>ff h
 | .enum (.rng2 _ _),E,tg,X,ck,G,h=>ff h
 | .enum (.rng3 _ _ _),E,tg,X,ck,G,h=>ff h
 | .enum (.enum _),E,tg,X,ck,G,h=>ff h
 | .enum (.zip _ _),E,tg,X,ck,G,h=>ff h
 | .enum (.items _),E,tg,X,ck,G,h=>ff h
 | .zip (.seq _) (.seq _),E,tg,X,ck,G,h=>ff h
 | .zip (.seq _) (.rng1 _),E,tg,X,ck,G,h=>ff h
 | .zip (.seq _) (.rng2 _ _),E,tg,X,ck,G,h=>ff h
 | .zip (.seq _) (.rng3 _ _ _),E,tg,X,ck,G,h=>ff h
 | .zip (.seq _) (.enum _),E,tg,X,ck,G,h=>ff h
 | .zip (.seq _) (.zip _ _),E,tg,X,ck,G,h=>ff h
 | .zip (.seq _) (.items _),E,tg,X,ck,G,h=>ff h
 | .zip (.rng1 _) _,E,tg,X,ck,G,h=>ff h
 | .zip (.rng2 _ _) _,E,tg,X,ck,G,h=>ff h
 | .zip (.rng3 _ _ _) _,E,tg,X,ck,G,h=>ff h
 | .zip (.enum _) _,E,tg,X,ck,G,h=>ff h
 | .zip (.zip _ _) _,E,tg,X,ck,G,h=>ff h
 | .zip (.items _) _,E,tg,X,ck,G,h=>ff h
 | .items _,E,tg,X,ck,G,h=>ff h
theorem sL:∀(l:DV.L) (E:Expr) (X:Cx) (ck:Ck),CG Γ F n X ck->∀ k,mL ck k l E=true->LK Γ X (DV.evL F l) E k
 | .comp tg it e caps,E,X,ck,G,k,h=>by
  cases E with
  | ListComp elt gs scope p =>
   cases gs with
   | cons g gs1 =>
    cases g with
    | mk tgt iter ifs z =>
     cases ifs with
     | nil =>
      cases gs1 with
      | nil =>
       obtain⟨h,h3⟩:=zg h
       obtain⟨h,h2⟩:=zg h
       obtain⟨h0,h1⟩:=zg h
       have e0:=of_decide_eq_true h0
       subst e0
       have c:=aX9 (pos:=p) G h1 (sI it _ _ X ck G h2) fun C cells s H ex=>(sE e _ _ _ ((G.comp h1).2.2 C cells s H ex).1 h3).1
       exact .c (c.eq fun ρ s=>rfl)
      | _=>exact ff h
     | _=>exact ff h
   | _=>exact ff h
  | _=>exact ff h
 | .compIf tg it i e caps,E,X,ck,G,k,h=>by
  cases E with
  | ListComp elt gs scope p =>
   cases gs with
   | cons g gs1 =>
    cases g with
    | mk tgt iter ifs z =>
     cases ifs with
     | cons i1 ifs1 =>
      cases ifs1 with
      | nil =>
       cases gs1 with
       | nil =>
        obtain⟨h,h4⟩:=zg h
        obtain⟨h,h3⟩:=zg h
        obtain⟨h,h2⟩:=zg h
        obtain⟨h0,h1⟩:=zg h
        have e0:=of_decide_eq_true h0
        subst e0
        have c:=bg5 (pos:=p) G h1 (sI it _ _ X ck G h2) (fun C cells s H ex=>(sE i _ _ _ ((G.comp h1).2.2 C cells s H ex).1 h3).2) fun C cells s H ex=>(sE e _ _ _ ((G.comp h1).2.2 C cells s H ex).1 h4).1
        exact .c (c.eq fun ρ s=>rfl)
       | _=>exact ff h
      | _=>exact ff h
     | _=>exact ff h
   | _=>exact ff h
  | _=>exact ff h
 | .disp es,E,X,ck,G,k,h=>by
  cases E with
  | List xs p =>
   obtain⟨h,h2⟩:=zg h
   obtain⟨h0,h1⟩:=zg h
   exact .f (of_decide_eq_true h0) (bq8 h1 (of_decide_eq_true h2) (ak6 (sEs es _ X ck G h1)))
  | _=>exact ff h
 | .seq e,E,X,ck,G,k,h=>by
  obtain⟨h0,h1⟩:=zg h
  exact .s (of_decide_eq_true h0) ((sE e _ X ck G h1).1.imp fun σ H Q q=>bD8 (TLv.eq (fun ρ s=>rfl) q))
 | .itm _,E,X,ck,G,k,h=>ff h
end
end
section
variable {Γ:Gm} {F:jL} {n:Nat}
theorem aZ1 {X:Cx}{ck:Ck}{m:jA->jx->jB (List jy)}{E:Expr}{x:Str}{i:Nat}{px pos:Pos}(G:CG Γ F n X ck)(c:CompF Γ X m E)(hi:ck.N[i]?=some x)(hl:ck.loc x=true) :
  PS X (.Assign [.Name x px] E pos) (aU5 (TFv Γ m) (av0 i)):=by
 obtain⟨elt,tgt,iter,ifs,scope,p2,N',caps,wi,g,tc,te,rfl,h1,h2,h3,h4,h5⟩:=c.ex
 obtain⟨l1,l2⟩:=G.loc hl
 have nd:X.N.Nodup:=by rw[G.N];exact G.nd
 have hi':X.N[i]?=some x:=by rw[G.N];exact hi
 generalize hb:((X.env.blockKind==.function&&X.env.kindOf x==some .local&&px.line==(Expr.ListComp elt [⟨tgt,iter,ifs,0⟩] scope p2).pos.line&&!(scope.names.any fun(n,k)=>n==x&&(k==.local||k==.cell))))=b
 have hsw:dX (.ListComp elt [⟨tgt,iter,ifs,0⟩] scope p2) (some (.Name x px)) pos.line X.env=pure b:=by rw[<-hb];rfl
 have imp:∀ D σ H,aU5 (TFv Γ m) (av0 i) D σ H->aU5 (tComp caps wi g tc te) (av0 i) D σ H:=fun D σ H q=>h5 _ _ _ q
 cases b with
 | true =>
  have hloc:X.env.scope.names.lookup x=some .local:=by
   simp only[af]at hb
   exact eq_of_beq hb.1.1.2
  exact(aF1 N' caps nd hi' hloc h1 h2 G.calm h3 h4 hsw).imp imp
 | false=>exact(bd9 nd hi' l1 (aJ4 N' caps h1 h2 G.calm h3 h4) hsw l2).imp imp
theorem bq9 {X:Cx}{ck:Ck}{e:kn}{v:Expr}{x:Str}{i:Nat}{px pos:Pos}(G:CG Γ F n X ck)(hi:ck.N[i]?=some x)(hl:ck.loc x=true)(h:mE ck e v=true) :
  PS X (.Assign [.Name x px] v pos) (TSv Γ (DV.ex F (.asg (.one i) e))):=by
 obtain⟨l1,l2⟩:=G.loc hl
 have nd:X.N.Nodup:=by rw[G.N];exact G.nd
 have hi':X.N[i]?=some x:=by rw[G.N];exact hi
 by_cases hc:at2 v=true
 ·exact(bd9 nd hi' l1 (sE e v X ck G h).1 (al1 hc) l2).imp fun D σ H q=>aP1 (tg:=.one i) (TSv.eq (fun ρ s=>rfl) q)
 ·have hs:=aC8 h
  cases v with
  | ListComp elt gs sc p =>
   cases e with
   | mk k l =>
    obtain⟨h1,h2⟩:=zg h
    have e:=of_decide_eq_true h1
    subst e
    exact(aZ1 G (bE2 (sL l _ X ck G 0 h2)) hi hl).imp fun D σ H q=>aX7 (tg:=.one i) (TSv.eq (fun ρ s=>rfl) q)
   | _=>exact ff h
  | SetComp _ _ _ _=>cases hs
  | DictComp _ _ _ _ _=>cases hs
  | _=>exact absurd rfl hc
theorem aZ6 {T:List (Addr×Str)}{cells:List (Str×Addr)}{P:Addr}{q:Str}{name:Str}{params:a9}{body:List Stmt}{scope:Scope}{pos:Pos}{ix:Nat}{D0:Ends}{σ:St}{H:Hp}(hT:TabsH T H)(nd:(T.map (·.1)).Nodup)(hm:(P,q)∈T)
  (go:∀(f:Addr) (H':Hp),aP5 H H'->(∀ b,H b≠none->H' b≠none)->TabsH T H'->H f=none->(∃ doc pm c' ctv,H' f=some (ap9 f (bS name q params body scope (ac6 cells scope.names []) .none .none doc pm none (.ref c') ctv))/\H' c'=some (qf c' q))->D0.nx (σ.set ix (some (.ref f))) H') :
  bR2 cells P name q params body scope pos ix D0 σ H:=by
 obtain⟨ps,hP,ht,hc⟩:=hT _ hm
 refine⟨ps,hP,ht,fun hn c' f doc pm ctv n1 n2 ne=>?_,fun cv e=>?_⟩
 ·have cP:c'≠P:=fun z=>by rw[z,hP]at n1;cases n1
  have fP:f≠P:=fun z=>by rw[z,hP]at n2;cases n2
  have at':∀ b,b≠P->H b≠none->∀ o1 o2 o3,upd (upd (upd H P o1) c' o2) f o3 b=H b:=fun b z1 z2 o1 o2 o3=>by
   rw[za fun z=>by subst z;exact z2 n2,za fun z=>by subst z;exact z2 n1,za z1]
  refine go f _ (fun b o d e=>?_) (fun b hb=>?_) (fun y hy=>?_) n2 ⟨doc,pm,c',ctv,zb,by rw[za ne,zb]⟩
  ·rw[at' b (fun z=>by subst z;rw[hP]at e;cases e;exact d _ rfl) (by rw[e];simp)];exact e
  ·by_cases z:b=P
   ·subst z;rw[za (bL fP),za (bL cP),zb];simp
   ·rw[at' b z hb];exact hb
  ·by_cases z:y.1=P
   ·have ey:y=(P,q):=by
     have:∀(l:List (Addr×Str)),(l.map (·.1)).Nodup->y∈l->(P,q)∈l->y=(P,q):=by
      intro l
      induction l with
      | nil=>intro _ h;simp at h
      | cons a l ih =>
       intro hn h1 h2
       rw[aJ,cw]at hn
       rcases au.mp h1 with e1|h1<;>rcases au.mp h2 with e2|h2
       ·rw[e1,e2]
       ·exact absurd (by rw[<-e1,z];exact bn (f:=(·.1)) h2) hn.1
       ·exact absurd (by rw[<-e2,<-z];exact bn (f:=(·.1)) h1) hn.1
       ·exact ih hn.2 h1 h2
     exact this T nd hy hm
    subst ey
    refine⟨_,by rw[za (bL fP),za (bL cP),zb],?_,fun pos2 cv e=>?_⟩
    ·rw[cM];exact TriplesOk_snoc _ _ _ _ ht
    ·rw[cM]at e
     rcases codeAmong_add _ ht e with e'|e'
     ·obtain⟨c2,e1,e2⟩:=hc pos2 cv e'
      exact⟨c2,e1,by rw[at' c2 (fun z=>by subst z;rw[hP]at e2;unfold qf at e2;cases e2) (by rw[e2];simp)];exact e2⟩
     ·exact⟨c',e',by rw[za ne,zb]⟩
   ·obtain⟨qs,e1,e2,e3⟩:=hT y hy
    refine⟨qs,by rw[at' y.1 z (by rw[e1];simp)];exact e1,e2,fun pos2 cv e=>?_⟩
    obtain⟨c2,e4,e5⟩:=e3 pos2 cv e
    exact⟨c2,e4,by rw[at' c2 (fun z=>by subst z;rw[hP]at e5;unfold qf at e5;cases e5) (by rw[e5];simp)];exact e5⟩
 ·obtain⟨c',e1,e2⟩:=hc pos cv e
  refine⟨c',e1,fun f doc pm ctv n=>go f _ (.of ((ac8.refl H).new n)) (fun b hb=>by
   by_cases z:b=f
   ·subst z;rw[zb];simp
   ·rw[za z];exact hb) (hT.new n) n ⟨doc,pm,c',ctv,zb,?_⟩⟩
  rw[za (zu e2 n)];exact e2
theorem aM0 (env : Env) : ∀ l : List Arg, (l.all fun y => y.annotation.isNone) = true -> gH l env = []
 | [], _ => by unfold gH; rfl
 | ⟨x,some a,p⟩::l,h=>by simp at h
 | ⟨x,none,p⟩::l,h=>by
  unfold gH
  exact aM0 env l (by simpa using h)
theorem aY6 {params:a9}(h:bp8 params=true)(env:Env):params.defaults=[]/\params.kw_defaults=[]/\annTrees params none env=[]:=by
 unfold bp8 at h
 split at h
 ·refine⟨rfl,rfl,?_⟩
  unfold annTrees
  simp only[Option.toList,bj]
  rw[aM0 env _ h];rfl
 ·cases h
theorem aw5 {α:Type}{o:Option α}{f:α->Bool}(h:o.any f=true):∃ a,o=some a/\f a=true:=by
 cases o with
 | none=>exact ff h
 | some a=>exact⟨a,rfl,h⟩
theorem aZ8 {s:kQ}{ss:kC}{d:Nat×String×kn×String×List Nat}(h:bM0 s ss=some d):s=.und d.1/\ss=.cons (.ret (.callC d.2.1 (.ex d.2.2.1 (.lam d.2.2.2.1 d.2.2.2.2 .nil)))) .nil:=by
 unfold bM0 at h
 split at h
 ·cases h;exact⟨rfl,rfl⟩
 ·cases h
theorem aX0 {S:List Stmt}{q:Str×a9×Expr×Pos×Scope×Pos×List Stmt}(h:bQ3 S=some q):S=.FunctionDef q.1 q.2.1 [.Return (some q.2.2.1) q.2.2.2.1] [] none [] q.2.2.2.2.1 none q.1 q.2.2.2.2.2.1::q.2.2.2.2.2.2:=by
 have fo:∀ {p:Prop},(none:Option (Str×a9×Expr×Pos×Scope×Pos×List Stmt))=some q->p:=fun h=>nomatch h
 cases S with
 | cons x xs =>
  cases x with
  | FunctionDef nm params body dl ret tp scope ts nm2 pos =>
   cases body with
   | cons b1 bs =>
    cases b1 with
    | Return v rp =>
     cases v with
     | some b =>
      cases bs with
      | nil =>
       cases dl with
       | nil =>
        cases ret with
        | none =>
         cases tp with
         | nil =>
          cases ts with
          | none =>
           have h:(if nm2=nm then some (nm,params,b,rp,scope,pos,xs)else none)=some q:=h
           by_cases e:nm2=nm
           ·rw[if_pos e]at h;cases h;rw[e]
           ·rw[if_neg e]at h;exact fo h
          | _=>exact fo h
         | _=>exact fo h
        | _=>exact fo h
       | _=>exact fo h
      | _=>exact fo h
     | _=>exact fo h
    | _=>exact fo h
   | _=>exact fo h
  | _=>exact fo h
 | _=>exact fo h
theorem aY8 {nm:Str}{S:List Stmt}{r:Str×Pos×Expr×Pos×Pos×Pos}(h:bQ6 nm S=some r):S=[.Return (some (.Call (.Name r.1 r.2.1) [r.2.2.1,.Name nm r.2.2.2.1] [] r.2.2.2.2.1)) r.2.2.2.2.2]:=by
 have fo:∀ {p:Prop},(none:Option (Str×Pos×Expr×Pos×Pos×Pos))=some r->p:=fun h=>nomatch h
 cases S with
 | cons x xs =>
  cases x with
  | Return v rp2 =>
   cases v with
   | some e =>
    cases e with
    | Call f as kw cp =>
     cases f with
     | Name g gp =>
      cases as with
      | cons a as1 =>
       cases as1 with
       | cons y as2 =>
        cases y with
        | Name x p2 =>
         cases as2 with
         | nil =>
          cases kw with
          | nil =>
           cases xs with
           | nil =>
            have h:(if x=nm then some (g,gp,a,p2,cp,rp2)else none)=some r:=h
            by_cases e:x=nm
            ·rw[if_pos e]at h;cases h;rw[e]
            ·rw[if_neg e]at h;exact fo h
           | _=>exact fo h
          | _=>exact fo h
         | _=>exact fo h
        | _=>exact fo h
       | _=>exact fo h
      | _=>exact fo h
     | _=>exact fo h
    | _=>exact fo h
   | _=>exact fo h
  | _=>exact fo h
 | _=>exact fo h
theorem bG2 {X:Cx}{ck:Ck}{s:kQ}{ss:kC}{S:List Stmt}(G:CG Γ F n X ck)(hM:bF3 ck s ss S=true):PSs X S (TSv Γ (kT F (.cons s ss))):=by
 obtain⟨⟨i,g,e,id,caps⟩,e1,hA⟩:=aw5 hM
 clear hM
 obtain⟨⟨nm',params,b,rp,scope,pos,xs⟩,e2,hB⟩:=aw5 hA
 clear hA
 obtain⟨⟨g',gp,a,p2,cp,rp2⟩,e3,h⟩:=aw5 hB
 clear hB
 obtain⟨rfl,rfl⟩:=aZ8 e1
 have e3:=aY8 e3
 have e2:=aX0 e2
 dsimp only at e2 e3 h ⊢
 subst e3
 subst e2
 clear e1
 obtain⟨h,h11⟩:=zg h
 obtain⟨h,h10⟩:=zg h
 obtain⟨h,h9⟩:=zg h
 obtain⟨h,h8⟩:=zg h
 obtain⟨h,h7⟩:=zg h
 obtain⟨h,h6⟩:=zg h
 obtain⟨h,h5⟩:=zg h
 obtain⟨h0,h2⟩:=zg h
 have h7:=of_decide_eq_true h7
 subst h7
 have h1:=of_decide_eq_true h0
 clear h0
 obtain⟨c,P,params',body',scope',pos',J,eE,L⟩:=G.lam id caps _ h6
 obtain⟨pn,hnm⟩:∃ pn,J.nm=some pn:=by
  cases q:J.nm with
  | none=>unfold lamText at eE;rw[q]at eE;cases eE
  | some p=>exact⟨p,rfl⟩
 obtain⟨pa,pb⟩:=pn
 unfold lamText at eE
 rw[hnm]at eE
 dsimp only at eE
 cases eE
 rw[<-G.N]at L h1
 obtain⟨l1,l2⟩:=G.loc h2
 obtain⟨a1,a2,a3⟩:=aY6 h11 X.env
 have hkd:X.env.kindOf nm'=some .local\/X.env.kindOf nm'=some .cell:=l1
 have hq:iW X.env nm' nm'=J.qual:=by
  rw[L.q]
  unfold LamI.own iW
  rw[hnm]
  rcases hkd with z|z<;>rw[z]<;>rfl
 have p1:=bF8 (X:=X) (c:=c) (P:=P) (body:=[.Return (some b) rp]) (scope:=scope) (pos:=pos) (by rw[G.N];exact G.nd) h1 l1 L.code L.hd L.bm L.ck hq a1 a2 a3 l2
 have p2':PE X (.Name nm' p2) (aS8 i):=bf5 G h5
 obtain⟨g1,g2,g3⟩:=G.gl h8
 rcases G.call g with hb|⟨fa,fd,ps,hF,hmg,hk,hB⟩
 ·intro pins sh σ H D I q
  obtain⟨φ,ρ,s,c,s',E,R,hm,q⟩:=q
  obtain⟨c1,s1,e1,hm⟩:=aa0 hm
  have e1:(match kU ρ i with|some ρ=>DV.R.ok (DV.Ct.next ρ) s|none=>.bad)=.ok c1 s1:=e1
  split at e1
  case h_2=>cases e1
  cases e1
  obtain⟨c1,s1,e1,hm⟩:=aa0 hm
  obtain⟨d1,s2,e1,hm2⟩:=aa0 e1
  obtain⟨l,s3,e1,hm2⟩:=aa0 e1
  obtain⟨d,s4,e4,hm2⟩:=aa0 hm2
  rw[hb]at e4;cases e4
 have hE:=(sE e _ X ck G h9).1
 have hA:PA X [a,.Name nm' p2] (ap6 (TEv Γ (jD F e)) (ap6 (aS8 i) aU0)):=zF hE (zF p2' ac7 (ze rfl)) (ze h10)
 have p3:=aB5 (p:=gp) (pos:=cp) hF G.room g1 hmg hk hB L.fn hA g2 (ze h10) (zB (es:=[.Name nm' p2]) fun z hz=>by rw[bW.mp hz];rfl).1
 refine(zO p1 (zO (am3 p3) aj7)).imp fun D σ H q=>?_
 obtain⟨φ,ρ,s,c0,s',E,R,hm,q⟩:=q
 obtain⟨c1,s1,e1,hm⟩:=aa0 hm
 have e1:(match kU ρ i with|some ρ=>DV.R.ok (DV.Ct.next ρ) s|none=>.bad)=.ok c1 s1:=e1
 unfold kU at e1
 by_cases hil:i < ρ.length
 case neg=>rw[if_neg hil]at e1;cases e1
 rw[if_pos hil]at e1
 cases e1
 obtain⟨c1,s1,e1,hm⟩:=aa0 hm
 obtain⟨d1,s2,e1,hm2⟩:=aa0 e1
 cases hm2
 cases hm
 obtain⟨l,s3,e1,hm2⟩:=aa0 e1
 obtain⟨d2,s4,e4,hm2⟩:=aa0 hm2
 split at hm2
 case isFalse=>exact fb hm2
 rename_i hn
 cases hm2
 rw[af]at hn
 obtain⟨x1,s5,e5,e1⟩:=aa0 e1
 obtain⟨y1,s6,e6,e1⟩:=aa0 e1
 cases e1
 have e6:(match jU (ρ.set i none) caps with|some cs=>(jZ F .nil (ρ.set i none) s5).bind fun l s=>DV.R.ok (DV.D.clo id cs::l) s|none=>DV.R.bad)=.ok y1 s3:=e6
 cases eg:jU (ρ.set i none) caps with
 | none=>rw[eg]at e6;cases e6
 | some cs =>
  rw[eg]at e6
  cases e6
  refine aZ6 R.tab L.nd L.tab fun f H' eS st tb hf ho=>?_
  obtain⟨g1',R1⟩:=R.sameT eS st tb
  have E1:RE Γ φ H' s.length (ρ.set i none) (σ.set i (some (.ref f))):=by
   have E0:=E.mono g1' (ai _)
   refine⟨by rw[aY,aY];exact E0.len,fun j d ej=>?_⟩
   by_cases z:i=j
   ·subst z
    rw[aR hil]at ej;cases ej
   ·rw[bo z]at ej
    obtain⟨q1,v,q2,q3⟩:=E0.val j d ej
    exact⟨q1,v,by rw[bo z];exact q2,q3⟩
  obtain⟨cap,hcap,hcb,hσ⟩:=aK7 E1 eg
  have hlen:=(ai5 eg).1
  have raw:ae4 H' f J (ac6 X.env.cells J.scope.names []):=by
   unfold ae4;rw[hnm];dsimp only;rw[L.p,L.b,L.s];exact ho
  refine⟨φ,ρ.set i none,s,x1,_,E1,R1,e5,fun v1 φ1 H1 g1 l1 b1 r1 R1'=>?_⟩
  have hi2:i < σ.length:=by rw[<-E.len];exact hil
  refine⟨.ref f,by rw[aR hi2],?_⟩
  intro H2 ca
  obtain⟨gs,R2⟩:=R1'.same ca.same
  have hcb1:=aa6 l1 cs hcb
  have bl0:∀ m,x1.bnd m=true->jz m cs=true->jz m [x1,.clo id cs]=true:=fun m z1 z2=>by
   simp only[jz,z1,eP,eO]
   unfold jC;exact z2
  have bl:=bl0 _ b1 hcb1
  have pv:PVL Γ X.env.cells X.N (σ.set i (some (.ref f))) φ1 H1 [x1,.clo id cs] [v1,.ref f]:=by
   refine .cons (.inl r1) (.cons (.inr ⟨id,cs,rfl,f,J,rfl,L.lg,raw.kp g1.w.kp,by rw[hlen,L.len],by rw[L.s];exact L.cl,cap,RVL.mono g1 cs cap hcb hcap,fun i x v e1 e3=>?_⟩) .nil)
   have hi:i<caps.length:=by rw[<-L.len];exact(ag.mp e1).1
   have hj:caps[i]?=some caps[i]:=aj hi
   exact⟨by rw[L.s];exact L.fr x (br e1),caps[i],L.at_ i _ x hj e1,hσ i _ v hj e3⟩
  refine⟨φ1,_,[x1,.clo id cs],_,_,R2,pv.caught ca L.kd bl,bl,e4,fun v φ' H3 g' l' b' r' R'=>?_⟩
  have hc:Cells X.env.cells H3:=ca.cells.kp g'.w.kp
  exact q φ' (ab4 X.env.cells H3) ((g1'.trans g1 (ai _)).trans (Gr.caught ca g') l1) (aw l1 l') (R'.dropC hc hn.2) v b' (RV.dropC hc _ v hn.1 r')
mutual
theorem sS:∀(st:kQ) (S:Stmt) (X:Cx) (ck:Ck),CG Γ F n X ck->mS ck st S=true->PS X S (TSv Γ (DV.ex F st))
 | .asg tg e,S,X,ck,G,h=>by
  cases S with
  | Assign ts v p =>
   cases ts with
   | cons t ts1 =>
    cases ts1 with
    | nil =>
     obtain⟨h,h3⟩:=zg h
     obtain⟨h1,h2⟩:=zg h
     cases tg with
     | one i =>
      have h:=h1
      cases t with
      | Name x px =>
       obtain⟨a1,a2⟩:=zg h
       exact bq9 G (of_decide_eq_true a1) a2 h2
      | _=>exact ff h
     | tup is =>
      obtain⟨a1,a2⟩:=zg h3
      have h:=h1
      cases t with
      | Tuple te tk tp=>exact(bg2 (sE e _ X ck G h2).1 (bq1 G h1) (show dX v (some (.Tuple te tk tp)) p.line X.env=pure false from al1 a2) (aF5 a1) rfl).imp fun D σ H q=>aP1 (TSv.eq (fun ρ s=>rfl) q)
      | _=>exact ff h
    | _=>exact ff h
   | _=>exact ff h
  | _=>exact ff h
 | .setIx o i e,S,X,ck,G,h=>by
  cases S with
  | Assign ts v p2 =>
   cases ts with
   | cons tt ts1 =>
    cases tt with
    | Subscript ob ix p1 =>
     cases ts1 with
     | nil =>
      obtain⟨h,h5⟩:=zg h
      obtain⟨h,h4⟩:=zg h
      obtain⟨h,h3⟩:=zg h
      obtain⟨h1,h2⟩:=zg h
      have hsh:=aC8 h2
      refine(bg2 (sE e _ X ck G h3).1 (bC2 (sE o _ X ck G h1).1 (sE i _ X ck G h2).1 (bx1 (bB3 G.room)) ?_) (show dX v (some (.Subscript ob ix p1)) p2.line X.env=pure false from al1 h4) (aE9 h5) ?_).imp fun D σ H q=>aZ2 (TSv.eq (fun ρ s=>rfl) q)
      ·intro w
       cases ix<;>first|rfl|cases hsh
      ·rfl
     | _=>exact ff h
    | _=>exact ff h
   | _=>exact ff h
  | _=>exact ff h
 | .aug i e,S,X,ck,G,h=>by
  cases S with
  | AugAssign tt op v p =>
   cases tt with
   | Name x p1 =>
    cases op with
    | Add =>
     obtain⟨h,h3⟩:=zg h
     obtain⟨h1,h2⟩:=zg h
     obtain⟨l1,l2⟩:=G.loc h2
     exact(bv1 (by rw[G.N];exact G.nd) (by rw[G.N];exact of_decide_eq_true h1) l1 (sE e _ X ck G h3).1 bC6 l2).imp fun D σ H q=>bE9 (TSv.eq (fun ρ s=>rfl) q)
    | _=>exact ff h
   | _=>exact ff h
  | _=>exact ff h
 | .ex e,S,X,ck,G,h=>by
  cases S with
  | Expr v p =>
   obtain⟨h1,h2⟩:=zg h
   exact(aP7 (sE e _ X ck G h1).1 (al1 h2)).imp fun D σ H q=>bs2 (TSv.eq (fun ρ s=>rfl) q)
  | _=>exact ff h
 | .ret e,S,X,ck,G,h=>by
  cases S with
  | Return vo p =>
   cases vo with
   | some v =>
    exact(am3 (sE e _ X ck G h).1).imp fun D σ H q=>bu7 (TSv.eq (fun ρ s=>rfl) q)
   | _=>exact ff h
  | _=>exact ff h
 | .retN,S,X,ck,G,h=>ff h
 | .ite c a b,S,X,ck,G,h=>by
  cases S with
  | If t l r p =>
   obtain⟨h,h3⟩:=zg h
   obtain⟨h1,h2⟩:=zg h
   exact(bn6 (sE c _ X ck G h1).2 (sSs a _ X ck G h2) (sSs b _ X ck G h3)).imp fun D σ H q=>bM5 (TSv.eq (fun ρ s=>rfl) q)
  | _=>exact ff h
 | .whl c b,S,X,ck,G,h=>by
  cases S with
  | While t l o p =>
   cases o with
   | nil =>
    obtain⟨h1,h2⟩:=zg h
    exact(aY2 (by rw[G.xe];exact iD) (sE c _ X ck G h1).2 (sSs b _ X ck G h2)).imp fun D σ H q=>ba1 (TSv.eq (fun ρ s=>rfl) q)
   | _=>exact ff h
  | _=>exact ff h
 | .for_ tg it b,S,X,ck,G,h=>by
  cases S with
  | For tgt iter l o p =>
   cases o with
   | nil =>
    obtain⟨h,h3⟩:=zg h
    obtain⟨h1,h2⟩:=zg h
    exact(bG5 (by rw[G.xe];exact iD) G.calm (sI it _ _ X ck G h2) (bq1 G h1) (sSs b _ X ck G h3) (ax8 (bH3 h2))).imp fun D σ H q=>bB8 (TSv.eq (fun ρ s=>rfl) q)
   | _=>exact ff h
  | _=>exact ff h
 | .pass,S,X,ck,G,h=>ff h
 | .cont,S,X,ck,G,h=>ff h
 | .brk,S,X,ck,G,h=>ff h
 | .und _,S,X,ck,G,h=>ff h
 | .raise,S,X,ck,G,h=>aX8.imp fun D σ H q=>by
  obtain⟨φ,ρ,s,c,s',E,R,hm,q⟩:=q
  cases hm
theorem sSs:∀(st:kC) (S:List Stmt) (X:Cx) (ck:Ck),CG Γ F n X ck->mSs ck st S=true->PSs X S (TSv Γ (kT F st))
 | .nil,S,X,ck,G,h=>by
  cases S with
  | nil =>
   exact aj7.imp fun D σ H q=>bp5 (m:=kT F .nil) (fun ρ s=>rfl) q
  | _=>exact ff h
 | .cons s ss,S,X,ck,G,h=>by
  cases S with
  | cons x xs =>
   rcases(bK _ _).mp h with h|h
   ·exact bG2 G h
   obtain⟨h1,h2⟩:=zg h
   exact(zO (sS s _ X ck G h1) (sSs ss _ X ck G h2)).imp fun D σ H q=>bB1 (TSv.eq (fun ρ s=>rfl) q)
  | _=>exact ff h
end
end
noncomputable def bI9 (ck:Ck):List String->List Expr->Bool
 | [],xs=>match xs with|[]=>true|_=>false
 | c::cs,xs=>match xs with|.Name x _::es=>decide (x=(c:Str))&&ck.gl x&&bI9 ck cs es|_=>false
noncomputable def mHT (ck:Ck)(n:Str):DV.HT->Expr->Bool
 | .isi cs,E=>match E with|.Call (.Name g _) [.Name x _,.Tuple es _ _] [] _=>decide (g=("isinstance":Str))&&ck.gl g&&decide (x=n)&&bI9 ck cs es&&decide (cs.length<=1000)|_=>false
 | .one c,E=>match E with|.Call (.Name g _) [.Name x _,.Name d _] [] _=>decide (g=("isinstance":Str))&&ck.gl g&&decide (x=n)&&decide (d=(c:Str))&&ck.gl d|_=>false
 | .not t,E=>match E with|.UnaryOp .Not e _=>mHT ck n t e|_=>false
 | .or a b,E=>match E with|.BoolOp .Or [x,y] _=>mHT ck n a x&&mHT ck n b y|_=>false
noncomputable def mHd (ck:Ck)(n:Str):DV.Hd->List Stmt->Bool
 | .ret t,S=>match S with|[.Return (some e) _]=>mHT ck n t e|_=>false
 | .iff t b h,S=>match S with|.If e [.Return (some (.Constant (.bool b') _ _)) _] [] _::rest=>mHT ck n t e&&decide (b'=b)&&mHd ck n h rest|_=>false
structure XC (F:jL)(K:ac)(mg:Str->Option Value):Prop where
 at_:∀ c:String,F.xc c=true->∃ C,mg (c:Str)=some (.ref C)/\ExcCls K C/\excI K C=true
 cls:∀ c:String,F.xt c=true->∃ C,mg (c:Str)=some (.ref C)
 sub:∀(c d:String) (C D:Addr),F.xc c=true->F.xt d=true->mg (c:Str)=some (.ref C)->mg (d:Str)=some (.ref D)->bA K (.ref C) (.ref D)=some (jX c d)
theorem as6:∀ {ds:List Addr} {us:List Value},Vals (ds.map V.ref) us->us=ds.map Value.ref
 | [],_,.nil=>rfl
 | d::ds,_,.cons r t=>by
  have e:=as6 t
  subst e
  cases(show _=Value.ref d from r)
  rfl
def bV2 (K:ac)(a C:Addr):List V->Hp->VK->Prop:=fun xs H Q=>∃ y b,xs=[.ref a,y]/\((∃ D,y=.ref D/\bA K (.ref C) (.ref D)=some b)\/∃(p:Addr) (ds:List Addr),y=.ref p/\H p=some (.tup (ds.map V.ref))/\gf K (.ref C) (ds.map Value.ref)=some b)/\Q (.bl b) H
section
variable {Γ:Gm} {F:jL} {n:Nat} {X:Cx} {ck:Ck} {a C:Addr} {oe:Obj}
theorem aA8 (kx:dg X.K (.ref a) (.ref C) (fun h=>XAt h a C))(hcl:oe.cls=.ref C):ab8 (X.hnd a oe) (.builtin "isinstance") (bV2 X.K a C):=by
 intro pins s σ H xs us Q I r h
 obtain⟨y,b,rfl,hc,q⟩:=h
 obtain⟨u,w',rfl,r1,r2⟩:=aU7 r
 cases(show u=Value.ref a from r1)
 have hx:XAt s.heap a C:=⟨oe,(I.pin (a,oe) (aq ..)).1,hcl⟩
 rcases hc with⟨D,rfl,e⟩|⟨p,ds,rfl,hp,e⟩
 ·cases(show w'=Value.ref D from r2)
  exact bz kx I.kIn hx e (fun z=>nomatch z) fun tk=>⟨.bl b,H,I.tok _,rfl,q⟩
 ·cases(show w'=Value.ref p from r2)
  obtain⟨z,its,rr,ob,e1,e2,nn,e3⟩:=(show ab6 X.prog X.w H s.heap p (.tup (ds.map V.ref))from I.hok p _ hp)
  have e4:=as6 rr
  subst e4
  obtain⟨c0,dd,dt,sl⟩:=ob
  cases e2
  cases e3
  exact PySem.W.kia_tup kx I.kIn hx e1 e (fun z=>nomatch z) fun tk=>⟨.bl b,H,I.tok _,rfl,q⟩
def tHv (i:Nat)(a:Addr)(b:Bool):TE:=fun σ H Q=>σ[i]?=some (some (.ref a))/\∀ H',ac8 H H'->Q (.bl b) H'
def tHt (i:Nat)(a:Addr)(b:Bool):TT:=fun σ H Q=>σ[i]?=some (some (.ref a))/\∀ H',ac8 H H'->Q b H'
theorem aT3 {H:Hp}{p:Addr}{o:HO}(h:H p=none):ac8 H (upd H p o):=fun b u e=>by rw[za (zu e h)];exact e
theorem be7 (G:CG Γ F n X ck)(xc:XC F X.K X.mg):∀ {cs:List String} {es:List Expr},bI9 ck cs es=true->cs.all F.xt=true->∃ ds:List Addr,ds.length=cs.length/\PA (X.hnd a oe) es (fun σ H Q=>Q (ds.map V.ref) H)/\(∀ e∈es,shp e=true) /\
  ∀(c:String),F.xc c=true->X.mg (c:Str)=some (.ref C)->gf X.K (.ref C) (ds.map Value.ref)=some (cs.any (jX c))
 | [],es,h,_=>by
  cases es with
  | nil=>exact⟨[],rfl,ac7.imp fun σ H Q q=>q,by nofun,fun c _ _=>rfl⟩
  | cons _ _=>exact ff h
 | d::cs,es,h,hc=>by
  cases es with
  | nil=>exact ff h
  | cons e es =>
   cases e with
   | Name x p =>
    obtain⟨h,h3⟩:=zg h
    obtain⟨h1,h2⟩:=zg h
    have e1:=of_decide_eq_true h1
    subst e1
    rw[cB,af]at hc
    obtain⟨D,hD⟩:=xc.cls d hc.1
    obtain⟨g1,g2,g3⟩:=G.gl h2
    obtain⟨ds,hl,hp,hs,hk⟩:=be7 G xc h3 hc.2
    refine⟨D::ds,by simp[hl],?_,fun e he=>?_,fun c xcc hcm=>?_⟩
    ·have h0:PE (X.hnd a oe) (.Name (d:Str) p) (tC (.ref D)):=aj4 (X:=X.hnd a oe) g1 hD rfl g2
     exact(zF h0 hp rfl).imp fun σ H Q q=>q
    ·rcases au.mp he with z|z
     ·subst z;rfl
     ·exact hs e z
    ·have e1:=xc.sub c d C D xcc hc.1 hcm hD
     have e2:=hk c xcc hcm
     rw[aJ]
     show(match bA X.K (.ref C) (.ref D)with|some true=>some true|some false=>gf X.K (.ref C) (ds.map Value.ref)|none=>none)=_
     rw[e1]
     cases hs:jX c d with
     | true=>simp[hs]
     | false=>simp only[dA,hs,gG];exact e2
   | _=>exact ff h
theorem aK1 (G:CG Γ F n X ck)(xc:XC F X.K X.mg){c:String}(xcc:F.xc c=true)(hcm:X.mg (c:Str)=some (.ref C))(kx:dg X.K (.ref a) (.ref C) (fun h=>XAt h a C))(hcl:oe.cls=.ref C){nm:Str}{i:Nat}(hi:ck.N[i]?=some nm)(hv:Vis X.env.scope nm)(hd:(nm==("__debug__":Str))=false)(hcd:(nm==("__classdict__":Str))=false) :
  ∀ {t:DV.HT} {E:Expr},mHT ck nm t E=true->t.ok F.xt=true->PE (X.hnd a oe) E (tHv i a (t.val c))/\PT (X.hnd a oe) E (tHt i a (t.val c))
 | .isi cs,E,h,ho=>by
  cases E with
  | Call g xs kw p =>
   cases g with
   | Name g pg =>
    cases xs with
    | nil=>exact ff h
    | cons x xs=>cases x with
     | Name x px =>
      cases xs with
      | nil=>exact ff h
      | cons y xs=>cases y with
       | Tuple es k py =>
        cases xs with
        | cons _ _=>exact ff h
        | nil=>cases kw with
         | cons _ _=>exact ff h
         | nil =>
          obtain⟨h,h5⟩:=zg h
          obtain⟨h,h4⟩:=zg h
          obtain⟨h,h3⟩:=zg h
          obtain⟨h1,h2⟩:=zg h
          have e1:=of_decide_eq_true h1
          have e3:=of_decide_eq_true h3
          have e5:=of_decide_eq_true h5
          subst e1 e3
          obtain⟨g1,g2,g3⟩:=G.gl h2
          obtain⟨ds,hl,hp,hs,hk⟩:=be7 (a:=a) (C:=C) (oe:=oe) G xc h4 ho
          have hvar:PE (X.hnd a oe) (.Name x px) (aS8 i):=au9 (X:=X.hnd a oe) (by show X.N[i]?=_;rw[G.N];exact hi) hv hd hcd
          have pa:PA (X.hnd a oe) [.Name x px,.Tuple es k py] _:=zF hvar (zF (be8 hp) ac7 rfl) rfl
          have main:PE (X.hnd a oe) (.Call (.Name "isinstance" pg) [.Name x px,.Tuple es k py] [] p) (tHv i a (cs.any (jX c))):=by
           refine(af5 (aA8 kx hcl) (show Gl (X.hnd a oe) "isinstance" from g1) (G.bi _ (by decide)) qI pa g3 g2 rfl rfl).imp fun σ H Q q=>?_
           exact⟨.ref a,q.1,by rw[aM,hl];exact aw e5 (by decide),fun p hp'=>⟨.ref p,_,rfl,.inr ⟨p,ds,rfl,zb,hk c xcc hcm⟩,q.2 _ (aT3 hp')⟩⟩
          refine⟨main,(aR9 main).imp fun σ H Q q=>?_⟩
          exact⟨q.1,fun H' s=>⟨_,rfl,q.2 H' s⟩⟩
       | _=>exact ff h
     | _=>exact ff h
   | _=>exact ff h
  | _=>exact ff h
 | .one d,E,h,ho=>by
  cases E with
  | Call g xs kw p =>
   cases g with
   | Name g pg =>
    cases xs with
    | nil=>exact ff h
    | cons x xs=>cases x with
     | Name x px =>
      cases xs with
      | nil=>exact ff h
      | cons y xs=>cases y with
       | Name y py =>
        cases xs with
        | cons _ _=>exact ff h
        | nil=>cases kw with
         | cons _ _=>exact ff h
         | nil =>
          obtain⟨h,h5⟩:=zg h
          obtain⟨h,h4⟩:=zg h
          obtain⟨h,h3⟩:=zg h
          obtain⟨h1,h2⟩:=zg h
          have e1:=of_decide_eq_true h1
          have e3:=of_decide_eq_true h3
          have e4:=of_decide_eq_true h4
          subst e1 e3 e4
          obtain⟨g1,g2,g3⟩:=G.gl h2
          obtain⟨k1,k2,k3⟩:=G.gl h5
          obtain⟨D,hD⟩:=xc.cls d ho
          have hvar:PE (X.hnd a oe) (.Name x px) (aS8 i):=au9 (X:=X.hnd a oe) (by show X.N[i]?=_;rw[G.N];exact hi) hv hd hcd
          have hcls:PE (X.hnd a oe) (.Name (d:Str) py) (tC (.ref D)):=aj4 (X:=X.hnd a oe) k1 hD rfl k2
          have pa:PA (X.hnd a oe) [.Name x px,.Name (d:Str) py] _:=zF hvar (zF hcls ac7 rfl) rfl
          have main:PE (X.hnd a oe) (.Call (.Name "isinstance" pg) [.Name x px,.Name (d:Str) py] [] p) (tHv i a (jX c d)):=by
           refine(af5 (aA8 kx hcl) (show Gl (X.hnd a oe) "isinstance" from g1) (G.bi _ (by decide)) qI pa g3 g2 rfl rfl).imp fun σ H Q q=>?_
           exact⟨.ref a,q.1,⟨.ref D,_,rfl,.inl ⟨D,rfl,xc.sub c d C D xcc ho hcm hD⟩,q.2 _ (ac8.refl _)⟩⟩
          refine⟨main,(aR9 main).imp fun σ H Q q=>?_⟩
          exact⟨q.1,fun H' s=>⟨_,rfl,q.2 H' s⟩⟩
       | _=>exact ff h
     | _=>exact ff h
   | _=>exact ff h
  | _=>exact ff h
 | .not t,E,h,ho=>by
  cases E with
  | UnaryOp o l p=>cases o with
   | Not =>
    obtain⟨h1,h2⟩:=aK1 G xc xcc hcm kx hcl hi hv hd hcd (t:=t) (E:=l) h ho
    exact⟨(bf0 h1).imp fun σ H Q q=>⟨q.1,fun H' s=>⟨_,rfl,q.2 H' s⟩⟩,(bc5 h2).imp fun σ H Q q=>⟨q.1,fun H' s=>q.2 H' s⟩⟩
   | _=>exact ff h
  | _=>exact ff h
 | .or t u,E,h,ho=>by
  cases E with
  | BoolOp op vs p=>cases op with
   | Or=>cases vs with
    | nil=>exact ff h
    | cons l vs=>cases vs with
     | nil=>exact ff h
     | cons r vs=>cases vs with
      | cons _ _=>exact ff h
      | nil =>
       obtain⟨m1,m2⟩:=zg h
       have ho':(t.ok F.xt&&u.ok F.xt)=true:=ho
       rw[af]at ho'
       obtain⟨h1,h2⟩:=aK1 G xc xcc hcm kx hcl hi hv hd hcd (t:=t) (E:=l) m1 ho'.1
       obtain⟨h3,h4⟩:=aK1 G xc xcc hcm kx hcl hi hv hd hcd (t:=u) (E:=r) m2 ho'.2
       have ev:(DV.HT.or t u).val c=if t.val c then true else u.val c:=rfl
       refine⟨(bn5 h1 (aM9 h3)).imp fun σ H Q q=>⟨q.1,fun H' s=>⟨_,rfl,?_⟩⟩,(bs6 h2 (bd5 h4)).pt.imp fun σ H Q q=>⟨q.1,fun H' s=>?_⟩⟩
       ·rw[ev]at q
        cases hb:t.val c with
        | true=>rw[hb]at q;exact q.2 H' s
        | false=>rw[hb]at q;exact⟨q.1,fun H2 s2=>q.2 H2 (s.trans s2)⟩
       ·rw[ev]at q
        cases hb:t.val c with
        | true=>rw[hb]at q;exact q.2 H' s
        | false=>rw[hb]at q;exact⟨q.1,fun H2 s2=>q.2 H2 (s.trans s2)⟩
   | _=>exact ff h
  | _=>exact ff h
end
def tHd (i:Nat)(a:Addr)(b:Bool):TS:=fun D σ H=>σ[i]?=some (some (.ref a))/\∀ H',ac8 H H'->D.rt (.bl b) H'
noncomputable def mX (ck:Ck):DV.XB->List Stmt->Bool
 | .no,_=>true
 | .rais c,S=>match S with|.Raise (some (.Call (.Name x _) [.Constant (.str _) _ _] [] _)) none _::_=>decide (x=(c:Str))&&ck.gl x|_=>false
 | .call f as,S=>match S with
  | .Return (some (.Call (.Name x _) (e::es) [] _)) _::_=>decide (x=(f:Str))&&ck.gl x&&mAs ck as (e::es)
  | .Expr (.Call (.Name x _) (e::es) [] _) _::_=>decide (x=(f:Str))&&ck.gl x&&mAs ck as (e::es)
  | _=>false
 | .iteT c a r,S=>match S with|.If t l [] _::rest=>mE ck c t&&mX ck a l&&mX ck r rest|_=>false
 | .seq s b,S=>match S with|x::rest=>mS ck s x&&mX ck b rest|_=>false
noncomputable def noR:DV.XB->Bool
 | .rais _=>false
 | .iteT _ a r=>noR a&&noR r
 | .seq _ b=>noR b
 | _=>true
def aq8 (Γ:Gm)(mg:Str->Option Value)(φ:Nat->Addr)(s:jx)(H:Hp)(c:String)(s':jx)(E:XK):Prop :=
 ∀ φ' H' a C,Gr φ s H φ' s' H'->s.length<=s'.length->Rp Γ φ' H' s'->mg (c:Str)=some (.ref C)->E (.ref a) (some C) H'
def TXv (Γ:Gm)(mg:Str->Option Value)(m:jA->jx->Option (String×jx))(E:XK):TS:=fun _ σ H=>∃ φ ρ s c s',RE Γ φ H s.length ρ σ/\Rp Γ φ H s/\m ρ s=some (c,s')/\aq8 Γ mg φ s H c s' E
def spX (Γ:Gm)(mg:Str->Option Value)(x:List jy->jx->Option (String×jx)):Sp:=fun vs H _ E=>∃ φ s l c s',Rp Γ φ H s/\RVL Γ φ H l vs/\jz s.length l=true/\x l s=some (c,s')/\aq8 Γ mg φ s H c s' E
theorem aq8.trans {Γ:Gm}{mg:Str->Option Value}{φ φ1:Nat->Addr}{s s1 s':jx}{H H1:Hp}{c:String}{E:XK}(h:aq8 Γ mg φ s H c s' E)(g:Gr φ s H φ1 s1 H1)(l:s.length<=s1.length):aq8 Γ mg φ1 s1 H1 c s' E :=
 fun φ' H' a C g' l' p m=>h φ' H' a C (g.trans g' l) (aw l l') p m
theorem PA.nox {X:Cx}{e:List Expr}{t:TA}(h:PA X.nox e t):PA X e t:=fun pos pins s σ H Q I hw =>
 bv (h pos pins s σ H Q (I.wish _) hw) (fun _ _ ⟨v,H',I',r,q⟩=>⟨v,H',I'.unwish,r,q⟩) fun _ _ z=>aZ z
theorem PS.nox {X:Cx}{st:Stmt}{t:TS}(h:PS X.nox st t):PS X st t:=fun pins s σ H D I hw =>
 bv (h pins s σ H D (I.wish _) hw) (fun _ _ q=>q.unwish) fun _ _ z=>aZ z
def XOk (Γ:Gm)(prog:aC)(w:World)(K:ac)(mg:Str->Option Value)(base:Heap)(F:jL)(n:Nat):Prop:=∀ f:String,(∀ l s,F.xcall f l s=none) \/
 ∃ a fd ps,FnOk prog w K mg base (CX1 prog w) n a fd ps (spX Γ mg (F.xcall f))/\mg (f:Str)=some (.ref a)/\bN K (.ref a)=true/\Binds K fd ps []
section
variable {Γ:Gm} {F:jL} {n:Nat} {X:Cx} {ck:Ck} {a C:Addr} {oe:Obj}
theorem bv9 (G:CG Γ F n X ck)(xc:XC F X.K X.mg){c:String}(xcc:F.xc c=true)(hcm:X.mg (c:Str)=some (.ref C))(kx:dg X.K (.ref a) (.ref C) (fun h=>XAt h a C))(hcl:oe.cls=.ref C){nm:Str}{i:Nat}(hi:ck.N[i]?=some nm)(hv:Vis X.env.scope nm)(hd:(nm==("__debug__":Str))=false)(hcd:(nm==("__classdict__":Str))=false) :
  ∀ {t:DV.Hd} {S:List Stmt},mHd ck nm t S=true->t.ok F.xt=true->PSs (X.hnd a oe) S (tHd i a (t.val c))
 | .ret t,S,h,ho=>by
  cases S with
  | nil=>exact ff h
  | cons s S=>cases s with
   | Return vo p=>cases vo with
    | none=>exact ff h
    | some v=>cases S with
     | cons _ _=>exact ff h
     | nil=>exact(aN8 (am3 (aK1 G xc xcc hcm kx hcl hi hv hd hcd h ho).1)).imp fun D σ H q=>q
   | _=>exact ff h
 | .iff t b g,S,h,ho=>by
  cases S with
  | nil=>exact ff h
  | cons s S=>cases s with
   | If e l r p=>cases l with
    | nil=>exact ff h
    | cons l0 l=>cases l0 with
     | Return vo pr=>cases vo with
      | none=>exact ff h
      | some v=>cases v with
       | Constant k j pk=>cases k with
        | bool b'=>cases l with
         | cons _ _=>exact ff h
         | nil=>cases r with
          | cons _ _=>exact ff h
          | nil =>
           obtain⟨h,h3⟩:=zg h
           obtain⟨h1,h2⟩:=zg h
           have e:=of_decide_eq_true h2
           subst e
           have ho':(t.ok F.xt&&g.ok F.xt)=true:=ho
           rw[af]at ho'
           have q1:=(aK1 G xc xcc hcm kx hcl hi hv hd hcd h1 ho'.1).2
           have q2:=bv9 G xc xcc hcm kx hcl hi hv hd hcd h3 ho'.2
           refine(zO (bn6 q1 (aN8 (am3 bG9)) aj7) q2).imp fun D σ H q=>⟨q.1,fun H' s=>?_⟩
           have q':∀ H',ac8 H H'->D.rt (.bl (if t.val c then b' else g.val c)) H':=q.2
           cases hb:t.val c with
           | true=>rw[hb]at q';exact q' H' s
           | false=>rw[hb]at q';exact⟨q.1,fun H2 s2=>q' H2 (s.trans s2)⟩
        | _=>exact ff h
       | _=>exact ff h
     | _=>exact ff h
   | _=>exact ff h
theorem bf9 (G:CG Γ F n X.nox ck)(XO:XOk Γ X.prog X.w X.K X.mg X.base F n){E:XK}(hp:ae2 (CX1 X.prog X.w) X E){f:String}{as:j6}{e:Expr}{es:List Expr}{p pos:Pos}(hg:ck.gl (f:Str)=true)(m:mAs ck as (e::es)=true) :
  ∃ t:TE,PE X (.Call (.Name (f:Str) p) (e::es) [] pos) t/\∀ D σ H Q,TXv Γ X.mg (kD F (.call f as)) E D σ H->t σ H Q:=by
 obtain⟨g1,g2,g3⟩:=G.gl hg
 rcases XO f with hbad|⟨a,fd,ps,hF,hmg,hk,hb⟩
 ·refine⟨fun _ _ _=>False,fun _ _ _ _ _ _ z=>z.elim,fun D σ H Q q=>?_⟩
  obtain⟨φ,ρ,s,c,s',Ev,R,hm,q⟩:=q
  change(match jZ F as ρ s with|.ok l s1=>F.xcall f l s1|_=>none)=_ at hm
  split at hm
  ·rw[hbad]at hm;cases hm
  ·cases hm
 ·have hs:=ax9 m
  have pa:PA X (e::es) (TAv Γ (jZ F as)):=(sAs as _ X.nox ck G m).nox
  refine⟨_,aS6 hF G.room g1 hmg hk hb .nil hp pa g2 (ze (hs e (aq ..))) (zB fun x hx=>hs x (ah _ hx)).1,fun D σ H Q q=>?_⟩
  obtain⟨φ,ρ,s,c,s',Ev,R,hm,q⟩:=q
  change(match jZ F as ρ s with|.ok l s1=>F.xcall f l s1|_=>none)=_ at hm
  split at hm
  ·rename_i l s1 e1
   refine⟨φ,ρ,s,l,s1,Ev,R,e1,fun vs φ1 H1 g1 l1 b1 r1 R1=>?_⟩
   show spX Γ X.mg (F.xcall f) (vs++[]) H1 Q E
   rw[bj]
   exact⟨φ1,s1,l,c,s',R1,r1,b1,hm,q.trans g1 l1⟩
  ·cases hm
theorem aN4 (G:CG Γ F n X.nox ck)(xc:XC F X.K X.mg)(XO:XOk Γ X.prog X.w X.K X.mg X.base F n){E:XK}(hp:ae2 (CX1 X.prog X.w) X E):∀(b:DV.XB) (S:List Stmt),(noR b=true\/aG9 X E)->mX ck b S=true->PSs X S (TXv Γ X.mg (kD F b) E)
 | .no,S,_,h=>fun pins s σ H D I q=>by
  obtain⟨_,_,_,_,_,_,_,z,_⟩:=q
  cases z
 | .rais c,S,hT,h=>by
  have hT:aG9 X E:=hT.elim (fun z=>by cases z) id
  cases hx:F.xc c with
  | false =>
   intro pins s σ H D I q
   obtain⟨_,_,s,_,_,_,_,z,_⟩:=q
   change(if F.xc c=true then some (c,s)else none)=_ at z
   rw[hx]at z;cases z
  | true =>
   cases S with
   | nil=>exact ff h
   | cons st S=>cases st with
    | Raise v k p=>cases v with
     | none=>exact ff h
     | some v=>cases v with
      | Call g xs kw pc=>cases g with
       | Name x pn=>cases xs with
        | nil=>exact ff h
        | cons y xs=>cases y with
         | Constant cv j py=>cases cv with
          | str t=>cases xs with
           | cons _ _=>exact ff h
           | nil=>cases kw with
            | cons _ _=>exact ff h
            | nil=>cases k with
             | some _=>exact ff h
             | none =>
              obtain⟨h1,h2⟩:=zg h
              have e:=of_decide_eq_true h1
              subst e
              obtain⟨g1,g2,g3⟩:=G.gl h2
              obtain⟨C,hC,hE,_⟩:=xc.at_ c hx
              refine(zO (bb0 hT hE g1 hC G.room.hd g2) af2).imp fun D σ H q a=>?_
              obtain⟨φ,ρ,s,c',s',Ev,R,hm,q⟩:=q
              change(if F.xc c=true then some (c,s)else none)=_ at hm
              rw[hx,if_pos rfl]at hm
              cases hm
              exact q φ H a C (Gr.refl φ s H) (ai _) R hC
          | _=>exact ff h
         | _=>exact ff h
       | _=>exact ff h
      | _=>exact ff h
    | _=>exact ff h
 | .call f as,S,_,h=>by
  cases S with
  | nil=>exact ff h
  | cons st S=>cases st with
   | Return v p=>cases v with
    | none=>exact ff h
    | some v=>cases v with
     | Call g xs kw pc=>cases g with
      | Name x pn=>cases xs with
       | nil=>exact ff h
       | cons y xs=>cases kw with
        | cons _ _=>exact ff h
        | nil =>
         obtain⟨h,h3⟩:=zg h
         obtain⟨h1,h2⟩:=zg h
         have e:=of_decide_eq_true h1
         subst e
         obtain⟨t,ht,hq⟩:=bf9 G XO hp h2 h3
         exact(zO (am3 ht) af2).imp fun D σ H q=>hq D σ H _ q
      | _=>exact ff h
     | _=>exact ff h
   | Expr v p=>cases v with
    | Call g xs kw pc=>cases g with
     | Name x pn=>cases xs with
      | nil=>exact ff h
      | cons y xs=>cases kw with
       | cons _ _=>exact ff h
       | nil =>
        obtain⟨h,h3⟩:=zg h
        obtain⟨h1,h2⟩:=zg h
        have e:=of_decide_eq_true h1
        subst e
        obtain⟨t,ht,hq⟩:=bf9 G XO hp h2 h3
        exact(zO (aP7 ht (al1 rfl)) af2).imp fun D σ H q=>hq D σ H _ q
     | _=>exact ff h
    | _=>exact ff h
   | _=>exact ff h
 | .iteT c a r,S,hT,h=>by
  cases S with
  | nil=>exact ff h
  | cons st S=>cases st with
   | If t l o p=>cases o with
    | cons _ _=>exact ff h
    | nil =>
     obtain⟨h,h3⟩:=zg h
     obtain⟨h1,h2⟩:=zg h
     have hT1:noR a=true\/aG9 X E:=hT.elim (fun z=>.inl (zg z).1) .inr
     have hT2:noR r=true\/aG9 X E:=hT.elim (fun z=>.inl (zg z).2) .inr
     refine(zO (bn6 (sE c _ X.nox ck G h1).2.nox (aN4 G xc XO hp a _ hT1 h2) aj7) (aN4 G xc XO hp r _ hT2 h3)).imp fun D σ H q=>?_
     obtain⟨φ,ρ,s,c',s',Ev,R,hm,q⟩:=q
     change(match jD F c ρ s with|.ok (.bl b) s1=>if b then kD F a ρ s1 else kD F r ρ s1|_=>none)=_ at hm
     split at hm
     ·rename_i b s1 e1
      refine⟨φ,ρ,s,b,s1,Ev,R,e1,fun φ1 H1 g1 l1 R1=>?_⟩
      cases b with
      | true=>exact⟨φ1,ρ,s1,c',s',Ev.mono g1 l1,R1,hm,q.trans g1 l1⟩
      | false=>exact⟨φ1,ρ,s1,c',s',Ev.mono g1 l1,R1,hm,q.trans g1 l1⟩
     ·cases hm
   | _=>exact ff h
 | .seq st b,S,hT,h=>by
  cases S with
  | nil=>exact ff h
  | cons x S =>
   obtain⟨h1,h2⟩:=zg h
   refine(zO (sS st _ X.nox ck G h1).nox (aN4 G xc XO hp b _ hT h2)).imp fun D σ H q=>?_
   obtain⟨φ,ρ,s,c',s',Ev,R,hm,q⟩:=q
   change(match DV.ex F st ρ s with|.ok (.next ρ1) s1=>kD F b ρ1 s1|_=>none)=_ at hm
   split at hm
   ·rename_i ρ1 s1 e1
    exact⟨φ,ρ,s,.next ρ1,s1,Ev,R,e1,fun φ1 H1 g1 l1 R1 σ1 Ev1=>⟨φ1,ρ1,s1,c',s',Ev1,R1,hm,q.trans g1 l1⟩⟩
   ·cases hm
theorem bo7 {tb:List Stmt}{h₀:eM}{hs:List eM}{p:Pos}{t:TS}(hx:X.xe=fun _ _=>False)(h:PSs X tb t):PS X (.Try tb (h₀::hs) [] [] p) t:=by
 intro pins s σ H D I q
 refine ir (bv (h pins s σ H D I q) (fun f s1 z=>?_) (fun e s1 z=>?_))
 ·cases f with
  | next=>exact cu z
  | _=>exact z
 ·rw[hx]at z;exact z.elim
def EH (C:Addr)(b:Bool)(D:Ends):XK:=fun _ o H'=>o=some C/\∀ H'',ac8 H' H''->D.rt (.bl b) H''
theorem bk7 {tb:List Stmt}{x nm:Str}{i:Nat}{b₀:Stmt}{suite:List Stmt}{np hpos p:Pos}{hs:List eM}{m:jA->jx->Option (String×jx)}{b:Bool}(hex:X.ex=[])(hst:X.stack=X.env::X.outer)(hfr:X.env.frame=some X.env.locals)
  (hc:ExcCls X.K C) (hg:Gl X x) (hm:X.mg x=some (.ref C)) (hd:(x==("__debug__":Str))=false) (hN:X.N.Nodup) (hi:X.N[i]?=some nm) (hl:X.env.scope.names.lookup nm=some .local)
  (hbody:∀(pn:List (Addr×Obj)) (W:Value->ae->Prop) (E:XK),ae2 (CX1 X.prog X.w) { X with pn:=pn,xe:=W } E->PSs { X with pn:=pn,xe:=W } tb (TXv Γ X.mg m E)) (hsu:∀ a oe,oe.cls=.ref C->PSs (X.hnd a oe) (b₀::suite) (tHd i a b)) :
  PS X (.Try tb (.ExceptHandler (some (.Name x np)) (some nm) (b₀::suite) hpos::hs) [] [] p) (fun D σ H=>TXv Γ X.mg m (EH C b D) D σ H):=by
 intro pins s σ H D I q
 let W:Value->ae->Prop:=fun e s₁=>wpAny (model X.prog X.w) X.A (io e X.env) (fun _ s₂=>wpAny (model X.prog X.w) X.A (jd e none) (fun _ s₃=>wpAny (model X.prog X.w) X.A (handleBy e X.env (.ExceptHandler (some (.Name x np)) (some nm) (b₀::suite) hpos::hs)) (SP X pins D) X.xe s₃) X.xe s₂) X.xe s₁
 have ok':({ X with pn:=X.pn++pins,xe:=W }:Cx).Ok:=⟨I.ok.mod,I.ok.kind,I.ok.glob,I.ok.blt,I.ok.above,I.ok.inj,I.ok.has,I.ok.cab,I.ok.hd,I.ok.frames,I.ok.stk,I.ok.exf,I.ok.bs,I.ok.bsz,I.ok.noex,I.ok.exfs,I.ok.funs,I.ok.frf⟩
 have I':Inv { X with pn:=X.pn++pins,xe:=W } [] σ H s:=⟨ok',I.os,I.bare,I.base,I.loc,I.cell,I.free,I.freeC,fun p hp=>I.pin p (by rw[bj]at hp;exact hp),I.hok,I.len⟩
 have back:∀ {pins':List (Addr×Obj)} {σ':St} {H':Hp} {s':ae},Inv { X with pn:=X.pn++pins,xe:=W } pins' σ' H' s'->Inv X pins σ' H' s':=fun J=>⟨I.ok,J.os,J.bare,J.base,J.loc,J.cell,J.free,J.freeC,fun p hp=>J.pin p (b8 _ hp),J.hok,J.len⟩
 have hp:ae2 (CX1 X.prog X.w) { X with pn:=X.pn++pins,xe:=W } (EH C b D):=fun pins' σ' H' s' e s'' J h=>by
  obtain⟨a,C',H'',rfl,T,eC,hq⟩:=CX1.tr J hex h
  cases eC
  obtain⟨a0,oe,vs,T0,oT,ts,h1,h2,h3,h4,h5,h6,h6p,h7⟩:=T.tr
  have hn:i < σ'.length:=by rw[J.len];exact(ag.mp hi).1
  exact aQ5 ⟨back T.inv,T.n0,T.nH,fun p hp=>T.np p (b8 _ hp),a0,oe,vs,T0,oT,ts,h1,h2,h3,h4,h5,h6,fun p hp=>h6p p (b8 _ hp),h7⟩ hex hst hfr hc hg hm hd hN hi hl (hsu a) ⟨by rw[aR hn],hq⟩
 refine ir (bv (hbody _ W _ hp [] s σ H D I' q) (fun f s1 z=>?_) (fun e s1 z=>z))
 cases f with
 | next=>obtain⟨σ1,H1,J,z⟩:=z;exact cu ⟨σ1,H1,back J,z⟩
 | brk=>obtain⟨σ1,H1,J,z⟩:=z;exact⟨σ1,H1,back J,z⟩
 | cont=>obtain⟨σ1,H1,J,z⟩:=z;exact⟨σ1,H1,back J,z⟩
 | ret u=>obtain⟨v,σ1,H1,J,r,z⟩:=z;exact⟨v,σ1,H1,back J,r,z⟩
end
section
variable {Γ:Gm}
theorem ay8 {φ φ1:Nat->Addr}{H H1:Hp}{s s1:jx}(R:Rp Γ φ H s)(g:Gr φ s H φ1 s1 H1)(ho:kW s s1=true){i:Nat}{o:jR}(hi:i<s.length)(e:s1[i]?=some o):o.bnd s.length=true:=by
 unfold kW at ho
 have:=aD.mp ho i (bp.mpr hi)
 rw[e,bK]at this
 rcases this with h|h
 ·exact R.wf i o (of_decide_eq_true h).symm
 ·exact h
theorem qw {s1:jx}{k i:Nat}{o:jR}(e:(s1.take k)[i]?=some o):i<k/\s1[i]?=some o:=by
 rw[gW]at e
 split at e
 ·exact⟨‹_›,e⟩
 ·cases e
theorem aH0 {φ φ1:Nat->Addr}{H H1:Hp}{s s1:jx}(R:Rp Γ φ H s)(g:Gr φ s H φ1 s1 H1)(R1:Rp Γ φ1 H1 s1)(ho:kW s s1=true):Gr φ s H φ1 (s1.take s.length) H1/\Rp Γ φ1 H1 (s1.take s.length):=by
 have hl:(s1.take s.length).length=s.length:=by rw[dq];have:=g.le;omega
 refine⟨⟨g.w,by rw[hl];exact ai _,fun i h1 h2=>by rw[hl]at h2;omega,fun i o o' e e'=>g.kd i o o' e (qw e').2,g.st,g.fr⟩,fun i j o o' e e' m m' z=>R1.inj i j o o' (qw e).2 (qw e').2 m m' z,fun i o e=>R1.obj i o (qw e).2,fun i o e=>?_,R1.tab⟩
 rw[hl]
 exact ay8 R g ho (qw e).1 (qw e).2
theorem qA {φ φ1:Nat->Addr}{H H1:Hp}{s s1 s':jx}{v0 d:jy}{v:V}(R:Rp Γ φ H s)(g:Gr φ s H φ1 s1 H1)(R1:Rp Γ φ1 H1 s1)(hb:v0.bnd s1.length=true)(r:RV Γ φ1 H1 v0 v)(h:DV.ab3 s v0 s1=.ok d s') :
  ∃ φ',Gr φ s H φ' s' H1/\s.length<=s'.length/\d.bnd s'.length=true/\RV Γ φ' H1 d v/\Rp Γ φ' H1 s':=by
 have all:d=v0->s'=s1->∃ φ',Gr φ s H φ' s' H1/\s.length<=s'.length/\d.bnd s'.length=true/\RV Γ φ' H1 d v/\Rp Γ φ' H1 s':=fun e1 e2=>by
  subst e1;subst e2
  exact⟨φ1,g,g.le,hb,r,R1⟩
 unfold DV.ab3 at h
 split at h
 case isFalse=>cases h;exact all rfl rfl
 rename_i ho
 obtain⟨gt,Rt⟩:=aH0 R g R1 ho
 have hl:(s1.take s.length).length=s.length:=by rw[dq];have:=g.le;omega
 have tk:d=v0->s'=s1.take s.length->v0.bnd s.length=true->∃ φ',Gr φ s H φ' s' H1/\s.length<=s'.length/\d.bnd s'.length=true/\RV Γ φ' H1 d v/\Rp Γ φ' H1 s':=fun e1 e2 b=>by
  subst e1;subst e2
  exact⟨φ1,gt,by rw[hl];exact ai _,by rw[hl];exact b,r,Rt⟩
 split at h
 ·rename_i k
  split at h
  ·cases h
   exact tk rfl rfl (by unfold jC;exact decide_eq_true ‹_›)
  ·rename_i hk
   split at h
   ·rename_i o eo
    split at h
    ·rename_i hob
     cases h
     have gw:Gw φ1 s.length H1 (fun i=>if i=s.length then φ1 k else φ1 i) H1:=⟨fun i hi=>if_neg (ax hi),Kp.refl _⟩
     have key:∀(i:Nat) (o':jR),(s1.take s.length++[o])[i]?=some o'->(i<s.length/\s1[i]?=some o')\/(i=s.length/\o'=o):=fun i o' e=>by
      rcases eD i s.length with h|h|h
      ·rw[aL (by rw[hl];exact h)]at e;exact .inl (qw e)
      ·subst h
       rw[aI (by rw[hl];exact ai _),hl,jm]at e
       exact .inr ⟨rfl,(az e).symm⟩
      ·rw[bH (by rw[aV,hl];simp;omega)]at e;cases e
     have hlen:(s1.take s.length++[o]).length=s.length+1:=by rw[aV,hl];rfl
     refine⟨fun i=>if i=s.length then φ1 k else φ1 i,⟨⟨fun i hi=>?_,g.w.kp⟩,by rw[hlen];omega,fun i h1 h2=>?_,fun i oo o' e e'=>?_,g.st,g.fr⟩,by rw[hlen];omega,by unfold jC;rw[hlen];exact decide_eq_true (eU _),?_,⟨fun i j oi oj ei0 ej0 mi mj e=>?_,fun i o' e=>?_,fun i o' e=>?_,R1.tab⟩⟩
     ·show(if i=s.length then φ1 k else φ1 i)=φ i
      rw[if_neg (ax hi)];exact g.w.map i hi
     ·rw[hlen]at h2
      show H (if i=s.length then φ1 k else φ1 i)=none
      rw[if_pos (by omega)]
      exact g.new k (by omega) (ag.mp eo).1
     ·rcases key i o' e' with⟨_,e2⟩|⟨hi,_⟩
      ·exact g.kd i oo o' e e2
      ·have:=(ag.mp e).1;omega
     ·rw[r.refE]
      unfold RV
      show V.ref (φ1 k)=V.ref (if s.length=s.length then φ1 k else φ1 s.length)
      rw[if_pos rfl]
     ·rcases key i oi ei0 with⟨hi,ei⟩|⟨hi,zi⟩<;>rcases key j oj ej0 with⟨hj,ej⟩|⟨hj,zj⟩
      ·rw[if_neg (ax hi),if_neg (ax hj)]at e
       exact R1.inj i j oi oj ei ej mi mj e
      ·rw[if_neg (ax hi),if_pos hj]at e
       subst zj
       have:=R1.inj i k oi _ ei eo mi mj e
       omega
      ·rw[if_neg (ax hj),if_pos hi]at e
       subst zi
       have:=R1.inj k j _ oj eo ej mi mj e
       omega
      ·rw[hi,hj]
     ·rcases key i o' e with⟨hi,e⟩|⟨hi,rfl⟩
      ·show RO Γ _ _ (if i=s.length then φ1 k else φ1 i) o'
       rw[if_neg (ax hi)]
       exact(R1.obj i o' e).mono gw (ay8 R g ho hi e) fun _ u hu=>hu
      ·show RO Γ _ _ (if i=s.length then φ1 k else φ1 i) o'
       rw[if_pos hi]
       exact(R1.obj k _ eo).mono gw hob fun _ u hu=>hu
     ·rw[hlen]
      rcases key i o' e with⟨hi,e⟩|⟨_,rfl⟩
      ·exact qa (dG _) _ (ay8 R g ho hi e)
      ·exact qa (dG _) _ hob
    ·cases h;exact all rfl rfl
   ·exact fb h
 ·split at h
  ·cases h;exact tk rfl rfl ‹_›
  ·cases h;exact all rfl rfl
structure LamGood (J:LamI)(L:kt):Prop where
 sc:LamScope (J.ps++J.fr) J.ps J.fr J.scope
 ps:J.ps.length=L.ps
 fr:J.fr.length=L.cs
 m:mE (ck0 (J.ps++J.fr) J.scope) L.body J.body=true
 bind:∀(clos:List (Str×Addr)) (doc pm:Value) (c':Addr) (ctv:Value) (us:List Value),us.length=J.ps.length->dC (bI "<lambda>" J.qual J.params J.body J.scope clos pm (.ref c') ctv) ⟨us,[]⟩=pure (J.ps.zip us) /\
  ∀(nm:Str) (rp:Pos),dC (bS nm J.qual J.params [.Return (some J.body) rp] J.scope clos .none .none doc pm none (.ref c') ctv) ⟨us,[]⟩=pure (J.ps.zip us)
structure LkAt (Γ:Gm)(cds:List (Addr×Addr))(f:Str)(sc:Scope)(N:List Str)(fd:bw)(id:String)(caps:List Nat)(params:a9)(body:Expr)(scope:Scope)(c P:Addr)(J:LamI):Prop where
 code:fd.code=.ref c
 cd:(c,P)∈cds
 ck:lamCheck scope sc=true
 fre:∀ x,scope.names.lookup x=some .free->sc.names.lookup x=some .cell
 cel:∀ y∈sc.names,y.2=.cell->sc.names.lookup y.1=some .cell
 df:∀ env,iV params env=([],[])
 lg:Γ.lg id J
 q:J.qual=f ++ ".<locals>."++J.own
 p:J.params=params
 b:J.body=body
 s:J.scope=scope
 len:J.fr.length=caps.length
 at_:∀(i j:Nat) (x:Str),caps[i]?=some j->J.fr[i]?=some x->N[j]?=some x
 fr:∀ x∈J.fr,scope.names.lookup x=some .free
 tab:(P,J.qual)∈Γ.T
def bn2 (Γ:Gm)(cds:List (Addr×Addr))(f:Str)(sc:Scope)(N:List Str)(fd:bw)(lk:String->List Nat->Expr->Bool):Prop :=
 ∀ id caps E,lk id caps E=true->∃ c P params body scope pos J,E=lamText J params body scope pos/\LkAt Γ cds f sc N fd id caps params body scope c P J
def GoodB (Γ:Gm)(cds:List (Addr×Addr))(mg:Str->Option Value)(f:String)(pc vc:Nat)(m:Ck->List Stmt->Bool):Prop:=∃ st N ps a fd lk,DefAt Γ.K mg (f:Str) st ps a fd/\FnScope N ps (defScope st)/\ps.length=pc/\N.length=pc+vc/\m ⟨N,defScope st,lk⟩ (zA st)=true/\bn2 Γ cds (f:Str) (defScope st) N fd lk
def Good (Γ:Gm)(cds:List (Addr×Addr))(mg:Str->Option Value)(f:String)(d:ku):Prop:=GoodB Γ cds mg f d.ps d.vs fun ck S=>mSs ck d.body S
noncomputable def mT (ck:Ck)(d:DV.Tf)(S:List Stmt):Bool:=match S with
 | .Try tb [.ExceptHandler (some (.Name x _)) (some nm) (b::su) _] [] [] _::rest=>mSs ck d.body tb&&(mX ck d.xb tb&&(noR d.xb&&(decide (x=(d.c:Str))&&(ck.gl x&&(decide (ck.N[d.i]?=some nm)&&((ck.sc.names.lookup nm==some .local)&&(!(nm==("__debug__":Str))&&(!(nm==("__classdict__":Str))&&(mHd ck nm d.h (b::su)&&mSs ck d.tl rest)))))))))
 | _=>false
structure PrOk (Γ:Gm)(cds:List (Addr×Addr))(P:jJ)(mg:Str->Option Value):Prop where
 df:∀ f d,P.df f=some d->Good Γ cds mg f d
 con:∀ x d,P.con x=some d->∃ v u,mg (x:Str)=some u/\RelV v u/\(∀ m,d.bnd m=true)/\∀ φ H,RV Γ φ H d v
 bi:∀ x∈bNames,mg x=none
 fa:∀(f:String) (a:Addr),Γ.fa f=some a->mg (f:Str)=some (.ref a)/\∃ oc od fd sl,Γ.K.lookup a=some ⟨oc,od,.func fd,sl⟩
 lg:∀ id J,Γ.lg id J->∃ L,P.lm id=some L/\LamGood J L
 nd:(Γ.T.map (·.1)).Nodup
 xf:∀ f d,P.xf f=some d->GoodB Γ cds mg f d.ps d.vs fun ck S=>mX ck d.body S
 tf:∀ f d,P.tf f=some d->GoodB Γ cds mg f d.ps d.vs fun ck S=>mT ck d S
 xc:∀ c:String,P.xc c=true->∃ C,mg (c:Str)=some (.ref C)/\ExcCls Γ.K C/\excI Γ.K C=true
 xt:∀ c:String,P.xt c=true->∃ C,mg (c:Str)=some (.ref C)
 xs:∀(c d:String) (C D:Addr),P.xc c=true->P.xt d=true->mg (c:Str)=some (.ref C)->mg (d:Str)=some (.ref D)->bA Γ.K (.ref C) (.ref D)=some (jX c d)
noncomputable def ai9 (Γ : Gm) (prog : Program) (w : World) (mg : Str -> Option Value) (base : Heap) (F : DV.Fns) (n : Nat) : Prop := (∀ f : String, (∀ l s, F.call f l s = .bad) \/
      ∃ a fd ps, FnOk prog w Γ.K mg base CX0 n a fd ps (spV Γ (F.call f)) /\ mg (f : Str) = some (.ref a) /\ bN Γ.K (.ref a) = true /\ Binds Γ.K fd ps []) /\
  ∀(id : String) (J : LamI) (f : Addr) (cap : List V) (clos : List (Str × Addr)), Γ.lg id J -> cap.length = J.fr.length -> ClOk prog w Γ.K mg base n (fun H => CloAt H f J cap clos) f (spL Γ (F.lam id) cap)
theorem ap5 {φ:Nat->Addr}{H:Hp}{n k:Nat}{N:List Str}{l:List jy}{vs:List V}(r:RVL Γ φ H l vs)(b:jz n l=true)(hN:N.length=l.length+k):RE Γ φ H n (l.map some++av k none) (ae9 N vs):=by
 have hl:=r.length
 refine⟨?_,fun i d e=>?_⟩
 ·unfold ae9;simp[hl,hN]
 ·by_cases hi:i<l.length
  ·rw[aL (by simpa using hi),aE]at e
   have e':l[i]?=some d:=by
    rw[aj hi]at e ⊢
    exact az e
   obtain⟨v,e1,e2⟩:=r.get e'
   refine⟨ai4 b e',v,?_,e2⟩
   unfold ae9
   rw[aL (by rw[aM,hl];exact hi),aE,e1];rfl
  ·rw[aI (by simpa using il hi)]at e
   rw[eQ]at e
   split at e<;>cases e
theorem aR3 {cds:List (Addr×Addr)}{P:jJ}{prog:aC}{w:World}{mg:Str->Option Value}{base:Heap}(hP:PrOk Γ cds P mg)(hb:∀ y∈cds,bt base y.1 y.2/\BM mg base)(n:Nat)(hcall:ai9 Γ prog w mg base (jF P n) (n+31))
  {f:String} {st:Stmt} {N ps:List Str} {a:Addr} {fd:bw} {lk:String->List Nat->Expr->Bool} (hS:FnScope N ps (defScope st)) (hL:bn2 Γ cds (f:Str) (defScope st) N fd lk) (cdv:Value) (hcd:∀ id caps E,lk id caps E=true->fd.code=cdv) (A:aO) (outer:List Env) (sh:ae) (H:Hp) (E:XK) (hr:Room (n+31) (A.deeper (dL (f:Str) (defScope st) sh.heap.objs.size a cdv))) :
  CG Γ (jF P n) (n+31) (aq4 CX0 prog w Γ.K mg base N (f:Str) (defScope st) a cdv A outer sh H E).nox ⟨N,defScope st,lk⟩:=by
 refine⟨rfl,rfl,hS.nd,rfl,rfl,?_,hr,fun x k e=>.inl e,fun _ _=>rfl,hP.bi,hcall.1,?_,fun id caps E' hlk=>?_,hcall.2,hP.fa,DV.ad2 P n⟩
 ·show jN+1<=n+31
  unfold jN;omega
 ·have:(jF P n).con=P.con:=by cases n<;>rfl
  rw[this];exact hP.con
 ·obtain⟨c,Pa,params,body,scope,pos,J,eE,L⟩:=hL id caps E' hlk
  obtain⟨hb1,hb2⟩:=hb _ L.cd
  refine⟨c,Pa,params,body,scope,pos,J,eE,⟨?_,hb1,hb2,L.ck,L.df _,L.lg,L.q,L.p,L.b,L.s,L.len,L.at_,L.fr,fun x hx=>?_,L.tab,hP.nd,fun _=>rfl,fun x c hx=>?_⟩⟩
  ·show cdv=.ref c
   rw[<-hcd id caps E' hlk];exact L.code
  ·exact zX (L.fre x hx)
  ·rcases zC (ay hx)with z|z
   ·exact .inl (L.cel (x,.cell) z rfl)
   ·exact absurd z (by simp)
theorem bv7 {cds:List (Addr×Addr)}{P:jJ}{prog:aC}{w:World}{mg:Str->Option Value}{base:Heap}(hP:PrOk Γ cds P mg)(hb:∀ y∈cds,bt base y.1 y.2/\BM mg base)(n:Nat)(hcall:ai9 Γ prog w mg base (jF P n) (n+31))
  {f:String} {d:ku} (e:P.df f=some d) {st:Stmt} {N ps:List Str} {a:Addr} {fd:bw} {lk:String->List Nat->Expr->Bool} (hD:DefAt Γ.K mg (f:Str) st ps a fd) (hS:FnScope N ps (defScope st)) (h1:ps.length=d.ps) (h2:N.length=d.ps+d.vs) (hm:mSs ⟨N,defScope st,lk⟩ d.body (zA st)=true) (hL:bn2 Γ cds (f:Str) (defScope st) N fd lk) :
  FnOk prog w Γ.K mg base CX0 (n+1+31) a fd ps (spV Γ ((jF P (n+1)).call f)):=by
 have hlen:∀ vs H Q E,spV Γ ((jF P (n+1)).call f) vs H Q E->vs.length=ps.length:=fun vs H Q E q=>by
  obtain⟨φ,s,l,d',s',R,r,b,hc,k⟩:=q
  simp only[jF,e]at hc
  split at hc
  ·rw[r.length,h1];assumption
  ·exact fb hc
 have body:∀(cdv:Value),(∀ id caps E,lk id caps E=true->fd.code=cdv)->∀(A:aO) (outer:List Env) (sh:ae) (H:Hp) (vs:List V) (Q:VK) (E:XK),Room (n+31) (A.deeper (dL (f:Str) (defScope st) sh.heap.objs.size a cdv))->spV Γ ((jF P (n+1)).call f) vs H Q E ->
   ∃ t,PSs (aq4 CX0 prog w Γ.K mg base N (f:Str) (defScope st) a cdv A outer sh H E).nox (zA st) t/\t { nx:=fun _ H'=>Q .non H',rt:=Q } (ae9 N vs) H:=by
  intro cdv hcd A outer sh H vs Q E hr q
  have G:=aR3 hP hb n hcall hS hL (a:=a) cdv hcd A outer sh H E hr
  refine⟨_,sSs d.body (zA st) _ ⟨N,defScope st,lk⟩ G hm,?_⟩
  obtain⟨φ,s,l,d',s',R,r,b,hc,k⟩:=q
  simp only[jF,e]at hc
  split at hc
  case isFalse=>exact fb hc
  rename_i hlen
  obtain⟨c,s1,e1,hc⟩:=aa0 hc
  refine⟨φ,l.map some++av d.vs none,s,c,s1,ap5 r b (by rw[h2,hlen]),R,e1,fun φ1 H1 g1 l1 R1=>?_⟩
  cases c with
  | ret v0 =>
   intro v hb rv
   obtain⟨φ',g',l',b',r',R'⟩:=qA R g1 R1 hb rv hc
   exact k v φ' H1 g' l' b' r' R'
  | next ρ =>
   intro σ' _
   obtain⟨φ',g',l',b',r',R'⟩:=qA (v0:=.non) R g1 R1 rfl RV.nonI hc
   exact k .non φ' H1 g' l' b' r' R'
  | cont ρ=>exact fb hc
  | brk ρ=>exact fb hc
 by_cases hl:∃ id caps E,lk id caps E=true
 ·obtain⟨id,caps,E,hlk⟩:=hl
  obtain⟨c,Pa,params,body',scope,pos,J,eE,L⟩:=hL id caps E hlk
  exact hD.fn.okC L.code hS hlen (body _ fun _ _ _ _=>L.code)
 ·exact hD.fn.ok hS hlen (fun cdv=>body cdv fun id caps E h=>absurd ⟨id,caps,E,h⟩ hl)
theorem Fun.okX {CX:CXT}{P:aC}{w:World}{K:ac}{mg:Str->Option Value}{base:Heap}{x qual:Str}{st:Stmt}{f:Addr}{fd:bw}{N ps:List Str}{k:Nat}{sp:Sp}(F:Fun K x qual st f fd)(S:FnScope N ps (defScope st))(len:∀ vs H Q E,sp vs H Q E->vs.length=ps.length)
  (hbody:∀(cdv:Value),fd.code=cdv->∀(A:aO) (outer:List Env) (s:ae) (H:Hp) (vs:List V) (Q:VK) (E:XK),Room k (A.deeper (dL qual (defScope st) s.heap.objs.size f cdv))->sp vs H Q E ->
   ∃ t,PSs (aq4 CX P w K mg base N qual (defScope st) f cdv A outer s H E) (zA st) t/\t { nx:=fun _ H'=>Q .non H',rt:=Q } (ae9 N vs) H):FnOk P w K mg base CX (k+1) f fd ps sp:=by
 obtain⟨oc,od,kV,doc,pm,an,cdv,ct,osl,rfl,lk,hc⟩:=F.ex
 exact bl8 lk hc S len fun A outer s H vs Q E hr hsp=>hbody cdv rfl A outer s H vs Q E hr hsp
theorem bG1 {cds:List (Addr×Addr)}{P:jJ}{mg:Str->Option Value}(hP:PrOk Γ cds P mg)(n:Nat):XC (jF P n) Γ.K mg:=by
 have e:(jF P n).xc=P.xc:=by cases n<;>rfl
 have e':(jF P n).xt=P.xt:=by cases n<;>rfl
 exact⟨fun c h=>hP.xc c (by rw[e]at h;exact h),fun c h=>hP.xt c (by rw[e']at h;exact h),fun c d C D h1 h2=>hP.xs c d C D (by rw[e]at h1;exact h1) (by rw[e']at h2;exact h2)⟩
theorem bE8 {cds:List (Addr×Addr)}{P:jJ}{prog:aC}{w:World}{mg:Str->Option Value}{base:Heap}(hP:PrOk Γ cds P mg)(hb:∀ y∈cds,bt base y.1 y.2/\BM mg base)(n:Nat)(hcall:ai9 Γ prog w mg base (jF P n) (n+31))(XO:XOk Γ prog w Γ.K mg base (jF P n) (n+31))
  {f:String} {d:DV.Xf} (e:P.xf f=some d) {st:Stmt} {N ps:List Str} {a:Addr} {fd:bw} {lk:String->List Nat->Expr->Bool} (hD:DefAt Γ.K mg (f:Str) st ps a fd) (hS:FnScope N ps (defScope st)) (h1:ps.length=d.ps) (h2:N.length=d.ps+d.vs) (hm:mX ⟨N,defScope st,lk⟩ d.body (zA st)=true) (hL:bn2 Γ cds (f:Str) (defScope st) N fd lk) :
  FnOk prog w Γ.K mg base (CX1 prog w) (n+1+31) a fd ps (spX Γ mg ((jF P (n+1)).xcall f)):=by
 refine hD.fn.okX hS (fun vs H Q E q=>?_) fun cdv hcd A outer sh H vs Q E hr q=>?_
 ·obtain⟨φ,s,l,c,s',R,r,b,hc,k⟩:=q
  simp only[jF,e]at hc
  split at hc
  ·rw[r.length,h1];assumption
  ·cases hc
 ·have G:=aR3 hP hb n hcall hS hL (a:=a) cdv (fun _ _ _ _=>hcd) A outer sh H E hr
  obtain⟨φ,s,l,c,s',R,r,b,hc,k⟩:=q
  simp only[jF,e]at hc
  split at hc
  case isFalse=>cases hc
  rename_i hlen
  exact⟨_,aN4 (X:=aq4 (CX1 prog w) prog w Γ.K mg base N (f:Str) (defScope st) a cdv A outer sh H E) G (bG1 hP n) XO bK6 d.body (zA st) (.inr bO8) hm,φ,l.map some++av d.vs none,s,c,s',ap5 r b (by rw[h2,hlen]),R,hc,k⟩
theorem bz1 {cds : List (Addr × Addr)} {P : DV.Pr} {prog : Program} {w : World} {mg : Str -> Option Value} {base : Heap} (hP : PrOk Γ cds P mg) (hb : ∀ y ∈ cds, PySem.W.CodeHd base y.1 y.2 /\ BM mg base) (n : Nat) (hcall : ai9 Γ prog w mg base (DV.aa1 P n) (n + 31)) (XO : XOk Γ prog w Γ.K mg base (DV.aa1 P n) (n + 31))
    {f : String} {d : DV.Tf} (e0 : P.df f = none) (e : P.tf f = some d) {st : Stmt} {N ps : List Str} {a : Addr} {fd : bw} {lk : String -> List Nat -> Expr -> Bool} (hD : DefAt Γ.K mg (f : Str) st ps a fd) (hS : FnScope N ps (defScope st)) (h1 : ps.length = d.ps) (h2 : N.length = d.ps + d.vs) (hm : mT ⟨N, defScope st, lk⟩ d (zA st) = true) (hL : bn2 Γ cds (f : Str) (defScope st) N fd lk) :
    FnOk prog w Γ.K mg base CX0 (n + 1 + 31) a fd ps (spV Γ ((jF P (n + 1)).call f)) := by
  refine hD.fn.okX hS (fun vs H Q E q => ?_) fun cdv hcd A outer sh H vs Q E hr q => ?_
  · obtain⟨φ, s, l, d', s', R, r, b, hc, k⟩ := q
    simp only[jF, e0, e]at hc
    split at hc
    · rw[r.length, h1]; assumption
    · exact fb hc
  have G := aR3 hP hb n hcall hS hL (a := a) cdv (fun _ _ _ _ => hcd) A outer sh H E hr
  have xc := bG1 hP n
  obtain⟨φ, s, l, d', s', R, r, b, hc, k⟩ := q
  simp only[jF, e0, e]at hc
  split at hc
  case isFalse => exact fb hc
  rename_i hlen
  have E0 := ap5 r b (k := d.vs) (N := N) (by rw[h2, hlen])
  unfold mT at hm
  split at hm
  case h_2 => exact ff hm
  rename_i tb x np nm b0 su hp tp rest eb
  rw[eb]
  obtain⟨m1, hm⟩ := zg hm
  obtain⟨m2, hm⟩ := zg hm
  obtain⟨m3, hm⟩ := zg hm
  obtain⟨m4, hm⟩ := zg hm
  obtain⟨m5, hm⟩ := zg hm
  obtain⟨m6, hm⟩ := zg hm
  obtain⟨m7, hm⟩ := zg hm
  obtain⟨m8, hm⟩ := zg hm
  obtain⟨m9, hm⟩ := zg hm
  obtain⟨m10, m11⟩ := zg hm
  have ex := of_decide_eq_true m4
  have ei := of_decide_eq_true m6
  subst ex
  unfold DV.bc1 at hc
  split at hc
  · rename_i c s1 hx
    split at hc
    case isFalse => exact fb hc
    rename_i hcond
    obtain⟨rfl, hxc, hok⟩ := hcond
    obtain⟨C, hC, hE, hI⟩ := xc.at_ _ hxc
    obtain⟨g1, g2, g3⟩ := G.gl m5
    have hloc : (defScope st).names.lookup nm = some .local := eq_of_beq m7
    have hd1 : (nm == ("__debug__" : Str)) = false := by simpa using m8
    have hd2 : (nm == ("__classdict__" : Str)) = false := by simpa using m9
    have kx : ∀ a', dg Γ.K (.ref a') (.ref C) (fun h => XAt h a' C) := fun a' => bj0 hE hI
    refine⟨_, (zO (bk7 (X := (aq4 CX0 prog w Γ.K mg base N (f : Str) (defScope st) a cdv A outer sh H E).nox) (Γ := Γ) (C := C) (m := kD (jF P n) d.xb) (b := d.h.val d.c) (i := d.i) rfl rfl rfl hE g1 hC g2 hS.nd ei hloc (fun pn W E1 hpas => ?_) fun a' oe hcl => bv9 G xc hxc hC (kx a') hcl ei (.inl hloc) hd1 hd2 m10 hok) af2).nox, ?_⟩
    · have G' : CG Γ (DV.aa1 P n) (n + 31) ({ (aq4 CX0 prog w Γ.K mg base N (f : Str) (defScope st) a cdv A outer sh H E).nox with pn := pn, xe := W } : Cx).nox ⟨N, defScope st, lk⟩ := ⟨G.K, G.N, G.nd, rfl, G.calm, G.deep, G.room, G.sc, G.fn, G.bi, G.call, G.con, fun id caps E' hlk => by
          obtain⟨c, Pa, params, body, scope, pos, J, eE, L⟩ := G.lam id caps E' hlk
          exact⟨c, Pa, params, body, scope, pos, J, eE, ⟨L.code, L.hd, L.bm, L.ck, L.df, L.lg, L.q, L.p, L.b, L.s, L.len, L.at_, L.fr, L.cl, L.tab, L.nd, L.fn, L.kd⟩⟩, G.cl, G.fa, G.fk⟩
      exact aN4 (X := { (aq4 CX0 prog w Γ.K mg base N (f : Str) (defScope st) a cdv A outer sh H E).nox with pn := pn, xe := W }) G' xc XO hpas d.xb tb (.inl m3) m2
    · refine⟨φ, l.map some ++ av d.vs none, s, d.c, s1, E0, R, hx, fun φ' H' a' C' g' l' R' hC' => ?_⟩
      have hC' : mg (d.c : Str) = some (.ref C') := hC'
      rw[hC]at hC'
      cases hC'
      refine⟨rfl, fun H'' same => ?_⟩
      obtain⟨gs, Rs⟩ := R'.same same
      obtain⟨φ2, g2', l2, b2, r2, R2⟩ := qA (v0 := .bl (d.h.val d.c)) R (g'.trans gs l') Rs rfl RV.blI hc
      exact k _ φ2 H'' g2' l2 b2 r2 R2
  · rename_i hx
    refine⟨_, (zO (bo7 (X := (aq4 CX0 prog w Γ.K mg base N (f : Str) (defScope st) a cdv A outer sh H E).nox) rfl (sSs d.body tb _ ⟨N, defScope st, lk⟩ G m1)) (sSs d.tl rest _ ⟨N, defScope st, lk⟩ G m11)).nox, ?_⟩
    obtain⟨c, s1, e1, hc⟩ := aa0 hc
    refine⟨φ, l.map some ++ av d.vs none, s, c, s1, E0, R, e1, fun φ1 H1 g1 l1 R1 => ?_⟩
    cases c with
    | ret v0 =>
      intro v hb rv
      obtain⟨φ', g', l', b', r', R'⟩ := qA R g1 R1 hb rv hc
      exact k v φ' H1 g' l' b' r' R'
    | next ρ =>
      intro σ' E1
      obtain⟨c, s2, e2, hc⟩ := aa0 hc
      refine⟨φ1, ρ, s1, c, s2, E1, R1, e2, fun φ2 H2 g2 l2 R2 => ?_⟩
      cases c with
      | ret v0 =>
        intro v hb rv
        obtain⟨φ', g', l', b', r', R'⟩ := qA R (g1.trans g2 l1) R2 hb rv hc
        exact k v φ' H2 g' l' b' r' R'
      | next ρ =>
        intro σ' _
        obtain⟨φ', g', l', b', r', R'⟩ := qA (v0 := .non) R (g1.trans g2 l1) R2 rfl RV.nonI hc
        exact k .non φ' H2 g' l' b' r' R'
      | cont ρ => exact fb hc
      | brk ρ => exact fb hc
    | cont ρ => exact fb hc
    | brk ρ => exact fb hc
theorem bi4 {cds:List (Addr×Addr)}{P:jJ}{prog:aC}{w:World}{mg:Str->Option Value}{base:Heap}(hP:PrOk Γ cds P mg)(n:Nat)(hcall:ai9 Γ prog w mg base (jF P n) (n+31))
  (id:String) (J:LamI) (f:Addr) (cap:List V) (clos:List (Str×Addr)) (hlg:Γ.lg id J) (hcap:cap.length=J.fr.length) :
  ClOk prog w Γ.K mg base (n+1+31) (fun H=>CloAt H f J cap clos) f (spL Γ ((jF P (n+1)).lam id) cap):=by
 obtain⟨L,eL,LG⟩:=hP.lg id J hlg
 have hlen:∀ vs H Q E,spL Γ ((jF P (n+1)).lam id) cap vs H Q E->vs.length=J.ps.length:=fun vs H Q E q=>by
  obtain⟨φ,s,cs,l,d,s',R,r,rc,b,bc,hc,k⟩:=q
  simp only[jF,eL]at hc
  split at hc
  ·rename_i hh;rw[r.length,LG.ps];exact hh.1
  ·exact fb hc
 have main:∀(A:aO) (outer:List Env) (sh:ae) (H:Hp) (cd:Value) (vs:List V) (Q:VK),Room (n+31) (A.deeper (cq J.qual J.scope sh.heap.objs.size f cd (aF (sh.heap.objs.size+1) J.scope.names clos)))->Cells clos H->(∀ b o,Γ.K.lookup b=some o->H b=none)->spL Γ ((jF P (n+1)).lam id) cap vs H Q E0 ->
   ∃ t,PE (av3 prog w Γ.K mg base (J.ps++J.fr) J.qual J.scope f cd clos A outer sh H) J.body t/\t (vs.map some++cap.map some) (ab4 clos H) fun v H'=>(∀ b,isC clos b=true->H' b=none)->Q v (Put clos H H'):=by
  intro A outer sh H cd vs Q hr hcells hK q
  have G:CG Γ (jF P n) (n+31) (av3 prog w Γ.K mg base (J.ps++J.fr) J.qual J.scope f cd clos A outer sh H) (ck0 (J.ps++J.fr) J.scope):=by
   refine⟨rfl,rfl,LG.sc.nd,rfl,rfl,?_,hr,fun x k e=>.inl e,fun x e=>?_,hP.bi,hcall.1,?_,fun _ _ _ h=>(by cases h),hcall.2,hP.fa,DV.ad2 P n⟩
   ·show jN+1<=n+31
    unfold jN;omega
   ·show(J.scope.names.lookup x==some .cell)=true
    rw[show J.scope.names.lookup x=some .cell from e];rfl
   ·have:(jF P n).con=P.con:=by cases n<;>rfl
    rw[this];exact hP.con
  refine⟨_,(sE L.body J.body _ (ck0 (J.ps++J.fr) J.scope) G LG.m).1,?_⟩
  obtain⟨φ,s,cs,l,d,s',R,r,rc,b,bc,hc,k⟩:=q
  simp only[jF,eL]at hc
  split at hc
  case isFalse=>exact fb hc
  rename_i hh
  obtain⟨h1,h2,h3⟩:=hh
  rw[af,af]at h3
  obtain⟨⟨hn1,hn2⟩,hn3⟩:=h3
  obtain⟨v0,s1,e1,hc⟩:=aa0 hc
  have RD:Rp Γ φ (ab4 clos H) s:=R.dropC hcells hn3
  have rall:RVL Γ φ (ab4 clos H) (l++cs) (vs++cap):=(RVL.dropC hcells l vs hn1 r).append (RVL.dropC hcells cs cap hn2 rc)
  refine⟨φ,l.map some++cs.map some,s,v0,s1,⟨by simp[r.length,rc.length],fun i x ei=>?_⟩,RD,e1,fun v φ1 H1 g1 l1 b1 r1 R1 gone=>?_⟩
  ·rw[<-cA,aE]at ei
   have ei':(l++cs)[i]?=some x:=by
    cases q:(l++cs)[i]? with
    | none=>rw[q]at ei;cases ei
    | some y=>rw[q]at ei;cases ei;rfl
   obtain⟨u,e3,e4⟩:=rall.get ei'
   refine⟨ai4 (zU b bc) ei',u,?_,e4⟩
   rw[<-cA,aE,e3];rfl
  ·obtain⟨φ',g',l',b',r',R'⟩:=qA RD g1 R1 b1 r1 hc
   have gp:=Gr.put hcells gone hK R' g'
   obtain⟨gs,Rs⟩:=R'.same (aK6 (H:=H) gone)
   exact k v φ' _ gp l' b' (RV.mono gs d v b' r') Rs
 unfold CloAt
 cases q:J.nm with
 | none=>exact bg4 LG.sc hlen hcap (fun pm c' ctv us hus=>(LG.bind clos .none pm c' ctv us hus).1) (fun A outer sh H cd vs Q hr hat hK q=>by
   obtain⟨pm,c',ctv,_,_,hcells,_⟩:=hat
   exact main A outer sh H cd vs Q hr hcells hK q)
 | some p=>exact bs3 LG.sc hlen hcap (fun doc pm c' ctv us hus=>(LG.bind clos doc pm c' ctv us hus).2 _ _) (fun A outer sh H cd vs Q hr hat hK q=>by
   obtain⟨doc,pm,c',ctv,_,_,hcells,_⟩:=hat
   obtain⟨t,h1,h2⟩:=main A outer sh H cd vs Q hr hcells hK q
   exact⟨_,zO (am3 h1) aj7,h2⟩)
theorem aA2 {cds:List (Addr×Addr)}{P:jJ}{prog:aC}{w:World}{mg:Str->Option Value}{base:Heap}(hP:PrOk Γ cds P mg)(hb:∀ y∈cds,bt base y.1 y.2/\BM mg base):∀ n:Nat,ai9 Γ prog w mg base (jF P n) (n+31)/\XOk Γ prog w Γ.K mg base (jF P n) (n+31)
 | 0=>⟨⟨fun f=>.inl fun l s=>rfl,fun id J f cap clos _ _=>⟨fun A outer s H us vs Q _ _ _ _ q=>by
   obtain⟨φ,s,cs,l,d,s',R,r,rc,b,bc,hc,k⟩:=q
   cases hc⟩⟩,fun f=>.inl fun l s=>rfl⟩
 | n+1=>by
  obtain⟨ih,XO⟩:=aA2 (prog:=prog) (w:=w) (base:=base) hP hb n
  refine⟨⟨fun f=>?_,fun id J f cap clos h1 h2=>bi4 hP n ih id J f cap clos h1 h2⟩,fun f=>?_⟩
  ·cases e:P.df f with
   | none =>
    cases e2:P.tf f with
    | none=>exact .inl fun l s=>by simp only[jF,e,e2]
    | some d =>
     obtain⟨st,N,ps,a,fd,lk,hD,hS,h1,h2,hm,hL⟩:=hP.tf f d e2
     exact .inr ⟨a,fd,ps,bz1 hP hb n ih XO e e2 hD hS h1 h2 hm hL,hD.mg,hD.fn.kp,hD.bi⟩
   | some d =>
    obtain⟨st,N,ps,a,fd,lk,hD,hS,h1,h2,hm,hL⟩:=hP.df f d e
    exact .inr ⟨a,fd,ps,bv7 hP hb n ih e hD hS h1 h2 hm hL,hD.mg,hD.fn.kp,hD.bi⟩
  ·cases e:P.xf f with
   | none=>exact .inl fun l s=>by simp only[jF,e]
   | some d =>
    obtain⟨st,N,ps,a,fd,lk,hD,hS,h1,h2,hm,hL⟩:=hP.xf f d e
    exact .inr ⟨a,fd,ps,bE8 hP hb n ih XO e hD hS h1 h2 hm hL,hD.mg,hD.fn.kp,hD.bi⟩
theorem bk8 {cds:List (Addr×Addr)}{P:jJ}{prog:aC}{w:World}{mg:Str->Option Value}{base:Heap}(hP:PrOk Γ cds P mg)(hb:∀ y∈cds,bt base y.1 y.2/\BM mg base)(n:Nat):ai9 Γ prog w mg base (jF P n) (n+31):=(aA2 hP hb n).1
def spT (Γ:Gm):Sp:=fun vs H Q _=>∃(a:Addr) (ns:List Int),vs=[.ref a]/\SqF Γ.K H a (ns.map V.int)/\ns.length<=63/\TabsH Γ.T H/\∀ H',Q (.bl true) H'
theorem az2 {φ:Nat->Addr}{H:Hp}:∀ ns:List Int,RVL Γ φ H (ns.map DV.D.int) (ns.map V.int)
 | []=>.nil
 | n::ns=>.cons RV.intI (az2 ns)
theorem ar0 {m:Nat}:∀ ns:List Int,jz m (ns.map DV.D.int)=true
 | []=>rfl
 | n::ns=>by rw[aJ];unfold jz;rw[ar0 ns];rfl
theorem bv8 {P:jJ}{k:Nat}(h:∀ ns:List Int,ns.length<=63->∃ s',(jF P k).call "law" [.ref 0] [.ro (ns.map DV.D.int)]=.ok (.bl true) s')(vs:List V)(H:Hp)(Q:VK)(E:XK)(q:spT Γ vs H Q E):spV Γ ((jF P k).call "law") vs H Q E:=by
 obtain⟨a,ns,rfl,hS,hl,hT,hQ⟩:=q
 obtain⟨s',hs⟩:=h ns hl
 refine⟨fun _=>a,[.ro (ns.map DV.D.int)],[.ref 0],.bl true,s',⟨fun i j o o' e e' m m' _=>?_,fun i o e=>?_,fun i o e=>?_,hT⟩,.cons RV.refI .nil,?_,hs,fun v φ' H' g l b r R=>?_⟩
 ·cases i with
  | zero=>cases e;cases m
  | succ i=>cases e
 ·cases i with
  | zero=>cases e;exact⟨_,hS,az2 ns⟩
  | succ i=>cases e
 ·cases i with
  | zero=>cases e;unfold jE;exact ar0 ns
  | succ i=>cases e
 ·unfold jz jC jz;rfl
 ·rw[r.blE];exact hQ H'
theorem aB7 {cds:List (Addr×Addr)}{mg:Str->Option Value}:∀ {tbl:List (String×ku)},(∀ p∈tbl,Good Γ cds mg p.1 p.2)->∀ f d,tbl.lookup f=some d->Good Γ cds mg f d
 | [],_,f,d,h=>by cases h
 | (g,e)::tbl,H,f,d,h=>by
  rw[aX]at h
  cases q:f==g with
  | true =>
   rw[q]at h
   cases h
   rw[eq_of_beq q]
   exact H (g,_) (aq ..)
  | false =>
   rw[q]at h
   exact aB7 (fun p hp=>H p (ah _ hp)) f d h
def bl4 (Γ:Gm)(mg:Str->Option Value)(x:String)(d:jy):Prop:=∃ v u,mg (x:Str)=some u/\RelV v u/\(∀ m,d.bnd m=true)/\∀ φ H,RV Γ φ H d v
theorem aH5 {mg:Str->Option Value}:∀ {tbl:List (String×jy)},(∀ p∈tbl,bl4 Γ mg p.1 p.2)->∀ f d,tbl.lookup f=some d->bl4 Γ mg f d
 | [],_,f,d,h=>by cases h
 | (g,e)::tbl,H,f,d,h=>by
  rw[aX]at h
  cases q:f==g with
  | true =>
   rw[q]at h
   cases h
   rw[eq_of_beq q]
   exact H (g,_) (aq ..)
  | false =>
   rw[q]at h
   exact aH5 (fun p hp=>H p (ah _ hp)) f d h
theorem av9 {mg:Str->Option Value}{x:String}{i:Int}{t:Tok}(h:mg (x:Str)=some (.int i t)):bl4 Γ mg x (.int i):=⟨.int i,_,h,⟨t,rfl⟩,fun _=>rfl,fun _ _=>RV.intI⟩
end
theorem aD5 {P:aC}{w:World}{K:ac}{mg mb:Str->Option Value}{k:Nat}{fa a:Addr}{fd:bw}{x:Str}{sp:Sp}{s₁:ae}{vs:List Value}{ns:List Int}{tabs:List (Addr×Addr)}
  (KX:K.In s₁.heap) (hns:s₁.heap.Ns aU mg) (hb:s₁.heap.Ns fh mb) (hbb:∀ x:Str,x ≠ "__name__"->mb x=bf x) (hlim:s₁.heap.NoLimit) (hg:s₁.gens=#[]) (hBM:BM mg s₁.heap) (hT:i5 tabs s₁.heap) (hnt:i6 K=true)
  (ha:s₁.heap.get? a=some { cls:=.type "list",data:=.seq vs.toArray }) (hi:iL vs ns) (hl:ns.length<=aH) (hr:Room k gk)
  (F:∀ base:Heap,K.In base->base.Ns aU mg->BM mg base->(∀ q∈tabs,bt base q.1 q.2)->FnOk P w K mg base CX0 k fa fd [x] sp) (hbind:∀(s:ae) (u:Value),iK s fd ⟨[u],[]⟩ [(x,u)])
  (hsp:∀ H:Hp,(∀ q∈tabs,H q.2=some (.tbl #[]))->SqL K H a (ns.map V.int)->(∀ u,H a=some u->(∃ o xs,u=.frz o (.lst xs))\/∃ ps,u=.tbl ps)->sp [.ref a] H (fun v _=>v=.bl true) E0) :
  fj (model P w) gk (.call (.ref fa) ⟨[.ref a],[]⟩) (fun r s'=>r=.ok (.ret (.bool true))/\OldK s₁.heap s'.heap/\s'.os=s₁.os/\dQ s'.gens) s₁:=by
 have rv:=au7 hi
 have lenV:=hi.length
 have tabO:∀ b,b∈tabs.map (·.2)->s₁.heap.get? b=some (c9 #[]):=fun b h=>by
  obtain⟨q,hq,rfl⟩:=aG.mp h
  exact(hT q hq).2
 have core:∀ H:Hp,(∀ b u,H b=some u->(b=a/\∃ o xs,u=.frz o (.lst xs))\/(b∈tabs.map (·.2)/\u=.tbl #[]))->(∀ q∈tabs,H q.2=some (.tbl #[]))->SqL K H a (ns.map V.int)->HOk P w H s₁.heap->(H a≠none->K.lookup a=none) ->
   fj (model P w) gk (.call (.ref fa) ⟨[.ref a],[]⟩) (fun r s'=>r=.ok (.ret (.bool true))/\OldK s₁.heap s'.heap/\s'.os=s₁.os/\dQ s'.gens) s₁:=by
  intro H hO hTb hS hok hK
  have un:∀ b o,s₁.heap.get? b=some o->o.cls≠.type "list"->(∀ vs,o.data≠.fields vs)->H b=none:=fun b o e n1 n2=>by
   cases q:H b with
   | none=>rfl
   | some u =>
    rcases hO b u q with⟨z,_⟩|⟨z,_⟩
    ·rw[z,ha]at e;cases e;exact absurd rfl n1
    ·rw[tabO b z]at e;cases e;exact absurd rfl (n2 #[])
  have nsK:∀ {b:Addr} {m:Str->Option Value},s₁.heap.Ns b m->(aS9 s₁.heap H).Ns b m:=fun {b m} ⟨o,es,ep,e,d,r⟩=>by
   refine⟨o,es,ep,ai3 e ?_,d,r⟩
   cases q:H b with
   | none=>rfl
   | some u =>
    rcases hO b u q with⟨z,_⟩|⟨z,_⟩
    ·rw[z,ha]at e;cases e;cases d
    ·rw[tabO b z]at e;cases e;cases d
  have hKb:K.In (aS9 s₁.heap H):=fun b o e=>ai3 (KX b o e) (by
   cases q:H b with
   | none=>rfl
   | some u =>
    rcases hO b u q with⟨z,_⟩|⟨z,_⟩
    ·subst z
     rw[hK (by rw[q];simp)]at e;cases e
    ·have e2:=KX b o e
     rw[tabO b z]at e2
     have h2:=aD.mp hnt (b,o) (PySem.W.mem_of_lookupK e)
     have e3:o=c9 #[]:=(az e2).symm
     subst e3
     exact absurd (show false=true from h2) aP)
  have hM:Mod K mg (aS9 s₁.heap H):=⟨hKb,nsK hns,⟨mb,nsK hb,hbb⟩,let⟨mc,h1,h2⟩:=hlim;⟨mc,nsK h1,h2⟩⟩
  have hB2:BM mg (aS9 s₁.heap H):=by
   obtain⟨bm,ob,b1,b2,b3,b4,b5,b6⟩:=hBM
   exact⟨bm,ob,b1,b2,ai3 b3 (un bm ob b3 (by rw[b4];nofun) (by rw[b6];nofun)),b4,b5,b6⟩
  have hC2:∀ q∈tabs,bt (aS9 s₁.heap H) q.1 q.2:=fun q hq=>by
   obtain⟨o,vs',file,tf,flags,tg,inF,text,tt,e1,r1,r2⟩:=(hT q hq).1
   refine⟨o,vs',file,tf,flags,tg,inF,text,tt,ai3 e1 ?_,r1,r2⟩
   cases q2:H q.1 with
   | none=>rfl
   | some u =>
    rcases hO _ u q2 with⟨z,_⟩|⟨z,_⟩
    ·rw[z,ha]at e1;cases e1;exact absurd r1 (by simp)
    ·rw[tabO _ z]at e1;cases e1;exact absurd r1 (by simp)
  have e0:Env0 P w K mg (aS9 s₁.heap H) gk [] s₁ H:=⟨rfl,hM,fun b o e=>bs0 e,Nat.le_of_eq (aK9 _ _),trivial,fun b hb=>absurd (show b∈([]:List Addr)from hb) (by simp),hok,.of_eq hg⟩
  refine dS ((F _ hKb (nsK hns) hB2 hC2).run gk [] s₁ H ⟨[.ref a],[]⟩ [.ref a] [.ref a] _ _ hr e0 (hbind s₁ (.ref a)) (.cons rfl .nil) (hsp H hTb hS (fun u e=>(hO a u e).elim (fun z=>.inl z.2) (fun z=>.inr ⟨_,z.2⟩)))) fun r s' h=>?_
  cases r with
  | error e=>exact aZ h
  | ok fl =>
   cases fl with
   | next=>exact aZ h
   | brk=>exact aZ h
   | cont=>exact aZ h
   | ret u =>
    obtain⟨v,H',os,bare,un',hok',r',q⟩:=h
    have q':v=.bl true:=q
    subst q'
    obtain rfl:u=Value.bool true:=r'
    have key:∀ b o,s₁.heap.get? b=some o->asItWas s₁.heap s'.heap b o/\∃ o',s'.heap.get? b=some o':=fun b o e=>by
     cases q:H b with
     | none =>
      have z:=un'.keep b o e q (by intro z;exact absurd (show b∈([]:List Addr)from z) (by simp)) (by simp)
      exact⟨.inl z,o,z⟩
     | some u =>
      rcases hO b u q with⟨_,ob,xs,z⟩|⟨z,z2⟩
      ·subst z
       have z2:=un'.frzs b ob _ q
       obtain⟨e1,_⟩:=hok b _ q
       obtain⟨e2,_⟩:=hok' b _ z2
       rw[e]at e1;cases e1
       exact⟨.inl e2,_,e2⟩
      ·subst z2
       obtain⟨more,z3⟩:=un'.tbls b _ q
       have g:s'.heap.get? b=some { cls:=.none,data:=.fields (#[]++more) }:=hok' b _ z3
       have e1:=tabO b z
       rw[e]at e1;cases e1
       obtain⟨p,hp,ep⟩:=aG.mp z
       refine⟨.inr (.inl ⟨?_,rfl,#[],more,rfl,g⟩),_,g⟩
       have t:=((hT p hp).1.tab (hT p hp).2).isCodeTable
       rw[ep]at t
       exact t
    exact⟨rfl,⟨fun b o e=>(key b o e).1,fun b o e=>(key b o e).2⟩,os,bare⟩
 have tbl:∀ b,b∈tabs.map (·.2)->b≠a:=fun b h z=>by
  have e:=tabO b h
  rw[z,ha]at e;cases e
 cases hk:K.lookup a with
 | some o =>
  have e:=KX a o hk
  rw[ha]at e
  cases e
  refine core (fun b=>if b∈tabs.map (·.2)then some (.tbl #[])else none) (fun b u z=>?_) (fun q hq=>if_pos (bn hq)) (.inr ⟨_,vs.toArray,_,hk,rfl,rfl,rfl,by rw[aB,lenV];exact hl,by simpa using rv⟩) (fun b u z=>?_) fun z=>?_
  ·by_cases hb:b∈tabs.map (·.2)
   ·have z':=(if_pos hb).symm.trans z
    cases z'
    exact .inr ⟨hb,rfl⟩
   ·have z':=(if_neg hb).symm.trans z
    cases z'
  ·by_cases hb:b∈tabs.map (·.2)
   ·have z':=(if_pos hb).symm.trans z
    cases z'
    exact tabO b hb
   ·have z':=(if_neg hb).symm.trans z
    cases z'
  ·exact absurd (if_neg fun y=>tbl a y rfl) z
 | none =>
  refine core (fun b=>if b=a then some (.frz { cls:=.type "list",data:=.seq vs.toArray } (.lst (ns.map V.int)))else if b∈tabs.map (·.2)then some (.tbl #[])else none) (fun b u z=>?_) (fun q hq=>?_) (.inl (.inr ⟨{ cls:=.type "list",data:=.seq vs.toArray },if_pos rfl⟩)) (fun b u z=>?_) fun _=>hk
  ·by_cases hb:b=a
   ·have z':=(if_pos hb).symm.trans z
    cases z'
    exact .inl ⟨hb,_,_,rfl⟩
   ·have z':=(if_neg hb).symm.trans z
    by_cases hc:b∈tabs.map (·.2)
    ·rw[if_pos hc]at z';cases z';exact .inr ⟨hc,rfl⟩
    ·rw[if_neg hc]at z';cases z'
  ·have hm:q.2∈tabs.map (·.2):=bn hq
   show(if _ then _ else if _ then _ else _)=_
   rw[if_neg (tbl _ hm),if_pos hm]
  ·by_cases hb:b=a
   ·have z':=(if_pos hb).symm.trans z
    cases z'
    subst hb
    exact⟨ha,by rw[aM];exact hl,vs,_,rv,ha⟩
   ·have z':=(if_neg hb).symm.trans z
    by_cases hc:b∈tabs.map (·.2)
    ·rw[if_pos hc]at z';cases z';exact tabO b hc
    ·rw[if_neg hc]at z';cases z'
theorem aM1 {ts:List Addr}{l:cr}{n k:Nat}{q:aC}{loose:List Str}{XP:(Str->Option Value)->Heap->Prop}{YP:World->Heap->Prop}{d:DefRec}{K:Params->ac}{sp:ac->Sp}{x:Str}(names:List Str)
  (hn:l.most=some n) (hn2:n<=aH) (hdf:d.params.defaults=[]) (hr:Room k gk)
  (hY:∀(w:World) (h:Heap),YP w h->(K w.params).In h/\∀ P∈ts,h.get? P=some (c9 #[])) (hrec:∀ w:World,by4 (K w.params) names ts=true) (hnt:∀ w:World,i6 (K w.params)=true)
  (F:∀(w:World) (mg:Str->Option Value) (fa:Addr) (h:Heap),(K w.params).In h->h.Ns aU mg->mg d.name=some (.ref fa) ->
   ∃ fd:bw,(∀(s:ae) (u:Value),iK s fd ⟨[u],[]⟩ [(x,u)]) /\
    ∀ base:Heap,(K w.params).In base->base.Ns aU mg->BM mg base->bo4 (K w.params) names base->FnOk l.prog w (K w.params) mg base CX0 k fa fd [x] (sp (K w.params)))
  (hsp:∀(K:ac) (H:Hp) (a:Addr) (ns:List Int),ns.length<=n->bi0 K names H->SqL K H a (ns.map V.int)->(∀ u,H a=some u->(∃ o xs,u=.frz o (.lst xs))\/∃ ps,u=.tbl ps)->sp K [.ref a] H (fun v _=>v=.bl true) E0) :
  i8 q loose XP YP l.row.toRowW d [] (fun f vs=>iO f vs):=by
 refine Att.attach_call hn hdf fun w s₀ s₁ mg mb fa o pm cd doc a vs ns G Y ho hd hcd hmg hobj hints hlen hg=>?_
 obtain⟨KX,tsX⟩:=hY w _ Y
 obtain⟨fd,hb,hF⟩:=F w mg fa _ KX G.T.g hmg
 have hT:i5 ((aq7 (K w.params) names).map (·.2)) s₁.heap:=fun p hp=>by
  obtain⟨y,hy,rfl⟩:=aG.mp hp
  obtain⟨h1,h2⟩:=am9.mp hy
  have z:=aD.mp (hrec w) y.1 h1
  rw[h2]at z
  have z':(ip (K w.params) y.2.1 y.2.2&&ts.contains y.2.2)=true:=z
  rw[af]at z'
  exact⟨PySem.W.codeHd_of_K KX z'.1,tsX _ (by simpa using z'.2)⟩
 have hm:∀ x∈names,∀ c P,a8 (K w.params) x=some (c,P)->(c,P)∈(aq7 (K w.params) names).map (·.2):=fun x hx c P e=>aG.mpr ⟨(x,c,P),am9.mpr ⟨hx,e⟩,rfl⟩
 refine aD5 (tabs:=(aq7 (K w.params) names).map (·.2)) KX G.T.g G.T.b G.T.builtins G.T.nolimit hg ?_ hT (hnt w) hobj hints (aw hlen hn2) hr (fun base k1 k2 k3 k4=>hF base k1 k2 k3 fun x hx c P e=>k4 _ (hm x hx c P e)) hb fun H hO hS hF=>hsp (K w.params) H a ns hlen (fun x hx c P e=>hO _ (hm x hx c P e)) hS hF
 obtain⟨bm,ob,h1,h2,h3,h4,h5,h6⟩:=G.T.bmain
 exact⟨bm,ob,h1,h2,h3,h4,h5,h6⟩
def spB (names:List Str)(K:ac):Sp:=fun vs H Q _=>∃(a:Addr) (ns:List Int),vs=[.ref a]/\SqF K H a (ns.map V.int)/\ns.length<=63/\bi0 K names H/\∀ H',Q (.bl true) H'
theorem bD7 {names:List Str}{K:ac}{H:Hp}{a:Addr}{ns:List Int}(hl:ns.length<=63)(hB:bi0 K names H)(hS:SqL K H a (ns.map V.int))(hF:∀ u,H a=some u->(∃ o xs,u=.frz o (.lst xs))\/∃ ps,u=.tbl ps):spB names K [.ref a] H (fun v _=>v=.bl true) E0:=by
 refine⟨a,ns,rfl,⟨hS,fun H' k=>?_⟩,hl,hB,fun _=>rfl⟩
 rcases hS with(h|⟨o,h⟩)|h
 ·rcases hF _ h with⟨_,_,z⟩|⟨_,z⟩<;>cases z
 ·exact .inl (.inr ⟨o,k _ _ h rfl⟩)
 ·exact .inr h
def bV1 (P:jJ):String->LamI->Prop:=fun id J=>∃ L,P.lm id=some L/\LamGood J L
noncomputable def sfx (x:Str):Str:=if x = "letter_table" then "least_fee" else "<lambda>"
noncomputable def bl9 (names:List Str)(K:ac):List (Addr×Str):=names.map fun x=>(((a8 K x).getD (0,0)).2,x ++ ".<locals>."++sfx x)
noncomputable def bi3 (names:List Str)(K:ac):List (Addr×Addr):=names.map fun x=>(a8 K x).getD (0,0)
noncomputable def bK9 (K:ac)(f:String):Option Addr:=match bP K aU (f:Str)with
 | some (some (.ref a))=>(match K.lookup a with
  | some ⟨_,_,.func _,_⟩=>some a
  | _=>none)
 | _=>none
theorem aC7 {K:ac}{f:String}{a:Addr}(h:bK9 K f=some a):bP K aU (f:Str)=some (some (.ref a))/\∃ oc od fd sl,K.lookup a=some ⟨oc,od,.func fd,sl⟩:=by
 unfold bK9 at h
 split at h
 ·rename_i a' e
  split at h
  ·rename_i oc od fd sl e2
   cases h
   exact⟨e,_,_,_,_,e2⟩
  ·cases h
 ·cases h
noncomputable abbrev aS7 (names:List Str)(P:jJ)(K:ac):Gm:=⟨K,bK9 K,bV1 P,bl9 names K⟩
theorem bK5 {names:List Str}{P:jJ}{K:ac}{h:Heap}{mg:Str->Option Value}(X:K.In h)(G:h.Ns aU mg):∀(f:String) (a:Addr),(aS7 names P K).fa f=some a->mg (f:Str)=some (.ref a)/\∃ oc od fd sl,(aS7 names P K).K.lookup a=some ⟨oc,od,.func fd,sl⟩:=fun f a e=>⟨bJ X G (aC7 e).1,(aC7 e).2⟩
theorem aY3 {names:List Str}{P:jJ}{K:ac}(ht:∀ x∈names,(a8 K x).isSome=true){vs:List V}{H:Hp}{Q:VK}{E:XK}(q:spB names K vs H Q E):spT (aS7 names P K) vs H Q E:=by
 obtain⟨a,ns,e,hS,hl,hB,hQ⟩:=q
 refine⟨a,ns,e,hS,hl,TabsH.init fun p hp=>?_,hQ⟩
 simp only[bl9,hZ]at hp
 obtain⟨x,hx,rfl⟩:=aG.mp hp
 exact hB x hx _ _ (ao7 (ht x hx))
theorem bf4 {names:List Str}{K:ac}{mg:Str->Option Value}{base:Heap}(ht:∀ x∈names,(a8 K x).isSome=true)(bm:BM mg base)(hc:bo4 K names base):∀ y∈bi3 names K,bt base y.1 y.2/\BM mg base:=fun y hy=>by
 obtain⟨x,hx,rfl⟩:=aG.mp hy
 exact⟨hc x hx _ _ (ao7 (ht x hx)),bm⟩
noncomputable def ao2:a9->Option (List Str)
 | ⟨[],args,none,[],[],none,[]⟩=>some (args.map (·.arg))
 | _=>none
theorem al0 {p:a9}{ps:List Str}(h:ao2 p=some ps):∃ args,p=⟨[],args,none,[],[],none,[]⟩/\args.map (·.arg)=ps:=by
 unfold ao2 at h
 split at h
 ·exact⟨_,rfl,az h⟩
 ·cases h
def aO2 (ps:List Str):Prop:=∀ params,ao2 params=some ps->∀(qual:Str) (body:Expr) (scope:Scope) (clos:List (Str×Addr)) (doc pm:Value) (c':Addr) (ctv:Value) (us:List Value),us.length=ps.length->dC (bI "<lambda>" qual params body scope clos pm (.ref c') ctv) ⟨us,[]⟩=pure (ps.zip us) /\
 ∀(nm:Str) (rp:Pos),dC (bS nm qual params [.Return (some body) rp] scope clos .none .none doc pm none (.ref c') ctv) ⟨us,[]⟩=pure (ps.zip us)
noncomputable def aQ9 (ps fr:List Str)(sc:Scope):Bool:=decide (sc.kind=.function)&&!sc.isCoroutine&&!sc.isGenerator&&decide ((ps++fr).Nodup)&&(ps.all fun x=>decide (sc.names.lookup x=some .local)||decide (sc.names.lookup x=some .cell))&&(fr.all fun x=>decide (sc.names.lookup x=some .free))&&(sc.names.all fun y=>!decide (y.2=.cell)||decide (sc.names.lookup y.1=some .cell))
theorem aN1 {ps fr:List Str}{sc:Scope}(h:aQ9 ps fr sc=true):LamScope (ps++fr) ps fr sc:=by
 unfold aQ9 at h
 simp only[af,decide_eq_true_eq,de,aD,bK]at h
 obtain⟨⟨⟨⟨⟨⟨h1,h2⟩,h3⟩,h4⟩,h5⟩,h6⟩,h7⟩:=h
 exact⟨h1,h2,h3,h4,rfl,h5,h6,fun y hy e=>by
  rcases h7 y hy with z|z
  ·rw[e]at z;simp at z
  ·exact z⟩
noncomputable def bw0 (scope sc:Scope):Bool:=scope.names.all fun y=>!decide (scope.names.lookup y.1=some .free)||decide (sc.names.lookup y.1=some .cell)
theorem ba2 {scope sc:Scope}(h:bw0 scope sc=true):∀ x,scope.names.lookup x=some .free->sc.names.lookup x=some .cell:=fun x hx=>by
 have:=aD.mp h (x,.free) (ay hx)
 simp only[bK,de,decide_eq_false_iff_not,decide_eq_true_eq]at this
 rcases this with z|z
 ·exact absurd hx z
 ·exact z
noncomputable def lkB (sc:Scope)(N:List Str)(caps:List Nat)(params:a9)(body:Expr)(scope:Scope)(t:kt×List Str×List Str):Bool :=
 decide (ao2 params=some t.2.1)&&decide (caps.map (fun j=>N[j]?)=t.2.2.map some)&&lamCheck scope sc&&bw0 scope sc&&aQ9 t.2.1 t.2.2 scope&&decide (t.2.1.length=t.1.ps)&&decide (t.2.2.length=t.1.cs)&&mE (ck0 (t.2.1++t.2.2) scope) t.1.body body
noncomputable def lkG (f:Str)(sc:Scope)(N:List Str)(tab:List (String×kt×List Str×List Str))(id:String)(caps:List Nat)(E:Expr):Bool:=match tab.lookup id,E with
 | some t,.Lambda params body scope _=>decide (sfx f = "<lambda>")&&lkB sc N caps params body scope t
 | some t,.NamedExpr (.Name nm _) (.Lambda params body scope p1) p2=>decide (sfx f=nm)&&decide (p1=p2)&&lkB sc N caps params body scope t
 | _,_=>false
theorem bt4 {names:List Str}{P:jJ}{K:ac}{f:Str}{sc:Scope}{N:List Str}{fd:bw}{tab:List (String×kt×List Str×List Str)}(hf:f∈names)(hcode:fd.code=.ref ((a8 K f).getD (0,0)).1)(hcel:∀ y∈sc.names,y.2=.cell->sc.names.lookup y.1=some .cell)
  (htab:∀ id t,tab.lookup id=some t->P.lm id=some t.1/\aO2 t.2.1):bn2 (aS7 names P K) (bi3 names K) f sc N fd (lkG f sc N tab):=by
 intro id caps E h
 have core:∀(t:kt×List Str×List Str) (params:a9) (body:Expr) (scope:Scope) (nm:Option (Str×Pos)),tab.lookup id=some t->lkB sc N caps params body scope t=true->(match nm with|none => "<lambda>" | some p=>p.1)=sfx f ->
   LkAt (aS7 names P K) (bi3 names K) f sc N fd id caps params body scope ((a8 K f).getD (0,0)).1 ((a8 K f).getD (0,0)).2 ⟨f ++ ".<locals>."++sfx f,params,body,scope,t.2.1,t.2.2,nm⟩:=fun t params body scope nm e h hs=>by
  obtain⟨L,ps,fr⟩:=t
  unfold lkB at h
  simp only[af,decide_eq_true_eq]at h
  obtain⟨⟨⟨⟨⟨⟨⟨h1,h2⟩,h3⟩,h4⟩,h5⟩,h6⟩,h7⟩,h8⟩:=h
  obtain⟨hL,hB⟩:=htab id _ e
  obtain⟨args,rfl,hargs⟩:=al0 h1
  have hlen:fr.length=caps.length:=by have:=congrArg fU h2;simpa using this.symm
  have S:=aN1 h5
  refine⟨hcode,aG.mpr ⟨f,hf,rfl⟩,h3,ba2 h4,hcel,fun env=>rfl,⟨L,hL,⟨S,h6,h7,h8,fun clos doc pm c' ctv us hus=>hB _ h1 _ _ _ _ _ _ _ _ _ hus⟩⟩,?_,rfl,rfl,rfl,hlen,fun i j x e1 e2=>?_,S.frs,aG.mpr ⟨f,hf,rfl⟩⟩
  ·show f ++ ".<locals>."++sfx f=f ++ ".<locals>."++LamI.own _
   unfold LamI.own
   rw[<-hs]<;>rfl
  ·have e3:(caps.map (fun j=>N[j]?))[i]?=some (N[j]?):=by rw[aE,e1];rfl
   rw[h2,aE,e2]at e3
   exact(az e3).symm
 unfold lkG at h
 split at h
 case h_3=>cases h
 ·rename_i t params body scope pos e
  rw[af]at h
  exact⟨_,_,params,body,scope,pos,_,rfl,core t params body scope none e h.2 (of_decide_eq_true h.1).symm⟩
 ·rename_i t nm rp params body scope p1 p2 e
  rw[af,af]at h
  have ep:=of_decide_eq_true h.1.2
  subst ep
  exact⟨_,_,params,body,scope,p1,_,rfl,core t params body scope (some (nm,rp)) e h.2 (of_decide_eq_true h.1.1).symm⟩
theorem aJ2 {names:List Str}{P:jJ}{K:ac}{f:Str}{sc:Scope}{N:List Str}{fd:bw}:bn2 (aS7 names P K) (bi3 names K) f sc N fd (fun _ _ _=>false):=fun _ _ _ h=>by cases h
theorem bJ0 {names:List Str}{P:jJ}{K:ac}:∀ id J,(aS7 names P K).lg id J->∃ L,P.lm id=some L/\LamGood J L:=fun _ _ h=>h
theorem bO2 {P:jJ}{tab:List (String×kt×List Str×List Str)}(h:∀ p∈tab,P.lm p.1=some p.2.1/\aO2 p.2.2.1):∀ id t,tab.lookup id=some t->P.lm id=some t.1/\aO2 t.2.1:=by
 induction tab with
 | nil=>intro id t e;cases e
 | cons y l ih =>
  intro id t e
  rw[aX]at e
  cases q:id==y.1 with
  | true =>
   rw[q]at e
   cases e
   rw[eq_of_beq q]
   exact h y (aq ..)
  | false =>
   rw[q]at e
   exact ih (fun p hp=>h p (ah _ hp)) id t e
def bI2 (K:ac)(n:Str)(st:Stmt):Prop:=∃(f:Addr) (od an:Option Addr) (sl:Array (Option Value)) (oc kV dc pm cd ct:Value),bP K aU n=some (some (.ref f)) /\
 K.lookup f=some ⟨oc,od,.func (cj n n (defArgs st) (zA st) (defScope st) .none kV dc pm an cd ct),sl⟩/\d3 K cd n=true/\bN K (.ref f)=true
def bQ5 (n:Str)(st:Stmt)(ps:List Str):Prop:=∀(kV doc pm:Value) (an:Option Addr) (cdv ct:Value) (us:List Value),us.length=ps.length->dC (cj n n (defArgs st) (zA st) (defScope st) .none kV doc pm an cdv ct) ⟨us,[]⟩=pure (ps.zip us)
theorem bd0 {Q:List Value->Prop}(h:Q [])(us:List Value)(hl:us.length=0):Q us:=by
 cases us with
 | nil=>exact h
 | cons _ _=>cases hl
theorem bdS {k:Nat}{Q:List Value->Prop}(h:∀ a us,us.length=k->Q (a::us))(us:List Value)(hl:us.length=k+1):Q us:=by
 cases us with
 | nil=>cases hl
 | cons a us=>exact h a us (Nat.succ.inj hl)
theorem bd1 {Q:List Value->Prop}(h:∀ a,Q [a]):∀ us:List Value,us.length=1->Q us:=bdS fun a=>bd0 (h a)
theorem bd2 {Q:List Value->Prop}(h:∀ a b,Q [a,b]):∀ us:List Value,us.length=2->Q us:=bdS fun a=>bd1 (h a)
def DTB (names:List Str)(P:jJ)(n:String)(pc vc:Nat)(m:Ck->List Stmt->Bool)(st:Stmt):Prop:=∃ N ps,FnScope N ps (defScope st)/\ps.length=pc/\N.length=pc+vc/\bQ5 n st ps/\(m ⟨N,defScope st,fun _ _ _=>false⟩ (zA st)=true \/
 ((n:Str)∈names/\∃ tab,m ⟨N,defScope st,lkG n (defScope st) N tab⟩ (zA st)=true/\(∀ y∈(defScope st).names,y.2=.cell->(defScope st).names.lookup y.1=some .cell)/\∀ p∈tab,P.lm p.1=some p.2.1/\aO2 p.2.2.1))
def DT (names:List Str)(P:jJ)(n:String)(d:ku)(st:Stmt):Prop:=DTB names P n d.ps d.vs (fun ck S=>mSs ck d.body S) st
theorem aq1 {names:List Str}{P:jJ}{K:ac}{h:Heap}{mg:Str->Option Value}{n:String}{pc vc:Nat}{m:Ck->List Stmt->Bool}{st:Stmt}(X:K.In h)(G:h.Ns aU mg)(hT:∀ x∈names,(a8 K x).isSome=true)(hD:bI2 K n st)(hd:DTB names P n pc vc m st):GoodB (aS7 names P K) (bi3 names K) mg n pc vc m:=by
 obtain⟨f,od,an,sl,oc,kV,dc,pm,cd,ct,a,l,c,k⟩:=hD
 obtain⟨N,ps,h1,h2,h3,h4,h5⟩:=hd
 have F:=be3 (st:=st) l c k
 have D:DefAt K mg n st ps f _:=⟨F,bJ X G a,F.binds h4⟩
 rcases h5 with h5|⟨hn,tab,h5,h6,h7⟩
 ·exact⟨_,_,_,_,_,_,D,h1,h2,h3,h5,aJ2⟩
 ·exact⟨_,_,_,_,_,_,D,h1,h2,h3,h5,bt4 hn (PySem.W.law_code X G (ao7 (hT _ hn)) (bJ X G a) (X _ _ l) rfl) h6 (bO2 h7)⟩
theorem good_of {names:List Str}{P:jJ}{K:ac}{h:Heap}{mg:Str->Option Value}{n:String}{d:ku}{st:Stmt}(X:K.In h)(G:h.Ns aU mg)(hT:∀ x∈names,(a8 K x).isSome=true)(hD:bI2 K n st)(hd:DT names P n d st):Good (aS7 names P K) (bi3 names K) mg n d:=aq1 X G hT hD hd
theorem aw2 {α:Type}{Q:String->α->Prop}:∀ {tbl:List (String×α)},(∀ p∈tbl,Q p.1 p.2)->∀ f d,tbl.lookup f=some d->Q f d
 | [],_,f,d,h=>by cases h
 | (g,e)::tbl,H,f,d,h=>by
  rw[aX]at h
  cases q:f==g with
  | true =>
   rw[q]at h
   cases h
   rw[eq_of_beq q]
   exact H (g,_) (aq ..)
  | false =>
   rw[q]at h
   exact aw2 (fun p hp=>H p (ah _ hp)) f d h
noncomputable def bQ2 (K:ac)(c:String):Bool:=match bP K aU (c:Str)with|some (some (.ref C))=>bO6 K C&&excI K C|_=>false
noncomputable def bQ1 (K:ac)(c:String):Bool:=match bP K aU (c:Str)with|some (some (.ref _))=>true|_=>false
noncomputable def bT8 (K:ac)(c d:String):Bool:=match bP K aU (c:Str),bP K aU (d:Str)with|some (some (.ref C)),some (some (.ref D))=>bA K (.ref C) (.ref D)==some (jX c d)|_,_=>false
noncomputable def bj3 (K:ac)(cs ts:List String):Bool:=cs.all (bQ2 K)&&(ts.all (bQ1 K)&&cs.all fun c=>ts.all fun d=>bT8 K c d)
theorem aJ1 {K:ac}{h:Heap}{mg:Str->Option Value}{cs ts:List String}(X:K.In h)(G:h.Ns aU mg)(hx:bj3 K cs ts=true) :
  (∀ c:String,cs.contains c=true->∃ C,mg (c:Str)=some (.ref C)/\ExcCls K C/\excI K C=true)/\(∀ c:String,ts.contains c=true->∃ C,mg (c:Str)=some (.ref C)) /\
  ∀(c d:String) (C D:Addr),cs.contains c=true->ts.contains d=true->mg (c:Str)=some (.ref C)->mg (d:Str)=some (.ref D)->bA K (.ref C) (.ref D)=some (jX c d):=by
 unfold bj3 at hx
 simp only[af]at hx
 obtain⟨h1,h2,h3⟩:=hx
 refine⟨fun c hc=>?_,fun c hc=>?_,fun c d C D hc hd mc md=>?_⟩
 ·have q:=aD.mp h1 c (cD.mp hc)
  unfold bQ2 at q
  split at q
  ·rename_i C e
   rw[af]at q
   exact⟨C,bJ X G e,bo9 q.1,q.2⟩
  ·cases q
 ·have q:=aD.mp h2 c (cD.mp hc)
  unfold bQ1 at q
  split at q
  ·rename_i C e
   exact⟨C,bJ X G e⟩
  ·cases q
 ·have q:=aD.mp (aD.mp h3 c (cD.mp hc)) d (cD.mp hd)
  unfold bT8 at q
  split at q
  ·rename_i C' D' e1 e2
   have m1:=bJ X G e1
   have m2:=bJ X G e2
   rw[mc]at m1;cases m1
   rw[md]at m2;cases m2
   exact eq_of_beq q
  ·cases q
end L2
end
noncomputable section
namespace DV
noncomputable def bK2:Df:=⟨"_law_bag",2,3,(.cons (.asg (.one 2) (.cst (.int 0))) (.cons (.ite (.cmp .lt (.var 1) (.bi .len (.cons (.var 0) .nil))) (.cons (.asg (.one 2) (.bi .abs (.cons (.ix (.var 0) (.var 1)) .nil))) .nil) .nil) (.cons (.asg (.one 3) (.bin .add (.bin .mul (.cst (.int 7919)) (.var 1)) (.cst (.int 17)))) (.cons (.for_ (.one 4) (.rng1 (.bi .min2 (.cons (.bi .len (.cons (.var 0) .nil)) (.cons (.cst (.int 60)) .nil)))) (.cons (.asg (.one 3) (.bin .mod (.bin .add (.bin .add (.bin .mul (.var 3) (.cst (.int 48271))) (.bin .mod (.ix (.var 0) (.var 4)) (.cst (.int 2147483647)))) (.var 4)) (.cst (.int 2147483629)))) .nil)) (.cons (.ite (.cmp .lt (.var 2) (.bin .pow (.cst (.int 10)) (.cst (.int 18)))) (.cons (.asg (.one 2) (.cst (.int 0))) .nil) .nil) (.cons (.ret (.lst (.cons (.var 2) (.cons (.var 3) .nil)))) .nil))))))⟩
noncomputable def bE0:Df:=⟨"_law_take",2,3,(.cons (.ite (.cmp .gt (.ix (.var 0) (.cst (.int 0))) (.cst (.int 0))) (.cons (.asg (.one 2) (.bin .mod (.ix (.var 0) (.cst (.int 0))) (.var 1))) (.cons (.setIx (.var 0) (.cst (.int 0)) (.bin .fdiv (.ix (.var 0) (.cst (.int 0))) (.var 1))) (.cons (.ret (.var 2)) .nil))) .nil) (.cons (.asg (.one 3) (.cst (.int 0))) (.cons (.asg (.one 4) (.cst (.int 1))) (.cons (.whl (.cmp .lt (.var 4) (.var 1)) (.cons (.setIx (.var 0) (.cst (.int 1)) (.bin .mod (.bin .add (.bin .mul (.ix (.var 0) (.cst (.int 1))) (.cst (.int 48271))) (.cst (.int 7919))) (.cst (.int 2147483647)))) (.cons (.asg (.one 3) (.bin .add (.bin .mul (.var 3) (.cst (.int 1073741789))) (.bin .mod (.bin .mul (.bin .fdiv (.ix (.var 0) (.cst (.int 1))) (.cst (.int 8))) (.cst (.int 69621))) (.cst (.int 1073741789))))) (.cons (.asg (.one 4) (.bin .mul (.var 4) (.cst (.int 1073741789)))) .nil)))) (.cons (.ret (.bin .mod (.var 3) (.var 1))) .nil)))))⟩
noncomputable def br7:Df:=⟨"_law_rooms",2,1,(.cons (.asg (.one 2) (.call "_law_take" (.ex (.var 0) (.ex (.bin .shl (.cst (.int 1)) (.var 1)) .nil)))) (.cons (.ret (.mk .tuple (.compIf (.one 0) (.rng1 (.var 1)) (.cmp .eq (.bin .mod (.bin .fdiv (.var 1) (.bin .shl (.cst (.int 1)) (.var 0))) (.cst (.int 2))) (.cst (.int 1))) (.var 0) [none,some 2]))) .nil))⟩
noncomputable def aP0:Df:=⟨"_law_machine",1,5,(.cons (.asg (.one 1) (.bin .add (.cst (.int 1)) (.call "_law_take" (.ex (.var 0) (.ex (.cst (.int 3)) .nil))))) (.cons (.asg (.one 2) (.bin .add (.cst (.int 1)) (.call "_law_take" (.ex (.var 0) (.ex (.cst (.int 5)) .nil))))) (.cons (.asg (.one 3) (.call "_law_take" (.ex (.var 0) (.ex (.cst (.int 13)) .nil)))) (.cons (.ite (.cmp .eq (.call "_law_take" (.ex (.var 0) (.ex (.cst (.int 8)) .nil))) (.cst (.int 7))) (.cons (.asg (.one 3) (.call "_law_take" (.ex (.var 0) (.ex (.cst (.int 76)) .nil)))) .nil) .nil) (.cons (.asg (.one 4) (.lst .nil)) (.cons (.for_ (.one 5) (.rng1 (.var 3)) (.cons (.ex (.meth .append (.var 4) (.cons (.tup (.cons (.call "_law_take" (.ex (.var 0) (.ex (.var 2) .nil))) (.cons (.ix (.cst (.str [97,98,99])) (.call "_law_take" (.ex (.var 0) (.ex (.var 1) .nil)))) (.cons (.call "_law_take" (.ex (.var 0) (.ex (.var 2) .nil))) (.cons (.call "_law_take" (.ex (.var 0) (.ex (.cst (.int 4)) .nil))) .nil))))) .nil))) .nil)) (.cons (.ret (.tup (.cons (.var 1) (.cons (.var 2) (.cons (.call "_law_rooms" (.ex (.var 0) (.ex (.var 2) .nil))) (.cons (.call "_law_rooms" (.ex (.var 0) (.ex (.var 2) .nil))) (.cons (.mk .tuple (.seq (.var 4))) .nil))))))) .nil)))))))⟩
noncomputable def bE7:Df:=⟨"_law_word",3,2,(.cons (.asg (.one 3) (.cst (.str []))) (.cons (.for_ (.one 4) (.rng1 (.call "_law_take" (.ex (.var 0) (.ex (.bin .add (.var 2) (.cst (.int 1))) .nil)))) (.cons (.asg (.one 3) (.bin .add (.var 3) (.ix (.cst (.str [97,98,99])) (.call "_law_take" (.ex (.var 0) (.ex (.var 1) .nil)))))) .nil)) (.cons (.ret (.var 3)) .nil)))⟩
noncomputable def ag2:Df:=⟨"rooms_of",1,0,(.cons (.ret (.ix (.var 0) (.cst (.int 1)))) .nil)⟩
noncomputable def af7:Df:=⟨"doors_of",1,0,(.cons (.ret (.ix (.var 0) (.cst (.int 4)))) .nil)⟩
noncomputable def ab9:Df:=⟨"grid",2,2,(.cons (.asg (.one 2) (.lst .nil)) (.cons (.for_ (.one 3) (.rng1 (.var 0)) (.cons (.ex (.meth .append (.var 2) (.cons (.mk .tuple (.comp (.one 0) (.rng1 (.var 0)) (.callV 1 (.cons (.var 2) (.cons (.var 0) .nil))) [none,some 1,some 3])) .nil))) .nil)) (.cons (.ret (.mk .tuple (.seq (.var 2)))) .nil)))⟩
noncomputable def ay0:Df:=⟨"least",1,0,(.cons (.ret (.mkD .min (.compIf (.one 0) (.seq (.var 0)) (.notN (.var 0)) (.var 0) [none]) (.cst .non))) .nil)⟩
noncomputable def aI6:Df:=⟨"added",2,0,(.cons (.ite (.or (.isN (.var 0)) (.isN (.var 1))) (.cons (.ret (.cst .non)) .nil) .nil) (.cons (.ret (.bin .add (.var 0) (.var 1))) .nil))⟩
noncomputable def aQ4:Df:=⟨"plain",1,0,(.cons (.ret (.callC "grid" (.ex (.var 0) (.lam "plain.0" [] .nil)))) .nil)⟩
noncomputable def an1:Lm:=⟨"plain.0",2,0,(.ite (.cmp .eq (.var 0) (.var 1)) (.cst (.int 0)) (.cst .non))⟩
noncomputable def au2:Df:=⟨"product",2,1,(.cons (.asg (.one 2) (.bi .len (.cons (.var 0) .nil))) (.cons (.ret (.callC "grid" (.ex (.var 2) (.lam "product.0" [2,0,1] .nil)))) .nil))⟩
noncomputable def ag6:Lm:=⟨"product.0",2,3,(.call "least" (.ex (.mk .list (.comp (.one 0) (.rng1 (.var 2)) (.call "added" (.ex (.ix (.ix (.var 1) (.var 2)) (.var 0)) (.ex (.ix (.ix (.var 3) (.var 0)) (.var 4)) .nil))) [none,some 3,some 0,some 4,some 1])) .nil))⟩
noncomputable def aT9:Df:=⟨"_law_same",2,2,(.cons (.ite (.or (.not (.bi .isTup (.cons (.var 0) .nil))) (.cmp .ne (.bi .len (.cons (.var 0) .nil)) (.bi .len (.cons (.var 1) .nil)))) (.cons (.ret (.cst (.bl false))) .nil) .nil) (.cons (.for_ (.one 2) (.rng1 (.bi .len (.cons (.var 1) .nil))) (.cons (.ite (.or (.not (.bi .isTup (.cons (.ix (.var 0) (.var 2)) .nil))) (.cmp .ne (.bi .len (.cons (.ix (.var 0) (.var 2)) .nil)) (.bi .len (.cons (.var 1) .nil)))) (.cons (.ret (.cst (.bl false))) .nil) .nil) (.cons (.for_ (.one 3) (.seq (.ix (.var 0) (.var 2))) (.cons (.ite (.and (.notN (.var 3)) (.or (.not (.bi .isInt (.cons (.var 3) .nil))) (.bi .isBool (.cons (.var 3) .nil)))) (.cons (.ret (.cst (.bl false))) .nil) .nil) .nil)) .nil))) (.cons (.ret (.cmp .eq (.var 0) (.var 1))) .nil)))⟩
noncomputable def ba6:Df:=⟨"raised",4,3,(.cons (.asg (.one 4) (.var 2)) (.cons (.asg (.one 5) (.var 0)) (.cons (.asg (.one 6) (.var 1)) (.cons (.whl (.cmp .gt (.var 6) (.cst (.int 0))) (.cons (.ite (.cmp .eq (.bin .mod (.var 6) (.cst (.int 2))) (.cst (.int 1))) (.cons (.asg (.one 4) (.callV 3 (.cons (.var 4) (.cons (.var 5) .nil)))) .nil) .nil) (.cons (.asg (.one 6) (.bin .fdiv (.var 6) (.cst (.int 2)))) (.cons (.ite (.cmp .gt (.var 6) (.cst (.int 0))) (.cons (.asg (.one 5) (.callV 3 (.cons (.var 5) (.cons (.var 5) .nil)))) .nil) .nil) .nil)))) (.cons (.ret (.var 4)) .nil)))))⟩
noncomputable def qm:Df:=⟨"letter_table",2,1,(.cons (.und 2) (.cons (.ret (.callC "grid" (.ex (.call "rooms_of" (.ex (.var 0) .nil)) (.lam "letter_table.least_fee" [0,1] .nil)))) .nil))⟩
noncomputable def zV:Lm:=⟨"letter_table.least_fee",2,2,(.call "least" (.ex (.mk .list (.compIf (.tup [0,1,2,3]) (.seq (.call "doors_of" (.ex (.var 2) .nil))) (.cmp .eq (.tup (.cons (.var 0) (.cons (.var 1) (.cons (.var 2) .nil)))) (.tup (.cons (.var 4) (.cons (.var 5) (.cons (.var 6) .nil))))) (.var 3) [none,none,none,none,some 0,some 3,some 1])) .nil))⟩
noncomputable def ag7:Df:=⟨"word_table",2,3,(.cons (.asg (.one 2) (.dic .nil .nil)) (.cons (.asg (.one 3) (.call "plain" (.ex (.call "rooms_of" (.ex (.var 0) .nil)) .nil))) (.cons (.for_ (.one 4) (.seq (.var 1)) (.cons (.ite (.cmp .notin (.var 4) (.var 2)) (.cons (.setIx (.var 2) (.var 4) (.call "letter_table" (.ex (.var 0) (.ex (.var 4) .nil)))) .nil) .nil) (.cons (.asg (.one 3) (.call "product" (.ex (.var 3) (.ex (.ix (.var 2) (.var 4)) .nil)))) .nil))) (.cons (.ret (.var 3)) .nil))))⟩
noncomputable def ay2:Df:=⟨"_law_from_room",3,7,(.cons (.asg (.one 3) (.mk .list (.comp (.one 0) (.rng1 (.ix (.var 0) (.cst (.int 1)))) (.cst .non) [none]))) (.cons (.setIx (.var 3) (.var 2) (.cst (.int 0))) (.cons (.for_ (.one 4) (.seq (.var 1)) (.cons (.asg (.one 5) (.mk .list (.comp (.one 0) (.seq (.var 3)) (.cst .non) [none]))) (.cons (.for_ (.tup [6,7,8,9]) (.seq (.ix (.var 0) (.cst (.int 4)))) (.cons (.ite (.and (.cmp .eq (.var 7) (.var 4)) (.notN (.ix (.var 3) (.var 6)))) (.cons (.ite (.or (.isN (.ix (.var 5) (.var 8))) (.cmp .lt (.bin .add (.ix (.var 3) (.var 6)) (.var 9)) (.ix (.var 5) (.var 8)))) (.cons (.setIx (.var 5) (.var 8) (.bin .add (.ix (.var 3) (.var 6)) (.var 9))) .nil) .nil) .nil) .nil) .nil)) (.cons (.asg (.one 3) (.var 5)) .nil)))) (.cons (.ret (.mk .tuple (.seq (.var 3)))) .nil))))⟩
noncomputable def aJ3:Df:=⟨"law",1,7,(.cons (.for_ (.one 1) (.rng1 (.bin .add (.bi .min2 (.cons (.bi .len (.cons (.var 0) .nil)) (.cons (.cst (.int 3)) .nil))) (.cst (.int 1)))) (.cons (.asg (.one 2) (.call "_law_bag" (.ex (.var 0) (.ex (.var 1) .nil)))) (.cons (.asg (.one 3) (.call "_law_machine" (.ex (.var 2) .nil))) (.cons (.asg (.one 4) (.call "_law_word" (.ex (.var 2) (.ex (.ix (.var 3) (.cst (.int 0))) (.ex (.ix (.lst (.cons (.cst (.int 10)) (.cons (.cst (.int 10)) (.cons (.cst (.int 10)) (.cons (.ix (.lst (.cons (.cst (.int 30)) (.cons (.cst (.int 200)) .nil))) (.bi .int (.cons (.cmp .eq (.var 1) (.cst (.int 0))) .nil))) .nil))))) (.call "_law_take" (.ex (.var 2) (.ex (.cst (.int 4)) .nil)))) .nil))))) (.cons (.asg (.one 5) (.lst (.cons (.var 4) (.cons (.cst (.str [])) (.cons (.rev (.var 4)) (.cons (.var 4) .nil)))))) (.cons (.ite (.cmp .gt (.bi .len (.cons (.var 4) .nil)) (.cst (.int 60))) (.cons (.asg (.one 5) (.lst (.cons (.var 4) .nil))) .nil) .nil) (.cons (.for_ (.one 6) (.seq (.var 5)) (.cons (.asg (.one 7) (.mk .tuple (.comp (.one 0) (.rng1 (.ix (.var 3) (.cst (.int 1)))) (.call "_law_from_room" (.ex (.var 1) (.ex (.var 2) (.ex (.var 0) .nil)))) [none,some 3,some 6]))) (.cons (.ite (.not (.call "_law_same" (.ex (.call "word_table" (.ex (.var 3) (.ex (.var 6) .nil))) (.ex (.var 7) .nil)))) (.cons (.ret (.cst (.bl false))) .nil) .nil) .nil))) .nil))))))) (.cons (.ret (.cst (.bl true))) .nil))⟩
noncomputable def ap1:Df:=⟨"plain_signs",1,0,(.cons (.ret (.callC "grid" (.ex (.var 0) (.lam "plain_signs.0" [] .nil)))) .nil)⟩
noncomputable def ah3:Lm:=⟨"plain_signs.0",2,0,(.ite (.cmp .eq (.var 0) (.var 1)) (.glob "FREE") (.glob "NONE"))⟩
noncomputable def ap7:Df:=⟨"_law_box",2,4,(.cons (.asg (.one 2) (.cst (.int 0))) (.cons (.ite (.cmp .lt (.var 1) (.bi .len (.cons (.var 0) .nil))) (.cons (.asg (.one 2) (.bi .abs (.cons (.ix (.var 0) (.var 1)) .nil))) .nil) .nil) (.cons (.ite (.cmp .ge (.var 2) (.bin .pow (.cst (.int 10)) (.cst (.int 18)))) (.cons (.ret (.lst (.cons (.var 2) .nil))) .nil) .nil) (.cons (.asg (.one 3) (.cst (.int 0))) (.cons (.for_ (.one 4) (.rng1 (.cst (.int 128))) (.cons (.asg (.one 5) (.bin .mod (.bin .mul (.bin .add (.bin .add (.bin .add (.bin .mod (.var 2) (.cst (.int 2147483647))) (.bin .mul (.cst (.int 7919)) (.var 1))) (.bin .mul (.cst (.int 104729)) (.var 4))) (.cst (.int 97))) (.cst (.int 48271))) (.cst (.int 2147483647)))) (.cons (.asg (.one 3) (.bin .add (.bin .mul (.var 3) (.cst (.int 2147483647))) (.bin .mod (.bin .add (.bin .add (.bin .mul (.var 5) (.var 5)) (.bin .mul (.cst (.int 31)) (.var 4))) (.bin .fdiv (.var 2) (.cst (.int 2147483647)))) (.cst (.int 2147483647))))) .nil))) (.cons (.ret (.lst (.cons (.var 3) .nil))) .nil))))))⟩
noncomputable def ad6:Df:=⟨"_law_draw",2,1,(.cons (.asg (.one 2) (.bin .mod (.ix (.var 0) (.cst (.int 0))) (.var 1))) (.cons (.setIx (.var 0) (.cst (.int 0)) (.bin .fdiv (.ix (.var 0) (.cst (.int 0))) (.var 1))) (.cons (.ret (.var 2)) .nil)))⟩
noncomputable def ag5:Df:=⟨"_law_form",2,2,(.cons (.ite (.or (.not (.bi .isTup (.cons (.var 0) .nil))) (.cmp .ne (.bi .len (.cons (.var 0) .nil)) (.var 1))) (.cons (.ret (.cst (.bl false))) .nil) .nil) (.cons (.for_ (.one 2) (.seq (.var 0)) (.cons (.ite (.or (.not (.bi .isTup (.cons (.var 2) .nil))) (.cmp .ne (.bi .len (.cons (.var 2) .nil)) (.var 1))) (.cons (.ret (.cst (.bl false))) .nil) .nil) (.cons (.for_ (.one 3) (.seq (.var 2)) (.cons (.ite (.or (.not (.bi .isInt (.cons (.var 3) .nil))) (.bi .isBool (.cons (.var 3) .nil))) (.cons (.ret (.cst (.bl false))) .nil) .nil) .nil)) .nil))) (.cons (.ret (.cst (.bl true))) .nil)))⟩
noncomputable def aa3:Df:=⟨"sign_product",2,1,(.cons (.asg (.one 2) (.bi .len (.cons (.var 0) .nil))) (.cons (.ret (.callC "grid" (.ex (.var 2) (.lam "sign_product.0" [2,0,1] .nil)))) .nil))⟩
noncomputable def aa2:Lm:=⟨"sign_product.0",2,3,(.mk .min (.comp (.one 0) (.rng1 (.var 2)) (.bi .max2 (.cons (.ix (.ix (.var 1) (.var 2)) (.var 0)) (.cons (.ix (.ix (.var 3) (.var 0)) (.var 4)) .nil))) [none,some 3,some 0,some 4,some 1]))⟩
noncomputable def ac9:Df:=⟨"_law_signs",2,6,(.cons (.asg (.one 2) (.call "_law_draw" (.ex (.var 0) (.ex (.cst (.int 4)) .nil)))) (.cons (.asg (.one 3) (.lst .nil)) (.cons (.for_ (.one 4) (.rng1 (.var 1)) (.cons (.asg (.one 5) (.lst .nil)) (.cons (.for_ (.one 6) (.rng1 (.var 1)) (.cons (.asg (.one 7) (.call "_law_draw" (.ex (.var 0) (.ex (.cst (.int 4)) .nil)))) (.cons (.ite (.or (.and (.cmp .eq (.var 2) (.cst (.int 1))) (.cmp .gt (.call "_law_draw" (.ex (.var 0) (.ex (.cst (.int 3)) .nil))) (.cst (.int 0)))) (.and (.cmp .eq (.var 2) (.cst (.int 2))) (.cmp .gt (.var 4) (.var 6)))) (.cons (.asg (.one 7) (.cst (.int 3))) .nil) .nil) (.cons (.ite (.and (.cmp .eq (.var 2) (.cst (.int 3))) (.and (.cmp .ne (.var 6) (.bin .mod (.bin .add (.var 4) (.cst (.int 1))) (.var 1))) (.cmp .gt (.call "_law_draw" (.ex (.var 0) (.ex (.cst (.int 4)) .nil))) (.cst (.int 0))))) (.cons (.asg (.one 7) (.cst (.int 3))) .nil) .nil) (.cons (.ex (.meth .append (.var 5) (.cons (.var 7) .nil))) .nil))))) (.cons (.ex (.meth .append (.var 3) (.cons (.mk .tuple (.seq (.var 5))) .nil))) .nil)))) (.cons (.ret (.mk .tuple (.seq (.var 3)))) .nil))))⟩
noncomputable def ab5:Df:=⟨"_law_product",2,4,(.cons (.asg (.one 2) (.lst .nil)) (.cons (.for_ (.one 3) (.seq (.var 0)) (.cons (.asg (.one 4) (.mk .list (.comp (.one 0) (.seq (.var 3)) (.cst (.int 3)) [none]))) (.cons (.for_ (.one 5) (.rng1 (.bi .len (.cons (.var 3) .nil))) (.cons (.ite (.cmp .lt (.ix (.var 3) (.var 5)) (.cst (.int 3))) (.cons (.asg (.one 4) (.mk .list (.comp (.one 0) (.rng1 (.bi .len (.cons (.var 3) .nil))) (.bi .min2 (.cons (.ix (.var 1) (.var 0)) (.cons (.bi .max2 (.cons (.ix (.var 2) (.var 3)) (.cons (.ix (.ix (.var 4) (.var 3)) (.var 0)) .nil))) .nil))) [none,some 4,some 3,some 5,some 1]))) .nil) .nil) .nil)) (.cons (.ex (.meth .append (.var 2) (.cons (.mk .tuple (.seq (.var 4))) .nil))) .nil)))) (.cons (.ret (.mk .tuple (.seq (.var 2)))) .nil)))⟩
noncomputable def as4:Df:=⟨"sign_power",2,0,(.cons (.ret (.call "raised" (.ex (.var 0) (.ex (.var 1) (.ex (.call "plain_signs" (.ex (.bi .len (.cons (.var 0) .nil)) .nil)) (.ex (.glob "sign_product") .nil)))))) .nil)⟩
noncomputable def bA2:Df:=⟨"_law_unit",1,0,(.cons (.ret (.mk .tuple (.comp (.one 0) (.rng1 (.var 0)) (.mk .tuple (.comp (.one 0) (.rng1 (.var 1)) (.bin .mul (.cst (.int 3)) (.bi .int (.cons (.cmp .ne (.var 1) (.var 0)) .nil))) [none,some 0])) [none,some 0]))) .nil)⟩
noncomputable def br9:Df:=⟨"_law_round",1,2,(.cons (.asg (.one 1) (.lst (.cons (.call "_law_unit" (.ex (.bi .len (.cons (.var 0) .nil)) .nil)) .nil))) (.cons (.whl (.cst (.bl true)) (.cons (.asg (.one 2) (.call "_law_product" (.ex (.ix (.var 1) (.neg (.cst (.int 1)))) (.ex (.var 0) .nil)))) (.cons (.ite (.cmp .isin (.var 2) (.var 1)) (.cons (.ret (.tup (.cons (.var 1) (.cons (.meth .index (.var 1) (.cons (.var 2) .nil)) .nil)))) .nil) .nil) (.cons (.ex (.meth .append (.var 1) (.cons (.var 2) .nil))) .nil)))) .nil))⟩
noncomputable def aa8:Df:=⟨"is_steady",1,0,(.cons (.ret (.cmp .eq (.call "sign_product" (.ex (.var 0) (.ex (.var 0) .nil))) (.var 0))) .nil)⟩
noncomputable def ab0:Df:=⟨"round_of",1,0,(.cons (.ite (.or (.cmp .eq (.var 0) (.glob "FREE")) (.cmp .eq (.var 0) (.glob "NONE"))) (.cons (.ret (.var 0)) .nil) .nil) (.cons (.ret (.glob "UNBOUND")) .nil))⟩
noncomputable def ab1:Df:=⟨"sharpened",1,2,(.cons (.ite (.not (.call "is_steady" (.ex (.var 0) .nil))) (.cons .raise .nil) .nil) (.cons (.asg (.one 1) (.bi .len (.cons (.var 0) .nil))) (.cons (.asg (.one 2) (.mk .list (.comp (.one 0) (.rng1 (.var 1)) (.call "round_of" (.ex (.ix (.ix (.var 1) (.var 0)) (.var 0)) .nil)) [none,some 0]))) (.cons (.ret (.callC "grid" (.ex (.var 1) (.lam "sharpened.0" [1,0,2] .nil)))) .nil))))⟩
noncomputable def aa4:Lm:=⟨"sharpened.0",2,3,(.mk .min (.comp (.one 0) (.rng1 (.var 2)) (.bi .max3 (.cons (.ix (.ix (.var 1) (.var 2)) (.var 0)) (.cons (.ix (.var 3) (.var 0)) (.cons (.ix (.ix (.var 1) (.var 0)) (.var 4)) .nil)))) [none,some 3,some 0,some 4,some 1]))⟩
noncomputable def aa7:Df:=⟨"steady_power",1,2,(.cons (.asg (.one 1) (.cst (.int 1))) (.cons (.asg (.one 2) (.var 0)) (.cons (.whl (.not (.call "is_steady" (.ex (.var 2) .nil))) (.cons (.aug 1 (.cst (.int 1))) (.cons (.asg (.one 2) (.call "sign_product" (.ex (.var 2) (.ex (.var 0) .nil)))) .nil))) (.cons (.ret (.tup (.cons (.var 1) (.cons (.var 2) .nil)))) .nil))))⟩
noncomputable def ac3:Df:=⟨"_law_steady",1,2,(.cons (.asg (.one 1) (.cst (.int 1))) (.cons (.asg (.one 2) (.var 0)) (.cons (.whl (.cmp .ne (.call "_law_product" (.ex (.var 2) (.ex (.var 2) .nil))) (.var 2)) (.cons (.asg (.one 2) (.call "_law_product" (.ex (.var 2) (.ex (.var 0) .nil)))) (.cons (.asg (.one 1) (.bin .add (.var 1) (.cst (.int 1)))) .nil))) (.cons (.ret (.tup (.cons (.var 1) (.cons (.var 2) .nil)))) .nil))))⟩
noncomputable def ab7:Df:=⟨"law",1,9,(.cons (.for_ (.one 1) (.rng1 (.bin .add (.bi .min2 (.cons (.cst (.int 12)) (.cons (.bi .len (.cons (.var 0) .nil)) .nil))) (.cst (.int 1)))) (.cons (.asg (.one 2) (.call "_law_box" (.ex (.var 0) (.ex (.var 1) .nil)))) (.cons (.asg (.one 3) (.bin .add (.cst (.int 1)) (.call "_law_draw" (.ex (.var 2) (.ex (.cst (.int 5)) .nil))))) (.cons (.asg (.one 4) (.call "_law_signs" (.ex (.var 2) (.ex (.var 3) .nil)))) (.cons (.asg (.tup [5,6]) (.call "_law_steady" (.ex (.var 4) .nil))) (.cons (.asg (.one 7) (.cmp .eq (.call "_law_product" (.ex (.var 4) (.ex (.var 4) .nil))) (.var 4))) (.cons (.asg (.one 8) (.call "is_steady" (.ex (.var 4) .nil))) (.cons (.ite (.or (.not (.bi .isBool (.cons (.var 8) .nil))) (.or (.cmp .ne (.var 8) (.var 7)) (.or (.notB (.call "is_steady" (.ex (.var 6) .nil)) true) (.cmp .eq (.call "_law_refused" (.ex (.var 4) .nil)) (.var 7))))) (.cons (.ret (.cst (.bl false))) .nil) .nil) (.cons (.ite (.not (.call "_law_form" (.ex (.call "sharpened" (.ex (.var 6) .nil)) (.ex (.var 3) .nil)))) (.cons (.ret (.cst (.bl false))) .nil) .nil) (.cons (.asg (.one 9) (.call "steady_power" (.ex (.var 4) .nil))) (.cons (.ite (.or (.not (.bi .isTup (.cons (.var 9) .nil))) (.or (.cmp .ne (.bi .len (.cons (.var 9) .nil)) (.cst (.int 2))) (.or (.cmp .ne (.var 9) (.tup (.cons (.var 5) (.cons (.var 6) .nil)))) (.bi .isBool (.cons (.ix (.var 9) (.cst (.int 0))) .nil))))) (.cons (.ret (.cst (.bl false))) .nil) .nil) (.cons (.ite (.or (.not (.call "_law_form" (.ex (.ix (.var 9) (.cst (.int 1))) (.ex (.var 3) .nil)))) (.cmp .ne (.call "steady_power" (.ex (.var 6) .nil)) (.tup (.cons (.cst (.int 1)) (.cons (.var 6) .nil))))) (.cons (.ret (.cst (.bl false))) .nil) .nil) .nil)))))))))))) (.cons (.ret (.cst (.bl true))) .nil))⟩
noncomputable def aw8:Df:=⟨"_law_goes_with",2,4,(.cons (.for_ (.tup [2,3]) (.zip (.seq (.var 0)) (.seq (.var 1))) (.cons (.for_ (.tup [4,5]) (.zip (.seq (.var 2)) (.seq (.var 3))) (.cons (.ite (.or (.cmp .lt (.var 5) (.var 4)) (.or (.cmp .ne (.cmp .eq (.var 5) (.cst (.int 0))) (.cmp .eq (.var 4) (.cst (.int 0)))) (.cmp .ne (.cmp .eq (.var 5) (.cst (.int 3))) (.cmp .eq (.var 4) (.cst (.int 3)))))) (.cons (.ret (.cst (.bl false))) .nil) .nil) .nil)) .nil)) (.cons (.ret (.cmp .eq (.bi .len (.cons (.var 0) .nil)) (.bi .len (.cons (.var 1) .nil)))) .nil))⟩
noncomputable def bm5:Df:=⟨"_law_right",1,3,(.cons (.asg (.tup [1,2]) (.call "steady_power" (.ex (.var 0) .nil))) (.cons (.asg (.one 3) (.call "sharpened" (.ex (.var 2) .nil))) (.cons (.ite (.or (.notB (.call "is_steady" (.ex (.var 3) .nil)) true) (.cmp .ne (.call "sharpened" (.ex (.var 3) .nil)) (.var 3))) (.cons (.ret (.cst (.bl false))) .nil) .nil) (.cons (.ite (.or (.cmp .ne (.call "sign_product" (.ex (.var 3) (.ex (.var 2) .nil))) (.var 3)) (.cmp .ne (.call "sign_product" (.ex (.var 2) (.ex (.var 3) .nil))) (.var 3))) (.cons (.ret (.cst (.bl false))) .nil) .nil) (.cons (.ret (.call "_law_goes_with" (.ex (.var 2) (.ex (.var 3) .nil)))) .nil)))))⟩
noncomputable def aQ8:Df:=⟨"law",1,7,(.cons (.for_ (.one 1) (.rng1 (.bin .add (.bi .min2 (.cons (.cst (.int 12)) (.cons (.bi .len (.cons (.var 0) .nil)) .nil))) (.cst (.int 1)))) (.cons (.asg (.one 2) (.call "_law_box" (.ex (.var 0) (.ex (.var 1) .nil)))) (.cons (.asg (.one 3) (.bin .add (.cst (.int 1)) (.call "_law_draw" (.ex (.var 2) (.ex (.cst (.int 5)) .nil))))) (.cons (.asg (.one 4) (.call "_law_signs" (.ex (.var 2) (.ex (.var 3) .nil)))) (.cons (.asg (.one 5) (.call "_law_signs" (.ex (.var 2) (.ex (.var 3) .nil)))) (.cons (.asg (.one 6) (.call "sign_product" (.ex (.call "sharpened" (.ex (.ix (.call "steady_power" (.ex (.var 4) .nil)) (.cst (.int 1))) .nil)) (.ex (.var 5) .nil)))) (.cons (.for_ (.one 7) (.seq (.lst (.cons (.var 4) (.cons (.call "sign_product" (.ex (.var 4) (.ex (.var 5) .nil))) (.cons (.call "sign_product" (.ex (.var 5) (.ex (.var 4) .nil))) (.cons (.var 6) .nil)))))) (.cons (.ite (.not (.call "_law_right" (.ex (.var 7) .nil))) (.cons (.ret (.cst (.bl false))) .nil) .nil) .nil)) .nil))))))) (.cons (.ret (.cst (.bl true))) .nil))⟩
noncomputable def bU8:Df:=⟨"_law_on",3,5,(.cons (.asg (.one 3) (.mk .list (.comp (.one 0) (.seq (.var 2)) (.cst .non) [none]))) (.cons (.for_ (.tup [4,5,6,7]) (.seq (.ix (.var 0) (.cst (.int 4)))) (.cons (.ite (.and (.cmp .eq (.var 5) (.var 1)) (.notN (.ix (.var 2) (.var 4)))) (.cons (.ite (.or (.isN (.ix (.var 3) (.var 6))) (.cmp .lt (.bin .add (.ix (.var 2) (.var 4)) (.var 7)) (.ix (.var 3) (.var 6)))) (.cons (.setIx (.var 3) (.var 6) (.bin .add (.ix (.var 2) (.var 4)) (.var 7))) .nil) .nil) .nil) .nil) .nil)) (.cons (.ret (.var 3)) .nil)))⟩
class Has (P:Pr)(d:Df):Prop where
 eq:P.df d.name=some d
class HasL (P:Pr)(d:Lm):Prop where
 eq:P.lm d.id=some d
class HasC (P:Pr)(x:String)(v:D):Prop where
 eq:P.con x=some v
noncomputable def fin (s:Sto)(c:Ct)(s':Sto):R D:=match c with
 | .ret v=>ab3 s v s'
 | .next _=>ab3 s .non s'
 | _=>.bad
@[simp] theorem z0 (s:Sto) (v:D) (s':Sto):fin s (.ret v) s'=ab3 s v s':=rfl
@[simp] theorem fin_next (s:Sto) (ρ:Env) (s':Sto):fin s (.next ρ) s'=ab3 s .non s':=rfl
theorem zI {P:Pr}(d:Df)[h:Has P d]{n:Nat}{l:List D}{s:Sto}(hl:l.length=d.ps) :
  (aa1 P (n+1)).call d.name l s=(exs (aa1 P n) d.body (l.map some++av d.vs none) s).bind (fin s):=by
 simp only[aa1,h.eq,hl,if_true]
 rfl
theorem aH4 {P:Pr}(d:Lm)[h:HasL P d]{n:Nat}{cs l:List D}{s:Sto}(hl:l.length=d.ps)(hc:cs.length=d.cs)(hn:(D.nclL l&&D.nclL cs&&s.all O.ncl)=true) :
  (aa1 P (n+1)).lam d.id cs l s=(ev (aa1 P n) d.body (l.map some++cs.map some) s).bind (ab3 s):=by
 simp only[aa1,h.eq,hl,hc,hn,and_self,if_true]
theorem bg9 {P:Pr}{x:String}{v:D}[h:HasC P x v]{n:Nat}:(aa1 P n).con x=some v:=by
 cases n<;>exact h.eq
theorem at6 (s t:Sto):aq3 s (s++t)=true:=by
 unfold aq3
 rw[aD]
 intro i hi
 rw[bp]at hi
 rw[aL hi]
 simp
theorem aQ2 (s t:Sto)(r:Nat)(o:O)(h:o.bnd s.length=true):aq3 s (s.set r o++t)=true:=by
 unfold aq3
 rw[aD]
 intro i hi
 rw[bp]at hi
 rw[aL (by rw[aY];exact hi)]
 by_cases e:r=i
 ·subst e;rw[aR hi];simp[h]
 ·rw[bo e];simp
theorem ae7 {s t:Sto}{d:D}(h:∀ n,d.bnd n=true)(hr:∀ r,d≠.ref r):ab3 s d (s++t)=.ok d s:=by
 unfold ab3
 rw[at6,if_pos rfl]
 cases d with
 | ref r=>exact absurd rfl (hr r)
 | _=>simp[h]
theorem zD {s:Sto}{d:D}(h:∀ n,d.bnd n=true)(hr:∀ r,d≠.ref r):ab3 s d s=.ok d s:=by
 have:=ae7 (s:=s) (t:=[]) h hr
 rwa [bj]at this
theorem ar2 {s t:Sto}{d:D}{r:Nat}{o:O}(h:∀ n,d.bnd n=true)(hr:∀ r,d≠.ref r)(ho:o.bnd s.length=true):ab3 s d (s.set r o++t)=.ok d (s.set r o):=by
 unfold ab3
 rw[aQ2 s t r o ho,if_pos rfl]
 have e:(s.set r o++t).take s.length=s.set r o:=by rw[List.take_append_of_le_length (by simp),List.take_of_length_le (by simp)]
 cases d with
 | ref r=>exact absurd rfl (hr r)
 | _=>simp only[h,if_true,e]
theorem aF8 {s:Sto}{d:D}{r:Nat}{o:O}(h:∀ n,d.bnd n=true)(hr:∀ r,d≠.ref r)(ho:o.bnd s.length=true):ab3 s d (s.set r o)=.ok d (s.set r o):=by
 have:=ar2 (s:=s) (t:=[]) (r:=r) h hr ho
 rwa [bj]at this
theorem aN5 {s t u:Sto}{o:O}(ho:o.bnd s.length=true):ab3 s (.ref (s.length+t.length)) (s++(t++o::u))=.ok (.ref s.length) (s++[o]):=by
 unfold ab3
 rw[at6,if_pos rfl]
 simp[ho,aI]
@[simp] theorem qL {s:Sto} {i:Int}:ab3 s (.int i) s=.ok (.int i) s:=zD (fun _=>rfl) (by nofun)
@[simp] theorem aD4 {s:Sto} {i:Bool}:ab3 s (.bl i) s=.ok (.bl i) s:=zD (fun _=>rfl) (by nofun)
@[simp] theorem bD1 {s:Sto}:ab3 s .non s=.ok .non s:=zD (fun _=>rfl) (by nofun)
@[simp] theorem bz4 {s:Sto} {x:List Nat}:ab3 s (.str x) s=.ok (.str x) s:=zD (fun _=>rfl) (by nofun)
theorem qE {c:Env->Sto->R D}{g:Env->Sto->R Ct}:∀ {n:Nat} {ρ:Env} {s:Sto},qT c g n ρ s≠.bad->qT c g (n+1) ρ s=qT c g n ρ s
 | 0,_,_,h=>absurd rfl h
 | n+1,ρ,s,h=>by
  rw[show qT c g (n+1+1) ρ s=tru (c ρ s) (fun b s=>if b then(g ρ s).bind fun c' s=>match c' with
   | .next ρ=>qT c g (n+1) ρ s|.cont ρ=>qT c g (n+1) ρ s|.brk ρ=>.ok (.next ρ) s|.ret d=>.ok (.ret d) s else .ok (.next ρ) s)from rfl]
  have e:qT c g (n+1) ρ s=tru (c ρ s) (fun b s=>if b then(g ρ s).bind fun c' s=>match c' with
   | .next ρ=>qT c g n ρ s|.cont ρ=>qT c g n ρ s|.brk ρ=>.ok (.next ρ) s|.ret d=>.ok (.ret d) s else .ok (.next ρ) s):=rfl
  rw[e]at h ⊢
  unfold tru at h ⊢
  cases hc:c ρ s with
  | exc _ _=>rfl
  | bad=>rfl
  | ok d s1 =>
   rw[hc]at h
   cases d with
   | bl b =>
    cases b with
    | false=>rfl
    | true =>
     simp only[R.bind_ok,if_true]at h ⊢
     cases hg:g ρ s1 with
     | exc _ _=>rfl
     | bad=>rfl
     | ok c' s2 =>
      rw[hg]at h
      simp only[R.bind_ok]at h ⊢
      cases c' with
      | next ρ'=>exact qE h
      | cont ρ'=>exact qE h
      | _=>rfl
   | _=>rfl
theorem qc {c:Env->Sto->R D}{g:Env->Sto->R Ct}{n:Nat}{ρ:Env}{s:Sto}(h:qT c g n ρ s≠.bad):∀ k,qT c g (n+k) ρ s=qT c g n ρ s
 | 0=>rfl
 | k+1=>by
  have e:=qc h k
  rw[<-Nat.add_assoc,qE (by rw[e];exact h),e]
theorem bA0 {c:Env->Sto->R D}{g:Env->Sto->R Ct}{n:Nat}{ρ:Env}{s:Sto}{r:Ct}{t:Sto}(h:qT c g n ρ s=.ok r t):whl c g ρ s=.ok r t:=by
 have hb:qT c g n ρ s≠.bad:=by rw[h];nofun
 have hx:∃ n,qT c g n ρ s≠.bad:=⟨n,hb⟩
 unfold whl
 rw[dif_pos hx]
 have h1:=qc hx.choose_spec n
 have h2:=qc hb hx.choose
 rw[<-h1,fA,h2,h]
theorem aT8 {c:Env->Sto->R D}{g:Env->Sto->R Ct}{ρ ρ':Env}{s s1 s':Sto}(hc:c ρ s=.ok (.bl true) s1)(hg:g ρ s1=.ok (.next ρ') s'):whl c g ρ s=whl c g ρ' s':=by
 have key:∀ n,qT c g (n+1) ρ s=qT c g n ρ' s':=fun n=>by
  show tru (c ρ s) _=_
  rw[hc,zN,if_pos rfl,hg];rfl
 unfold whl
 by_cases hx:∃ n,qT c g n ρ' s'≠.bad
 ·have hy:∃ n,qT c g n ρ s≠.bad:=⟨hx.choose+1,by rw[key];exact hx.choose_spec⟩
  rw[dif_pos hx,dif_pos hy]
  have h1:=qc hy.choose_spec (hx.choose+1)
  have h2:=qc (n:=hx.choose+1) (ρ:=ρ) (s:=s) (by rw[key];exact hx.choose_spec) hy.choose
  rw[<-h1,fA,h2,key]
 ·have hy:¬ ∃ n,qT c g n ρ s≠.bad:=fun⟨n,hn⟩=>by
   cases n with
   | zero=>exact hn rfl
   | succ n=>exact hx ⟨n,by rw[<-key];exact hn⟩
  rw[dif_neg hx,dif_neg hy]
theorem bj7 {c:Env->Sto->R D}{g:Env->Sto->R Ct}{ρ:Env}{s s1:Sto}(hc:c ρ s=.ok (.bl false) s1):whl c g ρ s=.ok (.next ρ) s1 :=
 bA0 (n:=1) (by show tru (c ρ s) _=_;rw[hc,zN];rfl)
theorem af9 {ok:Sto->Bool}{g:D->Env->Sto->R Ct}(P:Nat->Env->Sto->Prop):∀(l:List D) (k:Nat) (ρ:Env) (s:Sto),
  P k ρ s->(∀(j:Nat) (ρ:Env) (s:Sto),j<=l.length->P (k+j) ρ s->ok s=true)->(∀(j:Nat) (d:D) (ρ:Env) (s:Sto),l[j]?=some d->P (k+j) ρ s->∃ ρ' s',(g d ρ s=.ok (.next ρ') s'\/g d ρ s=.ok (.cont ρ') s')/\P (k+j+1) ρ' s') ->
  ∃ ρ' s',aE6 ok g l ρ s=.ok (.next ρ') s'/\P (k+l.length) ρ' s'
 | [],k,ρ,s,h,o,_=>⟨ρ,s,by show(if ok s then _ else _)=_;rw[if_pos (o 0 ρ s (ai _) h)],h⟩
 | d::l,k,ρ,s,h,o,t=>by
  have ho:=o 0 ρ s (dD _) h
  obtain⟨ρ1,s1,hg,h1⟩:=t 0 d ρ s rfl h
  obtain⟨ρ2,s2,e,h2⟩:=af9 P l (k+1) ρ1 s1 h1 (fun j ρ' s' hj hp=>o (j+1) ρ' s' (by simpa using hj) (by rwa [show k+(j+1)=k+1+j by omega])) fun j d' ρ' s' hj hp=>by
   have:=t (j+1) d' ρ' s' (by simpa using hj) (by rwa [show k+(j+1)=k+1+j by omega])
   rwa [show k+(j+1)+1=k+1+j+1 by omega]at this
  refine⟨ρ2,s2,?_,by rwa [aQ,show k+(l.length+1)=k+1+l.length by omega]⟩
  show(if ok s then _ else _)=_
  rw[if_pos ho]
  rcases hg with hg|hg<;>(rw[hg];exact e)
noncomputable def Nx (Q:Env->Sto->Prop):R Ct->Prop
 | .ok (.next ρ) s=>Q ρ s
 | .ok (.cont ρ) s=>Q ρ s
 | _=>False
@[simp] theorem bP8 (Q:Env->Sto->Prop) (ρ:Env) (s:Sto):Nx Q (.ok (.next ρ) s)=Q ρ s:=rfl
@[simp] theorem bM2 (Q:Env->Sto->Prop) (ρ:Env) (s:Sto):Nx Q (.ok (.cont ρ) s)=Q ρ s:=rfl
theorem aX1 {Q:Env->Sto->Prop}{r:R Ct}{ρ:Env}{s:Sto}(e:r=.ok (.next ρ) s)(h:Q ρ s):Nx Q r:=by rw[e];exact h
theorem Nx.out {Q:Env->Sto->Prop}:∀ {r:R Ct},Nx Q r->∃ ρ s,(r=.ok (.next ρ) s\/r=.ok (.cont ρ) s)/\Q ρ s
 | .ok (.next ρ) s,h=>⟨ρ,s,.inl rfl,h⟩
 | .ok (.cont ρ) s,h=>⟨ρ,s,.inr rfl,h⟩
 | .ok (.ret _) _,h=>h.elim
 | .ok (.brk _) _,h=>h.elim
 | .exc _ _,h=>h.elim
 | .bad,h=>h.elim
noncomputable def Tst (A B:Sto->Prop):R D->Prop
 | .ok (.bl false) s=>A s
 | .ok (.bl true) s=>B s
 | _=>False
@[simp] theorem bf6 (A B:Sto->Prop) (b:Bool) (s:Sto):Tst A B (.ok (.bl b) s)=if b then B s else A s:=by cases b<;>rfl
theorem Tst.out {A B:Sto->Prop}:∀ {r:R D},Tst A B r->(∃ s,r=.ok (.bl false) s/\A s)\/∃ s,r=.ok (.bl true) s/\B s
 | .ok (.bl false) s,h=>.inl ⟨s,rfl,h⟩
 | .ok (.bl true) s,h=>.inr ⟨s,rfl,h⟩
 | .ok .non _,h=>h.elim
 | .ok (.int _) _,h=>h.elim
 | .ok (.str _) _,h=>h.elim
 | .ok (.tup _) _,h=>h.elim
 | .ok (.ref _) _,h=>h.elim
 | .ok (.fn _) _,h=>h.elim
 | .ok (.clo _ _) _,h=>h.elim
 | .exc _ _,h=>h.elim
 | .bad,h=>h.elim
theorem ba9 {c:Env->Sto->R D}{g:Env->Sto->R Ct}{ρ ρ':Env}{s s1 s':Sto}(hc:c ρ s=.ok (.bl true) s1)(hg:g ρ s1=.ok (.cont ρ') s'):whl c g ρ s=whl c g ρ' s':=by
 have key:∀ n,qT c g (n+1) ρ s=qT c g n ρ' s':=fun n=>by
  show tru (c ρ s) _=_
  rw[hc,zN,if_pos rfl,hg];rfl
 unfold whl
 by_cases hx:∃ n,qT c g n ρ' s'≠.bad
 ·have hy:∃ n,qT c g n ρ s≠.bad:=⟨hx.choose+1,by rw[key];exact hx.choose_spec⟩
  rw[dif_pos hx,dif_pos hy]
  have h1:=qc hy.choose_spec (hx.choose+1)
  have h2:=qc (n:=hx.choose+1) (ρ:=ρ) (s:=s) (by rw[key];exact hx.choose_spec) hy.choose
  rw[<-h1,fA,h2,key]
 ·have hy:¬ ∃ n,qT c g n ρ s≠.bad:=fun⟨n,hn⟩=>by
   cases n with
   | zero=>exact hn rfl
   | succ n=>exact hx ⟨n,by rw[<-key];exact hn⟩
  rw[dif_neg hx,dif_neg hy]
theorem bE4 {c:Env->Sto->R D}{g:Env->Sto->R Ct}(P:Nat->Env->Sto->Prop)(Q:Env->Sto->Prop)
  (step:∀ k ρ s,P k ρ s->Tst (fun s1=>Q ρ s1) (fun s1=>Nx (fun ρ' s'=>∃ k',k'<k/\P k' ρ' s') (g ρ s1)) (c ρ s)) :
  ∀(k:Nat) (ρ:Env) (s:Sto),P k ρ s->∃ ρ' s',whl c g ρ s=.ok (.next ρ') s'/\Q ρ' s':=by
 intro k
 induction k using iE with
 | _ k ih =>
  intro ρ s h
  rcases(step k ρ s h).out with⟨s1,hc,hq⟩|⟨s1,hc,hn⟩
  ·exact⟨ρ,s1,bj7 hc,hq⟩
  ·obtain⟨ρ',s',hg,k',hk,hp⟩:=hn.out
   rcases hg with hg|hg
   ·rw[aT8 hc hg];exact ih k' hk ρ' s' hp
   ·rw[ba9 hc hg];exact ih k' hk ρ' s' hp
theorem aU8 {c:Env->Sto->R D}{g:Env->Sto->R Ct}{ρ:Env}{s:Sto}{α:Type}{f:Ct->Sto->R α}{W:R α->Prop}(P:Nat->Env->Sto->Prop)(Q:Env->Sto->Prop)(k:Nat)(h:P k ρ s)
  (step:∀ k ρ s,P k ρ s->Tst (fun s1=>Q ρ s1) (fun s1=>Nx (fun ρ' s'=>∃ k',k'<k/\P k' ρ' s') (g ρ s1)) (c ρ s))
  (hf:∀ ρ' s',Q ρ' s'->W (f (.next ρ') s')):W ((whl c g ρ s).bind f):=by
 obtain⟨ρ',s',e,q⟩:=bE4 P Q step k ρ s h
 rw[e]
 exact hf ρ' s' q
theorem aA9 {c:Env->Sto->R D}{g:Env->Sto->R Ct}{ρ:Env}{s:Sto}{α:Type}{f:Ct->Sto->R α}{x:R α}(P:Nat->Env->Sto->Prop)(Q:Env->Sto->Prop)(k:Nat)(h:P k ρ s)
  (step:∀ k ρ s,P k ρ s->Tst (fun s1=>Q ρ s1) (fun s1=>Nx (fun ρ' s'=>∃ k',k'<k/\P k' ρ' s') (g ρ s1)) (c ρ s))
  (hf:∀ ρ' s',Q ρ' s'->f (.next ρ') s'=x):(whl c g ρ s).bind f=x:=aU8 (W:=(·=x)) P Q k h step hf
theorem ah7 {ok:Sto->Bool}{g:D->Env->Sto->R Ct}{l:List D}{ρ:Env}{s:Sto}{α:Type}{f:Ct->Sto->R α}{W:R α->Prop}(P:Nat->Env->Sto->Prop)(h:P 0 ρ s)
  (o:∀(j:Nat) (ρ:Env) (s:Sto),j<=l.length->P j ρ s->ok s=true) (step:∀(j:Nat) (d:D) (ρ:Env) (s:Sto),l[j]?=some d->P j ρ s->Nx (P (j+1)) (g d ρ s))
  (hf:∀ ρ' s',P l.length ρ' s'->W (f (.next ρ') s')):W ((aE6 ok g l ρ s).bind f):=by
 obtain⟨ρ',s',e,q⟩:=af9 P l 0 ρ s h (fun j ρ s hj hp=>o j ρ s hj (by rwa [db]at hp)) (fun j d ρ s hj hp=>by
  rw[db]at hp ⊢
  exact(step j d ρ s hj hp).out)
 rw[e]
 rw[db]at q
 exact hf ρ' s' q
theorem aA6 {ok:Sto->Bool}{g:D->Env->Sto->R Ct}{l:List D}{ρ:Env}{s:Sto}{α:Type}{f:Ct->Sto->R α}{x:R α}(P:Nat->Env->Sto->Prop)(h:P 0 ρ s)
  (o:∀(j:Nat) (ρ:Env) (s:Sto),j<=l.length->P j ρ s->ok s=true) (step:∀(j:Nat) (d:D) (ρ:Env) (s:Sto),l[j]?=some d->P j ρ s->Nx (P (j+1)) (g d ρ s))
  (hf:∀ ρ' s',P l.length ρ' s'->f (.next ρ') s'=x):(aE6 ok g l ρ s).bind f=x:=ah7 (W:=(·=x)) P h o step hf
section
variable {F:Fns} {ρ:Env} {s:Sto}
@[simp] theorem zm (i:Nat):ev F (.var i) ρ s=ax1 ρ i s:=rfl
@[simp] theorem qu (c:Cn):ev F (.cst c) ρ s=.ok c.d s:=rfl
@[simp] theorem ev_bin (op:BOp) (a b:E):ev F (.bin op a b) ρ s=(ev F a ρ s).bind fun x s=>(ev F b ρ s).bind fun y s=>aj8 op x y s:=rfl
@[simp] theorem ev_not (a:E):ev F (.not a) ρ s=tru (ev F a ρ s) fun b s=>.ok (.bl (!b)) s:=rfl
@[simp] theorem ql (op:COp) (a b:E):ev F (.cmp op a b) ρ s=(ev F a ρ s).bind fun x s=>(ev F b ρ s).bind fun y s=>qp op x y s:=rfl
@[simp] theorem bH7 (o p:COp) (a b c:E):ev F (.chain o p a b c) ρ s=(ev F a ρ s).bind fun x s=>(ev F b ρ s).bind fun y s=>tru (qp o x y s) fun k s=>if k then(ev F c ρ s).bind fun z s=>qp p y z s else .ok (.bl false) s:=rfl
@[simp] theorem ev_isN (a:E):ev F (.isN a) ρ s=(ev F a ρ s).bind fun x s=>.ok (.bl (decide (x=.non))) s:=rfl
@[simp] theorem ev_notN (a:E):ev F (.notN a) ρ s=(ev F a ρ s).bind fun x s=>.ok (.bl (!decide (x=.non))) s:=rfl
@[simp] theorem ev_and (a b:E):ev F (.and a b) ρ s=tru (ev F a ρ s) fun c s=>if c then tru (ev F b ρ s) fun c s=>.ok (.bl c) s else .ok (.bl false) s:=rfl
@[simp] theorem ev_or (a b:E):ev F (.or a b) ρ s=tru (ev F a ρ s) fun c s=>if c then .ok (.bl true) s else tru (ev F b ρ s) fun c s=>.ok (.bl c) s:=rfl
@[simp] theorem ev_ite (c a b:E):ev F (.ite c a b) ρ s=tru (ev F c ρ s) fun k s=>if k then ev F a ρ s else ev F b ρ s:=rfl
@[simp] theorem ev_tup (es:Es):ev F (.tup es) ρ s=(evs F es ρ s).bind fun l s=>.ok (.tup l) s:=rfl
@[simp] theorem ev_lst (es:Es):ev F (.lst es) ρ s=(evs F es ρ s).bind fun l s=>ac0 (.lst l) s:=rfl
@[simp] theorem ev_ix (a b:E):ev F (.ix a b) ρ s=(ev F a ρ s).bind fun x s=>(ev F b ρ s).bind fun y s=>ixM x y s:=rfl
@[simp] theorem zS (f:String) (as:As):ev F (.call f as) ρ s=(af6 F as ρ s).bind fun l s=>F.call f l s:=rfl
@[simp] theorem aC0 (f:String) (as:As):ev F (.callC f as) ρ s=(af6 F as ρ s).bind fun l s=>(F.call f l s).bind fun d s'=>if(d.ncl&&s'.all O.ncl)=true then .ok d s' else .bad:=rfl
@[simp] theorem ev_bi (b:Bi) (es:Es):ev F (.bi b es) ρ s=(evs F es ρ s).bind fun l s=>bi b l s:=rfl
@[simp] theorem ev_mk (k:Mk) (it:L):ev F (.mk k it) ρ s=(evL F it ρ s).bind fun q s=>mk k q s:=rfl
@[simp] theorem ev_mkD (k:Mk) (it:L) (d:E):ev F (.mkD k it d) ρ s=(evL F it ρ s).bind fun q s=>(ev F d ρ s).bind fun d s=>mkD k q d s:=rfl
@[simp] theorem ev_mks (k:Mk) (e:E):ev F (.mks k e) ρ s=(ev F e ρ s).bind fun x s=>(bt7 x s).bind fun q s=>mk k q s:=rfl
@[simp] theorem ev_mkDs (k:Mk) (e d:E):ev F (.mkDs k e d) ρ s=(ev F e ρ s).bind fun x s=>(ev F d ρ s).bind fun z s=>(bt7 x s).bind fun q s=>mkD k q z s:=rfl
@[simp] theorem ev_meth (m:Mt) (o:E) (es:Es):ev F (.meth m o es) ρ s=(ev F o ρ s).bind fun x s=>(evs F es ρ s).bind fun l s=>meth m x l s:=rfl
@[simp] theorem bK7 (o e:E):ev F (.extS o e) ρ s=(ev F o ρ s).bind fun x s=>(ev F e ρ s).bind fun y s=>extS x y s:=rfl
@[simp] theorem bS0 (a:E):ev F (.rev a) ρ s=(ev F a ρ s).bind fun x s=>bL3 x s:=rfl
@[simp] theorem bS8 (o:E) (it:L):ev F (.ext o it) ρ s=(ev F o ρ s).bind fun x s=>(evL F it ρ s).bind fun q s=>bv3 x q s:=rfl
@[simp] theorem zK:evs F .nil ρ s=.ok [] s:=rfl
@[simp] theorem zJ (e:E) (es:Es):evs F (.cons e es) ρ s=(ev F e ρ s).bind fun d s=>(evs F es ρ s).bind fun l s=>.ok (d::l) s:=rfl
@[simp] theorem zw:af6 F .nil ρ s=.ok [] s:=rfl
@[simp] theorem zL (e:E) (as:As):af6 F (.ex e as) ρ s=(ev F e ρ s).bind fun d s=>(af6 F as ρ s).bind fun l s=>.ok (d::l) s:=rfl
@[simp] theorem bM7 (f:String) (as:As):af6 F (.fn f as) ρ s=(af6 F as ρ s).bind fun l s=>.ok (.fn f::l) s:=rfl
@[simp] theorem evI_seq (e:E):evI F (.seq e) ρ s=(ev F e ρ s).bind fun d s=>be5 d s:=rfl
@[simp] theorem bI0 (es:Es):evL F (.disp es) ρ s=evs F es ρ s:=rfl
@[simp] theorem evL_seq (e:E):evL F (.seq e) ρ s=(ev F e ρ s).bind fun d s=>aT1 d s:=rfl
noncomputable def bl1 (x:D):M Sq:=fun s=>match x with|.int i=>if -W62<=i/\i<W62 then .ok ⟨ah5 0 i,[]⟩ s else .bad|_=>.bad
@[simp] theorem qv (a:E):evI F (.rng1 a) ρ s=(ev F a ρ s).bind fun x s=>bl1 x s:=rfl
theorem qg {i:Int}(h0:-W62<=i)(h:i<W62):bl1 (.int i) s=.ok ⟨ah5 0 i,[]⟩ s:=by unfold bl1;simp only[h0,h,and_self,if_true]
noncomputable def nxt (F:Fns)(ss:Ss)(c:Ct)(s:Sto):R Ct:=match c with|.next ρ=>exs F ss ρ s|c=>.ok c s
@[simp] theorem zq (ss:Ss) (ρ:Env) (s:Sto):nxt F ss (.next ρ) s=exs F ss ρ s:=rfl
@[simp] theorem z5 (ss:Ss) (d:D) (s:Sto):nxt F ss (.ret d) s=.ok (.ret d) s:=rfl
@[simp] theorem nxt_cont (ss:Ss) (ρ:Env) (s:Sto):nxt F ss (.cont ρ) s=.ok (.cont ρ) s:=rfl
@[simp] theorem zt:exs F .nil ρ s=.ok (.next ρ) s:=rfl
@[simp] theorem zh (st:S) (ss:Ss):exs F (.cons st ss) ρ s=(ex F st ρ s).bind (nxt F ss):=rfl
noncomputable def bL4 (ρ:Option Env)(s:Sto):R Ct:=match ρ with|some ρ=>.ok (.next ρ) s|none=>.bad
@[simp] theorem zG (ρ:Env) (s:Sto):bL4 (some ρ) s=.ok (.next ρ) s:=rfl
@[simp] theorem qQ (tg:Tg) (e:E):ex F (.asg tg e) ρ s=(ev F e ρ s).bind fun d s=>bL4 (ac2 ρ tg d) s:=rfl
@[simp] theorem ex_setIx (o i e:E):ex F (.setIx o i e) ρ s=(ev F e ρ s).bind fun d s=>(ev F o ρ s).bind fun x s=>(ev F i ρ s).bind fun y s=>(setIx x y d s).bind fun _ s=>.ok (.next ρ) s:=rfl
@[simp] theorem ex_ex (e:E):ex F (.ex e) ρ s=(ev F e ρ s).bind fun _ s=>.ok (.next ρ) s:=rfl
@[simp] theorem qG (e:E):ex F (.ret e) ρ s=(ev F e ρ s).bind fun d s=>.ok (.ret d) s:=rfl
@[simp] theorem bJ7:ex F .retN ρ s=.ok (.ret .non) s:=rfl
@[simp] theorem ex_ite (c:E) (a b:Ss):ex F (.ite c a b) ρ s=tru (ev F c ρ s) fun k s=>if k then exs F a ρ s else exs F b ρ s:=rfl
@[simp] theorem ex_whl (c:E) (b:Ss):ex F (.whl c b) ρ s=whl (ev F c) (exs F b) ρ s:=rfl
noncomputable def turn (F:Fns)(tg:Tg)(b:Ss)(d:D)(ρ:Env)(s:Sto):R Ct:=match ac2 ρ tg d with
 | some ρ=>exs F b ρ s
 | none=>.bad
@[simp] theorem ex_for (tg:Tg) (it:I) (b:Ss):ex F (.for_ tg it b) ρ s=(evI F it ρ s).bind fun q s0=>aE6 (fun s=>chk s0 s q.src) (turn F tg b) q.its ρ s0:=rfl
@[simp] theorem ex_cont:ex F .cont ρ s=.ok (.cont ρ) s:=rfl
@[simp] theorem ex_und (i:Nat):ex F (.und i) ρ s=bL4 (ad8 ρ i) s:=rfl
@[simp] theorem ex_pass:ex F .pass ρ s=.ok (.next ρ) s:=rfl
@[simp] theorem zo (i:Nat) (d:D):ac2 ρ (.one i) d=an3 ρ i d:=rfl
@[simp] theorem bindT_tup (is:List Nat) (l:List D):ac2 ρ (.tup is) (.tup l)=ak5 ρ is l:=rfl
@[simp] theorem setVs_nil:ak5 ρ [] []=some ρ:=rfl
@[simp] theorem setVs_cons (i:Nat) (is:List Nat) (d:D) (l:List D):ak5 ρ (i::is) (d::l)=(an3 ρ i d).bind fun ρ=>ak5 ρ is l:=rfl
@[simp] theorem zn (d:D) (ρ:Env):ax1 (some d::ρ) 0 s=.ok d s:=rfl
@[simp] theorem zr (x:Option D) (ρ:Env) (i:Nat):ax1 (x::ρ) (i+1) s=ax1 ρ i s:=by unfold ax1;rw[List.getElem?_cons_succ]
@[simp] theorem zT (d:D) (x:Option D) (ρ:Env):an3 (x::ρ) 0 d=some (some d::ρ):=rfl
@[simp] theorem qj (d:D) (x:Option D) (ρ:Env) (i:Nat):an3 (x::ρ) (i+1) d=(an3 ρ i d).map (x::·):=by
 unfold an3
 by_cases h:i < ρ.length
 ·rw[if_pos (by simpa using h),if_pos h];rfl
 ·rw[if_neg (by simpa using h),if_neg h];rfl
@[simp] theorem unsetV_0 (x:Option D) (ρ:Env):ad8 (x::ρ) 0=some (none::ρ):=rfl
@[simp] theorem unsetV_s (x:Option D) (ρ:Env) (i:Nat):ad8 (x::ρ) (i+1)=(ad8 ρ i).map (x::·):=by
 unfold ad8
 by_cases h:i < ρ.length
 ·rw[if_pos (by simpa using h),if_pos h];rfl
 ·rw[if_neg (by simpa using h),if_neg h];rfl
@[simp] theorem qD (i:Int):(Cn.int i).d=.int i:=rfl
@[simp] theorem Cn_bl (i:Bool):(Cn.bl i).d=.bl i:=rfl
@[simp] theorem Cn_str (i:List Nat):(Cn.str i).d=.str i:=rfl
@[simp] theorem Cn_non:Cn.non.d=.non:=rfl
@[simp] theorem add_int (a b:Int):aj8 .add (.int a) (.int b) s=.ok (.int (a+b)) s:=rfl
@[simp] theorem sub_int (a b:Int):aj8 .sub (.int a) (.int b) s=.ok (.int (a - b)) s:=rfl
theorem ae0 {a b:Int}(h:mulOk a b=true):aj8 .mul (.int a) (.int b) s=.ok (.int (a*b)) s:=by show(if mulOk a b then _ else _:M D) s=_;rw[if_pos h];rfl
theorem ap4 {a b:Int}(h:a.natAbs<2^64):mulOk a b=true:=by unfold mulOk;simp[h]
theorem aI3 {a b:Int}(h:b.natAbs<2^64):mulOk a b=true:=by unfold mulOk;simp[h]
theorem ao1 {a b:Int}(h:0<b):aj8 .mod (.int a) (.int b) s=.ok (.int (a % b)) s:=by show(if 0<b then _ else _:M D) s=_;rw[if_pos h];rfl
theorem bl5:(10:Int)^200<=(DIVL:Int):=by unfold DIVL;decide +kernel
theorem aD0 {a b:Int}(h:0<b)(h2:b<10^200):aj8 .fdiv (.int a) (.int b) s=.ok (.int (a / b)) s:=by show(if 0<b/\b<(DIVL:Int)then _ else _:M D) s=_;rw[if_pos ⟨h,Int.lt_of_lt_of_le h2 bl5⟩];rfl
theorem aI4 {a b:Int}(h:0<=b/\b<=1000000/\a.natAbs<2^64):aj8 .pow (.int a) (.int b) s=.ok (.int (a^b.toNat)) s:=by show(if _ then _ else _:M D) s=_;rw[if_pos h];rfl
@[simp] theorem lt_int (a b:Int):qp .lt (.int a) (.int b) s=.ok (.bl (decide (a<b))) s:=rfl
@[simp] theorem le_int (a b:Int):qp .le (.int a) (.int b) s=.ok (.bl (decide (a<=b))) s:=rfl
@[simp] theorem gt_int (a b:Int):qp .gt (.int a) (.int b) s=.ok (.bl (decide (b<a))) s:=rfl
@[simp] theorem ge_int (a b:Int):qp .ge (.int a) (.int b) s=.ok (.bl (decide (b<=a))) s:=rfl
@[simp] theorem qP (a b:Int):qp .eq (.int a) (.int b) s=.ok (.bl (decide (a=b))) s:=rfl
@[simp] theorem ne_int (a b:Int):qp .ne (.int a) (.int b) s=.ok (.bl (!decide (a=b))) s:=rfl
@[simp] theorem alloc_eq (o:O):ac0 o s=.ok (.ref s.length) (s++[o]):=rfl
@[simp] theorem bg8 (l:List D):bi .len [.tup l] s=.ok (.int l.length) s:=rfl
@[simp] theorem bo6 (l:List Nat):bi .len [.str l] s=.ok (.int l.length) s:=rfl
theorem bc2 {r:Nat}{l:List D}(h:s[r]?=some (.ro l)):bi .len [.ref r] s=.ok (.int l.length) s:=by simp only[bi,bi1,bu1,h]
@[simp] theorem bN7 (i:Int):bi .abs [.int i] s=.ok (.int (if i<0 then -i else i)) s:=rfl
@[simp] theorem aW6 (a b:Int):bi .min2 [.int a,.int b] s=.ok (.int (if b<a then b else a)) s:=rfl
@[simp] theorem aX3 (a b:Int):bi .max2 [.int a,.int b] s=.ok (.int (if b > a then b else a)) s:=rfl
@[simp] theorem aM2 (a:Int):bi .isInt [.int a] s=.ok (.bl true) s:=rfl
@[simp] theorem aE0 (a:Int):bi .isBool [.int a] s=.ok (.bl false) s:=rfl
@[simp] theorem bw5 (l:List D):bi .isTup [.tup l] s=.ok (.bl true) s:=rfl
theorem bM4 {r:Nat}{l:List D}{j:Nat}{d:D}(h:s[r]?=some (.ro l))(hj:l[j]?=some d):ixM (.ref r) (.int (j:Int)) s=.ok d s:=by
 have hl:j<l.length:=(ag.mp hj).1
 have e:l[j]=d:=(ag.mp hj).2
 simp[ixM,h,ixn,hl,e]
theorem be0 {r:Nat}{l:List D}{j:Nat}{d:D}(h:s[r]?=some (.lst l))(hj:l[j]?=some d):ixM (.ref r) (.int (j:Int)) s=.ok d s:=by
 have hl:j<l.length:=(ag.mp hj).1
 have e:l[j]=d:=(ag.mp hj).2
 simp[ixM,h,ixn,hl,e]
theorem ix_tup {l:List D}{j:Nat}{d:D}(hj:l[j]?=some d):ixM (.tup l) (.int (j:Int)) s=.ok d s:=by
 have hl:j<l.length:=(ag.mp hj).1
 have e:l[j]=d:=(ag.mp hj).2
 simp[ixM,ixn,hl,e]
theorem ag1 {r:Nat}{l:List D}{v:D}(h:s[r]?=some (.lst l))(hl:l.length<LIM):meth .append (.ref r) [v] s=.ok .non (s.set r (.lst (l++[v]))):=by
 simp[meth,h,hl]
end
theorem av6 (s t:Sto)(b:Bool):∃ s',ab3 s (.bl b) t=.ok (.bl b) s':=by
 unfold ab3
 by_cases h:aq3 s t=true
 ·rw[if_pos h];exact⟨_,rfl⟩
 ·rw[if_neg h];exact⟨_,rfl⟩
def Yes (r:R D):Prop:=∃ s',r=.ok (.bl true) s'
theorem aL6 (s t:Sto):Yes (ab3 s (.bl true) t):=av6 s t true
theorem ao9 {a b:Int}{j:Nat}{d:D}(h:(ah5 a b)[j]?=some d):(j:Int)<b - a/\d=.int (a+j):=by
 have hj:=(ag.mp h).1
 simp only[ah5,aM,cG]at hj
 unfold ah5 at h
 rw[aE,bO hj]at h
 exact⟨by omega,(az h).symm⟩
def bO7 (P:Pr)(k:Nat):Prop:=∀ ns:List Int,ns.length<=63->Yes ((aa1 P k).call "law" [.ref 0] [.ro (ns.map D.int)])
noncomputable def bu0:Option Int->D
 | none=>.non
 | some i=>.int i
@[simp] theorem bu8:bu0 none=.non:=rfl
@[simp] theorem bH4 (i:Int):bu0 (some i)=.int i:=rfl
@[simp] theorem aZ3 (p:Option Int) (n:Nat):(bu0 p).bnd n=true:=by cases p<;>rfl
theorem aZ7 (p:Option Int)(r:Nat):bu0 p≠.ref r:=by cases p<;>nofun
@[simp] theorem bt6 {s:Sto} {p:Option Int}:ab3 s (bu0 p) s=.ok (bu0 p) s:=zD (aZ3 p) (aZ7 p)
noncomputable def bU5 (b:Nat×Nat):O:=.lst [.int b.1,.int b.2]
@[simp] theorem bH8 (b:Nat×Nat) (n:Nat):(bU5 b).bnd n=true:=rfl
noncomputable def tkW (many:Nat):Nat->Nat->Nat->Nat->Nat×Nat
 | 0,mix,num,_=>(num,mix)
 | n+1,mix,num,room=>if room<many then tkW many n ((mix*48271+7919) % 2147483647) (num*1073741789+(mix*48271+7919) % 2147483647 / 8*69621 % 1073741789) (room*1073741789)else(num,mix)
noncomputable def tk (b:Nat×Nat)(many:Nat):Nat×(Nat×Nat) :=
 if 0<b.1 then(b.1 % many,(b.1 / many,b.2))else let r:=tkW many 12 b.2 0 1;(r.1 % many,(b.1,r.2))
theorem bl3 {s t:Sto}{r:Nat}{o:O}(h:r<s.length):(s++t).set r o=s.set r o++t:=by rw[iG,if_pos h]
theorem aJ8 {s t:Sto}{r:Nat}{o:O}(h:s[r]?=some o):(s++t)[r]?=some o:=by
 rw[aL (ag.mp h).1];exact h
theorem aO6 {s:Sto}{r:Nat}{o:O}(h:r<s.length):(s.set r o)[r]?=some o:=aR h
noncomputable def bd (b:Nat×Nat):Nat×(Nat×Nat) :=
 let x0:=tk b 3
 let x1:=tk x0.2 13
 let x2:=tk x1.2 1000000000
 let x3:=tk x2.2 1000000000000000000000000000000
 let i:=tk x3.2 4
 ([x0.1,x1.1,x2.1,x3.1].getD i.1 0,i.2)
section
variable {F:Fns} {ρ:Env} {s:Sto}
noncomputable def qS (F:Fns)(tg:Tg)(e:E)(d:D)(ρ:Env)(s:Sto):R (Option D×Env):=match ac2 ρ tg d with
 | some ρ=>(ev F e ρ s).bind fun v s=>.ok (some v,ρ) s
 | none=>.bad
noncomputable def bP2 (F:Fns)(tg:Tg)(c e:E)(d:D)(ρ:Env)(s:Sto):R (Option D×Env):=match ac2 ρ tg d with
 | some ρ=>tru (ev F c ρ s) fun k s=>if k then(ev F e ρ s).bind fun v s=>.ok (some v,ρ) s else .ok (none,ρ) s
 | none=>.bad
@[simp] theorem ah6 (tg:Tg) (it:I) (e:E) (caps:List (Option Nat)):evL F (.comp tg it e caps) ρ s=(evI F it ρ s).bind fun q s0=>if q.its.length<=LIM then ac5 (fun s=>chk s0 s q.src) (qS F tg e) q.its (qt ρ caps) s0 else .bad:=rfl
@[simp] theorem bt5 (tg:Tg) (it:I) (c e:E) (caps:List (Option Nat)):evL F (.compIf tg it c e caps) ρ s=(evI F it ρ s).bind fun q s0=>if q.its.length<=LIM then ac5 (fun s=>chk s0 s q.src) (bP2 F tg c e) q.its (qt ρ caps) s0 else .bad:=rfl
@[simp] theorem bR4 (a hi:E):ev F (.slU a hi) ρ s=(ev F a ρ s).bind fun x s=>(ev F hi ρ s).bind fun y s=>match y with|.int i=>slM x none (some i) s|_=>.bad:=rfl
@[simp] theorem bQ7 (a hi:E):ev F (.slL a hi) ρ s=(ev F a ρ s).bind fun x s=>(ev F hi ρ s).bind fun y s=>match y with|.int i=>slM x (some i) none s|_=>.bad:=rfl
end
theorem aB6 {ok:Sto->Bool}{g:D->Env->Sto->R (Option D×Env)}(P:Env->Sto->Prop)(f:D->Option D):∀(l:List D) (ρ:Env) (s:Sto),P ρ s ->
  (∀ ρ s,P ρ s->ok s=true)->(∀ d∈l,∀ ρ s,P ρ s->∃ ρ' s',g d ρ s=.ok (f d,ρ') s'/\P ρ' s')->∃ ρ' s',ac5 ok g l ρ s=.ok (l.filterMap f) s'/\P ρ' s'
 | [],ρ,s,h,o,_=>⟨ρ,s,by unfold ac5;rw[if_pos (o ρ s h)];rfl,h⟩
 | d::l,ρ,s,h,o,st=>by
  obtain⟨ρ1,s1,e1,h1⟩:=st d (aq ..) ρ s h
  obtain⟨ρ2,s2,e2,h2⟩:=aB6 P f l ρ1 s1 h1 o fun x hx=>st x (ah _ hx)
  refine⟨ρ2,s2,?_,h2⟩
  unfold ac5
  rw[if_pos (o ρ s h),e1]
  simp only[R.bind_ok]
  rw[e2,bG]
  cases f d<;>rfl
theorem ai1 {l:List D}(h:∀ d∈l,∀ n,d.bnd n=true)(n:Nat):D.bndL n l=true:=by
 induction l with
 | nil=>rfl
 | cons d l ih=>unfold D.bndL;rw[h d (aq ..),ih fun x hx=>h x (ah _ hx)];rfl
theorem bj6 {a b:List Nat}{s:Sto}(h:a.length+b.length<=LIM):aj8 .add (.str a) (.str b) s=.ok (.str (a++b)) s:=by
 show(if a.length+b.length<=LIM then _ else _:M D) s=_;rw[if_pos h];rfl
def Lts (L:Nat)(w:List Nat):Prop:=∀ c∈w,97<=c/\c<97+L
theorem rep_len (l:List Nat):∀ n,(rep n l).length=l.length*n
 | 0=>by simp[rep]
 | n+1=>by simp[rep,rep_len l n,iz];omega
noncomputable def bF0 (L:Nat)(d:D):Bool:=match d with
 | .str w=>decide (w.length<=200)&&w.all fun c=>decide (97<=c/\c<97+L)
 | _=>false
@[simp] theorem bR6 {F:Fns} {ρ:Env} {s:Sto} (a:E):ev F (.neg a) ρ s=(ev F a ρ s).bind fun x s=>match x with|.int i=>.ok (.int (-i)) s|_=>.bad:=rfl
structure Dr where
 a:Nat
 l:Nat
 b:Nat
 t:Nat
noncomputable def Dr.d (x:Dr):D:=.tup [.int x.a,.str [x.l],.int x.b,.int x.t]
structure Mc where
 L:Nat
 R:Nat
 bg:List Nat
 en:List Nat
 ds:List Dr
noncomputable def bQ4 (l:List Nat):List D:=l.map fun(k:Nat)=>D.int (k:Int)
noncomputable def Mc.ps (m:Mc):List D:=[.int m.L,.int m.R,.tup (bQ4 m.bg),.tup (bQ4 m.en),.tup (m.ds.map Dr.d)]
noncomputable def Mc.d (m:Mc):D:=.tup m.ps
structure Dr.Ok (m:Mc)(x:Dr):Prop where
 a:x.a<m.R
 l:97<=x.l/\x.l<97+m.L
 b:x.b<m.R
 t:x.t<4
structure Mc.Ok (m:Mc):Prop where
 L1:1<=m.L
 L3:m.L<=3
 R1:1<=m.R
 R5:m.R<=5
 bg:(∀ k∈m.bg,k<m.R)/\m.bg.Pairwise (· < ·)
 en:(∀ k∈m.en,k<m.R)/\m.en.Pairwise (· < ·)
 ds:(∀ x∈m.ds,x.Ok m)/\m.ds.length<=75
section
variable {P:Pr}
@[simp] theorem bP1 (a b:Nat) (s:Sto):qp .ne (.str [a]) (.str [b]) s=.ok (.bl (!decide (a=b))) s:=by
 show(match eqv s DEEP (.str [a]) (.str [b])with|some r=>R.ok (D.bl (!r)) s|none=>.bad)=_
 have:eqv s DEEP (.str [a]) (.str [b])=some ([a]==[b]):=rfl
 rw[this]
 have e:([a]==[b])=decide (a=b):=by rw[fJ];simp
 rw[e]
@[simp] theorem bQ0 (a b:Nat) (s:Sto):qp .eq (.str [a]) (.str [b]) s=.ok (.bl (decide (a=b))) s:=by
 show(match eqv s DEEP (.str [a]) (.str [b])with|some r=>R.ok (D.bl r) s|none=>.bad)=_
 have:eqv s DEEP (.str [a]) (.str [b])=some ([a]==[b]):=rfl
 rw[this]
 have e:([a]==[b])=decide (a=b):=by rw[fJ];simp
 rw[e]
end
theorem good_of {L:Nat}{w:List Nat}(h:w.length<=200)(hw:Lts L w):bF0 L (.str w)=true:=by
 unfold bF0
 simp only[h,decide_true,eP,aD,decide_eq_true_eq]
 exact hw
@[simp] theorem bN1 {F:Fns} {ρ:Env} {s:Sto} (a lo hi:E):ev F (.slLU a lo hi) ρ s=(ev F a ρ s).bind fun x s=>(ev F lo ρ s).bind fun y s=>match y with|.int i=>(ev F hi ρ s).bind (fun z s=>match z with|.int j=>slM x (some i) (some j) s|_=>.bad)|_=>.bad:=rfl
noncomputable def qC (N:Int):O:=.lst [.int N]
theorem bg0 {s:Sto}{r:Nat}(h:∃ N,s[r]?=some (qC N)):r<s.length:=by obtain⟨b,hb⟩:=h;exact(ag.mp hb).1
theorem bq4 {s:Sto}{r:Nat}{b:Int}(h:r<s.length):∃ b',(s.set r (qC b))[r]?=some (qC b'):=⟨b,aO6 h⟩
theorem aw4 {P:Pr}[Has P ad6](n:Nat){s:Sto}{r:Nat}(hs:∃ N,s[r]?=some (qC N))(many:Int)(h0:0<many)(h:many<=10^90) :
  ∃(k:Nat) (N:Int),(k:Int)<many/\(aa1 P (n+1)).call "_law_draw" [.ref r,.int many] s=.ok (.int k) (s.set r (qC N)):=by
 obtain⟨N,hN⟩:=hs
 have e0:(aa1 P (n+1)).call "_law_draw" [.ref r,.int many] s=_:=zI ad6 (n:=n) rfl
 have hm3:many<10^200:=by
  have:(10:Int)^90<10^200:=by decide +kernel
  omega
 have h1:=iH N (show many≠0 by omega)
 have h2:=gZ N h0
 refine⟨(N % many).toNat,N / many,by omega,?_⟩
 rw[e0]
 have hs':s[r]?=some (.lst [.int N]):=hN
 simp -implicitDefEqProofs [ad6,ixM,hs',ixn,ao1 h0,aD0 h0 hm3,setIx]
 rw[show max (N % many) 0=N % many by omega]
 exact aF8 (fun _=>rfl) (by nofun) rfl
def bR7 (s:Sto)(x:R D):Prop:=∃ N:Int,x=.ok (.ref s.length) (s++[qC N])
theorem bA4 {P:Pr}[Has P ap7](n:Nat)(ns:List Int)(k:Nat){s:Sto}{r:Nat}(hs:s[r]?=some (.ro (ns.map D.int))) :
  ∃ N:Int,(aa1 P (n+1)).call "_law_box" [.ref r,.int k] s=.ok (.ref s.length) (s++[qC N]):=by
 have e0:(aa1 P (n+1)).call "_law_box" [.ref r,.int k] s=_:=zI ap7 (n:=n) rfl
 have hlen:bi .len [.ref r] s=.ok (.int ns.length) s:=by rw[bc2 hs,aM]
 have m1:∀ a:Int,mulOk 7919 a=true:=fun a=>ap4 (by decide)
 have m2:∀ a:Int,mulOk a 48271=true:=fun a=>aI3 (by decide)
 have m3:∀ a:Int,mulOk 104729 a=true:=fun a=>ap4 (by decide)
 have m4:∀ a:Int,mulOk a 2147483647=true:=fun a=>aI3 (by decide)
 have m5:∀ a:Int,mulOk 31 a=true:=fun a=>ap4 (by decide)
 have m6:∀ a:Int,mulOk (a % 2147483647) (a % 2147483647)=true:=fun a=>ap4 (by
  have h1:=iH a (show(2147483647:Int)≠0 by decide)
  have h2:=gZ a (show(0:Int)<2147483647 by decide)
  omega)
 have cn:∀ N:Int,ab3 s (.ref s.length) (s++[.lst [.int N]])=.ok (.ref s.length) (s++[qC N]):=fun N=>by
  have:=aN5 (s:=s) (t:=[]) (u:=[]) (o:=qC N) rfl
  simp only[dN,jl,fH]at this
  exact this
 have tail:∀ c:Int,bR7 s ((exs (aa1 P n) (.cons (.ite (.cmp .ge (.var 2) (.bin .pow (.cst (.int 10)) (.cst (.int 18)))) (.cons (.ret (.lst (.cons (.var 2) .nil))) .nil) .nil) (.cons (.asg (.one 3) (.cst (.int 0))) (.cons (.for_ (.one 4) (.rng1 (.cst (.int 128))) (.cons (.asg (.one 5) (.bin .mod (.bin .mul (.bin .add (.bin .add (.bin .add (.bin .mod (.var 2) (.cst (.int 2147483647))) (.bin .mul (.cst (.int 7919)) (.var 1))) (.bin .mul (.cst (.int 104729)) (.var 4))) (.cst (.int 97))) (.cst (.int 48271))) (.cst (.int 2147483647)))) (.cons (.asg (.one 3) (.bin .add (.bin .mul (.var 3) (.cst (.int 2147483647))) (.bin .mod (.bin .add (.bin .add (.bin .mul (.var 5) (.var 5)) (.bin .mul (.cst (.int 31)) (.var 4))) (.bin .fdiv (.var 2) (.cst (.int 2147483647)))) (.cst (.int 2147483647))))) .nil))) (.cons (.ret (.lst (.cons (.var 3) .nil))) .nil))))
   [some (.ref r),some (.int k),some (.int c),none,none,none] s).bind (fin s)):=by
  intro c
  by_cases hc:(10:Int)^18<=c
  ·have hc':(1000000000000000000:Int)<=c:=hc
   exact⟨c,by simp -implicitDefEqProofs [aI4,hc',cn]⟩
  ·have hc':¬(1000000000000000000:Int)<=c:=hc
   simp -implicitDefEqProofs [aI4,hc']
   rw[qg (by decide) (by decide)]
   simp only[R.bind_ok]
   refine ah7 (W:=bR7 s) (fun j ρ t=>t=s/\∃(N:Int) (x y:Option D),ρ=[some (.ref r),some (.int k),some (.int c),some (.int N),x,y]) ⟨rfl,0,_,_,rfl⟩ (fun _ _ _ _ _=>rfl) ?_ ?_
   ·rintro j d ρ t hj ⟨rfl,N,x,y,rfl⟩
    obtain⟨_,rfl⟩:=ao9 hj
    conv=>arg 2;simp -implicitDefEqProofs [turn,ae0 (m1 _),ae0 (m2 _),ae0 (m3 _),ae0 (m4 _),ae0 (m5 _),ae0 (m6 _),ao1,aD0]
    exact⟨rfl,_,_,_,rfl⟩
   ·rintro ρ t ⟨rfl,N,x,y,rfl⟩
    exact⟨N,by simp -implicitDefEqProofs [cn]⟩
 rw[e0]
 by_cases hk:k<ns.length
 ·have hx:ixM (.ref r) (.int k) s=.ok (.int (ns.getD k 0)) s:=bM4 hs (by simp[hk])
  obtain⟨N,e⟩:=tail (if ns.getD k 0<0 then -ns.getD k 0 else ns.getD k 0)
  refine⟨N,?_⟩
  rw[<-e]
  simp -implicitDefEqProofs [ap7,hlen,hk,hx]
 ·obtain⟨N,e⟩:=tail 0
  refine⟨N,?_⟩
  rw[<-e]
  simp -implicitDefEqProofs [ap7,hlen,hk]
@[simp] theorem bH5 {F:Fns} {ρ:Env} {s:Sto} (e:E):evI F (.enum (.seq e)) ρ s=(ev F e ρ s).bind fun d s=>(aY7 d s).bind fun q s=>.ok ⟨bh6 0 q.its,q.src⟩ s:=rfl
theorem ax6 {P:Pr}[Has P ad6](n:Nat){s t:Sto}{r:Nat}(hr:r<s.length)(b:Int)(many:Int)(h0:0<many)(h:many<=10^90) :
  ∃(k:Nat) (b':Int),(k:Int)<many/\(aa1 P (n+1)).call "_law_draw" [.ref r,.int many] (s.set r (qC b)++t)=.ok (.int k) (s.set r (qC b')++t):=by
 obtain⟨k,b',h1,h2⟩:=aw4 (P:=P) n (s:=s.set r (qC b)++t) (r:=r) ⟨b,aJ8 (aO6 hr)⟩ many h0 h
 refine⟨k,b',h1,?_⟩
 rw[h2,bl3 (by rw[aY];exact hr),jn]
theorem bn8 {s t:Sto}{r:Nat}{b:Int}{l:List D}{v:D}(h:l.length<LIM):meth .append (.ref s.length) [v] (s.set r (qC b)++(.lst l::t))=.ok .non (s.set r (qC b)++(.lst (l++[v])::t)):=by
 rw[ag1 (l:=l) (by rw[aI (by simp)];simp) h]
 congr 1
 rw[iG,if_neg (by simp)]
 simp
noncomputable def row (m:Nat)(f:Nat->Int):List D:=(ao m).map fun j=>.int (f j)
noncomputable def gd (m:Nat)(f:Nat->Nat->Int):D:=.tup ((ao m).map fun i=>.tup (row m (f i)))
theorem ak8 {m:Nat}{f:Nat->Int}{j:Nat}(h:j<m):(row m f)[j]?=some (.int (f j)):=by
 unfold row;rw[aE,bO h];rfl
@[simp] theorem aO7 {m:Nat} {f:Nat->Int}:(row m f).length=m:=by unfold row;simp
theorem bq5 {m:Nat}{f:Nat->Int}{j:Nat}{d:D}(h:(row m f)[j]?=some d):j<m/\d=.int (f j):=by
 have hj:=(ag.mp h).1
 rw[aO7]at hj
 rw[ak8 hj]at h
 exact⟨hj,(az h).symm⟩
theorem bk6 {m:Nat}{f:Nat->Int}(n:Nat):D.bndL n (row m f)=true:=ai1 (fun d hd n=>by
 obtain⟨j,_,rfl⟩:=aG.mp hd;rfl) n
theorem an0 {m:Nat}{f:Nat->Nat->Int}(n:Nat):(gd m f).bnd n=true:=by
 unfold gd D.bnd
 exact ai1 (fun d hd n=>by
  obtain⟨j,_,rfl⟩:=aG.mp hd
  unfold D.bnd;exact bk6 n) n
theorem aG0 {m:Nat}{f:Nat->Nat->Int}{i:Nat}(h:i<m)(s:Sto):ixM (gd m f) (.int (i:Int)) s=.ok (.tup (row m (f i))) s :=
 ix_tup (by rw[aE,bO h];rfl)
theorem ae5 {m:Nat}{f:Nat->Int}{j:Nat}(h:j<m)(s:Sto):ixM (.tup (row m f)) (.int (j:Int)) s=.ok (.int (f j)) s:=ix_tup (ak8 h)
theorem bc8 {m:Nat}{f:Nat->Nat->Int}(s:Sto):be5 (gd m f) s=.ok ⟨(ao m).map fun i=>.tup (row m (f i)),[]⟩ s:=rfl
theorem aH6 {l:List D}(s:Sto):be5 (.tup l) s=.ok ⟨l,[]⟩ s:=rfl
theorem aB8 {ok:Sto->Bool}{g:D->Env->Sto->R (Option D×Env)}(P:Env->Sto->Prop)(f:D->D)(l:List D)(ρ:Env)(s:Sto)(h:P ρ s)
  (o:∀ ρ s,P ρ s->ok s=true) (st:∀ d∈l,∀ ρ s,P ρ s->∃ ρ' s',g d ρ s=.ok (some (f d),ρ') s'/\P ρ' s'):∃ ρ' s',ac5 ok g l ρ s=.ok (l.map f) s'/\P ρ' s':=by
 obtain⟨ρ',s',e,p⟩:=aB6 P (fun d=>some (f d)) l ρ s h o st
 refine⟨ρ',s',?_,p⟩
 rw[e];congr 1;induction l<;>simp_all
theorem af1 {ok:Sto->Bool}{g:D->Env->Sto->R (Option D×Env)}(P:Env->Sto->Prop)(f:Nat->D)(n:Nat)(ρ:Env)(s:Sto)(h:P ρ s)
  (o:∀ ρ s,P ρ s->ok s=true) (st:∀ j,j<n->∀ ρ s,P ρ s->∃ ρ' s',g (.int (j:Int)) ρ s=.ok (some (f j),ρ') s'/\P ρ' s'):∃ ρ' s',ac5 ok g (ah5 0 (n:Int)) ρ s=.ok ((ao n).map f) s'/\P ρ' s':=by
 obtain⟨ρ',s',e,p⟩:=aB8 (g:=g) P (fun d=>match d with|.int i=>f i.toNat|d=>d) (ah5 0 (n:Int)) ρ s h o fun d hd ρ s hp=>by
  obtain⟨j,hj⟩:=List.getElem?_of_mem hd
  obtain⟨h2,rfl⟩:=ao9 hj
  obtain⟨ρ',s',e,p⟩:=st j (by omega) ρ s hp
  refine⟨ρ',s',?_,p⟩
  rw[jo,e];rfl
 refine⟨ρ',s',?_,p⟩
 rw[e]
 congr 1
 unfold ah5
 rw[hZ,show((n:Int) - 0).toNat=n by omega]
 exact List.map_congr_left fun j _=>by
  show f ((0:Int)+(j:Int)).toNat=f j
  congr 1;omega
theorem z8 (n:Nat):(ah5 0 (n:Int)).length=n:=by simp[ah5]
theorem qH {n j:Nat}{d:D}(h:(ah5 0 (n:Int))[j]?=some d):j<n/\d=.int (j:Int):=by
 obtain⟨h1,rfl⟩:=ao9 h
 exact⟨by omega,by rw[jo]⟩
theorem aP8 {m:Nat}{f:Nat->Int}{i:Int}:(row m f).map (fun _=>D.int i)=row m fun _=>i:=by
 unfold row;rw[hZ];rfl
theorem aR7 {s t:Sto}{l:List D}{v:D}(h:l.length<LIM):meth .append (.ref s.length) [v] (s++.lst l::t)=.ok .non (s++.lst (l++[v])::t):=by
 rw[ag1 (l:=l) (by rw[aI (ai _)];simp) h,dj _ _ (ai _)]
 simp
theorem aq2 {s t:Sto}{o:O}{x:O}:(s++x::(t++[o]))[s.length+(t.length+1)]?=some o:=by
 rw[show(s++x::(t++[o]))=(s++x::t)++[o]by simp,aI (by simp)]
 simp
noncomputable def prN (f g:Nat->Nat->Int)(i j:Nat):Nat->Int
 | 0=>3
 | k+1=>if f i k<3 then(let b:=(if g k j > f i k then g k j else f i k);if b<prN f g i j k then b else prN f g i j k)else prN f g i j k
noncomputable def pr (m:Nat)(f g:Nat->Nat->Int)(i j:Nat):Int:=prN f g i j m
theorem af8 {P:Pr}[Has P ab5](n:Nat){m:Nat}(hR:m<=5)(f g:Nat->Nat->Int)(s:Sto) :
  (aa1 P (n+1)).call "_law_product" [gd m f,gd m g] s=.ok (gd m (pr m f g)) s:=by
 have e0:(aa1 P (n+1)).call "_law_product" [gd m f,gd m g] s=_:=zI ab5 (n:=n) rfl
 rw[e0]
 conv=>lhs;simp only[ab5]
 simp -implicitDefEqProofs [bc8]
 refine aA6 (fun i ρ t=>∃(T:Sto) (x y z:Option D),ρ=[some (gd m f),some (gd m g),some (.ref s.length),x,y,z]/\t=s++.lst ((ao i).map fun i=>.tup (row m (pr m f g i)))::T) ⟨[],none,none,none,rfl,rfl⟩ (fun _ _ _ _ _=>rfl) ?_ ?_
 ·rintro i d ρ t hi ⟨T,x,y,z,rfl,rfl⟩
  have hi5:i<m:=by have:=(ag.mp hi).1;simpa using this
  have hd:d=.tup (row m (f i)):=by rw[aE,bO hi5]at hi;exact(az hi).symm
  subst hd
  conv=>arg 2;simp -implicitDefEqProofs [turn,aH6]
  rw[if_pos (by unfold LIM;omega)]
  obtain⟨ρ1,s1,e1,h1⟩:=aB8 (ok:=fun s1=>chk (s++.lst ((ao i).map fun i=>.tup (row m (pr m f g i)))::T) s1 []) (g:=qS (aa1 P n) (.one 0) (.cst (.int 3))) (fun ρ u=>u=s++.lst ((ao i).map fun i=>.tup (row m (pr m f g i)))::T/\∃ x,ρ=[x]) (fun _=>.int 3) (row m (f i)) (qt [some (gd m f),some (gd m g),some (.ref s.length),some (.tup (row m (f i))),y,z] [none]) _ ⟨rfl,none,rfl⟩ (fun _ _ _=>rfl) (by
   rintro d _ ρ u ⟨rfl,x,rfl⟩
   exact⟨_,_,rfl,rfl,_,rfl⟩)
  obtain⟨rfl,_⟩:=h1
  rw[aP8]at e1
  rw[e1]
  simp -implicitDefEqProofs [mk]
  rw[qg (by unfold W62;omega) (by unfold W62;omega)]
  simp only[R.bind_ok]
  refine ah7 (W:=Nx _) (fun k ρ t=>∃(T:Sto) (p:Nat) (z:Option D),ρ=[some (gd m f),some (gd m g),some (.ref s.length),some (.tup (row m (f i))),some (.ref p),z]/\t=s++.lst ((ao i).map fun i=>.tup (row m (pr m f g i)))::T/\t[p]?=some (.lst (row m fun j=>prN f g i j k))) ⟨T++[.lst (row m fun _=>3)],s.length+(T.length+1),z,rfl,rfl,aq2⟩ (fun _ _ _ _ _=>rfl) ?_ ?_
  ·rintro k d ρ t hk ⟨T,p,z,rfl,rfl,hp⟩
   obtain⟨hk5,rfl⟩:=qH hk
   by_cases h3:f i k<3
   ·conv=>arg 2;simp -implicitDefEqProofs [turn,ae5 hk5,h3]
    rw[qg (by unfold W62;omega) (by unfold W62;omega)]
    simp only[R.bind_ok]
    rw[if_pos (by rw[z8];unfold LIM;omega)]
    obtain⟨ρ1,s1,e1,h1⟩:=af1 (ok:=fun s1=>chk (s++.lst ((ao i).map fun i=>.tup (row m (pr m f g i)))::T) s1 []) (g:=qS (aa1 P n) (.one 0) (.bi .min2 (.cons (.ix (.var 1) (.var 0)) (.cons (.bi .max2 (.cons (.ix (.var 2) (.var 3)) (.cons (.ix (.ix (.var 4) (.var 3)) (.var 0)) .nil))) .nil)))) (fun ρ u=>u=s++.lst ((ao i).map fun i=>.tup (row m (pr m f g i)))::T/\∃ x,ρ=[x,some (.ref p),some (.tup (row m (f i))),some (.int k),some (gd m g)]) (fun j=>.int (prN f g i j (k+1))) m (qt [some (gd m f),some (gd m g),some (.ref s.length),some (.tup (row m (f i))),some (.ref p),some (.int (k:Int))] [none,some 4,some 3,some 5,some 1]) _ ⟨rfl,none,rfl⟩ (fun _ _ _=>rfl) (by
     rintro j hj ρ u ⟨rfl,x,rfl⟩
     refine⟨[some (.int j),some (.ref p),some (.tup (row m (f i))),some (.int k),some (gd m g)],_,?_,rfl,_,rfl⟩
     simp -implicitDefEqProofs [qS,ae5 hk5,aG0 hk5,ae5 hj,be0 hp (ak8 hj),prN,h3])
    obtain⟨rfl,_⟩:=h1
    rw[e1]
    simp -implicitDefEqProofs [mk]
    rfl
   ·refine aX1 (ρ:=[some (gd m f),some (gd m g),some (.ref s.length),some (.tup (row m (f i))),some (.ref p),some (.int k)]) ?_ ⟨T,p,_,rfl,rfl,?_⟩
    ·simp -implicitDefEqProofs [turn,ae5 hk5,h3]
    ·rw[hp];simp[prN,h3]
  ·rintro ρ t ⟨T,p,z,rfl,rfl,hp⟩
   rw[z8]at hp
   simp -implicitDefEqProofs [aT1,hp,mk]
   rw[aR7 (by unfold LIM;simp;omega)]
   simp -implicitDefEqProofs
   rw[iI,cA];rfl
 ·rintro ρ t ⟨T,x,y,z,rfl,rfl⟩
  have h0:(s++.lst ((ao m).map fun i=>D.tup (row m (pr m f g i)))::T:Sto)[s.length]?=some (.lst ((ao m).map fun i=>D.tup (row m (pr m f g i)))):=by rw[aI (ai _)];simp
  simp -implicitDefEqProofs [aT1,h0,mk]
  exact ae7 (d:=gd m (pr m f g)) an0 (by nofun)
noncomputable def bv5 (m:Nat)(f:Nat->Nat->Int):Sto:=(ao m).map fun i=>.lst (row m (f i))
@[simp] theorem by8 {m:Nat} {f:Nat->Nat->Int}:(bv5 m f).length=m:=by unfold bv5;simp
noncomputable def bV7 (p m:Nat):List D:=(ao m).map fun i=>.ref (p+i)
@[simp] theorem bO5 {F:Fns} {ρ:Env} {s:Sto} (a b:E):evI F (.zip (.seq a) (.seq b)) ρ s=(ev F a ρ s).bind fun x s=>(ev F b ρ s).bind fun y s=>(aE5 x s).bind fun p s=>(aE5 y s).bind fun q s=>.ok ⟨bK4 p.its q.its,p.src++q.src⟩ s:=rfl
theorem ix_str {l:List Nat}{j c:Nat}{s:Sto}(hj:l[j]?=some c):ixM (.str l) (.int (j:Int)) s=.ok (.str [c]) s:=by
 have hl:j<l.length:=(ag.mp hj).1
 have e:l[j]=c:=(ag.mp hj).2
 simp[ixM,ixn,hl,e]
theorem bo0 (s:Sto)(n:Nat)(a b:Int):eqv s n (.int a) (.int b)=some (a==b):=by cases n<;>rfl
noncomputable def shN (f:Nat->Nat->Int)(i j:Nat):Nat->Int
 | 0=>3
 | k+1=>let b:=max (max (f i k) (if f k k=1 then 2 else f k k)) (f k j);if b<shN f i j k then b else shN f i j k
noncomputable def sh (m:Nat)(f:Nat->Nat->Int)(i j:Nat):Int:=shN f i j m
theorem aU3 {a b c:Int}{s:Sto}:bi .max3 [.int a,.int b,.int c] s=.ok (.int (max (max a b) c)) s:=rfl
theorem aN7 {m:Nat}{f:Nat->Nat->Int}{s:Sto}:bi .len [gd m f] s=.ok (.int m) s:=by
 show R.ok (D.int ((ao m).map fun i=>D.tup (row m (f i))).length) s=_
 simp
theorem aV3 {s:Sto}{l:List D}{v:D}(h:l.length<LIM):meth .append (.ref s.length) [v] (s++[.lst l])=.ok .non (s++[.lst (l++[v])]):=aR7 (t:=[]) h
theorem aI2 {s:Sto}{n m:Nat}{f g:Nat->Int}:∀ l:List Nat,eqL (eqv s n) (l.map fun j=>.int (f j)) (l.map fun j=>.int (g j))=some (l.all fun j=>f j==g j)
 | []=>rfl
 | a::l=>by
  rw[aJ,aJ]
  unfold eqL
  rw[bo0,aI2 (m:=m) l]
  simp
theorem bc4 {s:Sto}{n m:Nat}{f g:Nat->Nat->Int}:∀ l:List Nat,eqL (eqv s (n+1)) (l.map fun i=>.tup (row m (f i))) (l.map fun i=>.tup (row m (g i)))=some (l.all fun i=>(ao m).all fun j=>f i j==g i j)
 | []=>rfl
 | a::l=>by
  rw[aJ,aJ]
  unfold eqL
  rw[show eqv s (n+1) (.tup (row m (f a))) (.tup (row m (g a)))=eqL (eqv s n) (row m (f a)) (row m (g a))from rfl,row,row,aI2 (m:=m),bc4 l]
  simp
def EqG (m:Nat)(f g:Nat->Nat->Int):Prop:=∀ i j,i<m->j<m->f i j=g i j
theorem bc6 {s:Sto}{m:Nat}{f g:Nat->Nat->Int}:∃ b:Bool,eqv s DEEP (gd m f) (gd m g)=some b/\(b=true↔EqG m f g):=by
 refine⟨_,bc4 (n:=28) (ao m),?_⟩
 simp[EqG,aD]
 exact⟨fun h i j hi hj=>h i hi j hj,fun h i hi j hj=>h i j hi hj⟩
theorem bH0 {s:Sto}{m:Nat}{f g:Nat->Nat->Int}:∃ b:Bool,qp .eq (gd m f) (gd m g) s=.ok (.bl b) s/\(b=true↔EqG m f g):=by
 obtain⟨b,e,h⟩:=bc6 (s:=s) (m:=m) (f:=f) (g:=g)
 exact⟨b,by show(match eqv s DEEP (gd m f) (gd m g)with|some r=>R.ok (D.bl r) s|none=>.bad)=_;rw[e],h⟩
theorem bL5 {s:Sto}{m:Nat}{f g:Nat->Nat->Int}:∃ b:Bool,qp .ne (gd m f) (gd m g) s=.ok (.bl (!b)) s/\(b=true↔EqG m f g):=by
 obtain⟨b,e,h⟩:=bc6 (s:=s) (m:=m) (f:=f) (g:=g)
 exact⟨b,by show(match eqv s DEEP (gd m f) (gd m g)with|some r=>R.ok (D.bl (!r)) s|none=>.bad)=_;rw[e],h⟩
inductive Stp where
 | let_ (c:Nat)|pair (i j:Nat)|sharp (i:Nat)
noncomputable def Stp.d:Stp->D
 | .let_ c=>.tup [.str [108,101,116,116,101,114],.str [c]]
 | .pair i j=>.tup [.str [112,97,105,114],.int i,.int j]
 | .sharp i=>.tup [.str [115,104,97,114,112],.int i]
theorem qz {l:List D}(h:∀ d∈l,d.ncl=true):D.nclL l=true:=by
 induction l with
 | nil=>rfl
 | cons d l ih=>unfold D.nclL;rw[h d (aq ..),ih fun x hx=>h x (ah _ hx)];rfl
theorem aV9 {l:List Int}:D.nclL (l.map D.int)=true:=qz fun d hd=>by obtain⟨x,_,rfl⟩:=aG.mp hd;rfl
theorem aN9 {m:Nat}{f:Nat->Int}:D.nclL (row m f)=true:=qz fun d hd=>by obtain⟨x,_,rfl⟩:=aG.mp hd;rfl
theorem aA4 {m:Nat}{f:Nat->Nat->Int}:(gd m f).ncl=true:=by
 unfold gd D.ncl
 exact qz fun d hd=>by obtain⟨x,_,rfl⟩:=aG.mp hd;unfold D.ncl;exact aN9
theorem aR0 {s:Sto}{r:Nat}{o:O}(h:s.all O.ncl=true)(ho:o.ncl=true):(s.set r o).all O.ncl=true:=by
 rw[aD]at h ⊢
 intro x hx
 rcases d9 hx with h1|h1
 ·exact h x h1
 ·rw[h1];exact ho
section
variable {s:Sto} {r:Nat} {b:Int} {A B C:List D} {T:Sto}
end
theorem aM5 {f g:Nat->Nat->Int}{i j:Nat}{x:Int}:∀ k,prN f g i j k<=x↔3<=x\/∃ l,l<k/\f i l<3/\f i l<=x/\g l j<=x
 | 0=>by unfold prN;exact⟨.inl,fun h=>h.elim id fun⟨l,hl,_⟩=>absurd hl (dP _)⟩
 | k+1=>by
  have ih:=aM5 (f:=f) (g:=g) (i:=i) (j:=j) (x:=x) k
  have key:prN f g i j (k+1)<=x↔prN f g i j k<=x\/(f i k<3/\f i k<=x/\g k j<=x):=by
   conv=>lhs;unfold prN
   simp only
   repeat' split
   all_goals omega
  rw[key,ih]
  constructor
  ·rintro((h|⟨l,h1,h2⟩)|h)
   ·exact .inl h
   ·exact .inr ⟨l,by omega,h2⟩
   ·exact .inr ⟨k,by omega,h⟩
  ·rintro(h|⟨l,h1,h2⟩)
   ·exact .inl (.inl h)
   ·by_cases e:l=k
    ·subst e;exact .inr h2
    ·exact .inl (.inr ⟨l,by omega,h2⟩)
theorem br4 {m:Nat}{f g:Nat->Nat->Int}{i j:Nat}{x:Int}(hx:x<3):pr m f g i j<=x↔∃ l,l<m/\f i l<=x/\g l j<=x:=by
 unfold pr
 rw[aM5]
 constructor
 ·rintro(h|⟨l,h1,_,h2,h3⟩)
  ·omega
  ·exact⟨l,h1,h2,h3⟩
 ·rintro⟨l,h1,h2,h3⟩
  exact .inr ⟨l,h1,by omega,h2,h3⟩
theorem bL7 {m:Nat}{f g:Nat->Nat->Int}{i j:Nat}:pr m f g i j<=3:=by
 unfold pr;exact(aM5 _).mpr (.inl (bR _))
theorem bk3 {a b:Int}(ha:a<=3)(hb:b<=3)(h:∀ x,x<3->(a<=x↔b<=x)):a=b:=by
 by_cases h1:a<3
 ·have:=(h a h1).mp (bR _)
  have:=(h b (by omega)).mpr (bR _)
  omega
 ·by_cases h2:b<3
  ·have:=(h b h2).mpr (bR _);omega
  ·omega
noncomputable def pw (m:Nat)(f:Nat->Nat->Int):Nat->Nat->Nat->Int
 | 0=>f
 | n+1=>pr m (pw m f n) f
theorem bU1 {m:Nat}{f:Nat->Nat->Int}(h:∀ i j,f i j<=3):∀ n i j,pw m f n i j<=3
 | 0,i,j=>h i j
 | n+1,i,j=>bL7
def Wlk (m:Nat)(f:Nat->Nat->Int)(x:Int)(n i j:Nat):Prop:=∃ w:Nat->Nat,w 0=i/\w n=j/\(∀ k,k<=n->w k<m)/\∀ k,k<n->f (w k) (w (k+1))<=x
section
variable {m:Nat} {f:Nat->Nat->Int} {x:Int}
theorem Wlk.app {a b i k j:Nat}:Wlk m f x a i k->Wlk m f x b k j->Wlk m f x (a+b) i j:=by
 rintro⟨w,w0,w1,w2,w3⟩ ⟨v,v0,v1,v2,v3⟩
 refine⟨fun t=>if t<a then w t else v (t - a),?_,?_,fun t ht=>?_,fun t ht=>?_⟩
 ·by_cases h:0<a
  ·simp only[h,if_true];exact w0
  ·have:a=0:=by omega
   subst this
   simp only[bu,if_false]
   rw[v0,<-w1,w0]
 ·have:¬ a+b<a:=by omega
  simp only[this,if_false]
  rw[fe];exact v1
 ·by_cases h:t<a
  ·simp only[h,if_true];exact w2 t (by omega)
  ·simp only[h,if_false];exact v2 _ (by omega)
 ·by_cases h:t<a
  ·by_cases h2:t+1<a
   ·simp only[h,h2,if_true];exact w3 t h
   ·have e:t+1=a:=by omega
    simp only[h,h2,if_true,if_false]
    rw[show t+1 - a=0 by omega,v0,<-w1,<-e]
    exact w3 t h
  ·have h2:¬ t+1<a:=by omega
   simp only[h,h2,if_false]
   rw[show t+1 - a=t - a+1 by omega]
   exact v3 _ (by omega)
theorem Wlk.split {a b i j:Nat}:Wlk m f x (a+b) i j->∃ k,k<m/\Wlk m f x a i k/\Wlk m f x b k j:=by
 rintro⟨w,w0,w1,w2,w3⟩
 refine⟨w a,w2 a (by omega),⟨w,w0,rfl,fun k hk=>w2 k (by omega),fun k hk=>w3 k (by omega)⟩,⟨fun t=>w (a+t),rfl,w1,fun k hk=>w2 _ (by omega),fun k hk=>w3 (a+k) (by omega)⟩⟩
theorem Wlk.one {i j:Nat}(hi:i<m)(hj:j<m):Wlk m f x 1 i j↔f i j<=x:=by
 constructor
 ·rintro⟨w,w0,w1,w2,w3⟩
  have:=w3 0 (by decide)
  rw[w0,w1]at this
  exact this
 ·intro h
  refine⟨fun t=>if t=0 then i else j,rfl,rfl,fun k _=>?_,fun k hk=>?_⟩
  ·show(if k=0 then i else j)<m
   split<;>assumption
  ·have:k=0:=by omega
   subst this;exact h
theorem ah4 (hx:x<3):∀ n i j,i<m->j<m->(pw m f n i j<=x↔Wlk m f x (n+1) i j)
 | 0,i,j,hi,hj=>(Wlk.one hi hj).symm
 | n+1,i,j,hi,hj=>by
  show pr m (pw m f n) f i j<=x↔_
  rw[br4 hx]
  constructor
  ·rintro⟨l,hl,h1,h2⟩
   exact((ah4 hx n i l hi hl).mp h1).app ((Wlk.one hl hj).mpr h2)
  ·intro h
   obtain⟨k,hk,h1,h2⟩:=h.split
   exact⟨k,hk,(ah4 hx n i k hi hk).mpr h1,(Wlk.one hk hj).mp h2⟩
theorem pig:∀(B:Nat) (f:Nat->Nat),(∀ i,i<=B->f i<B)->∃ i j,i<j/\j<=B/\f i=f j
 | 0,f,h=>absurd (h 0 (ai _)) (dP _)
 | B+1,f,h=>by
  by_cases hx:∃ i,i<=B/\f i=f (B+1)
  ·obtain⟨i,h1,h2⟩:=hx
   exact⟨i,B+1,by omega,ai _,h2⟩
  ·obtain⟨i,j,h1,h2,h3⟩:=pig B (fun i=>if f i=B then f (B+1)else f i) fun i hi=>by
    have h4:=h i (by omega)
    have h5:=h (B+1) (ai _)
    have h6:f i≠f (B+1):=fun e=>hx ⟨i,hi,e⟩
    show(if f i=B then f (B+1)else f i)<B
    split<;>omega
   refine⟨i,j,h1,by omega,?_⟩
   have h4:f i≠f (B+1):=fun e=>hx ⟨i,by omega,e⟩
   have h5:f j≠f (B+1):=fun e=>hx ⟨j,h2,e⟩
   have h3:(if f i=B then f (B+1)else f i)=(if f j=B then f (B+1)else f j):=h3
   split at h3<;>split at h3<;>omega
theorem Wlk.pump (hm:m<=5){n i j:Nat}(hn:5<=n):Wlk m f x n i j->Wlk m f x (n+60) i j:=by
 rintro⟨w,w0,w1,w2,w3⟩
 obtain⟨p,q,h1,h2,h3⟩:=pig 5 w fun k hk=>am (w2 k (by omega)) hm
 obtain⟨c,hc⟩:∃ c,q=p+c:=⟨q - p,by omega⟩
 have hc1:1<=c:=by omega
 have hc5:c<=5:=by omega
 have h60:60 % c=0:=by
  have:c=1\/c=2\/c=3\/c=4\/c=5:=by omega
  rcases this with rfl|rfl|rfl|rfl|rfl<;>rfl
 have A:Wlk m f x p i (w p):=⟨w,w0,rfl,fun k hk=>w2 k (by omega),fun k hk=>w3 k (by omega)⟩
 have C:Wlk m f x c (w p) (w p):=⟨fun t=>w (p+t),rfl,by show w (p+c)=_;rw[<-hc,h3],fun k hk=>w2 _ (by omega),fun k hk=>w3 (p+k) (by omega)⟩
 have B:Wlk m f x (n - p) (w p) j:=⟨fun t=>w (p+t),rfl,by show w (p+(n - p))=_;rw[show p+(n - p)=n by omega];exact w1,fun k hk=>w2 _ (by omega),fun k hk=>w3 (p+k) (by omega)⟩
 have Z:∀ t,Wlk m f x (c*t) (w p) (w p):=fun t=>by
  induction t with
  | zero=>exact⟨fun _=>w p,rfl,rfl,fun _ _=>w2 p (by omega),fun k hk=>by omega⟩
  | succ t ih=>exact ih.app C
 have e60:c*(60 / c)=60:=by
  have:=Nat.div_add_mod 60 c
  omega
 have:=(A.app (Z (60 / c))).app B
 rw[e60,show p+60+(n - p)=n+60 by omega]at this
 exact this
end
noncomputable def aY1 (m:Nat)(f:Nat->Nat->Int):Nat:=((ao m).map fun i=>((ao m).map fun j=>(f i j).toNat).sum).sum
theorem bf1 {l:List Nat}{f g:Nat->Nat}(h:∀ i∈l,f i<=g i):(l.map f).sum<=(l.map g).sum/\((l.map f).sum=(l.map g).sum->∀ i∈l,f i=g i):=by
 induction l with
 | nil=>exact⟨ai _,fun _ i hi=>by cases hi⟩
 | cons a l ih =>
  obtain⟨h1,h2⟩:=ih fun i hi=>h i (ah _ hi)
  have ha:=h a (aq ..)
  simp only[aJ,ja]
  refine⟨by omega,fun e i hi=>?_⟩
  rcases au.mp hi with rfl|hi
  ·omega
  ·exact h2 (by omega) i hi
theorem bp4 {m:Nat}{f g:Nat->Nat->Int}(h0:∀ i j,i<m->j<m->0<=f i j)(h:∀ i j,i<m->j<m->f i j<=g i j):aY1 m f<=aY1 m g/\(aY1 m f=aY1 m g->EqG m f g):=by
 have row:∀ i,i<m->((ao m).map fun j=>(f i j).toNat).sum<=((ao m).map fun j=>(g i j).toNat).sum/\(((ao m).map fun j=>(f i j).toNat).sum=((ao m).map fun j=>(g i j).toNat).sum->∀ j∈ao m,(f i j).toNat=(g i j).toNat):=fun i hi=>bf1 fun j hj=>by
  have:=h i j hi (bp.mp hj)
  omega
 obtain⟨h1,h2⟩:=bf1 (l:=ao m) (f:=fun i=>((ao m).map fun j=>(f i j).toNat).sum) (g:=fun i=>((ao m).map fun j=>(g i j).toNat).sum) fun i hi=>(row i (bp.mp hi)).1
 refine⟨h1,fun e i j hi hj=>?_⟩
 have e1:=h2 e i (bp.mpr hi)
 have e2:=(row i hi).2 e1 j (bp.mpr hj)
 have:=h0 i j hi hj
 have:=h i j hi hj
 omega
theorem au6 {l:List Nat}{f:Nat->Nat}{c:Nat}(h:∀ i∈l,f i<=c):(l.map f).sum<=l.length*c:=by
 induction l with
 | nil=>simp
 | cons a l ih =>
  have h1:=ih fun i hi=>h i (ah _ hi)
  have h2:=h a (aq ..)
  simp only[aJ,ja,aQ,jh]
  omega
theorem bm2 {m:Nat}(hm:m<=5){f:Nat->Nat->Int}(h:∀ i j,f i j<=3):aY1 m f<=75:=by
 have h1:aY1 m f<=(ao m).length*15:=au6 fun i _=>by
  have:((ao m).map fun j=>(f i j).toNat).sum<=(ao m).length*3:=au6 fun j _=>by have:=h i j;omega
  rw[cG]at this
  omega
 rw[cG]at h1
 omega
theorem aO1 {m:Nat}(hm:m<=5){f:Nat->Nat->Int}(h0:∀ i j,0<=f i j)(h3:∀ i j,f i j<=3):∃ M,M<=5000/\EqG m (pr m (pw m f M) (pw m f M)) (pw m f M):=by
 have p3:=bU1 (m:=m) h3
 have p0:∀ n i j,i<m->j<m->0<=pw m f n i j:=fun n i j hi hj=>by
  by_cases h:0<=pw m f n i j
  ·exact h
  ·obtain⟨w,w0,w1,w2,w3⟩:=(ah4 (m:=m) (f:=f) (x:=-1) (by decide) n i j hi hj).mp (by omega)
   have:=w3 0 (by omega)
   have:=h0 (w 0) (w (0+1))
   omega
 have dec:∀ t i j,i<m->j<m->pw m f (60*(t+1)+59) i j<=pw m f (60*t+59) i j:=fun t i j hi hj=>by
  by_cases hx:pw m f (60*t+59) i j<3
  ·have:=(ah4 hx _ i j hi hj).mp (bR _)
   exact(ah4 hx _ i j hi hj).mpr (by
    have:=this.pump hm (by omega)
    rwa [show 60*t+59+1+60=60*(t+1)+59+1 by omega]at this)
  ·have:=p3 (60*(t+1)+59) i j
   omega
 have ex:∃ t,t<=75/\EqG m (pw m f (60*(t+1)+59)) (pw m f (60*t+59)):=by
  by_cases hne:∃ t,t<=75/\EqG m (pw m f (60*(t+1)+59)) (pw m f (60*t+59))
  ·exact hne
  ·have down:∀ t,t<=76->aY1 m (pw m f (60*t+59))+t<=75:=by
    intro t
    induction t with
    | zero=>intro _;exact bm2 hm (p3 _)
    | succ t ih =>
     intro ht
     have h1:=ih (by omega)
     obtain⟨h2,h4⟩:=bp4 (p0 (60*(t+1)+59)) (dec t)
     have:aY1 m (pw m f (60*(t+1)+59))≠aY1 m (pw m f (60*t+59)):=fun e=>hne ⟨t,by omega,h4 e⟩
     omega
   have:=down 76 (by omega)
   omega
 obtain⟨t,ht,he⟩:=ex
 refine⟨60*t+59,by omega,fun i j hi hj=>?_⟩
 have same:∀ x,x<3->∀ i j,i<m->j<m->(Wlk m f x (60*(t+1)+60) i j↔Wlk m f x (60*(t+1)) i j):=fun x hx i j hi hj=>by
  have h1:=ah4 (m:=m) (f:=f) hx (60*(t+1)+59) i j hi hj
  have h2:=ah4 (m:=m) (f:=f) hx (60*t+59) i j hi hj
  rw[he i j hi hj]at h1
  exact h1.symm.trans h2
 have far:∀ x,x<3->∀ s i j,i<m->j<m->(Wlk m f x (60*(t+1)+60*s) i j↔Wlk m f x (60*(t+1)) i j):=fun x hx s=>by
  induction s with
  | zero=>intro i j _ _;exact Iff.rfl
  | succ s ih =>
   intro i j hi hj
   rw[<-ih i j hi hj]
   constructor
   ·intro h
    rw[show 60*(t+1)+60*(s+1)=(60*(t+1)+60)+60*s by omega]at h
    obtain⟨k,hk,h1,h2⟩:=h.split
    exact((same x hx i k hi hk).mp h1).app h2
   ·intro h
    obtain⟨k,hk,h1,h2⟩:=h.split
    have:=((same x hx i k hi hk).mpr h1).app h2
    rwa [show(60*(t+1)+60)+60*s=60*(t+1)+60*(s+1)by omega]at this
 refine bk3 bL7 (p3 _ i j) fun x hx=>?_
 rw[br4 hx,ah4 hx _ i j hi hj]
 have key:=far x hx (t+1) i j hi hj
 constructor
 ·rintro⟨l,hl,h1,h2⟩
  have:=((ah4 hx _ i l hi hl).mp h1).app ((ah4 hx _ l j hl hj).mp h2)
  rw[show 60*t+59+1+(60*t+59+1)=60*(t+1)+60*(t+1)by omega]at this
  exact key.mp this
 ·intro h
  obtain⟨k,hk,h1,h2⟩:=(key.mpr h).split
  exact⟨k,hk,(ah4 hx _ i k hi hk).mpr h1,(ah4 hx _ k j hk hj).mpr h2⟩
section
variable {F:Fns} {ρ:Env} {s:Sto}
noncomputable def apV (F:Fns)(d:D)(l:List D)(s:Sto):R D:=match d with
 | .fn f=>F.call f l s
 | .clo id cs=>F.lam id cs l s
 | _=>.bad
theorem aY4 {i:Nat}{d:D}(es:Es)(h:ρ[i]?=some (some d)):ev F (.callV i es) ρ s=(evs F es ρ s).bind fun l s=>apV F d l s:=by
 show(evs F es ρ s).bind (fun l s=>match ρ[i]? with
  | some (some (.fn f))=>F.call f l s
  | some (some (.clo id cs))=>F.lam id cs l s
  | _=>.bad)=_
 rw[h]
 cases d<;>rfl
theorem aB9 {id:String}{caps:List Nat}{cs:List D}(as:As)(h:ad3 ρ caps=some cs):af6 F (.lam id caps as) ρ s=(af6 F as ρ s).bind fun l s=>.ok (.clo id cs::l) s:=by
 show(match ad3 ρ caps with
  | some cs=>(af6 F as ρ s).bind fun l s=>R.ok (D.clo id cs::l) s
  | none=>.bad)=_
 rw[h]
end
theorem ai2 {s:Sto}{o:O}(h:s.all O.ncl=true)(ho:o.ncl=true):(s++[o]).all O.ncl=true:=by rw[List.all_append,h];simp[ho]
noncomputable def Stp.t (c:Int):Stp->D
 | .sharp i=>.tup [.str [116,105,109,101,115],.int i,.int c]
 | x=>x.d
noncomputable def gdD (m:Nat)(W:Nat->Nat->D):D:=.tup ((ao m).map fun i=>.tup ((ao m).map fun j=>W i j))
theorem bj8 {m:Nat}{W:Nat->Nat->D}(hW:∀ i j n,(W i j).bnd n=true)(n:Nat):(gdD m W).bnd n=true:=by
 unfold gdD D.bnd
 refine ai1 (fun d hd n=>?_) n
 obtain⟨i,_,rfl⟩:=aG.mp hd
 unfold D.bnd
 refine ai1 (fun d hd n=>?_) n
 obtain⟨j,_,rfl⟩:=aG.mp hd
 exact hW i j n
theorem aI1 {P : Pr} [Has P ab9] (n : Nat) {m : Nat} (hm : m <= 1000) {d : D} {s : Sto} {W : Nat -> Nat -> D} (hW : ∀ i j n, (W i j).bnd n = true)
    (h : ∀ i j, i < m -> j < m -> apV (aa1 P n) d [.int i, .int j] (s ++ [.lst ((ao i).map fun i => .tup ((ao m).map fun j => W i j))]) = .ok (W i j) (s ++ [.lst ((ao i).map fun i => .tup ((ao m).map fun j => W i j))])) :
    (aa1 P (n + 1)).call "grid" [.int m, d] s = .ok (gdD m W) s := by
  have e0 : (aa1 P (n + 1)).call "grid" [.int m, d] s = _ := zI ab9 (n := n) rfl
  rw[e0, show(cS some [D.int m, d] ++ av ab9.vs none) = [some (D.int m), some d, none, none]from rfl]
  simp -implicitDefEqProofs only[ab9]
  simp -implicitDefEqProofs only[zh, zt, qQ, ev_lst, zK, R.bind_ok, alloc_eq, zo, qj, zT, a7, zG, zq, ex_for, qv, zm, zn, zr]
  rw[qg (by unfold W62; omega) (by unfold W62; omega)]
  simp only[R.bind_ok]
  rw[R.bind_assoc]
  refine aA6 (fun i ρ t => ∃(x : Option D), ρ = [some (D.int m), some d, some (.ref s.length), x] /\ t = s ++ [.lst ((ao i).map fun i => .tup ((ao m).map fun j => W i j))]) ⟨none, rfl, rfl⟩ (fun _ _ _ _ _ => rfl) ?_ ?_
  · rintro i dd ρ t hi ⟨x, rfl, rfl⟩
    have hi5 := (qH hi).1
    rw[(qH hi).2]
    generalize hS : s ++ [O.lst ((ao i).map fun i => D.tup ((ao m).map fun j => W i j))] = S
    have e1 : ac5 (fun s1 => chk S s1 []) (qS (aa1 P n) (.one 0) (.callV 1 (.cons (.var 2) (.cons (.var 0) .nil)))) (ah5 0 (m : Int)) (qt [some (D.int m), some d, some (.ref s.length), some (.int (i : Int))] [none, some 1, some 3]) S = .ok ((ao m).map fun j => W i j) S := by
     obtain⟨ρ1, s1, e1, h1⟩ := af1 (ok := fun s1 => chk S s1 []) (g := qS (aa1 P n) (.one 0) (.callV 1 (.cons (.var 2) (.cons (.var 0) .nil)))) (fun ρ u => u = S /\ ∃ x, ρ = [x, some d, some (.int i)]) (fun j => W i j) m (qt [some (D.int m), some d, some (.ref s.length), some (.int (i : Int))] [none, some 1, some 3]) S ⟨rfl, none, rfl⟩ (fun _ _ _ => rfl) (by
      rintro j hj ρ u ⟨rfl, x, rfl⟩
      refine⟨[some (.int j), some d, some (.int i)], u, ?_, rfl, _, rfl⟩
      have hc := h i j hi5 hj
      rw[hS]at hc
      unfold qS
      simp -implicitDefEqProofs only[zo, zT]
      rw[aY4 (d := d) _ rfl]
      simp -implicitDefEqProofs only[zJ, zK, zm, zn, zr, R.bind_ok, hc])
     obtain⟨rfl, _⟩ := h1
     exact e1
    have e2 : turn (aa1 P n) (.one 3) (.cons (.ex (.meth .append (.var 2) (.cons (.mk .tuple (.comp (.one 0) (.rng1 (.var 0)) (.callV 1 (.cons (.var 2) (.cons (.var 0) .nil))) [none, some 1, some 3])) .nil))) .nil) (.int i) [some (D.int m), some d, some (.ref s.length), x] S = .ok (.next [some (D.int m), some d, some (.ref s.length), some (.int i)]) (s ++ [.lst ((ao (i + 1)).map fun i => .tup ((ao m).map fun j => W i j))]) := by
      unfold turn
      simp -implicitDefEqProofs only[zo, qj, zT, a7, zh, zt, ex_ex, ev_meth, zJ, zK, ev_mk, ah6, qv, zm, zn, zr, R.bind_ok]
      rw[qg (by unfold W62; omega) (by unfold W62; omega)]
      simp only[R.bind_ok]
      rw[if_pos (by rw[z8]; unfold LIM; omega), e1, <- hS]
      simp -implicitDefEqProofs only[R.bind_ok, mk]
      rw[aV3 (by unfold LIM; simp; omega), iI, cA]
      rfl
    rw[e2]
    show ∃ x, _
    exact⟨some (.int i), rfl, rfl⟩
  · rintro ρ t ⟨x, rfl, rfl⟩
    rw[z8]
    have h0 : (s ++ [O.lst ((ao m).map fun i => D.tup ((ao m).map fun j => W i j))])[s.length]? = some (.lst ((ao m).map fun i => D.tup ((ao m).map fun j => W i j))) := by rw[aI (ai _)]; simp
    simp -implicitDefEqProofs only[zq, zh, zt, qG, ev_mk, evL_seq, zm, zn, zr, R.bind_ok, aT1, h0, mk, z5, z0]
    exact ae7 (d := gdD m W) (bj8 hW) (by nofun)
def InG (m:Nat)(f:Nat->Nat->Int):Prop:=∀ i j,i<m->j<m->0<=f i j/\f i j<=3
theorem bb1 {m:Nat}(hm:1<=m){f g:Nat->Nat->Int}(hf:InG m f)(hg:InG m g){i j:Nat}(hi:i<m)(hj:j<m){x:Int}:pr m f g i j<=x↔∃ l,l<m/\f i l<=x/\g l j<=x:=by
 by_cases hx:x<3
 ·exact br4 hx
 ·refine⟨fun _=>⟨0,by omega,?_,?_⟩,fun _=>ji bL7 (by omega)⟩
  ·have:=hf i 0 hi (by omega);omega
  ·have:=hg 0 j (by omega) hj;omega
theorem aZ9 {m:Nat}(hm:1<=m){f g:Nat->Nat->Int}(hf:InG m f)(hg:InG m g):EqG m (pr m f g) (L2.aF7 m f g):=fun i j hi hj=>L2.aq0 fun x=>by
 rw[bb1 hm hf hg hi hj,L2.an8 hm]
theorem bf3 {f:Nat->Nat->Int}{i j:Nat}{x:Int}:∀ k,shN f i j k<=x↔3<=x\/∃ l,l<k/\f i l<=x/\(if f l l=1 then 2 else f l l)<=x/\f l j<=x
 | 0=>by unfold shN;exact⟨.inl,fun h=>h.elim id fun⟨l,hl,_⟩=>absurd hl (dP _)⟩
 | k+1=>by
  have ih:=bf3 (f:=f) (i:=i) (j:=j) (x:=x) k
  have key:shN f i j (k+1)<=x↔shN f i j k<=x\/(f i k<=x/\(if f k k=1 then 2 else f k k)<=x/\f k j<=x):=by
   conv=>lhs;unfold shN
   simp only
   generalize (if f k k=1 then(2:Int)else f k k)=z
   split<;>omega
  rw[key,ih]
  constructor
  ·rintro((h|⟨l,h1,h2⟩)|h)
   ·exact .inl h
   ·exact .inr ⟨l,by omega,h2⟩
   ·exact .inr ⟨k,by omega,h⟩
  ·rintro(h|⟨l,h1,h2⟩)
   ·exact .inl (.inl h)
   ·by_cases e:l=k
    ·subst e;exact .inr h2
    ·exact .inl (.inr ⟨l,by omega,h2⟩)
theorem bb9 {y:Int}(h:0<=y)(h3:y<=3):(if y=1 then 2 else y)=L2.rnd y:=by
 unfold L2.rnd
 repeat' split
 all_goals omega
theorem ba7 {m:Nat}(hm:1<=m){f:Nat->Nat->Int}(hf:InG m f):EqG m (sh m f) (L2.sharp m f):=fun i j hi hj=>L2.aq0 fun x=>by
 unfold sh
 rw[bf3,L2.aC5 hm]
 constructor
 ·rintro(h|⟨l,hl,h1,h2,h3⟩)
  ·refine⟨0,by omega,?_,?_,?_⟩
   ·have:=hf i 0 hi (by omega);omega
   ·have:=hf 0 0 (by omega) (by omega)
    have:=(L2.bG0 this.1 this.2).2;omega
   ·have:=hf 0 j (by omega) hj;omega
  ·exact⟨l,hl,h1,by rw[<-bb9 (hf l l hl hl).1 (hf l l hl hl).2];exact h2,h3⟩
 ·rintro⟨l,hl,h1,h2,h3⟩
  exact .inr ⟨l,hl,h1,by rw[bb9 (hf l l hl hl).1 (hf l l hl hl).2];exact h2,h3⟩
theorem bL1 {m:Nat}(hm:1<=m){f g:Nat->Nat->Int}(hf:InG m f)(hg:InG m g):InG m (pr m f g):=fun i j hi hj=>by
 rw[aZ9 hm hf hg i j hi hj];exact L2.aC4 hm hf hg hi hj
theorem ag3 {x:Int}:∀(l:List Int) (a:Int),l.foldl min a<=x↔∃ y∈a::l,y<=x
 | [],a=>by simp
 | b::l,a=>by
  rw[cx,ag3 l]
  constructor
  ·rintro⟨y,hy,hx⟩
   rcases au.mp hy with rfl|hy
   ·by_cases h:a<=b
    ·exact⟨a,by simp,by omega⟩
    ·exact⟨b,by simp,by omega⟩
   ·exact⟨y,by simp[hy],hx⟩
  ·rintro⟨y,hy,hx⟩
   simp only[au]at hy
   rcases hy with rfl|rfl|hy
   ·exact⟨min y b,by simp,by omega⟩
   ·exact⟨min a y,by simp,by omega⟩
   ·exact⟨y,by simp[hy],hx⟩
theorem br5 {l:List Int}{m x:Int}(h:aW9 l=some m):m<=x↔∃ y∈l,y<=x:=by
 cases l with
 | nil=>cases h
 | cons a l=>rw[<-az (show some (l.foldl min a)=some m from h)];exact ag3 l a
theorem aD9 {l:List Nat}{f:Nat->Int}:qh (l.map fun k=>D.int (f k))=some (l.map f):=by
 induction l with
 | nil=>rfl
 | cons a l ih=>rw[aJ];unfold qh;rw[ih];rfl
theorem bc0 {m:Nat}(hm:1<=m){f:Nat->Int}{v:Int}(hv:∀ x,v<=x↔∃ k,k<m/\f k<=x)(s:Sto):mk .min ((ao m).map fun k=>D.int (f k)) s=.ok (.int v) s:=by
 obtain⟨w,hw⟩:∃ w,aW9 ((ao m).map f)=some w:=by
  obtain⟨m',rfl⟩:∃ m',m=m'+1:=⟨m - 1,by omega⟩
  rw[fD]
  exact⟨_,rfl⟩
 show(match(qh ((ao m).map fun k=>D.int (f k))).bind aW9 with|some m=>R.ok (D.int m) s|none=>.bad)=_
 rw[aD9]
 show(match aW9 ((ao m).map f)with|some m=>R.ok (D.int m) s|none=>.bad)=_
 rw[hw]
 have:w=v:=L2.aq0 fun x=>by
  rw[br5 hw,hv]
  constructor
  ·rintro⟨y,hy,hx⟩
   obtain⟨k,hk,rfl⟩:=aG.mp hy
   exact⟨k,bp.mp hk,hx⟩
  ·rintro⟨k,hk,hx⟩
   exact⟨_,aG.mpr ⟨k,bp.mpr hk,rfl⟩,hx⟩
 rw[this]
section
variable {P:Pr} [Has P ab9] [Has P aa3] [HasL P aa2]
theorem qJ (n:Nat){m:Nat}(hm:1<=m)(hm5:m<=5){f g:Nat->Nat->Int}(hf:InG m f)(hg:InG m g){s:Sto}(hs:s.all O.ncl=true) :
  (aa1 P (n+3)).call "sign_product" [gd m f,gd m g] s=.ok (gd m (pr m f g)) s:=by
 have e0:(aa1 P (n+3)).call "sign_product" [gd m f,gd m g] s=_:=zI aa3 (n:=n+2) rfl
 have hg0:=aI1 (P:=P) (n+1) (m:=m) (by omega) (d:=.clo "sign_product.0" [.int m,gd m f,gd m g]) (s:=s) (W:=fun i j=>.int (pr m f g i j)) (fun _ _ _=>rfl) (fun i j hi hj=>by
  generalize hS:s++[O.lst ((ao i).map fun i=>D.tup ((ao m).map fun j=>D.int (pr m f g i j)))]=S
  have nS:S.all O.ncl=true:=by
   rw[<-hS]
   refine ai2 hs (qz fun d hd=>?_)
   obtain⟨x,_,rfl⟩:=aG.mp hd
   unfold D.ncl
   exact qz fun d hd=>by obtain⟨x,_,rfl⟩:=aG.mp hd;rfl
  refine(aH4 aa2 (n:=n) rfl rfl (by rw[nS];simp[D.nclL,D.ncl,aA4])).trans ?_
  show(ev (aa1 P n) aa2.body [some (.int i),some (.int j),some (.int m),some (gd m f),some (gd m g)] S).bind (ab3 S)=_
  simp -implicitDefEqProofs only[aa2,ev_mk,ah6,qv,zm,zn,zr,R.bind_ok]
  rw[qg (by unfold W62;omega) (by unfold W62;omega)]
  simp only[R.bind_ok]
  rw[if_pos (by rw[z8];unfold LIM;omega)]
  obtain⟨ρ1,s1,e1,h1⟩:=af1 (ok:=fun s1=>chk S s1 []) (g:=qS (aa1 P n) (.one 0) (.bi .max2 (.cons (.ix (.ix (.var 1) (.var 2)) (.var 0)) (.cons (.ix (.ix (.var 3) (.var 0)) (.var 4)) .nil)))) (fun ρ u=>u=S/\∃ x,ρ=[x,some (gd m f),some (.int i),some (gd m g),some (.int j)]) (fun k=>.int (if g k j > f i k then g k j else f i k)) m (qt [some (.int i),some (.int j),some (.int m),some (gd m f),some (gd m g)] [none,some 3,some 0,some 4,some 1]) S ⟨rfl,none,rfl⟩ (fun _ _ _=>rfl) (by
   rintro k hk ρ u ⟨rfl,x,rfl⟩
   refine⟨[some (.int k),some (gd m f),some (.int i),some (gd m g),some (.int j)],u,?_,rfl,_,rfl⟩
   unfold qS
   simp -implicitDefEqProofs only[zo,zT,ev_bi,zJ,zK,ev_ix,zm,zn,zr,R.bind_ok,aG0 hi,aG0 hk,ae5 hk,ae5 hj,aX3])
  obtain⟨rfl,_⟩:=h1
  rw[e1]
  simp only[R.bind_ok]
  rw[bc0 (v:=pr m f g i j) hm (fun x=>by
   rw[bb1 hm hf hg hi hj]
   constructor
   ·rintro⟨l,hl,h1,h2⟩;exact⟨l,hl,by split<;>omega⟩
   ·rintro⟨l,hl,h1⟩;exact⟨l,hl,by split at h1<;>omega,by split at h1<;>omega⟩)]
  exact qL)
 rw[e0,show(cS some [gd m f,gd m g]++av aa3.vs none)=[some (gd m f),some (gd m g),none]from rfl]
 simp -implicitDefEqProofs only[aa3,zh,zt,qQ,ev_bi,zJ,zK,zm,zn,zr,R.bind_ok,aN7,zo,qj,zT,a7,zG,zq,qG,aC0,zL]
 rw[aB9 (cs:=[.int m,gd m f,gd m g]) _ rfl]
 simp -implicitDefEqProofs only[zw,R.bind_ok,hg0]
 have e:gdD m (fun i j=>.int (pr m f g i j))=gd m (pr m f g):=rfl
 rw[e,if_pos (by rw[aA4,hs];rfl)]
 simp -implicitDefEqProofs only[R.bind_ok,z5,z0]
 exact zD an0 (by nofun)
end
def aH2 (m:Nat)(f:Nat->Nat->Int):Prop:=EqG m (pr m f f) f
section
variable {P:Pr} [Has P ab9] [Has P aa3] [HasL P aa2] [Has P aa8]
theorem zY (n:Nat){m:Nat}(hm:1<=m)(hm5:m<=5){f:Nat->Nat->Int}(hf:InG m f){s:Sto}(hs:s.all O.ncl=true) :
  ∃ b:Bool,(aa1 P (n+4)).call "is_steady" [gd m f] s=.ok (.bl b) s/\(b=true↔aH2 m f):=by
 have e0:(aa1 P (n+4)).call "is_steady" [gd m f] s=_:=zI aa8 (n:=n+3) rfl
 obtain⟨b,e,h⟩:=bH0 (s:=s) (m:=m) (f:=pr m f f) (g:=f)
 refine⟨b,?_,h⟩
 rw[e0,show(cS some [gd m f]++av aa8.vs none)=[some (gd m f)]from rfl]
 simp -implicitDefEqProofs only[aa8,zh,zt,qG,ql,zS,zL,zw,zm,zn,R.bind_ok,qJ n hm hm5 hf hf hs,e,z5,z0]
 exact aD4
variable [Has P ab0] [Has P ab1] [HasL P aa4] [HasC P "FREE" (.int 0)] [HasC P "UNBOUND" (.int 2)] [HasC P "NONE" (.int 3)]
theorem ay5 {n:Nat}{x:String}{d:D}[HasC P x d](ρ:Env)(s:Sto):ev (aa1 P n) (.glob x) ρ s=.ok d s:=by
 show(match(aa1 P n).con x with|some d=>R.ok d s|none=>.bad)=_
 rw[bg9 (v:=d)]
theorem av7 (n:Nat)(x:Int)(s:Sto):(aa1 P (n+1)).call "round_of" [.int x] s=.ok (.int (L2.rnd x)) s:=by
 have e0:(aa1 P (n+1)).call "round_of" [.int x] s=_:=zI ab0 (n:=n) rfl
 rw[e0,show(cS some [D.int x]++av ab0.vs none)=[some (D.int x)]from rfl]
 have g1:=fun ρ s=>ay5 (P:=P) (n:=n) (x := "FREE") (d:=.int 0) ρ s
 have g2:=fun ρ s=>ay5 (P:=P) (n:=n) (x := "NONE") (d:=.int 3) ρ s
 have g3:=fun ρ s=>ay5 (P:=P) (n:=n) (x := "UNBOUND") (d:=.int 2) ρ s
 by_cases h0:x=0
 ·have e:L2.rnd x=x:=by unfold L2.rnd;rw[if_pos (.inl h0)]
  simp -implicitDefEqProofs only[ab0,zh,zt,ex_ite,ev_or,ql,zm,zn,R.bind_ok,g1,qP,h0,decide_true,zN,if_true,qG,z5,z0]
  rw[<-h0,e];exact qL
 ·by_cases h3:x=3
  ·have e:L2.rnd x=x:=by unfold L2.rnd;rw[if_pos (.inr h3)]
   simp -implicitDefEqProofs only[ab0,zh,zt,ex_ite,ev_or,ql,zm,zn,R.bind_ok,g1,g2,qP,h0,h3,decide_true,decide_false,aW,if_false,zN,if_true,qG,z5,z0]
   rw[<-h3,e]
   simp -implicitDefEqProofs only[show ¬((3:Int)=0)by decide,h3,decide_false,decide_true,aW,if_false,if_true,zN,R.bind_ok,z5,z0]
   exact qL
  ·have e:L2.rnd x=2:=by unfold L2.rnd;rw[if_neg (by omega)]
   simp -implicitDefEqProofs only[ab0,zh,zt,ex_ite,ev_or,ql,zm,zn,R.bind_ok,g1,g2,g3,qP,h0,h3,decide_false,aW,if_false,zN,zq,qG,z5,z0]
   rw[e];exact qL
theorem ah0 (n:Nat){m:Nat}(hm:1<=m)(hm5:m<=5){f:Nat->Nat->Int}(hf:InG m f)(hst:aH2 m f){s:Sto}(hs:s.all O.ncl=true) :
  (aa1 P (n+5)).call "sharpened" [gd m f] s=.ok (gd m (sh m f)) s:=by
 have e0:(aa1 P (n+5)).call "sharpened" [gd m f] s=_:=zI ab1 (n:=n+4) rfl
 obtain⟨b,eb,hb⟩:=zY (P:=P) n hm hm5 hf hs
 have hbt:b=true:=hb.mpr hst
 subst hbt
 have nL:(O.lst (row m fun k=>L2.rnd (f k k))).ncl=true:=aN9
 have hs1:(s++[O.lst (row m fun k=>L2.rnd (f k k))]).all O.ncl=true:=ai2 hs nL
 have gL:∀ t:Sto,(s++[O.lst (row m fun k=>L2.rnd (f k k))]++t)[s.length]?=some (.lst (row m fun k=>L2.rnd (f k k))):=fun t=>by rw[em,aI (ai _)];simp
 have hg0:=aI1 (P:=P) (n+3) (m:=m) (by omega) (d:=.clo "sharpened.0" [.int m,gd m f,.ref s.length]) (s:=s++[O.lst (row m fun k=>L2.rnd (f k k))]) (W:=fun i j=>.int (sh m f i j)) (fun _ _ _=>rfl) (fun i j hi hj=>by
  have g0:=gL [O.lst ((ao i).map fun i=>D.tup ((ao m).map fun j=>D.int (sh m f i j)))]
  generalize hS:s++[O.lst (row m fun k=>L2.rnd (f k k))]++[O.lst ((ao i).map fun i=>D.tup ((ao m).map fun j=>D.int (sh m f i j)))]=S at g0
  have nS:S.all O.ncl=true:=by
   rw[<-hS]
   refine ai2 hs1 (qz fun d hd=>?_)
   obtain⟨x,_,rfl⟩:=aG.mp hd
   unfold D.ncl
   exact qz fun d hd=>by obtain⟨x,_,rfl⟩:=aG.mp hd;rfl
  refine(aH4 aa4 (n:=n+2) rfl rfl (by rw[nS];simp[D.nclL,D.ncl,aA4])).trans ?_
  show(ev (aa1 P (n+2)) aa4.body [some (.int i),some (.int j),some (.int m),some (gd m f),some (.ref s.length)] S).bind (ab3 S)=_
  simp -implicitDefEqProofs only[aa4,ev_mk,ah6,qv,zm,zn,zr,R.bind_ok]
  rw[qg (by unfold W62;omega) (by unfold W62;omega)]
  simp only[R.bind_ok]
  rw[if_pos (by rw[z8];unfold LIM;omega)]
  have e1:ac5 (fun s1=>chk S s1 []) (qS (aa1 P (n+2)) (.one 0) (.bi .max3 (.cons (.ix (.ix (.var 1) (.var 2)) (.var 0)) (.cons (.ix (.var 3) (.var 0)) (.cons (.ix (.ix (.var 1) (.var 0)) (.var 4)) .nil))))) (ah5 0 (m:Int)) (qt [some (.int i),some (.int j),some (.int m),some (gd m f),some (.ref s.length)] [none,some 3,some 0,some 4,some 1]) S=.ok ((ao m).map fun k=>.int (max (max (f i k) (L2.rnd (f k k))) (f k j))) S:=by
   obtain⟨ρ1,s1,e1,h1⟩:=af1 (ok:=fun s1=>chk S s1 []) (g:=qS (aa1 P (n+2)) (.one 0) (.bi .max3 (.cons (.ix (.ix (.var 1) (.var 2)) (.var 0)) (.cons (.ix (.var 3) (.var 0)) (.cons (.ix (.ix (.var 1) (.var 0)) (.var 4)) .nil))))) (fun ρ u=>u=S/\∃ x,ρ=[x,some (gd m f),some (.int i),some (.ref s.length),some (.int j)]) (fun k=>.int (max (max (f i k) (L2.rnd (f k k))) (f k j))) m (qt [some (.int i),some (.int j),some (.int m),some (gd m f),some (.ref s.length)] [none,some 3,some 0,some 4,some 1]) S ⟨rfl,none,rfl⟩ (fun _ _ _=>rfl) (by
    rintro k hk ρ u ⟨rfl,x,rfl⟩
    refine⟨[some (.int k),some (gd m f),some (.int i),some (.ref s.length),some (.int j)],u,?_,rfl,_,rfl⟩
    unfold qS
    simp -implicitDefEqProofs only[zo,zT,ev_bi,zJ,zK,ev_ix,zm,zn,zr,R.bind_ok,aG0 hi,aG0 hk,ae5 hk,ae5 hj,be0 g0 (ak8 hk),aU3])
   obtain⟨rfl,_⟩:=h1
   exact e1
  rw[e1]
  simp only[R.bind_ok]
  rw[bc0 (v:=sh m f i j) hm (fun x=>by
   rw[ba7 hm hf i j hi hj,L2.aC5 hm]
   constructor
   ·rintro⟨l,hl,h1,h2,h3⟩;exact⟨l,hl,by omega⟩
   ·rintro⟨l,hl,h1⟩;exact⟨l,hl,by omega,by omega,by omega⟩)]
  exact qL)
 have er:ac5 (fun s1=>chk s s1 []) (qS (aa1 P (n+4)) (.one 0) (.call "round_of" (.ex (.ix (.ix (.var 1) (.var 0)) (.var 0)) .nil))) (ah5 0 (m:Int)) (qt [some (gd m f),some (.int m),none] [none,some 0]) s=.ok (row m fun k=>L2.rnd (f k k)) s:=by
  obtain⟨ρ1,s1,e1,h1⟩:=af1 (ok:=fun s1=>chk s s1 []) (g:=qS (aa1 P (n+4)) (.one 0) (.call "round_of" (.ex (.ix (.ix (.var 1) (.var 0)) (.var 0)) .nil))) (fun ρ u=>u=s/\∃ x,ρ=[x,some (gd m f)]) (fun k=>.int (L2.rnd (f k k))) m (qt [some (gd m f),some (.int m),none] [none,some 0]) s ⟨rfl,none,rfl⟩ (fun _ _ _=>rfl) (by
   rintro k hk ρ u ⟨rfl,x,rfl⟩
   refine⟨[some (.int k),some (gd m f)],u,?_,rfl,_,rfl⟩
   unfold qS
   simp -implicitDefEqProofs only[zo,zT,zS,zL,zw,ev_ix,zm,zn,zr,R.bind_ok,aG0 hk,ae5 hk,av7 (n+3)])
  obtain⟨rfl,_⟩:=h1
  exact e1
 rw[e0,show(cS some [gd m f]++av ab1.vs none)=[some (gd m f),none,none]from rfl]
 simp -implicitDefEqProofs only[ab1,zh,zt,ex_ite,ev_not,zS,zL,zw,zm,zn,zr,R.bind_ok,eb,zN,cR,if_false,aW,zq,qQ,ev_bi,zJ,zK,aN7,zo,qj,zT,a7,zG,ev_mk,ah6,qv]
 rw[qg (by unfold W62;omega) (by unfold W62;omega)]
 simp only[R.bind_ok]
 rw[if_pos (by rw[z8];unfold LIM;omega),er]
 simp -implicitDefEqProofs only[R.bind_ok,mk,alloc_eq,zG,zq,zo,qj,zT,a7,zh,zt,qG,aC0,zL,zm,zn,zr]
 rw[aB9 (cs:=[.int m,gd m f,.ref s.length]) _ rfl]
 simp -implicitDefEqProofs only[zw,R.bind_ok,hg0]
 have e:gdD m (fun i j=>.int (sh m f i j))=gd m (sh m f):=rfl
 rw[e,if_pos (by rw[aA4,hs1];rfl)]
 simp -implicitDefEqProofs only[R.bind_ok,z5,z0]
 exact ae7 an0 (by nofun)
end
theorem pw_in {m:Nat}(hm:1<=m){f:Nat->Nat->Int}(hf:InG m f):∀ n,InG m (pw m f n)
 | 0=>hf
 | n+1=>bL1 hm (pw_in hm hf n) hf
theorem EqG.pr {m:Nat}{f f' g g':Nat->Nat->Int}(h1:EqG m f f')(h2:EqG m g g'):EqG m (DV.pr m f g) (DV.pr m f' g'):=fun i j hi hj=>by
 have key:∀ k,k<=m->prN f g i j k=prN f' g' i j k:=fun k=>by
  induction k with
  | zero=>intro _;rfl
  | succ k ih=>intro hk;unfold prN;rw[h1 i k hi (by omega),h2 k j (by omega) hj,ih (by omega)]
 exact key m (ai _)
theorem aP9 {m:Nat}(hm1:1<=m)(hm:m<=5){f:Nat->Nat->Int}(hf:InG m f):∃ M,aH2 m (pw m f M):=by
 obtain⟨M,_,h⟩:=aO1 (m:=m) hm (f:=fun i j=>if i<m/\j<m then f i j else 0) (fun i j=>by
  show 0<=(if i<m/\j<m then f i j else 0)
  split
  ·rename_i h;exact(hf i j h.1 h.2).1
  ·decide) (fun i j=>by
  show(if i<m/\j<m then f i j else 0)<=3
  split
  ·rename_i h;exact(hf i j h.1 h.2).2
  ·decide)
 have e:EqG m (fun i j=>if i<m/\j<m then f i j else 0) f:=fun i j hi hj=>if_pos ⟨hi,hj⟩
 have ep:∀ n,EqG m (pw m (fun i j=>if i<m/\j<m then f i j else 0) n) (pw m f n):=fun n=>by
  induction n with
  | zero=>exact e
  | succ n ih=>exact EqG.pr ih e
 refine⟨M,fun i j hi hj=>?_⟩
 rw[<-ep M i j hi hj,<-h i j hi hj]
 exact(EqG.pr (ep M) (ep M) i j hi hj).symm
section
variable {P:Pr} [Has P ab9] [Has P aa3] [HasL P aa2] [Has P aa8] [Has P aa7]
theorem aE7 {F:Fns}{ρ ρ':Env}{s:Sto}{i:Nat}{a b:Int}{e:E}(h1:ax1 ρ i s=.ok (.int a) s)(h2:ev F e ρ s=.ok (.int b) s)(h3:an3 ρ i (.int (a+b))=some ρ'):ex F (.aug i e) ρ s=.ok (.next ρ') s:=by
 show(ax1 ρ i s).bind (fun x s=>(ev F e ρ s).bind fun y s=>match x,y with
  | .int a,.int b=>match an3 ρ i (.int (a+b))with|some ρ=>R.ok (Ct.next ρ) s|none=>.bad
  | _,_=>.bad)=_
 rw[h1]
 simp only[R.bind_ok]
 rw[h2]
 simp only[R.bind_ok]
 rw[h3]
end
noncomputable def bH9:E:=.or (.and (.cmp .eq (.var 2) (.cst (.int 1))) (.cmp .gt (.call "_law_draw" (.ex (.var 0) (.ex (.cst (.int 3)) .nil))) (.cst (.int 0)))) (.and (.cmp .eq (.var 2) (.cst (.int 2))) (.cmp .gt (.var 4) (.var 6)))
noncomputable def bI8:E:=.and (.cmp .eq (.var 2) (.cst (.int 3))) (.and (.cmp .ne (.var 6) (.bin .mod (.bin .add (.var 4) (.cst (.int 1))) (.var 1))) (.cmp .gt (.call "_law_draw" (.ex (.var 0) (.ex (.cst (.int 4)) .nil))) (.cst (.int 0))))
section
variable {P:Pr} [Has P ad6]
theorem bh4 (n:Nat){s T:Sto}{r:Nat}(hr:r<s.length)(b:Int)(m way i j:Nat)(x3 x5 x7:Option D) :
  ∃(c:Bool) (b':Int),ev (aa1 P (n+1)) bH9 [some (.ref r),some (.int m),some (.int way),x3,some (.int i),x5,some (.int j),x7] (s.set r (qC b)++T)=.ok (.bl c) (s.set r (qC b')++T):=by
 obtain⟨q,b',_,e⟩:=ax6 (P:=P) n (t:=T) hr b 3 (by decide) (by decide)
 unfold bH9
 by_cases h1:(way:Int)=1
 ·by_cases hq:(0:Int)<(q:Int)
  ·exact⟨true,b',by simp -implicitDefEqProofs only[ev_or,ev_and,ql,zS,zL,zw,zm,qu,qD,zn,zr,R.bind_ok,qP,h1,decide_true,zN,if_true,e,gt_int,hq]⟩
  ·refine⟨false,b',?_⟩
   simp -implicitDefEqProofs only[ev_or,ev_and,ql,zS,zL,zw,zm,qu,qD,zn,zr,R.bind_ok,qP,h1,decide_true,zN,if_true,e,gt_int,hq,decide_false,aW,if_false,show ¬((1:Int)=2)by decide]
 ·by_cases h2:(way:Int)=2
  ·refine⟨decide ((j:Int)<(i:Int)),b,?_⟩
   simp -implicitDefEqProofs only[ev_or,ev_and,ql,zS,zL,zw,zm,qu,qD,zn,zr,R.bind_ok,qP,h1,h2,decide_true,zN,if_true,gt_int,decide_false,aW,if_false,show ¬((2:Int)=1)by decide]
  ·refine⟨false,b,?_⟩
   simp -implicitDefEqProofs only[ev_or,ev_and,ql,zS,zL,zw,zm,qu,qD,zn,zr,R.bind_ok,qP,h1,h2,zN,decide_false,aW,if_false]
theorem bh8 (n:Nat){s T:Sto}{r:Nat}(hr:r<s.length)(b:Int)(m way i j:Nat)(hm:1<=m)(x3 x5 x7:Option D) :
  ∃(c:Bool) (b':Int),ev (aa1 P (n+1)) bI8 [some (.ref r),some (.int m),some (.int way),x3,some (.int i),x5,some (.int j),x7] (s.set r (qC b)++T)=.ok (.bl c) (s.set r (qC b')++T):=by
 obtain⟨q,b',_,e⟩:=ax6 (P:=P) n (t:=T) hr b 4 (by decide) (by decide)
 have hm0:(0:Int)<(m:Int):=by omega
 unfold bI8
 by_cases h1:(way:Int)=3
 ·by_cases h2:(j:Int)=((i:Int)+1) % (m:Int)
  ·refine⟨false,b,?_⟩
   simp -implicitDefEqProofs only[ev_and,ql,ev_bin,zm,qu,qD,zn,zr,R.bind_ok,qP,h1,decide_true,zN,if_true,add_int,ao1 hm0,ne_int,h2,cR,aW,if_false]
  ·refine⟨decide ((0:Int)<(q:Int)),b',?_⟩
   simp -implicitDefEqProofs only[ev_and,ql,ev_bin,zm,qu,qD,zn,zr,R.bind_ok,qP,h1,decide_true,decide_false,zN,if_true,add_int,ao1 hm0,ne_int,h2,gh,zS,zL,zw,e,gt_int]
 ·refine⟨false,b,?_⟩
  simp -implicitDefEqProofs only[ev_and,ql,zm,qu,qD,zn,zr,R.bind_ok,qP,h1,decide_false,zN,aW,if_false]
noncomputable def bt9:Ss:=(.cons (.asg (.one 7) (.call "_law_draw" (.ex (.var 0) (.ex (.cst (.int 4)) .nil)))) (.cons (.ite bH9 (.cons (.asg (.one 7) (.cst (.int 3))) .nil) .nil) (.cons (.ite bI8 (.cons (.asg (.one 7) (.cst (.int 3))) .nil) .nil) (.cons (.ex (.meth .append (.var 5) (.cons (.var 7) .nil))) .nil))))
noncomputable def ah1 (s:Sto)(r:Nat)(b:Int)(A:List D)(T:Sto)(B:List D):Sto:=s.set r (qC b)++(.lst A::(T++[.lst B]))
theorem bi9 (n:Nat){s T:Sto}{r:Nat}(hr:r<s.length)(b:Int)(m way i j:Nat)(hm:1<=m)(x7 x6:Option D)(A B:List D)(hB:B.length<100) :
  ∃(v:Int) (b':Int) (y7:Option D),0<=v/\v<=3/\turn (aa1 P (n+1)) (.one 6) bt9 (.int j) [some (.ref r),some (.int m),some (.int way),some (.ref s.length),some (.int i),some (.ref (s.length+(T.length+1))),x6,x7] (ah1 s r b A T B)=.ok (.next [some (.ref r),some (.int m),some (.int way),some (.ref s.length),some (.int i),some (.ref (s.length+(T.length+1))),some (.int j),y7]) (ah1 s r b' A T (B++[.int v])):=by
 obtain⟨q,b1,hq,e1⟩:=ax6 (P:=P) n (t:=.lst A::(T++[.lst B])) hr b 4 (by decide) (by decide)
 obtain⟨c2,b2,e2⟩:=bh4 (P:=P) n (T:=.lst A::(T++[.lst B])) hr b1 m way i j (some (.ref s.length)) (some (.ref (s.length+(T.length+1)))) (some (.int q))
 obtain⟨v2,h2,f2⟩:∃ v2:Int,(0<=v2/\v2<=3)/\ex (aa1 P (n+1)) (.ite bH9 (.cons (.asg (.one 7) (.cst (.int 3))) .nil) .nil) [some (.ref r),some (.int m),some (.int way),some (.ref s.length),some (.int i),some (.ref (s.length+(T.length+1))),some (.int j),some (.int q)] (ah1 s r b1 A T B)=.ok (.next [some (.ref r),some (.int m),some (.int way),some (.ref s.length),some (.int i),some (.ref (s.length+(T.length+1))),some (.int j),some (.int v2)]) (ah1 s r b2 A T B):=by
  unfold ah1
  rw[ex_ite,e2,zN]
  cases c2 with
  | true=>exact⟨3,by decide,rfl⟩
  | false=>exact⟨q,by omega,rfl⟩
 obtain⟨c3,b3,e3⟩:=bh8 (P:=P) n (T:=.lst A::(T++[.lst B])) hr b2 m way i j hm (some (.ref s.length)) (some (.ref (s.length+(T.length+1)))) (some (.int v2))
 obtain⟨v3,h3,f3⟩:∃ v3:Int,(0<=v3/\v3<=3)/\ex (aa1 P (n+1)) (.ite bI8 (.cons (.asg (.one 7) (.cst (.int 3))) .nil) .nil) [some (.ref r),some (.int m),some (.int way),some (.ref s.length),some (.int i),some (.ref (s.length+(T.length+1))),some (.int j),some (.int v2)] (ah1 s r b2 A T B)=.ok (.next [some (.ref r),some (.int m),some (.int way),some (.ref s.length),some (.int i),some (.ref (s.length+(T.length+1))),some (.int j),some (.int v3)]) (ah1 s r b3 A T B):=by
  unfold ah1
  rw[ex_ite,e3,zN]
  cases c3 with
  | true=>exact⟨3,by decide,rfl⟩
  | false=>exact⟨v2,h2,rfl⟩
 have gB:(ah1 s r b3 A T B)[s.length+(T.length+1)]?=some (.lst B):=by
  unfold ah1
  have:=aq2 (s:=s.set r (qC b3)) (t:=T) (o:=.lst B) (x:=.lst A)
  rwa [aY]at this
 have ea:meth .append (.ref (s.length+(T.length+1))) [.int v3] (ah1 s r b3 A T B)=.ok .non (ah1 s r b3 A T (B++[.int v3])):=by
  rw[ag1 gB (by unfold LIM;omega)]
  unfold ah1
  rw[dj _ _ (by simp),aY,fe,List.set_cons_succ,dj _ _ (ai _),jm,List.set_cons_zero]
 refine⟨v3,b3,some (.int v3),h3.1,h3.2,?_⟩
 have e1':(aa1 P (n+1)).call "_law_draw" [.ref r,.int 4] (ah1 s r b A T B)=.ok (.int q) (ah1 s r b1 A T B):=e1
 unfold turn bt9
 simp -implicitDefEqProofs only[zo,qj,zT,a7,zh,zt,qQ,zS,zL,zw,zm,qu,qD,zn,zr,R.bind_ok,e1',zG,zq,f2,f3,ex_ex,ev_meth,zJ,zK,ea]
def bc3 (m:Nat)(L:List (List Int)):Prop:=∀ l∈L,l.length=m/\∀ v∈l,0<=v/\v<=3
noncomputable def qy (L:List (List Int)):List D:=L.map fun l=>.tup (l.map D.int)
theorem bj9 {m:Nat}{L:List (List Int)}(h:bc3 m L)(hl:L.length=m):∃ f,InG m f/\D.tup (qy L)=gd m f:=by
 refine⟨fun i j=>(L.getD i []).getD j 0,fun i j hi hj=>?_,?_⟩
 ·have e:L.getD i []=L[i]:=by rw[be,aj (by omega)];rfl
  obtain⟨h1,h2⟩:=h L[i] (dv _)
  show 0<=(L.getD i []).getD j 0/\(L.getD i []).getD j 0<=3
  rw[e,be,aj (by omega)]
  exact h2 _ (dv _)
 ·unfold gd qy
  congr 1
  apply ic
  intro i
  by_cases hi:i<m
  ·rw[aE,aE,bO hi,aj (by omega)]
   obtain⟨h1,_⟩:=h L[i] (dv _)
   simp only[a7]
   congr 2
   apply ic
   intro j
   by_cases hj:j<m
   ·rw[ak8 hj,aE,aj (by omega)]
    simp[be,aj (show i<L.length by omega),aj (show j<L[i].length by omega)]
   ·rw[bH (by simp;omega),bH (by simp;omega)]
  ·rw[bH (by simp;omega),bH (by simp;omega)]
def SgR (s:Sto)(r m:Nat)(x:R D):Prop:=∃(f:Nat->Nat->Int) (b:Int),InG m f/\x=.ok (gd m f) (s.set r (qC b))
variable [Has P ac9]
theorem aV6 (n:Nat){s:Sto}{r:Nat}(hs:∃ b,s[r]?=some (qC b))(m:Nat)(hm:1<=m)(hm5:m<=5) :
  SgR s r m ((aa1 P (n+2)).call "_law_signs" [.ref r,.int m] s):=by
 have e0:(aa1 P (n+2)).call "_law_signs" [.ref r,.int m] s=_:=zI ac9 (n:=n+1) rfl
 have hr:=bg0 hs
 obtain⟨way,b1,_,e1⟩:=aw4 (P:=P) n hs 4 (by decide) (by decide)
 have body:ac9.body=.cons (.asg (.one 2) (.call "_law_draw" (.ex (.var 0) (.ex (.cst (.int 4)) .nil)))) (.cons (.asg (.one 3) (.lst .nil)) (.cons (.for_ (.one 4) (.rng1 (.var 1)) (.cons (.asg (.one 5) (.lst .nil)) (.cons (.for_ (.one 6) (.rng1 (.var 1)) bt9) (.cons (.ex (.meth .append (.var 3) (.cons (.mk .tuple (.seq (.var 5))) .nil))) .nil)))) (.cons (.ret (.mk .tuple (.seq (.var 3)))) .nil))):=rfl
 rw[e0,body,show(cS some [D.ref r,.int m]++av ac9.vs none)=[some (D.ref r),some (.int m),none,none,none,none,none,none]from rfl]
 simp -implicitDefEqProofs only[zh,zt,qQ,zS,zL,zw,zm,qu,qD,zn,zr,R.bind_ok,e1,zo,qj,zT,a7,zG,zq,ev_lst,zK,alloc_eq,ex_for,qv,aY]
 rw[qg (by unfold W62;omega) (by unfold W62;omega)]
 simp only[R.bind_ok]
 rw[R.bind_assoc]
 have key2:=af9 (ok:=fun s1=>chk (s.set r (qC b1)++[O.lst []]) s1 []) (g:=turn (aa1 P (n+1)) (.one 4) (.cons (.asg (.one 5) (.lst .nil)) (.cons (.for_ (.one 6) (.rng1 (.var 1)) bt9) (.cons (.ex (.meth .append (.var 3) (.cons (.mk .tuple (.seq (.var 5))) .nil))) .nil)))) (fun i ρ t=>∃(b:Int) (T:Sto) (L:List (List Int)) (x4 x5 x6 x7:Option D),bc3 m L/\L.length=i/\ρ=[some (D.ref r),some (.int m),some (.int way),some (.ref s.length),x4,x5,x6,x7]/\t=s.set r (qC b)++(.lst (qy L)::T)) (ah5 0 (m:Int)) 0 [some (D.ref r),some (.int m),some (.int way),some (.ref s.length),none,none,none,none] (s.set r (qC b1)++[O.lst []]) ⟨b1,[],[],none,none,none,none,fun _ h=>(by cases h),rfl,rfl,rfl⟩ (fun _ _ _ _ _=>rfl) (by
  rintro i d ρ t hi ⟨b,T,L,x4,x5,x6,x7,hL,hLi,rfl,rfl⟩
  have hi5:=(qH hi).1
  rw[(qH hi).2]
  have key:=af9 (ok:=fun s1=>chk (ah1 s r b (qy L) T []) s1 []) (g:=turn (aa1 P (n+1)) (.one 6) bt9) (fun j ρ t=>∃(b:Int) (l:List Int) (x6 x7:Option D),l.length=j/\(∀ v∈l,0<=v/\v<=3)/\ρ=[some (D.ref r),some (.int m),some (.int way),some (.ref s.length),some (.int i),some (.ref (s.length+(T.length+1))),x6,x7]/\t=ah1 s r b (qy L) T (l.map D.int)) (ah5 0 (m:Int)) 0 [some (D.ref r),some (.int m),some (.int way),some (.ref s.length),some (.int i),some (.ref (s.length+(T.length+1))),x6,x7] (ah1 s r b (qy L) T []) ⟨b,[],x6,x7,rfl,fun _ h=>(by cases h),rfl,rfl⟩ (fun _ _ _ _ _=>rfl) (by
   rintro j d ρ t hj ⟨b,l,x6,x7,hl,hv,rfl,rfl⟩
   have hj5:=(qH hj).1
   rw[(qH hj).2]
   obtain⟨v,b',y7,h0,h3,e⟩:=bi9 (P:=P) n hr (T:=T) b m way i j hm x7 x6 (qy L) (l.map D.int) (by rw[aM];omega)
   refine⟨_,_,.inl e,b',l++[v],some (.int j),y7,by rw[aV,hl];simp,fun w hw=>?_,rfl,by rw[cA];rfl⟩
   rcases bZ.mp hw with h|h
   ·exact hv w h
   ·rw[bW.mp h];exact⟨h0,h3⟩)
  obtain⟨ρ',s',ef,b',l,y6,y7,hl,hv,rfl,rfl⟩:=key
  rw[z8,db]at hl
  have gB:(ah1 s r b' (qy L) T (l.map D.int))[s.length+(T.length+1)]?=some (.lst (l.map D.int)):=by
   unfold ah1
   have:=aq2 (s:=s.set r (qC b')) (t:=T) (o:=.lst (l.map D.int)) (x:=.lst (qy L))
   rwa [aY]at this
  have ea:meth .append (.ref s.length) [.tup (l.map D.int)] (ah1 s r b' (qy L) T (l.map D.int))=.ok .non (ah1 s r b' (qy (L++[l])) T (l.map D.int)):=by
   unfold ah1
   rw[bn8 (by unfold LIM qy;rw[aM];omega)]
   unfold qy;rw[cA];rfl
  have e2:turn (aa1 P (n+1)) (.one 4) (.cons (.asg (.one 5) (.lst .nil)) (.cons (.for_ (.one 6) (.rng1 (.var 1)) bt9) (.cons (.ex (.meth .append (.var 3) (.cons (.mk .tuple (.seq (.var 5))) .nil))) .nil))) (.int i) [some (D.ref r),some (.int m),some (.int way),some (.ref s.length),x4,x5,x6,x7] (s.set r (qC b)++(.lst (qy L)::T))=.ok (.next [some (D.ref r),some (.int m),some (.int way),some (.ref s.length),some (.int i),some (.ref (s.length+(T.length+1))),y6,y7]) (ah1 s r b' (qy (L++[l])) T (l.map D.int)):=by
   unfold turn
   simp -implicitDefEqProofs only[zo,qj,zT,a7,zh,zt,qQ,ev_lst,zK,R.bind_ok,alloc_eq,zG,zq,ex_for,qv,zm,zn,zr,aV,aY,aQ,em,eT]
   rw[qg (by unfold W62;omega) (by unfold W62;omega)]
   simp only[R.bind_ok]
   rw[show s.set r (qC b)++(O.lst (qy L)::(T++[O.lst []]))=ah1 s r b (qy L) T []from rfl,ef]
   simp -implicitDefEqProofs only[R.bind_ok,zq,zh,zt,ex_ex,ev_meth,zJ,zK,ev_mk,evL_seq,zm,zn,zr,aT1,gB,mk,ea]
  refine⟨_,_,.inl e2,b',T++[.lst (l.map D.int)],L++[l],_,_,_,_,fun w hw=>?_,by rw[aV,hLi];rfl,rfl,rfl⟩
  rcases bZ.mp hw with h|h
  ·exact hL w h
  ·rw[bW.mp h];exact⟨hl,hv⟩)
 obtain⟨ρ',t',ez,b,T,L,x4,x5,x6,x7,hL,hLi,rfl,rfl⟩:=key2
 rw[z8,db]at hLi
 obtain⟨f,hf,ef⟩:=bj9 hL hLi
 have h0:(s.set r (qC b)++(O.lst (qy L)::T))[s.length]?=some (.lst (qy L)):=by rw[aI (by simp)];simp
 rw[ez]
 simp -implicitDefEqProofs only[R.bind_ok,zq,zh,zt,qG,ev_mk,evL_seq,zm,zn,zr,R.bind_ok,aT1,h0,mk,z5,z0]
 rw[ef]
 exact⟨f,b,hf,ar2 an0 (by nofun) rfl⟩
end
section
variable {m:Nat} (hm:1<=m) {g:Nat->Nat->Int} (hg:InG m g) (hst:aH2 m g)
include hm hg hst
end
theorem aN2 {m j:Nat}{f:Nat->D}{d:D}(h:((ao m).map f)[j]?=some d):j<m/\d=f j:=by
 have hj:=(ag.mp h).1
 simp at hj
 rw[aE,bO hj]at h
 exact⟨hj,(az h).symm⟩
theorem br0 {F:Fns}{ρ:Env}{s t:Sto}{a:E}{b c:Bool}(h:ev F a ρ s=.ok (.bl c) t):ev F (.notB a b) ρ s=.ok (.bl (!(c==b))) t:=by
 show(ev F a ρ s).bind (fun x s=>match x with|.bl c=>R.ok (D.bl (!(c==b))) s|_=>.bad)=_
 rw[h];rfl
section
variable {P:Pr} [Has P ad6] [Has P ab9] [Has P aa3] [HasL P aa2] [Has P aa8] [Has P ab0] [Has P ab1] [HasL P aa4] [HasC P "FREE" (.int 0)] [HasC P "UNBOUND" (.int 2)] [HasC P "NONE" (.int 3)] [Has P aa7] [Has P aw8] [Has P bm5]
variable [Has P ap7] [Has P ac9] [Has P aQ8]
end
noncomputable def un (i j:Nat):Int:=if i=j then 0 else 3
section
variable {m:Nat} (hm:1<=m)
end
section
variable {P:Pr} [Has P ab9] [Has P ap1] [HasL P ah3] [HasC P "FREE" (.int 0)] [HasC P "NONE" (.int 3)]
variable [Has P ba6] [Has P aa3] [HasL P aa2]
variable [Has P as4] [HasC P "sign_product" (.fn "sign_product")]
end
section
variable {P:Pr} [Has P ab5] [Has P bA2] [Has P br9]
end
noncomputable def bM6:Ss:=(.cons (.ite (.or (.not (.bi .isInt (.cons (.var 3) .nil))) (.bi .isBool (.cons (.var 3) .nil))) (.cons (.ret (.cst (.bl false))) .nil) .nil) .nil)
noncomputable def bO3:Ss:=(.cons (.ite (.or (.not (.bi .isTup (.cons (.var 2) .nil))) (.cmp .ne (.bi .len (.cons (.var 2) .nil)) (.var 1))) (.cons (.ret (.cst (.bl false))) .nil) .nil) (.cons (.for_ (.one 3) (.seq (.var 2)) bM6) .nil))
theorem aS2 {P:Pr}[Has P ag5](n:Nat){m:Nat}(f:Nat->Nat->Int)(s:Sto):(aa1 P (n+1)).call "_law_form" [gd m f,.int m] s=.ok (.bl true) s:=by
 have e0:(aa1 P (n+1)).call "_law_form" [gd m f,.int m] s=_:=zI ag5 (n:=n) rfl
 have body:ag5.body=.cons (.ite (.or (.not (.bi .isTup (.cons (.var 0) .nil))) (.cmp .ne (.bi .len (.cons (.var 0) .nil)) (.var 1))) (.cons (.ret (.cst (.bl false))) .nil) .nil) (.cons (.for_ (.one 2) (.seq (.var 0)) bO3) (.cons (.ret (.cst (.bl true))) .nil)):=rfl
 have it:∀(l:List D) (s:Sto),bi .isTup [.tup l] s=.ok (.bl true) s:=fun _ _=>rfl
 have it2:bi .isTup [gd m f] s=.ok (.bl true) s:=rfl
 have inner:∀ i,i<m->∀ x2 x3,∃ ρ' s',aE6 (fun s1=>chk s s1 []) (turn (aa1 P n) (.one 3) bM6) (row m (f i)) [some (gd m f),some (.int m),x2,x3] s=.ok (.next ρ') s'/\∃ x3,ρ'=[some (gd m f),some (.int m),x2,x3]/\s'=s:=fun i hi x2 x3=>by
  refine af9 (fun _ ρ t=>∃ x3,ρ=[some (gd m f),some (.int m),x2,x3]/\t=s) _ 0 _ _ ⟨x3,rfl,rfl⟩ (fun _ _ _ _ _=>rfl) ?_
  rintro j d ρ t hj ⟨x3,rfl,rfl⟩
  obtain⟨hj5,rfl⟩:=bq5 hj
  refine⟨[some (gd m f),some (.int m),x2,some (.int (f i j))],t,.inl ?_,_,rfl,rfl⟩
  unfold turn bM6
  simp -implicitDefEqProofs only[zo,qj,zT,a7,zh,zt,ex_ite,ev_or,ev_not,ev_bi,zJ,zK,zm,zn,zr,R.bind_ok,aM2,aE0,zN,cR,if_false,aW,zq]
 have outer:=af9 (ok:=fun s1=>chk s s1 []) (g:=turn (aa1 P n) (.one 2) bO3) (fun _ ρ t=>∃ x2 x3,ρ=[some (gd m f),some (.int m),x2,x3]/\t=s) ((ao m).map fun i=>.tup (row m (f i))) 0 [some (gd m f),some (.int m),none,none] s ⟨none,none,rfl,rfl⟩ (fun _ _ _ _ _=>rfl) (by
  rintro i d ρ t hi ⟨x2,x3,rfl,rfl⟩
  obtain⟨hi5,rfl⟩:=aN2 hi
  obtain⟨ρ',s',e,y3,rfl,rfl⟩:=inner i hi5 (some (.tup (row m (f i)))) x3
  refine⟨[some (gd m f),some (.int m),some (.tup (row m (f i))),y3],s',.inl ?_,_,_,rfl,rfl⟩
  unfold turn bO3
  simp -implicitDefEqProofs only[zo,qj,zT,a7,zh,zt,ex_ite,ev_or,ev_not,ev_bi,zJ,zK,zm,zn,zr,R.bind_ok,it,zN,cR,if_false,aW,ql,bg8,aO7,ne_int,decide_true,zq,ex_for,evI_seq,aH6]
  rw[e]
  rfl)
 obtain⟨ρ',s',e,x2,x3,rfl,rfl⟩:=outer
 rw[e0,body,show(cS some [gd m f,D.int m]++av ag5.vs none)=[some (gd m f),some (.int m),none,none]from rfl]
 simp -implicitDefEqProofs only[zh,zt,ex_ite,ev_or,ev_not,ev_bi,zJ,zK,zm,zn,zr,R.bind_ok,it2,zN,cR,if_false,aW,ql,aN7,ne_int,decide_true,zq,ex_for,evI_seq,bc8]
 rw[e]
 simp -implicitDefEqProofs only[R.bind_ok,zq,zh,zt,qG,qu,Cn_bl,z5,z0]
 exact aD4
class HasX (P:Pr)(f:String)(d:Xf):Prop where
 at_:P.xf f=some d
class HasT (P:Pr)(f:String)(d:Tf):Prop where
 no:P.df f=none
 at_:P.tf f=some d
class HasE (P:Pr)(c:String)(ts:List String):Prop where
 at_:P.xc c=true
 ts:∀ t∈ts,P.xt t=true
theorem aO0 {P:Pr}{f:String}(d:Xf)[h:HasX P f d]{n:Nat}{l:List D}{s:Sto}(hl:l.length=d.ps):(aa1 P (n+1)).xcall f l s=xB (aa1 P n) d.body (l.map some++av d.vs none) s:=by
 show(match P.xf f with|some d=>if l.length=d.ps then xB (aa1 P n) d.body (l.map some++av d.vs none) s else none|none=>none)=_
 rw[h.at_]
 exact if_pos hl
theorem bq7 {P:Pr}{f:String}(d:Tf)[h:HasT P f d]{n:Nat}{l:List D}{s:Sto}(hl:l.length=d.ps):(aa1 P (n+1)).call f l s=bc1 (aa1 P n) d l s:=by
 have e:(aa1 P (n+1)).call f l s=match P.df f with
   | some d=>if l.length=d.ps then(exs (aa1 P n) d.body (l.map some++av d.vs none) s).bind fun c s'=>match c with
     | .ret v=>ab3 s v s'
     | .next _=>ab3 s .non s'
     | _=>.bad else .bad
   | none=>match P.tf f with
    | some d=>if l.length=d.ps then bc1 (aa1 P n) d l s else .bad
    | none=>.bad:=rfl
 rw[e,h.no]
 show(match P.tf f with|some d=>if l.length=d.ps then bc1 (aa1 P n) d l s else .bad|none=>.bad)=_
 rw[h.at_]
 exact if_pos hl
theorem bp0 {P:Pr}{n:Nat}:(aa1 P n).xc=P.xc/\(aa1 P n).xt=P.xt:=by cases n<;>exact⟨rfl,rfl⟩
end DV
end
local macro_rules | `(tactic| tbr_iter [$xs,*]) => `(tactic| simp -implicitDefEqProofs only [DV.zh, DV.zt, DV.qQ, DV.ex_ite, DV.qG, DV.ex_ex, DV.ex_for, DV.ex_whl, DV.ex_setIx, DV.ex_cont, DV.ex_pass, DV.ex_und, DV.zm, DV.qu, DV.ev_bin, DV.ev_not, DV.ql, DV.ev_and, DV.ev_or, DV.ev_ite, DV.ev_tup, DV.ev_lst, DV.ev_ix, DV.zS, DV.ev_bi, DV.ev_mk, DV.ev_mkD, DV.ev_mks, DV.ev_mkDs, DV.ev_meth, DV.ev_isN, DV.ev_notN, DV.zK, DV.zJ, DV.zw, DV.zL, DV.evI_seq, DV.qv, DV.evL_seq, DV.Cn_bl, DV.qD, DV.Cn_non, DV.Cn_str, DV.R.bind_ok, DV.zo, DV.bindT_tup, DV.setVs_nil, DV.setVs_cons, DV.qj, DV.zT, DV.unsetV_s, DV.unsetV_0, DV.zn, DV.zr, Option.map_some, Option.bind_some, DV.zG, DV.zq, DV.z5, DV.nxt_cont, DV.z0, DV.fin_next, DV.add_int, DV.sub_int, DV.lt_int, DV.le_int, DV.gt_int, DV.ge_int, DV.qP, DV.ne_int, DV.alloc_eq, DV.zN, if_true, if_false, Bool.false_eq_true, decide_true, decide_false, Bool.not_true, Bool.not_false, $[$xs:term],*])
noncomputable section
namespace DV
theorem aS1 {p:Nat->Prop}:∀ n,p n->∃ k,p k/\∀ j,j<k->¬ p j:=by
 intro n
 induction n using iE with
 | _ n ih =>
  intro h
  by_cases hx:∃ j,j<n/\p j
  ·obtain⟨j,hj,hp⟩:=hx
   exact ih j hj hp
  ·exact⟨n,h,fun j hj hp=>hx ⟨j,hj,hp⟩⟩
noncomputable def ab2:Xf:=⟨1,2,.iteT (.not (.call "is_steady" (.ex (.var 0) .nil))) (.rais "NotSteady") .no⟩
noncomputable def aa5:Tf:=⟨1,1,.cons (.ex (.call "sharpened" (.ex (.var 0) .nil))) .nil,.call "sharpened" (.ex (.var 0) .nil), "NotSteady",1,.iff (.or (.not (.one "TollError")) (.isi ["NoMaking", "NoName", "NoPair", "NoPaper"])) false (.ret (.not (.isi ["NoRow", "NoText", "TooLong", "TooMuch"]))),.cons (.ret (.cst (.bl false))) .nil⟩
section
variable {P:Pr} [Has P ab9] [Has P aa3] [HasL P aa2] [Has P aa8]
theorem qK [Has P aa7](n:Nat){m:Nat}(hm:1<=m)(hm5:m<=5){f:Nat->Nat->Int}(hf:InG m f){M:Nat}(hM:aH2 m (pw m f M))(lt:∀ L,L<M->¬ aH2 m (pw m f L)){s:Sto}(hs:s.all O.ncl=true) :
  (aa1 P (n+5)).call "steady_power" [gd m f] s=.ok (.tup [.int ((M+1:Nat):Int),gd m (pw m f M)]) s:=by
 have e0:(aa1 P (n+5)).call "steady_power" [gd m f] s=_:=zI aa7 (n:=n+4) rfl
 rw[e0,show(cS some [gd m f]++av aa7.vs none)=[some (gd m f),none,none]from rfl]
 simp -implicitDefEqProofs only[aa7,zh,zt,qQ,qu,qD,zm,zn,zr,R.bind_ok,zo,qj,zT,a7,zG,zq,ex_whl]
 rw[R.bind_assoc]
 refine aA9 (fun k ρ t=>∃ L:Nat,L+k=M/\ρ=[some (gd m f),some (.int ((L+1:Nat):Int)),some (gd m (pw m f L))]/\t=s) (fun ρ t=>ρ=[some (gd m f),some (.int ((M+1:Nat):Int)),some (gd m (pw m f M))]/\t=s) M ⟨0,by omega,rfl,rfl⟩ ?_ ?_
 ·rintro k ρ t ⟨L,hL,rfl,rfl⟩
  obtain⟨b,eb,hb⟩:=zY (P:=P) n hm hm5 (pw_in hm hf L) hs
  simp -implicitDefEqProofs only[ev_not,zS,zL,zw,zm,zn,zr,R.bind_ok,eb,zN,bf6]
  cases b with
  | true =>
   have hLM:L=M:=by
    by_cases h:L<M
    ·exact absurd (hb.mp rfl) (lt L h)
    ·omega
   subst hLM
   exact⟨rfl,trivial⟩
  | false =>
   have hne:L≠M:=fun e=>by subst e;exact absurd (hb.mpr hM) (by decide)
   simp only[gh,if_true]
   have ea:=aE7 (F:=aa1 P (n+4)) (ρ:=[some (gd m f),some (.int ((L+1:Nat):Int)),some (gd m (pw m f L))]) (ρ':=[some (gd m f),some (.int (((L+1:Nat):Int)+1)),some (gd m (pw m f L))]) (s:=t) (i:=1) (a:=((L+1:Nat):Int)) (b:=1) (e:=.cst (.int 1)) rfl rfl rfl
   have ep:(aa1 P (n+4)).call "sign_product" [gd m (pw m f L),gd m f] t=.ok (gd m (pw m f (L+1))) t:=qJ (P:=P) (n+1) hm hm5 (pw_in hm hf L) hf hs
   refine aX1 (ρ:=[some (gd m f),some (.int (((L+1:Nat):Int)+1)),some (gd m (pw m f (L+1)))]) (s:=t) ?_ ⟨k - 1,by omega,L+1,by omega,by rw[show((L+1:Nat):Int)+1=((L+1+1:Nat):Int)by omega],rfl⟩
   rw[zh,ea]
   simp -implicitDefEqProofs only[R.bind_ok,zq,zh,zt,qQ,zS,zL,zw,zm,zn,zr,ep,zo,qj,zT,a7,zG]
 ·rintro ρ t ⟨rfl,rfl⟩
  simp -implicitDefEqProofs only[zq,zh,zt,qG,ev_tup,zJ,zK,zm,zn,zr,R.bind_ok,z5,z0]
  refine zD (fun n=>?_) (by nofun)
  unfold D.bnd D.bndL D.bndL D.bndL
  rw[an0];rfl
theorem aG5 [Has P ab5][Has P ac3](n:Nat){m:Nat}(hm:1<=m)(hm5:m<=5){f:Nat->Nat->Int}(hf:InG m f){M:Nat}(hM:aH2 m (pw m f M))(lt:∀ L,L<M->¬ aH2 m (pw m f L))(s:Sto) :
  (aa1 P (n+2)).call "_law_steady" [gd m f] s=.ok (.tup [.int ((M+1:Nat):Int),gd m (pw m f M)]) s:=by
 have e0:(aa1 P (n+2)).call "_law_steady" [gd m f] s=_:=zI ac3 (n:=n+1) rfl
 rw[e0,show(cS some [gd m f]++av ac3.vs none)=[some (gd m f),none,none]from rfl]
 simp -implicitDefEqProofs only[ac3,zh,zt,qQ,qu,qD,zm,zn,zr,R.bind_ok,zo,qj,zT,a7,zG,zq,ex_whl]
 rw[R.bind_assoc]
 refine aA9 (fun k ρ t=>∃ L:Nat,L+k=M/\ρ=[some (gd m f),some (.int ((L+1:Nat):Int)),some (gd m (pw m f L))]/\t=s) (fun ρ t=>ρ=[some (gd m f),some (.int ((M+1:Nat):Int)),some (gd m (pw m f M))]/\t=s) M ⟨0,by omega,rfl,rfl⟩ ?_ ?_
 ·rintro k ρ t ⟨L,hL,rfl,rfl⟩
  have ep:=af8 (P:=P) n hm5 (pw m f L) (pw m f L) t
  obtain⟨b,eb,hb⟩:=bL5 (s:=t) (m:=m) (f:=pr m (pw m f L) (pw m f L)) (g:=pw m f L)
  simp -implicitDefEqProofs only[ql,zS,zL,zw,zm,zn,zr,R.bind_ok,ep,eb,bf6]
  cases b with
  | true =>
   have hLM:L=M:=by
    by_cases h:L<M
    ·exact absurd (hb.mp rfl) (lt L h)
    ·omega
   subst hLM
   exact⟨rfl,trivial⟩
  | false =>
   have hne:L≠M:=fun e=>by subst e;exact absurd (hb.mpr hM) (by decide)
   simp only[gh,if_true]
   have ep2:(aa1 P (n+1)).call "_law_product" [gd m (pw m f L),gd m f] t=.ok (gd m (pw m f (L+1))) t:=af8 (P:=P) n hm5 (pw m f L) f t
   refine aX1 (ρ:=[some (gd m f),some (.int (((L+1:Nat):Int)+1)),some (gd m (pw m f (L+1)))]) (s:=t) ?_ ⟨k - 1,by omega,L+1,by omega,by rw[show((L+1:Nat):Int)+1=((L+1+1:Nat):Int)by omega],rfl⟩
   tbr_iter [ep2]
 ·rintro ρ t ⟨rfl,rfl⟩
  simp -implicitDefEqProofs only[zq,zh,zt,qG,ev_tup,zJ,zK,zm,zn,zr,R.bind_ok,z5,z0]
  refine zD (fun n=>?_) (by nofun)
  unfold D.bnd D.bndL D.bndL D.bndL
  rw[an0];rfl
variable [HasC P "FREE" (.int 0)] [HasC P "UNBOUND" (.int 2)] [HasC P "NONE" (.int 3)] [Has P ab0] [Has P ab1] [HasL P aa4] [HasX P "sharpened" ab2] [HasT P "_law_refused" aa5] [HasE P "NotSteady" ["NoMaking", "NoName", "NoPair", "NoPaper", "NoRow", "NoText", "TollError", "TooLong", "TooMuch"]]
theorem aw9 (n:Nat){m:Nat}(hm:1<=m)(hm5:m<=5){f:Nat->Nat->Int}(hf:InG m f){s:Sto}(hs:s.all O.ncl=true){b:Bool}(hb:b=true↔aH2 m f) :
  (aa1 P (n+5)).xcall "sharpened" [gd m f] s=if b then none else some ("NotSteady",s):=by
 have e0:(aa1 P (n+5)).xcall "sharpened" [gd m f] s=_:=aO0 ab2 (n:=n+4) rfl
 obtain⟨b',eb,hb'⟩:=zY (P:=P) n hm hm5 hf hs
 have ebb:b'=b:=by
  cases b with
  | true=>exact hb'.mpr (hb.mp rfl)
  | false=>cases b' with
   | true=>exact absurd (hb.mpr (hb'.mp rfl)) (by decide)
   | false=>rfl
 subst ebb
 have hx:(aa1 P (n+4)).xc "NotSteady"=true:=by rw[bp0.1];exact HasE.at_ ["NoMaking", "NoName", "NoPair", "NoPaper", "NoRow", "NoText", "TollError", "TooLong", "TooMuch"]
 have e2:ev (aa1 P (n+4)) (.not (.call "is_steady" (.ex (.var 0) .nil))) [some (gd m f),none,none] s=.ok (.bl (!b')) s:=by tbr_iter [eb]
 rw[e0,show(cS some [gd m f]++av ab2.vs none)=[some (gd m f),none,none]from rfl,show ab2.body=.iteT (.not (.call "is_steady" (.ex (.var 0) .nil))) (.rais "NotSteady") .no from rfl]
 unfold xB
 rw[e2]
 cases b' with
 | true=>rfl
 | false=>exact if_pos hx
theorem ar4 (n:Nat){m:Nat}(hm:1<=m)(hm5:m<=5){f:Nat->Nat->Int}(hf:InG m f){s:Sto}(hs:s.all O.ncl=true){b:Bool}(hb:b=true↔aH2 m f) :
  (aa1 P (n+6)).call "_law_refused" [gd m f] s=.ok (.bl (!b)) s:=by
 have e0:(aa1 P (n+6)).call "_law_refused" [gd m f] s=_:=bq7 aa5 (n:=n+5) rfl
 have e1:xB (aa1 P (n+5)) aa5.xb ([gd m f].map some++av aa5.vs none) s=_:=aw9 (P:=P) n hm hm5 hf hs hb
 rw[e0]
 unfold bc1
 rw[e1]
 cases b with
 | true =>
  have e2:=ah0 (P:=P) n hm hm5 hf (hb.mp rfl) hs
  show((exs (aa1 P (n+5)) (.cons (.ex (.call "sharpened" (.ex (.var 0) .nil))) .nil) [some (gd m f),none] s).bind fun c s1=>match c with
   | .ret v=>ab3 s v s1
   | .next ρ=>(exs (aa1 P (n+5)) (.cons (.ret (.cst (.bl false))) .nil) ρ s1).bind fun c s2=>match c with
    | .ret v=>ab3 s v s2
    | .next _=>ab3 s .non s2
    | _=>.bad
   | _=>.bad)=_
  tbr_iter [e2]
  exact zD (fun _=>rfl) (by nofun)
 | false =>
  have hts:=HasE.ts (P:=P) (c := "NotSteady") (ts:=["NoMaking", "NoName", "NoPair", "NoPaper", "NoRow", "NoText", "TollError", "TooLong", "TooMuch"])
  have hx:(aa1 P (n+5)).xc "NotSteady"=true:=by rw[bp0.1];exact HasE.at_ ["NoMaking", "NoName", "NoPair", "NoPaper", "NoRow", "NoText", "TollError", "TooLong", "TooMuch"]
  have ht:aa5.h.ok (aa1 P (n+5)).xt=true:=by
   rw[bp0.2]
   have q:∀ t∈["NoMaking", "NoName", "NoPair", "NoPaper", "NoRow", "NoText", "TollError", "TooLong", "TooMuch"],P.xt t=true:=hts
   simp only[au,bq,or_false,forall_eq_or_imp,forall_eq]at q
   obtain⟨q1,q2,q3,q4,q5,q6,q7,q8,q9⟩:=q
   simp only[aa5,Hd.ok,HT.ok,cB,hX,q1,q2,q3,q4,q5,q6,q7,q8,q9,Bool.and_self]
  show(if "NotSteady"=aa5.c/\(aa1 P (n+5)).xc "NotSteady"=true/\aa5.h.ok (aa1 P (n+5)).xt=true then ab3 s (.bl (aa5.h.val "NotSteady")) s else .bad)=_
  rw[if_pos ⟨rfl,hx,ht⟩]
  exact zD (d:=.bl true) (fun _=>rfl) (by nofun)
end
noncomputable def minO:Option Int->Option Int->Option Int
 | none,x=>x
 | some a,none=>some a
 | some a,some b=>if b<a then some b else some a
noncomputable def Dr.turn (x:Dr):Dr:=⟨x.b,x.l,x.a,x.t⟩
noncomputable def Mc.turn (m:Mc):Mc:=⟨m.L,m.R,m.en,m.bg,m.ds.map Dr.turn⟩
section
variable {P:Pr} [Has P ab9]
end
section
variable {P:Pr} [Has P ab9] [Has P ay0] [Has P ag2] [Has P af7] [Has P qm] [HasL P zV]
end
section
variable {P:Pr} [Has P ab9] [Has P ay0] [Has P aI6] [Has P ag2] [Has P af7] [Has P qm] [HasL P zV] [Has P aQ4] [HasL P an1] [Has P au2] [HasL P ag6] [Has P ag7]
end
theorem ah8 {f:D->D->Option Bool}:∀ {l:List D},(∀ d∈l,f d d=some true)->eqL f l l=some true
 | [],_=>rfl
 | d::l,h=>by
  show(match f d d,eqL f l l with|some x,some y=>some (x&&y)|_,_=>none)=_
  rw[h d (aq ..),ah8 fun x hx=>h x (ah _ hx)];rfl
section
variable {P:Pr} [Has P ab9] [Has P ay0] [Has P aI6] [Has P ag2] [Has P af7] [Has P qm] [HasL P zV] [Has P aQ4] [HasL P an1] [Has P au2] [HasL P ag6] [Has P ag7]
 [Has P bK2] [Has P bE0] [Has P br7] [Has P aP0] [Has P bE7] [Has P aT9] [Has P ay2] [Has P aJ3]
end
theorem bp2 {s:Sto}{n m:Nat}{f:Nat->Nat->Int}:eqv s (n+2) (gd m f) (gd m f)=some true:=by
 show eqL (eqv s (n+1)) _ _=_
 refine ah8 fun d hd=>?_
 obtain⟨i,_,rfl⟩:=aG.mp hd
 show eqL (eqv s n) _ _=_
 refine ah8 fun d hd=>?_
 obtain⟨j,_,rfl⟩:=aG.mp hd
 cases n<;>simp[eqv,ad9,ay6]
theorem bt0 {s:Sto}{m:Nat}{q:Int}{f:Nat->Nat->Int}:qp .ne (.tup [.int q,gd m f]) (.tup [.int q,gd m f]) s=.ok (.bl false) s:=by
 have e:eqv s DEEP (.tup [.int q,gd m f]) (.tup [.int q,gd m f])=some true:=by
  show eqL (eqv s 29) _ _=_
  refine ah8 fun d hd=>?_
  simp only[au,bq,or_false]at hd
  rcases hd with rfl|rfl
  ·simp[eqv,ad9,ay6]
  ·exact bp2 (n:=27)
 show(match eqv s DEEP (.tup [.int q,gd m f]) (.tup [.int q,gd m f])with|some r=>R.ok (D.bl (!r)) s|none=>.bad)=_
 rw[e];rfl
noncomputable def bT0:S:=.ite (.or (.not (.bi .isBool (.cons (.var 8) .nil))) (.or (.cmp .ne (.var 8) (.var 7)) (.or (.notB (.call "is_steady" (.ex (.var 6) .nil)) true) (.cmp .eq (.call "_law_refused" (.ex (.var 4) .nil)) (.var 7))))) (.cons (.ret (.cst (.bl false))) .nil) .nil
noncomputable def bR8:S:=.ite (.not (.call "_law_form" (.ex (.call "sharpened" (.ex (.var 6) .nil)) (.ex (.var 3) .nil)))) (.cons (.ret (.cst (.bl false))) .nil) .nil
noncomputable def bQ9:S:=.ite (.or (.not (.bi .isTup (.cons (.var 9) .nil))) (.or (.cmp .ne (.bi .len (.cons (.var 9) .nil)) (.cst (.int 2))) (.or (.cmp .ne (.var 9) (.tup (.cons (.var 5) (.cons (.var 6) .nil)))) (.bi .isBool (.cons (.ix (.var 9) (.cst (.int 0))) .nil))))) (.cons (.ret (.cst (.bl false))) .nil) .nil
noncomputable def bT5:S:=.ite (.or (.not (.call "_law_form" (.ex (.ix (.var 9) (.cst (.int 1))) (.ex (.var 3) .nil)))) (.cmp .ne (.call "steady_power" (.ex (.var 6) .nil)) (.tup (.cons (.cst (.int 1)) (.cons (.var 6) .nil))))) (.cons (.ret (.cst (.bl false))) .nil) .nil
noncomputable def r23:Ss:=.cons (.asg (.tup [5,6]) (.call "_law_steady" (.ex (.var 4) .nil))) (.cons (.asg (.one 7) (.cmp .eq (.call "_law_product" (.ex (.var 4) (.ex (.var 4) .nil))) (.var 4))) (.cons (.asg (.one 8) (.call "is_steady" (.ex (.var 4) .nil))) (.cons bT0 (.cons bR8 (.cons (.asg (.one 9) (.call "steady_power" (.ex (.var 4) .nil))) (.cons bQ9 (.cons bT5 .nil)))))))
noncomputable def b23:Ss:=.cons (.asg (.one 2) (.call "_law_box" (.ex (.var 0) (.ex (.var 1) .nil)))) (.cons (.asg (.one 3) (.bin .add (.cst (.int 1)) (.call "_law_draw" (.ex (.var 2) (.ex (.cst (.int 5)) .nil))))) (.cons (.asg (.one 4) (.call "_law_signs" (.ex (.var 2) (.ex (.var 3) .nil)))) r23))
theorem bA6:ab7.body=(.cons (.for_ (.one 1) (.rng1 (.bin .add (.bi .min2 (.cons (.cst (.int 12)) (.cons (.bi .len (.cons (.var 0) .nil)) .nil))) (.cst (.int 1)))) b23) (.cons (.ret (.cst (.bl true))) .nil)):=rfl
section
variable {P:Pr} [Has P ab9] [Has P aa3] [HasL P aa2] [Has P aa8] [Has P aa7] [Has P ab5] [Has P ac3] [HasC P "FREE" (.int 0)] [HasC P "UNBOUND" (.int 2)] [HasC P "NONE" (.int 3)] [Has P ab0] [Has P ab1] [HasL P aa4] [HasX P "sharpened" ab2] [HasT P "_law_refused" aa5] [HasE P "NotSteady" ["NoMaking", "NoName", "NoPair", "NoPaper", "NoRow", "NoText", "TollError", "TooLong", "TooMuch"]]
 [Has P ap7] [Has P ad6] [Has P ac9] [Has P ag5] [Has P ab7]
theorem bF6 (n:Nat){m:Nat}(hm:1<=m)(hm5:m<=5){f:Nat->Nat->Int}(hf:InG m f){s:Sto}(hs:s.all O.ncl=true)(x0 x1 x2 x5 x6 x7 x8 x9:Option D) :
  ∃ y5 y6 y7 y8 y9,exs (aa1 P (n+6)) r23 [x0,x1,x2,some (.int (m:Int)),some (gd m f),x5,x6,x7,x8,x9] s=.ok (.next [x0,x1,x2,some (.int (m:Int)),some (gd m f),y5,y6,y7,y8,y9]) s:=by
 obtain⟨M1,hM1⟩:=aP9 hm hm5 hf
 obtain⟨M,hM,lt⟩:=aS1 (p:=fun k=>aH2 m (pw m f k)) M1 hM1
 have hg:=pw_in hm hf M
 have e1:=aG5 (P:=P) (n+4) hm hm5 hf hM lt s
 have e2:=af8 (P:=P) (n+5) hm5 f f s
 obtain⟨b,e3,hb⟩:=bH0 (s:=s) (m:=m) (f:=pr m f f) (g:=f)
 have hb:b=true↔aH2 m f:=hb
 obtain⟨b',e4,hb'⟩:=zY (P:=P) (n+2) hm hm5 hf hs
 have ebb:b'=b:=by
  cases b with
  | true=>exact hb'.mpr (hb.mp rfl)
  | false=>cases b' with
   | true=>exact absurd (hb.mpr (hb'.mp rfl)) (by decide)
   | false=>rfl
 subst ebb
 obtain⟨b2,e5,hb2⟩:=zY (P:=P) (n+2) hm hm5 hg hs
 have hb2:b2=true:=hb2.mpr hM
 subst hb2
 have e6:=ar4 (P:=P) n hm hm5 hf hs hb
 have e7:(aa1 P (n+6)).call "sharpened" [gd m (pw m f M)] s=_:=ah0 (P:=P) (n+1) hm hm5 hg hM hs
 have e8:=aS2 (P:=P) (n+5) (m:=m) (sh m (pw m f M)) s
 have e9:(aa1 P (n+6)).call "steady_power" [gd m f] s=_:=qK (P:=P) (n+1) hm hm5 hf hM lt hs
 have e10:=aS2 (P:=P) (n+5) (m:=m) (pw m f M) s
 have e11:(aa1 P (n+6)).call "steady_power" [gd m (pw m f M)] s=_:=qK (P:=P) (n+1) hm hm5 hg (M:=0) hM (fun L hL=>absurd hL (dP _)) hs
 rw[show((0+1:Nat):Int)=1 from rfl,show pw m (pw m f M) 0=pw m f M from rfl]at e11
 have ib:∀(b:Bool) (s:Sto),bi .isBool [.bl b] s=.ok (.bl true) s:=fun _ _=>rfl
 have it:∀(l:List D) (s:Sto),bi .isTup [.tup l] s=.ok (.bl true) s:=fun _ _=>rfl
 have nb:∀(s:Sto),qp .ne (.bl b') (.bl b') s=.ok (.bl false) s:=fun s=>by cases b'<;>rfl
 have qb:∀(s:Sto),qp .eq (.bl (!b')) (.bl b') s=.ok (.bl false) s:=fun s=>by cases b'<;>rfl
 have l2:∀(a b:D) (s:Sto),bi .len [.tup [a,b]] s=.ok (.int 2) s:=fun _ _ _=>rfl
 have ii:∀(q:Int) (s:Sto),bi .isBool [.int q] s=.ok (.bl false) s:=fun _ _=>rfl
 have i0:∀(a b:D) (s:Sto),ixM (.tup [a,b]) (.int 0) s=.ok a s:=fun _ _ _=>rfl
 have i1:∀(a b:D) (s:Sto),ixM (.tup [a,b]) (.int 1) s=.ok b s:=fun _ _ _=>rfl
 have n2:∀ s:Sto,qp .ne (.int 2) (.int 2) s=.ok (.bl false) s:=fun s=>by rw[ne_int];rfl
 generalize hq:((M+1:Nat):Int)=q at *
 have eN:∀ ρ,ρ=[x0,x1,x2,some (.int (m:Int)),some (gd m f),some (.int q),some (gd m (pw m f M)),some (.bl b'),some (.bl b'),x9]->ev (aa1 P (n+6)) (.notB (.call "is_steady" (.ex (.var 6) .nil)) true) ρ s=.ok (.bl false) s:=fun ρ hρ=>by
  subst hρ
  refine br0 (c:=true) ?_
  tbr_iter [e5]
 have eN:=eN _ rfl
 refine⟨some (.int q),some (gd m (pw m f M)),some (.bl b'),some (.bl b'),some (.tup [.int q,gd m (pw m f M)]),?_⟩
 unfold r23 bT0 bR8 bQ9 bT5
 tbr_iter [e1,e2,e3,e4,ib,nb,eN,e6,qb,e7,e8,e9,it,l2,n2,bt0,i0,ii,i1,e10,e11]
theorem bN5 (n:Nat):bO7 P (n+7):=by
 intro ns hl
 have e0:(aa1 P (n+7)).call "law" [.ref 0] [.ro (ns.map D.int)]=_:=zI ab7 (n:=n+6) rfl
 rw[e0,bA6,show(cS some [D.ref 0]++av ab7.vs none)=[some (.ref 0),none,none,none,none,none,none,none,none,none]from rfl]
 have hs0:([.ro (ns.map D.int)]:Sto)[0]?=some (.ro (ns.map D.int)):=rfl
 have hlen:bi .len [.ref 0] [.ro (ns.map D.int)]=.ok (.int ns.length) [.ro (ns.map D.int)]:=by rw[bc2 hs0,aM]
 have hk:(if(ns.length:Int)<12 then(ns.length:Int)else 12)+1=((min ns.length 12+1:Nat):Int):=by omega
 tbr_iter [hlen,aW6,hk]
 rw[qg (by unfold W62;omega) (by unfold W62;omega)]
 simp only[R.bind_ok]
 rw[R.bind_assoc]
 refine ah7 (W:=Yes) (fun j ρ t=>t[0]?=some (.ro (ns.map D.int))/\t.all O.ncl=true/\∃ x1 x2 x3 x4 x5 x6 x7 x8 x9,ρ=[some (.ref 0),x1,x2,x3,x4,x5,x6,x7,x8,x9]) ⟨rfl,by
   simp only[cB,hX,eO];exact aV9,_,_,_,_,_,_,_,_,_,rfl⟩ (fun _ _ _ _ _=>rfl) ?_ ?_
 ·rintro j d ρ t hj ⟨ht,hn,x1,x2,x3,x4,x5,x6,x7,x8,x9,rfl⟩
  have hd:=(qH hj).2
  subst hd
  have ht0:0<t.length:=(ag.mp ht).1
  obtain⟨N0,hbox⟩:=bA4 (P:=P) (n+5) ns j ht
  have hSr:∃ b,(t++[qC N0])[t.length]?=some (qC b):=⟨N0,by simp⟩
  have hS0:(t++[qC N0]).all O.ncl=true:=ai2 hn rfl
  have hr:t.length<(t++[qC N0]).length:=bg0 hSr
  have hSg:(t++[qC N0])[0]?=some (.ro (ns.map D.int)):=aJ8 ht
  generalize t++[qC N0]=S at hbox hSr hS0 hr hSg
  generalize t.length=r at *
  have hr0:r≠0:=by omega
  obtain⟨c,b1,hc,ed⟩:=aw4 (P:=P) (n+5) hSr 5 (by decide) (by decide)
  have hc1:((1:Int)+(c:Int))=((c+1:Nat):Int):=by omega
  obtain⟨f,b2,hf,ef⟩:=aV6 (P:=P) (n+4) (s:=S.set r (qC b1)) (bq4 hr) (c+1) (by omega) (by omega)
  rw[jn]at ef
  obtain⟨y5,y6,y7,y8,y9,e3⟩:=bF6 (P:=P) n (m:=c+1) (by omega) (by omega) hf (s:=S.set r (qC b2)) (aR0 hS0 rfl) (some (.ref 0)) (some (.int (j:Int))) (some (.ref r)) x5 x6 x7 x8 x9
  refine aX1 (ρ:=[some (.ref 0),some (.int (j:Int)),some (.ref r),some (.int ((c+1:Nat):Int)),some (gd (c+1) f),y5,y6,y7,y8,y9]) (s:=S.set r (qC b2)) ?_ ⟨?_,aR0 hS0 rfl,_,_,_,_,_,_,_,_,_,rfl⟩
  ·unfold turn b23
   simp -implicitDefEqProofs only[zo,qj,zT,a7,zh,qQ,zS,zL,zw,zm,zn,zr,R.bind_ok,hbox,zG,zq,ev_bin,qu,qD,ed,add_int,hc1,ef]
   exact e3
  ·rw[bo hr0]
   exact hSg
 ·rintro ρ t ⟨ht,hn,x1,x2,x3,x4,x5,x6,x7,x8,x9,rfl⟩
  tbr_iter []
  exact aL6 _ _
end
end DV
end
local macro_rules | `(tactic| walk_at "sc") => `(tactic| exact ⟨rfl, rfl, rfl, by decide +kernel, rfl, by decide +kernel, by decide +kernel⟩)
local macro_rules | `(tactic| walk_at "df") => `(tactic| (dsimp only; exact ⟨_, _, _, _, _, _, _, _, _, _, by k_is, by k_is, by k_is, by k_is⟩))
noncomputable section
namespace My
open PySem L2
noncomputable def top (i:Nat):Stmt:=PySem.Challenge.pw_leasttolls_k23_steady_or_not.main.body.getD i (.Pass ⟨0,0,0,0⟩)
theorem bP6:aO2 ["i", "j"]:=fun params h _ _ _ _ _ _ _ _ us hl=>by
 obtain⟨args,rfl,ha⟩:=al0 h
 revert us
 refine bd2 ?_
 intro u0 u1
 rcases args with _|⟨⟨a0,_,_⟩,_|⟨⟨a1,_,_⟩,_|⟨_,_⟩⟩⟩
 all_goals simp only[aJ,c7,List.cons.injEq,and_true,and_false,reduceCtorEq]at ha
 obtain⟨rfl,rfl⟩:=ha
 exact⟨rfl,fun _ _=>rfl⟩
noncomputable def ah2:List Str:=["sign_product", "sharpened"]
noncomputable abbrev bd8:Stmt:=top 12
noncomputable abbrev ad5:Stmt:=top 17
noncomputable abbrev ak3:Stmt:=top 19
noncomputable abbrev am5:Stmt:=top 20
noncomputable abbrev ac1:Stmt:=top 21
noncomputable abbrev ad7:Stmt:=top 22
noncomputable abbrev an4:Stmt:=top 24
noncomputable abbrev aj1:Stmt:=top 25
noncomputable abbrev ag4:Stmt:=top 26
noncomputable abbrev ak0:Stmt:=top 27
noncomputable abbrev ad4:Stmt:=top 28
noncomputable abbrev ae3:Stmt:=top 29
noncomputable abbrev ac4:Stmt:=top 30
noncomputable abbrev at7:Stmt:=top 31
noncomputable def tb:List (String×ku×Stmt):=[("grid",DV.ab9,bd8),("sign_product",DV.aa3,ad5),("is_steady",DV.aa8,ak3),("round_of",DV.ab0,am5),("sharpened",DV.ab1,ac1),("steady_power",DV.aa7,ad7),("_law_box",DV.ap7,an4),("_law_draw",DV.ad6,aj1),("_law_signs",DV.ac9,ag4),("_law_form",DV.ag5,ak0),("_law_product",DV.ab5,ad4),("_law_steady",DV.ac3,ae3),("law",DV.ab7,at7)]
noncomputable def bP9:List (String×jy):=[("FREE",.int (0)),("UNBOUND",.int (2)),("NONE",.int (3))]
noncomputable def bT9:List (String×kt):=[("sign_product.0",DV.aa2),("sharpened.0",DV.aa4)]
noncomputable def tbl:List (String×ku):=tb.map fun p=>(p.1,p.2.1)
noncomputable def xtb:List (String×DV.Xf):=[("sharpened",DV.ab2)]
noncomputable def ttb:List (String×DV.Tf):=[("_law_refused",DV.aa5)]
noncomputable def dl:List (String×Stmt):=[("sharpened",ac1),("_law_refused",ac4)]
noncomputable def xcs:List String:=["NotSteady"]
noncomputable def xts:List String:=["NoMaking", "NoName", "NoPair", "NoPaper", "NoRow", "NoText", "TollError", "TooLong", "TooMuch"]
noncomputable def P:jJ:=⟨fun f=>tbl.lookup f,fun f=>bT9.lookup f,fun x=>bP9.lookup x,fun f=>xtb.lookup f,fun f=>ttb.lookup f,fun c=>xcs.contains c,fun c=>xts.contains c⟩
instance:DV.HasX P "sharpened" DV.ab2:=⟨rfl⟩
instance:DV.HasT P "_law_refused" DV.aa5:=⟨rfl,rfl⟩
instance:DV.HasE P "NotSteady" ["NoMaking", "NoName", "NoPair", "NoPaper", "NoRow", "NoText", "TollError", "TooLong", "TooMuch"]:=⟨rfl,by decide⟩
instance:DV.HasL P DV.aa2:=⟨rfl⟩
instance:DV.HasL P DV.aa4:=⟨rfl⟩
instance:DV.HasC P "FREE" (.int (0)):=⟨rfl⟩
instance:DV.HasC P "UNBOUND" (.int (2)):=⟨rfl⟩
instance:DV.HasC P "NONE" (.int (3)):=⟨rfl⟩
instance:DV.Has P DV.ab9:=⟨rfl⟩
instance:DV.Has P DV.aa3:=⟨rfl⟩
instance:DV.Has P DV.aa8:=⟨rfl⟩
instance:DV.Has P DV.ab0:=⟨rfl⟩
instance:DV.Has P DV.ab1:=⟨rfl⟩
instance:DV.Has P DV.aa7:=⟨rfl⟩
instance:DV.Has P DV.ap7:=⟨rfl⟩
instance:DV.Has P DV.ad6:=⟨rfl⟩
instance:DV.Has P DV.ac9:=⟨rfl⟩
instance:DV.Has P DV.ag5:=⟨rfl⟩
instance:DV.Has P DV.ab5:=⟨rfl⟩
instance:DV.Has P DV.ac3:=⟨rfl⟩
instance:DV.Has P DV.ab7:=⟨rfl⟩
theorem bD5:DT ah2 P "grid" DV.ab9 bd8:=⟨["size", "entry", "rows", "i"],["size", "entry"],by walk_at "sc",rfl,rfl,fun _ _ _ _ _ _=>bd2 (fun _ _=>rfl),.inl (by decide +kernel)⟩
theorem al5:DT ah2 P "sign_product" DV.aa3 ad5:=⟨["one", "other", "size"],["one", "other"],by walk_at "sc",rfl,rfl,fun _ _ _ _ _ _=>bd2 (fun _ _=>rfl),.inr ⟨by decide,[("sign_product.0",DV.aa2,["i", "j"],["size", "one", "other"])],by decide +kernel,by decide +kernel,fun p hp=>by
 simp only[au,bq,or_false]at hp
 rcases hp with rfl
 ·exact⟨rfl,bP6⟩⟩⟩
theorem ax4:DT ah2 P "is_steady" DV.aa8 ak3:=⟨["signs"],["signs"],by walk_at "sc",rfl,rfl,fun _ _ _ _ _ _=>bd1 (fun _=>rfl),.inl (by decide +kernel)⟩
theorem aG4:DT ah2 P "round_of" DV.ab0 am5:=⟨["sign"],["sign"],by walk_at "sc",rfl,rfl,fun _ _ _ _ _ _=>bd1 (fun _=>rfl),.inl (by decide +kernel)⟩
theorem ax3:DT ah2 P "sharpened" DV.ab1 ac1:=⟨["signs", "size", "rounds"],["signs"],by walk_at "sc",rfl,rfl,fun _ _ _ _ _ _=>bd1 (fun _=>rfl),.inr ⟨by decide,[("sharpened.0",DV.aa4,["i", "j"],["size", "signs", "rounds"])],by decide +kernel,by decide +kernel,fun p hp=>by
 simp only[au,bq,or_false]at hp
 rcases hp with rfl
 ·exact⟨rfl,bP6⟩⟩⟩
theorem al8:DT ah2 P "steady_power" DV.aa7 ad7:=⟨["signs", "many", "power"],["signs"],by walk_at "sc",rfl,rfl,fun _ _ _ _ _ _=>bd1 (fun _=>rfl),.inl (by decide +kernel)⟩
theorem aH1:DT ah2 P "_law_box" DV.ap7 an4:=⟨["_law_script", "_law_at", "_law_cell", "_law_number", "_law_j", "_law_part"],["_law_script", "_law_at"],by walk_at "sc",rfl,rfl,fun _ _ _ _ _ _=>bd2 (fun _ _=>rfl),.inl (by decide +kernel)⟩
theorem aw6:DT ah2 P "_law_draw" DV.ad6 aj1:=⟨["_law_box_here", "_law_many", "_law_found"],["_law_box_here", "_law_many"],by walk_at "sc",rfl,rfl,fun _ _ _ _ _ _=>bd2 (fun _ _=>rfl),.inl (by decide +kernel)⟩
theorem as5:DT ah2 P "_law_signs" DV.ac9 ag4:=⟨["_law_box_here", "_law_size", "_law_way", "_law_found", "_law_i", "_law_line", "_law_j", "_law_sign"],["_law_box_here", "_law_size"],by walk_at "sc",rfl,rfl,fun _ _ _ _ _ _=>bd2 (fun _ _=>rfl),.inl (by decide +kernel)⟩
theorem ay9:DT ah2 P "_law_form" DV.ag5 ak0:=⟨["_law_found", "_law_size", "_law_line", "_law_sign"],["_law_found", "_law_size"],by walk_at "sc",rfl,rfl,fun _ _ _ _ _ _=>bd2 (fun _ _=>rfl),.inl (by decide +kernel)⟩
theorem al6:DT ah2 P "_law_product" DV.ab5 ad4:=⟨["_law_one", "_law_other", "_law_found", "_law_line", "_law_new", "_law_k"],["_law_one", "_law_other"],by walk_at "sc",rfl,rfl,fun _ _ _ _ _ _=>bd2 (fun _ _=>rfl),.inl (by decide +kernel)⟩
theorem ao5:DT ah2 P "_law_steady" DV.ac3 ae3:=⟨["_law_signs_here", "_law_many", "_law_found"],["_law_signs_here"],by walk_at "sc",rfl,rfl,fun _ _ _ _ _ _=>bd1 (fun _=>rfl),.inl (by decide +kernel)⟩
theorem bc9:FnScope ["_law_script", "_law_k", "_law_box_here", "_law_size", "_law_signs_here", "_law_many", "_law_last", "_law_due", "_law_told", "_law_found"] ["_law_script"] (defScope at7):=by walk_at "sc"
theorem bA3:mSs ⟨["_law_script", "_law_k", "_law_box_here", "_law_size", "_law_signs_here", "_law_many", "_law_last", "_law_due", "_law_told", "_law_found"],defScope at7,fun _ _ _=>false⟩ DV.ab7.body (zA at7)=true:=by decide +kernel
theorem by2:bQ5 "law" at7 ["_law_script"]:=fun _ _ _ _ _ _=>bd1 fun _=>rfl
theorem bJ2:DT ah2 P "law" DV.ab7 at7:=⟨_,_,bc9,rfl,rfl,by2,.inl bA3⟩
theorem aw3:DTB ah2 P "sharpened" DV.ab2.ps DV.ab2.vs (fun ck S=>mX ck DV.ab2.body S) ac1:=⟨["signs", "size", "rounds"],["signs"],by walk_at "sc",rfl,rfl,fun _ _ _ _ _ _=>bd1 (fun _=>rfl),.inr ⟨by decide,[("sharpened.0",DV.aa4,["i", "j"],["size", "signs", "rounds"])],by decide +kernel,by decide +kernel,fun p hp=>by
 simp only[au,bq,or_false]at hp
 rcases hp with rfl
 ·exact⟨rfl,bP6⟩⟩⟩
theorem al4:DTB ah2 P "_law_refused" DV.aa5.ps DV.aa5.vs (fun ck S=>mT ck DV.aa5 S) ac4:=⟨["_law_signs_here", "e"],["_law_signs_here"],by walk_at "sc",rfl,rfl,fun _ _ _ _ _ _=>bd1 (fun _=>rfl),.inl (by decide +kernel)⟩
theorem bJ9:∀ p∈tb,DT ah2 P p.1 p.2.1 p.2.2:=by
 intro p hp
 unfold tb at hp
 simp only[au,bq,or_false]at hp
 rcases hp with rfl|rfl|rfl|rfl|rfl|rfl|rfl|rfl|rfl|rfl|rfl|rfl|rfl
 ·exact bD5
 ·exact al5
 ·exact ax4
 ·exact aG4
 ·exact ax3
 ·exact al8
 ·exact aH1
 ·exact aw6
 ·exact as5
 ·exact ay9
 ·exact al6
 ·exact ao5
 ·exact bJ2
theorem bu5 {l:cr}{w:World}{K:ac}{h:Heap}{mg:Str->Option Value}{fa:Addr}(X:K.In h)(G:h.Ns aU mg)(hfa:mg "law"=some (.ref fa))(hD:∀ p∈tb,bI2 K p.1 p.2.2)(hz:∀ x∈bNames,bP K aU x=some none)
  {tk_FREE:Tok} (gc_FREE:bP K aU "FREE"=some (some (.int (0) tk_FREE)))
  {tk_UNBOUND:Tok} (gc_UNBOUND:bP K aU "UNBOUND"=some (some (.int (2) tk_UNBOUND)))
  {tk_NONE:Tok} (gc_NONE:bP K aU "NONE"=some (some (.int (3) tk_NONE)))
  (hT:∀ x∈ah2,(a8 K x).isSome=true) (tnd:decide (((bl9 ah2 K).map (·.1)).Nodup)=true) (hDx:∀ p∈dl,bI2 K p.1 p.2) (hcl:bj3 K xcs xts=true)
  : ∃ fd:bw,(∀(s:ae) (v:Value),iK s fd ⟨[v],[]⟩ [("_law_script",v)])/\∀ base:Heap,K.In base->base.Ns aU mg->BM mg base->bo4 K ah2 base->FnOk l.prog w K mg base CX0 45 fa fd ["_law_script"] (spB ah2 K):=by
 have hP:PrOk (aS7 ah2 P K) (bi3 ah2 K) P mg:=by
  refine⟨fun f d h=>aB7 (tbl:=tbl) (fun p hp=>?_) f d h,fun x d h=>aH5 (tbl:=bP9) ?_ x d h,fun x hx=>PySem.W.mg_none_of X G (hz x hx),bK5 X G,bJ0,of_decide_eq_true tnd,aw2 (tbl:=xtb) (fun p hp=>?_),aw2 (tbl:=ttb) (fun p hp=>?_),(aJ1 X G hcl).1,(aJ1 X G hcl).2.1,(aJ1 X G hcl).2.2⟩
  ·obtain⟨r,hr,rfl⟩:=aG.mp hp
   exact good_of X G hT (hD r hr) (bJ9 r hr)
  ·intro p hp
   unfold bP9 at hp
   simp only[au,bq,or_false]at hp
   rcases hp with rfl|rfl|rfl
   ·exact av9 (bJ X G gc_FREE)
   ·exact av9 (bJ X G gc_UNBOUND)
   ·exact av9 (bJ X G gc_NONE)
  ·unfold xtb at hp
   simp only[au,bq,or_false]at hp
   subst hp
   ·exact aq1 X G hT (hDx ("sharpened",ac1) (by unfold dl;simp)) aw3
  ·unfold ttb at hp
   simp only[au,bq,or_false]at hp
   subst hp
   ·exact aq1 X G hT (hDx ("_law_refused",ac4) (by unfold dl;simp)) al4
 obtain⟨f,od,an,sl,oc,kV,dc,pm,cd,ct,a,l0,c,k⟩:=hD ("law",DV.ab7,at7) (by unfold tb;simp)
 have e:=hfa.symm.trans (bJ X G a)
 cases e
 have F:=be3 (st:=at7) l0 c k
 refine⟨_,fun s v=>.of_eq rfl,fun base _ _ bm hk=>(bv7 hP (bf4 hT bm hk) 13 (bk8 hP (bf4 hT bm hk) 13) (d:=DV.ab7) (f := "law") rfl ⟨F,bJ X G a,F.binds by2⟩ bc9 rfl rfl bA3 aJ2).imp (fun vs H Q E q=>bv8 (fun ns h=>DV.bN5 (P:=P) 7 ns h) vs H Q E (aY3 hT q))⟩
end My
end
open PySem PySem.W PyProof.Rows
set_option maxRecDepth 100000 in
set_option maxHeartbeats 0 in
theorem PySem.Challenge.cw_leasttolls_k23_steady_or_not_holds : PySem.Challenge.rw_leasttolls_k23_steady_or_not.Holds := by
 refine My.GT.2 ?_
 delta My.GT
 dsimp only
 k_fill
 refine L2.aM1 (l:=PySem.Challenge.rw_leasttolls_k23_steady_or_not) (n:=63) (k:=45) (x := "_law_script") (sp:=L2.spB My.ah2) My.ah2 rfl (by decide) rfl ⟨rfl,by decide,by decide⟩ (fun w h Y=>⟨PySem.W.km_in_of Y,PySem.W.km_tabs_of Y⟩) (fun w=>?R) (fun w=>?NT) ?F (fun K H a ns hl hB hS hF=>L2.bD7 hl hB hS hF)
 case R=>kernel_rfl
 case NT=>kernel_rfl
 case F =>
  intro w mg fa h KX G hmg
  refine' My.bu5 KX G hmg ?hD ?hz ?gc_FREE ?gc_UNBOUND ?gc_NONE ?hT ?tnd ?hDx ?hcl
  case hD =>
   intro p hp
   unfold My.tb at hp
   simp only[au,bq,or_false]at hp
   rcases hp with rfl|rfl|rfl|rfl|rfl|rfl|rfl|rfl|rfl|rfl|rfl|rfl|rfl
   all_goals walk_at "df"
  case hz =>
   intro x hx
   unfold L2.bNames at hx
   simp only[au,bq,or_false]at hx
   rcases hx with rfl|rfl|rfl|rfl|rfl|rfl|rfl|rfl|rfl|rfl|rfl|rfl|rfl|rfl|rfl|rfl|rfl|rfl<;>k_is
  (case gc_FREE=>k_is)
  (case gc_UNBOUND=>k_is)
  (case gc_NONE=>k_is)
  case hT =>
   intro x hx
   simp only[My.ah2,au,bq,or_false]at hx
   rcases hx with rfl|rfl<;>kernel_rfl
  (case tnd=>kernel_rfl)
  case hDx =>
   intro p hp
   unfold My.dl at hp
   simp only[au,bq,or_false]at hp
   rcases hp with rfl|rfl
   all_goals walk_at "df"
  (case hcl=>kernel_rfl)
