import PyProof.Rows.All
import Wide.All
import OpenK.AllK
import Wide.FinOn
import PyProof.EqAt
import PyProof.EqKinds
import PyProof.TupleCall
import PyProof.MinMaxWalk
import PyProof.WalkInts
import PyProof.NeKinds
import PyProof.SliceStr2
import PyProof.StrBlockI
import PyProof.MaxThree
import PyProof.ZipIter
import PyProof.Draws
import PyProof.EnumMake
import PyProof.ListMulRoad
import PyProof.Rows.StrRev
import PyProof.DictItems
import PyProof.ListRange
import PyProof.AutoIntG2
import PyProof.FactsAll.int_6
import KE.IntBitsLaws
import PySem.Challenge.RW_leasttolls_k08_powers_of_tables
set_option Elab.async false
set_option linter.all false
set_option maxRecDepth 100000
set_option maxHeartbeats 4000000
open PySem.W renaming Frag->ab,tabIn->aZ,kia_one->bq,kla_fn->bC,CodeHd->bD,keepIn->bN,fnX->bT,kitOne->bW,fnOf->cf,envX->ci,OpenLaw->cn,mg_of->cT,tabObj->dg,nsIn->dm,codeIn->dX,methodObj->d8,cellsFrom_some->fg,instObj->fw,lookIn->fR,findIn->fS,kitx_tuple->gA,callWith_K->gC,kitx_list->gP,kitx_dict->gQ,plainGet->g7,codeHdIn->hG,TabsAt->iM,noTabs->iO,WalkO->iQ
open PySem renaming Shared->ac,wpAny_bind->ak,mem_of_lookup->au,sizeLine->aA,Program->aD,cellsFrom->aE,wpAny_pure->aJ,Around->aP,Arguments->aV,starEach->aW,bootBuiltins->aY,mainGlobals->a8,FuncData->bp,NameKind->bw,wpAny_Call_Name_kw->bG,wpAny_truthy_bool->bH,binaryOp->bI,wpAny_newObj_type->bO,wpAny_mono->bP,assignEach->bV,wpAny_passesOwn->bZ,rawInt->b9,codeAmong->cb,pushCells_keeps->cw,behindInMarks->cz,wpAny_pyIter_list->cC,foldedSetIterable->cD,sysModules->cF,argBest->cL,isTrue->cV,backTo->cW,sizeLine_eq->cY,wpAny_seqItems->c9,wpAny_tryCatch->da,compareOp->dq,pushCells->du,wpAny_holding->dw,relabel->dz,bindArgs->dB,letOwnedTupleGo->dH,codeAny_mono->dN,swapsWith->dS,typeIs_int->dY,newFunctionEnv->dZ,wpAny_binaryOp_repeat_ref->d4,codeAny->ed,InCallC->ee,Paired->eD,attributeBase->eI,wpAny_comprehension_free->eJ,plainId_quiet->eK,storeName->eP,noFill_tuple_add->eT,wpAny_callSpecial?_slot->eW,wpAny_call_entry->eX,builtinsNs->fc,assign->fe,name_of_addr->fh,codeAny_compStart_list->fu,wpAny_execs_nil->fx,codeAny_builtin->fA,wpAny_updateSeq->fB,wpAny_storeName_local->fG,wpAny_isTrue_Compare1->fH,codeAny_call_function->fI,wpAny_storeName_cell->fQ,wpAny_letGo->fW,wpAny_field->fX,strIterType->fY,tupleKind->f6,callerA->f7,seqItems?->f8,TriplesOk->f9,valueAt->ga,wpAny_standAt->gk,swappedStores->gm,seq_tuple_add->gq,annotationsOf->gr,wpAny_pyIter_tuple->gz,call_meets->gD,tupleKind_room_in1->gH,holding->gM,wpAny_assign_Name->gO,concat_meets->gR,seqIndex_neg->gS,getItem->gT,slot_list_getitem->gU,notedBy->gX,pyNext->g6,seqSlot_of->hJ,seqIndex_of->hZ,slicePicked->ic,BindsTo->ip,Keyword->iq,call->iu,wpAny_Name->iw,wpAny_call->iy,typeIs_str->iA,PlainAttrs->iB,wpAny_rule->iD,defaultsOf->iG,qualnameIn->iH,Within->iX,pyIter->iY,Result->iZ
open List renaming getElem?_eq_some_iff->ae,getElem?_eq_getElem->aj,mem_cons_of_mem->ao,size_toArray->ar,range->av,replicate->ax,mem_cons_self->az,getElem?_append_right->aB,mem_cons->aC,getElem?_map->aG,getElem?_append_left->aH,length_map->aI,getD_eq_getElem?_getD->aK,map_cons->aL,all_eq_true->aM,mem_map->aO,length_cons->aQ,length_append->aR,lookup_cons->aS,getElem?_set_self->aU,mem_of_getElem?->aX,mem_map_of_mem->a7,mem_append_right->a9,append_nil->bh,getElem?_set_ne->bj,filterMap_cons->bn,length_set->br,replicate_succ->bu,mem_range->bv,getElem?_toArray->bK,getElem?_eq_none->bL,not_mem_nil->bM,getElem?_range->bR,length_reverse->b7,mem_filterMap->cc,mem_singleton->cj,mem_append->cq,nodup_cons->cr,foldl_cons->cu,find?_cons->cx,map_append->cy,length_singleton->cB,flatten_cons->cE,map->cH,map_nil->cK,map_congr_left->cO,of_mem_zip->cU,length_eq_zero_iff->c4,reverse_cons->c7,length_range->dk,length_take->dt,all_cons->dA,mem_iff_getElem->dE,length_nil->dJ,drop_eq_getElem_cons->d6,mem_or_eq_of_mem_set->d7,append_assoc->ef,any_cons->eM,getElem?_replicate->eR,ext_getElem->eZ,drop_eq_nil_of_le->fv,nil_append->fy,range_succ->fF,getElem?_reverse->fK,set_getElem_self->fM,mem_append_left->fO,forIn_nil->fV,getElem?_take->gI,map_map->gZ,cons_append->g9,getElem_mem->hV,getElem_map->hX,mem_filter->ie,forIn_cons->ig,set_append->io,foldl->iC,drop_zero->iL,all_nil->i5,length->jf,lookup->jg
open PySem.Heap renaming get?_push_of_some->af,lt_size->aw,get?_push_size->aF,get?_update_other->bA,size_push->bJ,get?_update_self->cA,SameBut->c5,ExtBut->ib
open Bool renaming and_eq_true->ag,false_ne_true->aN,false_eq_true->bz,or_eq_true->bF,or_eq_false_iff->dF,not_eq_true'->eB,and_true->eN,true_and->eO,eq_iff_iff->fD,and_eq_true_iff->fN,false_or->iT
open Nat renaming lt_of_lt_of_le->ah,le_refl->ai,le_trans->am,ne_of_lt->aq,zero_add->be,lt_irrefl->bf,le_succ->cG,le_of_lt->cI,ne_of_gt->cJ,lt_trans->db,lt_succ_self->dv,zero_le->dC,le_of_succ_le->eh,lt_succ_of_lt->em,lt_trichotomy->eA,add_comm->fq,mul_add->fZ,mul_assoc->gu,mul_comm->gW,le_of_not_lt->g8,lt_or_ge->i6,add_zero->i9,sub_self->ja,pow_succ->jb
open Option.some renaming inj->ay
open False renaming elim->bo
open PySem.Builtin.SmallTypes renaming nextOf->bB
open Ne renaming symm->bE
open Option renaming map_some->bQ,map_eq_some_iff->dh,isSome_iff_exists->eG,isSome_some->gF
open PyProof.Rows renaming callWith_type1->bS,kindOf->dr,AllBare->d9,envOfC->eF,subscriptTail_builtinR->fi,Constant_none->gj,IntsAre->ir,tail_any->iz
open PySem.F renaming plain_min_loop->bU,slot_tuple_iterator_next->bX,args_tuple_add_2->cR,slot_int_rmul->cX,entry_tuple_add->cZ,slot_tuple_add->c6,slot_tuple_mul->dj,args_tuple_iterator_next_1->dI,entry_tuple_iterator_next->dQ,slot_int_bit_length->dR,slot_dict_getitem->d5,entry_min_loop->eV,slot_tuple_rmul->eY,plainAttrs_list->e9,slot_list_append->fJ,args_int_rmul_2->fU,slot_int_index->gb,entry_int_rmul->gd,fills_int_mul->gE
open PySem.Str renaming ofString->cM
open Array renaming length_toList->cN,toList_append->cQ,getElem?_toList->fL,append_assoc->gy,toList->gN
open PySem.Builtin.List renaming listTooLong->cS
open Int renaming toNat_natCast->di,mul_le_mul_of_nonneg_left->dG,toNat_of_nonneg->dL,fdiv_eq_ediv_of_nonneg->dW,le_refl->et,natAbs_natCast->gL,ofNat_lt->gY,natCast_mul->ii,le_antisymm->ik,le_total->i7,zero_add->jc
open PySem.Around renaming under_plainId->dD,frames_deeper->fT
open PySem.Builtin.Int renaming intBits->dM
open PySem.Builtin.Builtins renaming bindParams->dP
open PySem.Calls renaming Name_function_global->dU,callWith_builtin->fm,spliced_cons->gB
open PySem.Builtin.Tuple renaming tupleTooMany->d3,tupleItemsOf->iI,tupleIsExact->iJ
open PySem.W.OpenLaw renaming wellSaid->eC
open PySem.Builtin.Range renaming rangeSize->eQ
open Classical renaming propDecidable->e8
open PySem.Obj renaming mapSeq->fj,data_mapFields->gG
open PySem.SeqAt.EqAt renaming same->fC,int_str->gv,str_int->gx,of_refs->gK
open PySem.Heap.SameBut renaming update->gf
open PySem.AutoIntG2 renaming int_bit_length_int_0->gh
open PySem.Paired renaming length->gi,snoc->ji
open PySem.SeqAt renaming EqAt->gJ,RcNeAt->i4,RcAt->jj
open PySem.PassesOwn renaming never->il
open PySem.Walks renaming list->iE
open PySem.Builtin renaming bitAnd->iK
open PySem.Builtin.Str renaming tooLong->iP
open PySem.Value renaming isStrOf->iR,isInt->jd
open PySem.CmpOf renaming ints_lt->iU
open PyProof.Rows.IsTup renaming new->iV
open PySem.W.OpenRow renaming toRowW->iW
open Nat.succ renaming inj->i3
open PySem.IsRange renaming new->je
open PySem.Heap.Ns renaming new->jh
noncomputable section
namespace L2
open PySem PySem.Spec PyProof.Rows
theorem head_of {l:cn}{q:aD}{loose:List Str}{H:PySem.W.Hook}{N:Nat}{d:DefRec}{h:List (Str×Expr)}
  (left:PySem.W.LeftO l.row.prog q loose (fun s=>PySem.W.xlAt q [] s&&PySem.W.recOk (PySem.W.RowW.records (iW l.row)) s) H.obs H.val N)
  (y:PySem.W.defOf q l.row.name=some (d,h)) (C:l.row.prog.theDef l.row.name=some (d.params,d.body,d.scope)) (hk:PySem.W.kwWritten? d.params.kwonlyargs d.params.kw_defaults=some h) (z:(!l.row.writes||l.row.records.isEmpty)=true)
  (k1:l.row.wellSaid=true) (ok:(PySem.W.chainsOk q&&PySem.W.opensWell l.row.prog&&(PySem.W.frees l.row.toRowW&&l.row.within.isEmpty))=true) (hb:l.row.prog.bare) (hw:l.row.toRowW.promised)
  (call:iQ q loose (PySem.W.XL q []) H.says l.row.toRowW d h fun f vs=>iu f vs):l.row.Holds :=
 PySem.W.holds_open left H.of H.keeps (fun s e=>PySem.W.xl_of s (fN.mp e).1) PySem.W.XL.keeps y C hk (fun s e=>PySem.W.recFacts_of (fN.mp e).2) z k1 ok hb hw call
end L2
end
noncomputable section
namespace My
open PySem L2
noncomputable def nmS:Stmt->Bool
 | .Assign [.Name x _] _ _=>decide (x=("__name__":Str))
 | _=>false
noncomputable def vq:aD:={ PySem.Challenge.pw_leasttolls_k08_powers_of_tables with main:={ (PySem.Challenge.pw_leasttolls_k08_powers_of_tables).main with body:=(PySem.Challenge.pw_leasttolls_k08_powers_of_tables).main.body.filter fun s=>!nmS s } }
inductive IsL:cn->Prop|mk:IsL PySem.Challenge.rw_leasttolls_k08_powers_of_tables
theorem bw7 {l:cn}(h:IsL l):PySem.Challenge.rw_leasttolls_k08_powers_of_tables=l:=by cases h;rfl
noncomputable def lwp:{ l:cn // IsL l }:=by
 refine⟨?p,?h⟩
 case h =>
  have e:PySem.Challenge.rw_leasttolls_k08_powers_of_tables=?p:=by
   conv=>lhs;reduce
  exact e▸IsL.mk
theorem ws1:eC lwp.1=true:=by k_qdec
theorem ws:eC PySem.Challenge.rw_leasttolls_k08_powers_of_tables=true:=by
 rw[bw7 lwp.2];exact ws1
end My
end
section
open PySem PySem.W PyProof.Rows
local macro_rules | `(tactic| o_head $H) => `(tactic| refine L2.head_of (q := My.vq) (loose := []) (H := $H) (N := 4000) (fun w => by kernel_rfl) (by rfl) (by rfl) (by rfl) rfl (by assumption) (by decide +kernel) ⟨rfl, rfl, rfl, rfl, rfl, by decide +kernel⟩ ?_ ?_)
set_option maxRecDepth 100000 in
set_option maxHeartbeats 0 in
noncomputable def My.GT:{ G:Prop // G->PySem.Challenge.rw_leasttolls_k08_powers_of_tables.Holds }:=by
 refine⟨?G,?h⟩
 case h =>
  intro g
  w_on;refine holds_law My.ws fun said=>?_;k_head;(focus w_witness2)
  exact g
end
noncomputable section
namespace L2
open PySem PySem.Spec PyProof.Rows
noncomputable abbrev Key:=Sum Int Str
noncomputable def aE4:Key->Value->Bool
 | .inl k,v=>jd k v
 | .inr x,v=>iR x v
noncomputable def bS2 (w:World):Key->Int
 | .inl k=>hashInt k
 | .inr x=>hashStr w x
theorem zr:∀ {k:Key} {v:Value},aE4 k v=true->(∃ i t,k=Sum.inl i/\v=Value.int i t)\/(∃ x t,k=Sum.inr x/\v=Value.str x t)
 | .inl i,v,h=>by
  obtain⟨t,e⟩:=Value.isInt_shape (k:=i) (v:=v) h
  exact .inl ⟨i,t,rfl,e⟩
 | .inr x,v,h=>by
  obtain⟨t,e⟩:=Value.isStrOf_shape (x:=x) (v:=v) h
  exact .inr ⟨x,t,rfl,e⟩
theorem aO4 (i:Int)(t:Tok):aE4 (.inl i) (.int i t)=true:=by simp[aE4,jd]
theorem aK7 (x:Str)(t:Tok):aE4 (.inr x) (.str x t)=true:=by simp[aE4,iR]
theorem bE0 (a b:Int):decide ((Sum.inl a:Key)=Sum.inl b)=(a==b):=by
 by_cases e:a=b
 ·subst e;simp
 ·have h:¬(Sum.inl a:Key)=Sum.inl b:=fun q=>e (Sum.inl.inj q)
  rw[decide_eq_false h]
  exact(beq_eq_false_iff_ne.mpr e).symm
theorem bA5 (a b:Str):decide ((Sum.inr a:Key)=Sum.inr b)=decide (a=b):=by
 by_cases e:a=b
 ·subst e;simp
 ·have h:¬(Sum.inr a:Key)=Sum.inr b:=fun q=>e (Sum.inr.inj q)
  rw[decide_eq_false h,decide_eq_false e]
theorem bD9 (a:Int)(b:Str):decide ((Sum.inl a:Key)=Sum.inr b)=false:=decide_eq_false (fun q=>nomatch q)
theorem bv0 (a:Str)(b:Int):decide ((Sum.inr a:Key)=Sum.inl b)=false:=decide_eq_false (fun q=>nomatch q)
noncomputable def zE (prog:aD)(w:World):PySem.KeyKind prog w Key where
 is:=aE4
 hash:=bS2 w
 inj:=fun v a b ha hb=>by
  rcases zr ha with⟨i,t,rfl,rfl⟩|⟨x,t,rfl,rfl⟩
  ·rcases zr hb with⟨j,u,rfl,e⟩|⟨y,u,rfl,e⟩
   ·injection e with e1 _;rw[e1]
   ·exact nomatch e
  ·rcases zr hb with⟨j,u,rfl,e⟩|⟨y,u,rfl,e⟩
   ·exact nomatch e
   ·injection e with e1 _;rw[e1]
 byValue:=fun k v h=>by
  rcases zr h with⟨i,t,rfl,rfl⟩|⟨x,t,rfl,rfl⟩<;>rfl
 pyHash:=fun hv h=>by
  rcases zr hv with⟨i,t,rfl,rfl⟩|⟨x,t,rfl,rfl⟩
  ·exact wpAny_pyHash_int h
  ·exact wpAny_pyHash_str h
 eqBool:=fun hu hv h=>by
  rcases zr hu with⟨i,t,rfl,rfl⟩|⟨x,t,rfl,rfl⟩
  ·rcases zr hv with⟨j,u,rfl,rfl⟩|⟨y,u,rfl,rfl⟩
   ·rw[bE0]at h;exact wpAny_eqBool_int h
   ·rw[bD9]at h;exact gv i t y u _ _ _ _ h
  ·rcases zr hv with⟨j,u,rfl,rfl⟩|⟨y,u,rfl,rfl⟩
   ·rw[bv0]at h;exact gx x t j u _ _ _ _ h
   ·rw[bA5]at h;exact wpAny_eqBool_str h
 «strs»:=fun k x t v h=>by
  rcases zr h with⟨i,u,rfl,e⟩|⟨y,u,rfl,e⟩
  ·exact nomatch e
  ·injection e with e1 _
   subst e1
   cases v<;>rfl
theorem au8 (prog:aD)(w:World)(i:Int)(t:Tok):(zE prog w).is (.inl i) (.int i t)=true:=aO4 i t
theorem av7 (prog:aD)(w:World)(x:Str)(t:Tok):(zE prog w).is (.inr x) (.str x t)=true:=aK7 x t
inductive V where
 | non|bl (b:Bool)|int (i:Int)|str (x:Str)|byt (b:Array UInt8)|flt (b:UInt64)|ref (a:Addr)|ty (n:String)
 deriving DecidableEq
noncomputable def RelV:V->Value->Prop
 | .non,u=>u=Value.none
 | .bl b,u=>u=Value.bool b
 | .int i,u=>∃ t,u=Value.int i t
 | .str x,u=>∃ t,u=Value.str x t
 | .byt b,u=>∃ t,u=Value.bytes b t
 | .flt b,u=>∃ t,u=Value.float b t
 | .ref a,u=>u=Value.ref a
 | .ty n,u=>u=Value.type n
abbrev Vals:List V->List Value->Prop:=eD RelV
theorem Vals.length {h:List V}{us:List Value}(r:Vals h us):h.length=us.length:=gi r
theorem Vals.get:∀ {h:List V} {us:List Value} {i:Nat} {x:V},Vals h us->h[i]?=some x->∃ u,us[i]?=some u/\RelV x u
 | _,_,_,_,.nil,e=>by simp at e
 | _,_,0,_,.cons r _,e=>by simp at e;subst e;exact⟨_,rfl,r⟩
 | _,_,i+1,x,.cons _ t,e=>by
  obtain⟨u,z,y⟩:=Vals.get (i:=i) (x:=x) t (by simpa using e)
  exact⟨u,by simpa using z,y⟩
theorem Vals.set {x:V}{u:Value}(r:RelV x u):∀ {h:List V} {us:List Value} (i:Nat),Vals h us->Vals (h.set i x) (us.set i u)
 | _,_,_,.nil=>.nil
 | _,_,0,.cons _ t=>.cons r t
 | _,_,i+1,.cons q t=>.cons q (Vals.set r i t)
theorem Vals.append:∀ {h ys:List V} {us ws:List Value},Vals h us->Vals ys ws->Vals (h++ys) (us++ws)
 | _,_,_,_,.nil,s=>s
 | _,_,_,_,.cons r t,s=>.cons r (Vals.append t s)
theorem Vals.take:∀ {h:List V} {us:List Value} (n:Nat),Vals h us->Vals (h.take n) (us.take n)
 | _,_,0,_=>.nil
 | _,_,_+1,.nil=>.nil
 | _,_,n+1,.cons r t=>.cons r (Vals.take n t)
theorem Vals.drop:∀ {h:List V} {us:List Value} (n:Nat),Vals h us->Vals (h.drop n) (us.drop n)
 | _,_,0,r=>r
 | _,_,_+1,.nil=>.nil
 | _,_,n+1,.cons _ t=>Vals.drop n t
noncomputable def aE9:Option V->Option Value->Prop
 | some v,some u=>RelV v u
 | none,none=>True
 | _,_=>False
def KV {κ:Type}:List (κ×V)->List (κ×Value)->Prop:=eD fun(p:κ×V) (q:κ×Value)=>p.1=q.1/\RelV p.2 q.2
noncomputable def kV:Key->V
 | .inl i=>.int i
 | .inr x=>.str x
inductive HO where
 | lst (xs:List V)
 | tup (xs:List V)
 | dK (kvs:List (Key×V))|dT (kvs:List (List Key×V))
 | set (S:Int->Bool) (n:Nat)
 | ins (C dx:Addr) (fs:List (Str×V))
 | own (x:Addr)
 | xd (fs:List (Str×V))
 | met (f x:Addr)
 | rng (lo hi:Int)
 | frz (o:Obj) (u:HO)
 | tbl (ps:Array Value)
 | ext (φ:Heap->Prop)
noncomputable abbrev Hp:=Addr->Option HO
noncomputable def upd (H:Hp)(a:Addr)(o:HO):Hp:=fun b=>if b=a then some o else H b
theorem zb {H:Hp}{a:Addr}{o:HO}:upd H a o a=some o:=by unfold upd;rw[if_pos rfl]
theorem za {H:Hp}{a b:Addr}{o:HO}(h:b≠a):upd H a o b=H b:=by unfold upd;rw[if_neg h]
theorem bJ3 {H:Hp}{a b:Addr}{o u:HO}(h:H a=some o)(h':H b=some u)(d:o≠u):a≠b:=by
 intro e;subst e;rw[h]at h';exact d (ay h')
theorem zm {H:Hp}{a b:Addr}{o:HO}(h:H a=some o)(h':H b=none):a≠b:=by
 intro e;subst e;rw[h]at h';cases h'
section
variable (P:aD) (w:World)
noncomputable def ab4 (H:Hp)(h:Heap)(a:Addr):HO->Prop
 | .lst xs=>xs.length<=aA/\∃(its:List Value) (n:Nat),Vals xs its/\h.get? a=some { cls:=.type "list",data:=.seq its.toArray n }
 | .tup xs=>xs.length<=aA/\∃ its:List Value,Vals xs its/\IsTup h a its.toArray
 | .dK kvs=>kvs.length<=aA/\(a==cF)=false/\∃ vs,KV kvs vs/\h.DictOf (zE P w) a vs
 | .dT kvs=>kvs.length<=aA/\(a==cF)=false/\∃ xs:List (List Key×Addr×Value),
   eD (fun(p:List Key×V) (q:List Key×Addr×Value)=>p.1=q.1/\H q.2.1=some (.tup (p.1.map kV))/\RelV p.2 q.2.2) kvs xs /\
   ∃ o es ep,h.get? a=some o/\o.ExactDict/\o.data=.dict es ep/\es.toList=xs.map (entryOfKey (f6 (zE P w)))/\(xs.map (·.1)).Nodup
 | .set S n=>h.SetOf (intKind P w) a S n
 | .ins C dx fs=>H dx=some (.own a)/\fs.length<=1000/\dx≠a/\h.get? a=some (fw C dx) /\
   ∃ mA,h.Ns1 dx mA/\(∀ f,aE9 (fs.lookup f) (mA f))/\iX mA (fs.map (·.1))
 | .own _=>∃ o,h.get? a=some o
 | .xd fs=>∃ mA,h.Ns1 a mA/\∀ f,aE9 (fs.lookup f) (mA f)
 | .rng lo hi=>∃ t u v,h.get? a=some { cls:=.type "range",data:=.fields #[.int lo t,.int hi u,.int 1 v] }
 | .frz o u=>h.get? a=some o/\ab4 H h a u
 | .tbl ps=>h.get? a=some { cls:=.none,data:=.fields ps }
 | .met f x=>h.get? a=some (d8 (.ref f) (.ref x))
 | .ext φ=>φ h/\(∃ o,h.get? a=some o)/\∀ h1 h2:Heap,φ h1->(∀ o,h1.get? a=some o->h2.get? a=some o)->φ h2
def HOk (H:Hp)(h:Heap):Prop:=∀ a o,H a=some o->ab4 P w H h a o
end
section
variable {P:aD} {w:World} {H H':Hp} {h h':Heap} {a:Addr} {o:HO}
theorem ab4.lt (x:ab4 P w H h a o):a<h.objs.size:=by
 cases o with
 | lst xs=>obtain⟨_,_,_,_,e⟩:=x;exact aw e
 | tup xs=>obtain⟨_,_,_,p⟩:=x;exact p.lt
 | dK kvs=>obtain⟨_,_,_,_,o,_,_,e,_⟩:=x;exact aw e
 | dT kvs=>obtain⟨_,_,_,_,o,_,_,e,_⟩:=x;exact aw e
 | set S n=>obtain⟨o,_,_,_,e,_⟩:=x;exact aw e
 | ins C dx fs=>obtain⟨_,_,_,e,_⟩:=x;exact aw e
 | own y=>obtain⟨_,e⟩:=x;exact aw e
 | xd fs=>obtain⟨_,⟨_,_,_,e,_⟩,_⟩:=x;exact aw e
 | rng lo hi=>obtain⟨_,_,_,e⟩:=x;exact aw e
 | frz ob u=>obtain⟨e,_⟩:=x;exact aw e
 | tbl ps=>exact aw (show h.get? a=some _ from x)
 | met f y=>exact aw (show h.get? a=some _ from x)
 | ext φ=>obtain⟨_,⟨_,e⟩,_⟩:=x;exact aw e
theorem eD.mapP {α β:Type}{F G:α->β->Prop}:∀ {y:List α} {h:List β},eD F y h->(∀ a b,F a b->G a b)->eD G y h
 | _,_,.nil,_=>.nil
 | _,_,.cons r t,f=>.cons (f _ _ r) (eD.mapP t f)
theorem ab4.stay (x:ab4 P w H h a o)(k:∀ b u,(b=a\/H b=some (.own a))->h.get? b=some u->h'.get? b=some u)
  (ho:∀ b,H b=some (.own a)->H' b=some (.own a)) (ht:∀ b J,H b=some (.tup J)->H' b=some (.tup J)):ab4 P w H' h' a o:=by
 induction o with
 | lst J=>obtain⟨z,its,n,r,e⟩:=x;exact⟨z,its,n,r,k _ _ (.inl rfl) e⟩
 | tup J=>obtain⟨z,its,r,ob,e,c⟩:=x;exact⟨z,its,r,ob,k _ _ (.inl rfl) e,c⟩
 | dK kvs=>obtain⟨z,y,vs,r,ob,es,G,e,c⟩:=x;exact⟨z,y,vs,r,ob,es,G,k _ _ (.inl rfl) e,c⟩
 | dT kvs =>
  obtain⟨z,y,J,r,ob,es,G,e,c⟩:=x
  exact⟨z,y,J,eD.mapP r fun p q z=>⟨z.1,ht _ _ z.2.1,z.2.2⟩,ob,es,G,k _ _ (.inl rfl) e,c⟩
 | set S n=>obtain⟨ob,es,G,t,e,c⟩:=x;exact⟨ob,es,G,t,k _ _ (.inl rfl) e,c⟩
 | ins C dx fs =>
  obtain⟨d,z,ne,e,Y,⟨od,es,G,e2,c⟩,r⟩:=x
  exact⟨ho _ d,z,ne,k _ _ (.inl rfl) e,Y,⟨od,es,G,k _ _ (.inr d) e2,c⟩,r⟩
 | own y=>obtain⟨ob,e⟩:=x;exact⟨ob,k _ _ (.inl rfl) e⟩
 | xd fs=>obtain⟨Y,⟨od,es,G,e,c⟩,r⟩:=x;exact⟨Y,⟨od,es,G,k _ _ (.inl rfl) e,c⟩,r⟩
 | rng lo hi=>obtain⟨t,u,v,e⟩:=x;exact⟨t,u,v,k _ _ (.inl rfl) e⟩
 | frz ob u ih=>obtain⟨e,q⟩:=x;exact⟨k _ _ (.inl rfl) e,ih q⟩
 | tbl ps =>
  have e:h.get? a=some { cls:=.none,data:=.fields ps }:=x
  show h'.get? a=some { cls:=.none,data:=.fields ps }
  exact k a _ (.inl rfl) e
 | met f y =>
  have e:h.get? a=some (d8 (.ref f) (.ref y)):=x
  show h'.get? a=some (d8 (.ref f) (.ref y))
  exact k a _ (.inl rfl) e
 | ext φ=>obtain⟨p,⟨o,e⟩,st⟩:=x;exact⟨st _ _ p fun o q=>k _ _ (.inl rfl) q,⟨o,k _ _ (.inl rfl) e⟩,st⟩
theorem HOk.lt (x:HOk P w H h)(e:H a=some o):a<h.objs.size:=(x a o e).lt
theorem HOk.fresh (x:HOk P w H h)(e:h.objs.size<=a):H a=none:=by
 cases q:H a with
 | none=>rfl
 | some u=>exact absurd (ah (x.lt q) e) (bf _)
theorem HOk.kept (x:HOk P w H h)(k:∀ b u,h.get? b=some u->h'.get? b=some u):HOk P w H h':=fun a o e =>
 (x a o e).stay (fun b u _ q=>k b u q) (fun _ q=>q) fun _ _ q=>q
theorem HOk.laid (x:HOk P w H h)(k:∀ b u,h.get? b=some u->h'.get? b=some u)(y:h.objs.size<=a)(new:ab4 P w (upd H a o) h' a o):HOk P w (upd H a o) h':=fun b u e=>by
 have hn:=x.fresh y
 by_cases hb:b=a
 ·subst hb;rw[zb]at e;cases e;exact new
 ·rw[za hb]at e
  exact(x b u e).stay (fun c v _ q=>k c v q) (fun c q=>by rw[za (zm q hn)];exact q) fun c z q=>by rw[za (zm q hn)];exact q
end
def Rd (H:Hp)(a:Addr)(u:HO):Prop:=H a=some u\/∃ o,H a=some (.frz o u)
theorem Rd.ok {P:aD}{w:World}{H:Hp}{h:Heap}{a:Addr}{u:HO}(r:Rd H a u)(x:HOk P w H h):ab4 P w H h a u:=by
 rcases r with r|⟨o,r⟩
 ·exact x a u r
 ·obtain⟨_,q⟩:=x a _ r
  exact q
noncomputable def Mut:Option HO->Prop
 | some (.lst _)=>True
 | some (.dK _)=>True
 | some (.dT _)=>True
 | some (.set _ _)=>True
 | some (.ins _ _ _)=>True
 | some (.ext _)=>True
 | _=>False
section
variable {P:aD} {w:World} {H:Hp} {h h':Heap} {x e:Addr} {o':HO}
theorem HOk.write (ok:HOk P w H h)(mu:Mut (H x))(he:e=x\/H e=some (.own x))(k:∀ b u,b≠e->h.get? b=some u->h'.get? b=some u)(Y:∃ u,h'.get? e=some u)
  (new:ab4 P w (upd H x o') h' x o'):HOk P w (upd H x o') h':=fun b u q=>by
 have C:∀ c y,H c=some (.own y)->c≠x:=fun c y r z=>by subst z;rw[r]at mu;exact mu
 have G:∀ c J,H c=some (.tup J)->c≠x:=fun c J r z=>by subst z;rw[r]at mu;exact mu
 by_cases hb:b=x
 ·subst hb;rw[zb]at q;cases q;exact new
 ·rw[za hb]at q
  by_cases hbe:b=e
  ·have q':H b=some (.own x):=by
    rcases he with z|z
    ·exact absurd (hbe.trans z) hb
    ·rw[hbe];exact z
   rw[q]at q';cases q'
   obtain⟨v,hv⟩:=Y
   exact⟨v,by rw[hbe];exact hv⟩
  ·refine(ok b u q).stay (fun c v hc r=>k c v ?_ r) (fun c r=>by rw[za (C c b r)];exact r) fun c J r=>by rw[za (G c J r)];exact r
   rcases hc with rfl|hc
   ·exact hbe
   ·rintro rfl
    rcases he with z|z
    ·exact C c b hc z
    ·rw[hc]at z;cases z;exact hb rfl
end
structure Un (fs ex:List Addr)(H H':Hp)(h h':Heap):Prop where
 keep:∀ b o,h.get? b=some o->H b=none->b ∉ fs->b ∉ ex->h'.get? b=some o
 slot:∀ b o,h.get? b=some o->H b=none->b∈fs->b ∉ ex->∃ sl,h'.get? b=some { o with slots:=sl }
 free:∀ b o,h.get? b=some o->H b=none->b ∉ ex->H' b=none
 there:∀ b o,h.get? b=some o->b ∉ ex->∃ o',h'.get? b=some o'
 tups:∀ b xs,H b=some (.tup xs)->H' b=some (.tup xs)
 frzs:∀ b o u,H b=some (.frz o u)->H' b=some (.frz o u)
 tbls:∀ b ps,H b=some (.tbl ps)->∃ more,H' b=some (.tbl (ps++more))
section
variable {fs fs' ex ex':List Addr} {H H1 H2:Hp} {h h1 h2 h':Heap} {a x e:Addr} {o:HO}
theorem Un.any (u:Un fs ex H H1 h h1){b:Addr}{ob:Obj}(q:h.get? b=some ob)(n:H b=none)(hx:b ∉ ex):∃ sl,h1.get? b=some { ob with slots:=sl }:=by
 by_cases hb:b∈fs
 ·exact u.slot b ob q n hb hx
 ·exact⟨ob.slots,u.keep b ob q n hb hx⟩
theorem Un.kept (k:∀ b u,h.get? b=some u->h'.get? b=some u):Un fs ex H H h h' :=
 ⟨fun b ob q _ _ _=>k b ob q,fun b ob q _ _ _=>⟨ob.slots,k b ob q⟩,fun _ _ _ n _=>n,fun b ob q _=>⟨ob,k b ob q⟩,fun _ _ q=>q,fun _ _ _ q=>q,fun _ ps q=>⟨#[],by rw[q];simp⟩⟩
theorem Un.refl:Un fs ex H H h h:=Un.kept fun _ _ q=>q
theorem Un.laid (k:∀ b u,h.get? b=some u->h'.get? b=some u)(y:h.objs.size<=a)(hn:H a=none):Un fs ex H (upd H a o) h h' where
 keep:=fun b u q _ _ _=>k b u q
 slot:=fun b u q _ _ _=>⟨u.slots,k b u q⟩
 free:=fun b u q n _=>by rw[za (aq (ah (aw q) y))];exact n
 there:=fun b u q _=>⟨u,k b u q⟩
 tups:=fun b z q=>by rw[za (zm q hn)];exact q
 frzs:=fun b u z q=>by rw[za (zm q hn)];exact q
 tbls:=fun b ps q=>⟨#[],by rw[za (zm q hn),q];simp⟩
theorem Un.write (mu:Mut (H x))(J:e=x\/H e=some (.own x))(k:∀ b u,b≠e->h.get? b=some u->h'.get? b=some u)(C:∃ u,h'.get? e=some u):Un fs ex H (upd H x o) h h':=by
 have hx:∀ b,H b=none->b≠x:=fun b n z=>by subst z;rw[n]at mu;exact mu
 have hb:∀ b,H b=none->b≠e:=fun b n z=>by
  subst z
  rcases J with r|r
  ·exact hx b n r
  ·rw[n]at r;cases r
 have y:∀ b u,H b=some u->¬ Mut (some u)->b≠x:=fun b u q G z=>by subst z;rw[q]at mu;exact G mu
 refine⟨fun b u q n _ _=>k b u (hb b n) q,fun b u q n _ _=>⟨u.slots,k b u (hb b n) q⟩,fun b u q n _=>by rw[za (hx b n)];exact n,fun b u q _=>?_,
  fun b Y q=>by rw[za (y b _ q fun z=>z)];exact q,fun b u Y q=>by rw[za (y b _ q fun z=>z)];exact q,fun b ps q=>⟨#[],by rw[za (y b _ q fun z=>z),q];simp⟩⟩
 by_cases hbe:b=e
 ·subst hbe;exact C
 ·exact⟨u,k b u hbe q⟩
end
noncomputable def trk (h:Heap)(H:Hp):List Addr:=(av h.objs.size).filter fun a=>(H a).isSome
noncomputable def aQ2 (h:Heap)(H:Hp):Heap:=PySem.W.hideAll h (trk h H)
theorem aI2 (h:Heap)(H:Hp):(aQ2 h H).objs.size=h.objs.size:=PySem.W.hideAll_size _ _
theorem af7 {h:Heap}{H:Hp}{b:Addr}{o:Obj}(e:h.get? b=some o)(n:H b=none):(aQ2 h H).get? b=some o :=
 PySem.W.hideAll_get _ e fun y=>by
  have q:(H b).isSome=true:=(ie.mp y).2
  rw[n]at q;simp at q
theorem bm8 {h:Heap}{H:Hp}{b:Addr}{o:Obj}(e:(aQ2 h H).get? b=some o):h.get? b=some o/\H b=none:=by
 have e':h.get? b=some o:=PySem.W.of_hideAll (trk h H) e
 refine⟨e',?_⟩
 cases q:H b with
 | none=>rfl
 | some x =>
  have y:b∈trk h H:=ie.mpr ⟨bv.mpr (aw e'),by simp[q]⟩
  have z:(aQ2 h H).get? b=none:=PySem.W.hideAll_none (trk h H) y
  rw[z]at e;cases e
noncomputable def bh9 (g h:Heap)(L:Addr):List (Addr×Obj):=(av h.objs.size).filterMap fun a=>if a=L\/(g.get? a).isSome=true then none else(h.get? a).map fun o=>(a,o)
noncomputable def rest (g h:Heap)(L d:Addr):List (Addr×Obj):=(bh9 g h L).filter fun p=>decide (p.1≠d)
structure Mod (K:ab)(mg:Str->Option Value)(base:Heap):Prop where
 kin:K.In base
 glob:base.Ns a8 mg
 blt:∃ mb,base.Ns fc mb/\∀ x:Str,x ≠ "__name__"->mb x=aY x
 nolimit:base.NoLimit
structure Cx where
 prog:aD
 w:World
 K:ab
 mg:Str->Option Value
 base:Heap
 A:aP
 N:List Str
 s₀:ac
 H₀:Hp
 env:Env
 outer:List Env
 stack:List Env
 ex:List Addr
 fn:Str->Bool
 calm:Bool
 pn:List (Addr×Obj)
 xe:Value->ac->Prop
noncomputable def frs (l:List Env):List Addr:=l.filterMap (·.frame)
noncomputable abbrev Cx.fs (X:Cx):List Addr:=frs X.outer
def Vis (sc:Scope)(x:Str):Prop:=sc.names.lookup x=some .local\/sc.names.lookup x=some .cell\/sc.names.lookup x=some .free
def Loc (sc:Scope)(x:Str):Prop:=sc.names.lookup x=some .local\/sc.names.lookup x=some .cell
def Look (env:Env)(h:Heap)(m:Str->Option Value)(x:Str)(u:Value):Prop :=
 (env.kindOf x=some .local/\m x=some u)\/((env.kindOf x=some .cell\/env.kindOf x=some .free)/\∃ c,env.cells.lookup x=some c/\h.IsCell c (some u))
structure Cx.Ok (X:Cx):Prop where
 mod:Mod X.K X.mg X.base
 kind:X.env.scope.kind=.function
 glob:X.env.globals=a8
 blt:X.env.builtins=fc
 above:X.s₀.heap.objs.size<=X.env.locals
 inj:∀ x y c,X.env.cells.lookup x=some c->X.env.cells.lookup y=some c->x=y
 has:∀ x,(X.env.kindOf x=some .cell\/X.env.kindOf x=some .free)->∃ c,X.env.cells.lookup x=some c
 cab:∀ x c,X.fn x=true->X.env.cells.lookup x=some c->X.s₀.heap.objs.size<=c
 hd:X.calm=true->X.A.handled=none
 frames:X.A.frames=some X.stack
 stk:X.stack=X.outer\/(X.stack=X.env::X.outer/\X.env.frame=some X.env.locals)
 exf:∀ b∈X.ex,b≠X.env.locals/\∀ x c,X.env.cells.lookup x=some c->c≠b
 bs:∀ b o,X.base.get? b=some o->X.s₀.heap.get? b=some o/\X.H₀ b=none
 bsz:X.base.objs.size<=X.s₀.heap.objs.size
 noex:∀ b o,X.base.get? b=some o->b ∉ X.ex
 exfs:∀ b∈X.ex,b ∉ X.fs
 funs:X.s₀.heap.FunFrames X.base X.outer
 frf:∀ b∈X.fs,X.H₀ b=none
structure Inv (X:Cx)(pins:List (Addr×Obj))(σ:List (Option V))(H:Hp)(s:ac):Prop where
 ok:X.Ok
 os:s.os=X.s₀.os
 bare:d9 s.gens
 base:Un X.fs X.ex X.H₀ H X.s₀.heap s.heap
 loc:∃ m,s.heap.Ns X.env.locals m/\∀(i:Nat) (x:Str) (v:V),X.N[i]?=some x->σ[i]?=some (some v)->Vis X.env.scope x->∃ u,RelV v u/\Look X.env s.heap m x u
 cell:∀ x c,X.env.cells.lookup x=some c->∃ v,s.heap.IsCell c v
 free:H X.env.locals=none
 freeC:∀ x c,X.env.cells.lookup x=some c->H c=none
 pin:∀ p∈X.pn++pins,s.heap.get? p.1=some p.2/\H p.1=none/\p.1≠X.env.locals/\p.1 ∉ X.fs/\∀ v,p.2.data≠.cell v
 hok:HOk X.prog X.w H s.heap
 len:σ.length=X.N.length
section
variable {X:Cx} {pins:List (Addr×Obj)} {σ:List (Option V)} {H H':Hp} {s:ac} {h':Heap}
theorem Cx.Ok.nofr (ok:X.Ok){b:Addr}{o:Obj}(e:X.base.get? b=some o):b ∉ X.fs:=fun hb=>by
 have:=(ok.funs.mem hb).1
 rw[e]at this;cases this
theorem Inv.bs (I:Inv X pins σ H s):∀ b o,X.base.get? b=some o->s.heap.get? b=some o/\H b=none:=fun b o e =>
 ⟨I.base.keep b o (I.ok.bs b o e).1 (I.ok.bs b o e).2 (I.ok.nofr e) (I.ok.noex b o e),I.base.free b o (I.ok.bs b o e).1 (I.ok.bs b o e).2 (I.ok.noex b o e)⟩
theorem Inv.bk (I:Inv X pins σ H s):∀ b o,X.base.get? b=some o->s.heap.get? b=some o:=fun b o e=>(I.bs b o e).1
theorem Inv.mod (I:Inv X pins σ H s):Mod X.K X.mg X.base:=I.ok.mod
theorem Inv.kIn (I:Inv X pins σ H s):X.K.In s.heap:=I.ok.mod.kin.keeps I.bk
theorem Inv.lt (I:Inv X pins σ H s):X.env.locals<s.heap.objs.size:=let⟨_,hn,_⟩:=I.loc;hn.lt
theorem Inv.sz (I:Inv X pins σ H s):X.s₀.heap.objs.size<=s.heap.objs.size:=am I.ok.above (cI I.lt)
theorem Inv.nofs (I:Inv X pins σ H s){a:Addr}(h:s.heap.objs.size<=a):a ∉ X.fs:=fun hb=>by
 obtain⟨_,o,ho,_⟩:=I.ok.funs.mem hb
 exact absurd (ah (aw ho) (am I.sz h)) (bf _)
theorem Inv.cne (I:Inv X pins σ H s):∀ x c,X.env.cells.lookup x=some c->c≠X.env.locals:=fun x c e z=>by
 obtain⟨v,o,ho,hd⟩:=I.cell x c e
 obtain⟨m,⟨G,es,C,y,h,_⟩,_⟩:=I.loc
 rw[z,y]at ho;cases ho;rw[h]at hd;cases hd
theorem Inv.funs (I:Inv X pins σ H s):s.heap.FunFrames X.base X.outer:=by
 have all:∀(l:List Env),(∀ b∈frs l,b∈X.fs)->X.s₀.heap.FunFrames X.base l->s.heap.FunFrames X.base l:=by
  intro l
  induction l with
  | nil=>intro _ _;trivial
  | cons env r ih =>
   intro hs hl
   obtain⟨hk,⟨L,o,y,hn,ho,hd⟩,C⟩:=hl
   have h:L∈X.fs:=hs L (by unfold frs;rw[bn,y];exact az)
   obtain⟨sl,e⟩:=I.base.slot L o ho (I.ok.frf L h) h fun z=>I.ok.exfs L z h
   exact⟨hk,⟨L,_,y,hn,e,hd⟩,ih (fun b hb=>hs b (by unfold frs;rw[bn,y];exact ao _ hb)) C⟩
 exact all X.outer (fun _ hb=>hb) I.ok.funs
theorem Inv.stack (I:Inv X pins σ H s):s.heap.FunFrames X.base X.stack:=by
 rcases I.ok.stk with e|⟨e,h⟩
 ·rw[e];exact I.funs
 ·rw[e]
  obtain⟨m,hn,_⟩:=I.loc
  refine .cons (by rw[I.ok.kind];decide) h hn ?_ I.funs
  exact Heap.get?_none_of_le (am I.ok.bsz I.ok.above)
theorem Inv.stkSub (I:Inv X pins σ H s):∀ b∈frs X.stack,b∈X.env.locals::X.fs:=fun b hb=>by
 rcases I.ok.stk with e|⟨e,h⟩
 ·rw[e]at hb;exact ao _ hb
 ·rw[e]at hb
  unfold frs at hb
  rw[bn,h]at hb
  exact hb
theorem Inv.stkFree (I:Inv X pins σ H s):∀ b∈frs X.stack,H b=none:=fun b hb=>by
 rcases aC.mp (I.stkSub b hb)with e|hb
 ·rw[e];exact I.free
 ·obtain⟨_,o,ho,_⟩:=I.ok.funs.mem hb
  exact I.base.free b o ho (I.ok.frf b hb) fun z=>I.ok.exfs b z hb
theorem Inv.step {g':Array GenState}{t':Nat}{d':Drawn}{ch:List Addr}(I:Inv X pins σ H s)
  (C:∀ b∈ch,(b∈X.ex\/X.s₀.heap.objs.size<=b)/\b≠X.env.locals/\(∀ x c,X.env.cells.lookup x=some c->c≠b)/\∀ p∈X.pn++pins,p.1≠b)
  (keep:∀ b o,b≠X.env.locals->b ∉ X.fs->b ∉ ch->s.heap.get? b=some o->H b=none->h'.get? b=some o)
  (slot:∀ b o,b≠X.env.locals->b∈X.fs->b ∉ ch->s.heap.get? b=some o->H b=none->∃ sl,h'.get? b=some { o with slots:=sl }) (free:∀ b o,b ∉ ch->s.heap.get? b=some o->H b=none->H' b=none)
  (there:∀ b o,b ∉ ch->s.heap.get? b=some o->∃ o',h'.get? b=some o')
  (tups:∀ b J,H b=some (.tup J)->H' b=some (.tup J)) (frzs:∀ b o u,H b=some (.frz o u)->H' b=some (.frz o u)) (tbls:∀ b ps,H b=some (.tbl ps)->∃ a0,H' b=some (.tbl (ps++a0)))
  (ns:∀ m,s.heap.Ns X.env.locals m->h'.Ns X.env.locals m) (hok:HOk X.prog X.w H' h') (hg:d9 g') :
  Inv X pins σ H' { s with heap:=h',gens:=g',drawn:=d',toks:=t' }:=by
 have Y:∀ b o,X.s₀.heap.get? b=some o->b≠X.env.locals:=fun b o e=>aq (ah (aw e) I.ok.above)
 have G:∀ b o,X.s₀.heap.get? b=some o->b ∉ X.ex->b ∉ ch:=fun b o e hx hb=>by
  rcases(C b hb).1 with z|z
  ·exact hx z
  ·exact absurd (ah (aw e) z) (bf _)
 have y:∀ x c,X.env.cells.lookup x=some c->∀ v,s.heap.IsCell c v->h'.IsCell c v:=fun x c e v ⟨o,ho,hd⟩=>by
  have h:c ∉ ch:=fun z=>(C c z).2.2.1 x c e rfl
  by_cases hc:c∈X.fs
  ·obtain⟨sl,q⟩:=slot c o (I.cne x c e) hc h ho (I.freeC x c e)
   exact⟨_,q,hd⟩
  ·exact⟨o,keep c o (I.cne x c e) hc h ho (I.freeC x c e),hd⟩
 refine⟨I.ok,I.os,hg,⟨fun b o e n hb hx=>?_,fun b o e n hb hx=>?_,fun b o e n hx=>?_,fun b o e hx=>?_,fun b J e=>tups b J (I.base.tups b J e),fun b o J e=>frzs b o J (I.base.frzs b o J e),fun b ps e=>?_⟩,?_,fun x c e=>?_,?_,fun x c e=>?_,fun p hp=>?_,hok,I.len⟩
 ·exact keep b o (Y b o e) hb (G b o e hx) (I.base.keep b o e n hb hx) (I.base.free b o e n hx)
 ·obtain⟨sl,e1⟩:=I.base.slot b o e n hb hx
  obtain⟨a1,e2⟩:=slot b _ (Y b o e) hb (G b o e hx) e1 (I.base.free b o e n hx)
  exact⟨a1,e2⟩
 ·obtain⟨o',e1⟩:=I.base.there b o e hx
  exact free b o' (G b o e hx) e1 (I.base.free b o e n hx)
 ·obtain⟨o',e1⟩:=I.base.there b o e hx
  exact there b o' (G b o e hx) e1
 ·obtain⟨m1,e1⟩:=I.base.tbls b ps e
  obtain⟨m2,e2⟩:=tbls b _ e1
  exact⟨m1++m2,by rw[e2,gy]⟩
 ·obtain⟨m,hn,hl⟩:=I.loc
  refine⟨m,ns m hn,fun i x v e1 e2 e3=>?_⟩
  obtain⟨u,r,l⟩:=hl i x v e1 e2 e3
  refine⟨u,r,?_⟩
  rcases l with l|⟨k,c,e,z⟩
  ·exact .inl l
  ·exact .inr ⟨k,c,e,y x c e _ z⟩
 ·obtain⟨v,z⟩:=I.cell x c e
  exact⟨v,y x c e v z⟩
 ·obtain⟨m,⟨o,_,_,ho,_⟩,_⟩:=I.loc
  exact free _ o (fun z=>(C _ z).2.1 rfl) ho I.free
 ·obtain⟨v,o,ho,hd⟩:=I.cell x c e
  exact free c o (fun z=>(C c z).2.2.1 x c e rfl) ho (I.freeC x c e)
 ·obtain⟨e,n,ne,nf,d⟩:=I.pin p hp
  have h:p.1 ∉ ch:=fun z=>(C p.1 z).2.2.2 p hp rfl
  exact⟨keep p.1 p.2 ne nf h e n,free p.1 p.2 h e n,ne,nf,d⟩
theorem Inv.un {t':Nat}(I:Inv X pins σ H s)(u:Un X.fs [] H H' s.heap h')(hok:HOk X.prog X.w H' h'):Inv X pins σ H' { s with heap:=h',toks:=t' }:=by
 obtain⟨m,⟨o,es,ep,ho,r⟩,_⟩:=id I.loc
 obtain⟨sl,Y⟩:=u.any ho I.free (by simp)
 exact I.step (g':=s.gens) (d':=s.drawn) (ch:=[]) (fun _ z=>nomatch z) (fun b o _ hb _ e n=>u.keep b o e n hb (by simp)) (fun b o _ hb _ e n=>u.slot b o e n hb (by simp)) (fun b o _ e n=>u.free b o e n (by simp)) (fun b o _ e=>u.there b o e (by simp)) u.tups u.frzs u.tbls (fun m' G=>by
  obtain⟨o',C,y,h,J⟩:=G
  rw[ho]at h;cases h
  exact⟨_,C,y,Y,J⟩) hok I.bare
theorem Inv.call {g':Array GenState}{t':Nat}{d':Drawn}{ch:List Addr}(I:Inv X pins σ H s)(u:Un (frs X.stack) ch H H' s.heap h')(hok:HOk X.prog X.w H' h')(hg:d9 g')
  (h:∀ b∈ch,(b∈X.ex\/X.s₀.heap.objs.size<=b)/\b≠X.env.locals/\(∀ x c,X.env.cells.lookup x=some c->c≠b)/\∀ p∈X.pn++pins,p.1≠b) :
  Inv X pins σ H' { s with heap:=h',gens:=g',drawn:=d',toks:=t' }:=by
 obtain⟨m,⟨o,es,ep,ho,r⟩,_⟩:=id I.loc
 obtain⟨sl,G⟩:=u.any ho I.free fun z=>(h _ z).2.1 rfl
 exact I.step (ch:=ch) h (fun b o G hb hc e n=>u.keep b o e n (fun z=>(aC.mp (I.stkSub b z)).elim G hb) hc) (fun b o _ _ hc e n=>u.any e n hc) (fun b o hc e n=>u.free b o e n hc) (fun b o hc e=>u.there b o e hc) u.tups u.frzs u.tbls (fun m' hm=>by
  obtain⟨o',J,C,y,Y⟩:=hm
  rw[ho]at y;cases y
  exact⟨_,J,C,G,Y⟩) hok hg
theorem Inv.turned {t':Nat}{it:Addr}(I:Inv X pins σ H s)(k:∀ b o,b≠it->s.heap.get? b=some o->h'.get? b=some o)(hn:H it=none)(y:it≠X.env.locals)
  (h1:it∈X.ex\/X.s₀.heap.objs.size<=it) (C:∀ x c,X.env.cells.lookup x=some c->c≠it) (Y:∀ p∈X.pn++pins,p.1≠it):Inv X pins σ H { s with heap:=h',toks:=t' }:=by
 have h:∀ b u,H b=some u->b≠it:=fun b u e z=>by rw[z,hn]at e;cases e
 refine I.step (g':=s.gens) (d':=s.drawn) (ch:=[it]) (fun b hb=>?_) (fun b o _ _ hc e _=>k b o (fun z=>hc (by simp[z])) e) (fun b o _ _ hc e _=>⟨o.slots,k b o (fun z=>hc (by simp[z])) e⟩) (fun _ _ _ _ n=>n)
  (fun b o hc e=>⟨o,k b o (fun z=>hc (by simp[z])) e⟩) (fun _ _ e=>e) (fun _ _ _ e=>e) (fun b ps e=>⟨#[],by rw[e];simp⟩) (fun m G=>?_) (fun b u e=>?_) I.bare
 ·have e:b=it:=by simpa using hb
  subst e
  exact⟨h1,y,C,Y⟩
 ·obtain⟨o,es,J,ho,r⟩:=G
  exact⟨o,es,J,k _ o (bE y) ho,r⟩
 ·refine(I.hok b u e).stay (fun c v hc q=>k c v ?_ q) (fun _ q=>q) fun _ _ q=>q
  rcases hc with z|z
  ·rw[z];exact h b u e
  ·exact h c _ z
theorem Inv.tok (I:Inv X pins σ H s)(t:Nat):Inv X pins σ H { s with toks:=t }:=I.un (h':=s.heap) (t':=t) Un.refl I.hok
theorem Inv.kept {t':Nat}(I:Inv X pins σ H s)(k:∀ b u,s.heap.get? b=some u->h'.get? b=some u):Inv X pins σ H { s with heap:=h',toks:=t' }:=I.un (Un.kept k) (I.hok.kept k)
theorem Inv.laid {a:Addr}{o:HO}{t':Nat}(I:Inv X pins σ H s)(k:∀ b u,s.heap.get? b=some u->h'.get? b=some u)(h:s.heap.objs.size<=a)(new:ab4 X.prog X.w (upd H a o) h' a o) :
  Inv X pins σ (upd H a o) { s with heap:=h',toks:=t' }:=I.un (Un.laid k h (I.hok.fresh h)) (I.hok.laid k h new)
theorem Inv.write {x e:Addr}{o:HO}{t':Nat}(I:Inv X pins σ H s)(mu:Mut (H x))(y:e=x\/H e=some (.own x))(k:∀ b u,b≠e->s.heap.get? b=some u->h'.get? b=some u)(h:∃ u,h'.get? e=some u)
  (new:ab4 X.prog X.w (upd H x o) h' x o):Inv X pins σ (upd H x o) { s with heap:=h',toks:=t' }:=I.un (Un.write mu y k h) (I.hok.write mu y k h new)
theorem Inv.pins_of {y:List (Addr×Obj)}(I:Inv X pins σ H s)(h:∀ p∈y,s.heap.get? p.1=some p.2/\H p.1=none/\p.1≠X.env.locals/\p.1 ∉ X.fs/\∀ v,p.2.data≠.cell v):Inv X y σ H s :=
 ⟨I.ok,I.os,I.bare,I.base,I.loc,I.cell,I.free,I.freeC,fun p C=>(cq.mp C).elim (fun z=>I.pin p (fO _ z)) (h p),I.hok,I.len⟩
theorem ax3 {N:List Str}(hN:N.Nodup){i j:Nat}{x:Str}(a:N[i]?=some x)(b:N[j]?=some x):i=j:=by
 obtain⟨y,e1⟩:=ae.mp a
 obtain⟨h,e2⟩:=ae.mp b
 exact(List.getElem_inj hN).mp (e1.trans e2.symm)
theorem as0 {M:Model}{A:aP}{E:Value->ac->Prop}{i:Nat}{x:Str}{v:V}{u:Value}{Q:Unit->ac->Prop}(I:Inv X pins σ H s)(hN:X.N.Nodup)(hi:X.N[i]?=some x)(hx:Loc X.env.scope x)(r:RelV v u)
  (h:∀ s',Inv X pins (σ.set i (some v)) H s'->(∃ a,c5 a s.heap s'.heap/\(a=X.env.locals\/X.env.cells.lookup x=some a))->Q () s') (hf:X.fn x=true\/X.env.scope.names.lookup x=some .local:=by first|exact .inl rfl|exact .inr rfl|assumption):wpAny M A (eP X.env x u) Q E s:=by
 obtain⟨m,hn,hl⟩:=id I.loc
 have a0:(X.env.scope.kind==.class||(X.env.scope.kind==.module&&X.env.locals != X.env.globals))=false:=by rw[I.ok.kind];rfl
 have Y:i < σ.length:=by rw[I.len];exact(ae.mp hi).1
 have cne:=I.cne
 have C:∀ {a:Addr} {h':Heap},(∃ o,s.heap.get? a=some o/\H a=none)->c5 a s.heap h'->HOk X.prog X.w H h':=fun {a h'} ha hs b ob e=>by
  obtain⟨_,_,G⟩:=ha
  refine(I.hok b ob e).stay (fun c w' hc q=>(hs.2 c ?_).trans q) (fun _ q=>q) fun _ _ q=>q
  rintro rfl
  rcases hc with rfl|hc
  ·rw[G]at e;cases e
  ·rw[G]at hc;cases hc
 rcases hx with hk|hk
 ·refine fG hk hn (fun h' a5 hs=>?_) a0
  obtain⟨oL,_,_,a4,_⟩:=id hn
  refine h _ ⟨I.ok,I.os,I.bare,⟨fun b o e n hb hx=>?_,fun b o e n hb hx=>?_,I.base.free,fun b o e hx=>?_,I.base.tups,I.base.frzs,I.base.tbls⟩,⟨_,a5,fun j y v' e1 e2 e3=>?_⟩,fun y c e=>?_,I.free,I.freeC,fun p hp=>?_,C ⟨oL,a4,I.free⟩ hs,by simpa using I.len⟩ ⟨_,hs,.inl rfl⟩
  ·exact(hs.2 b (aq (ah (aw e) I.ok.above))).trans (I.base.keep b o e n hb hx)
  ·obtain⟨sl,e1⟩:=I.base.slot b o e n hb hx
   exact⟨sl,(hs.2 b (aq (ah (aw e) I.ok.above))).trans e1⟩
  ·obtain⟨o',e1⟩:=I.base.there b o e hx
   exact⟨o',(hs.2 b (aq (ah (aw e) I.ok.above))).trans e1⟩
  ·by_cases hj:j=i
   ·subst hj
    rw[hi]at e1;cases e1
    rw[aU Y]at e2
    cases e2
    exact⟨u,r,.inl ⟨hk,by simp⟩⟩
   ·rw[bj (bE hj)]at e2
    obtain⟨u',r',q⟩:=hl j y v' e1 e2 e3
    refine⟨u',r',?_⟩
    rcases q with⟨k,e⟩|⟨k,c,e,z⟩
    ·refine .inl ⟨k,?_⟩
     have:y≠x:=fun e=>hj (ax3 hN e1 (e▸hi))
     simp[this,e]
    ·exact .inr ⟨k,c,e,z.sameBut hs (cne y c e)⟩
  ·obtain⟨w',z⟩:=I.cell y c e
   exact⟨w',z.sameBut hs (cne y c e)⟩
  ·obtain⟨e,n,ne,nf,d⟩:=I.pin p hp
   exact⟨(hs.2 p.1 ne).trans e,n,ne,nf,d⟩
 ·have J:X.fn x=true:=by
   rcases hf with z|z
   ·exact z
   ·rw[z]at hk;cases hk
  obtain⟨c,hc⟩:=I.ok.has x (.inl hk)
  obtain⟨w',z⟩:=I.cell x c hc
  refine fQ I.ok.kind hk hc z (fun h' a2 hs=>?_)
  obtain⟨oc,a3,a1⟩:=id z
  refine h { s with heap:=h' } ⟨I.ok,I.os,I.bare,⟨fun b o e n hb hx=>?_,fun b o e n hb hx=>?_,I.base.free,fun b o e hx=>?_,I.base.tups,I.base.frzs,I.base.tbls⟩,⟨m,hn.sameBut hs (bE (cne x c hc)),fun j y v' e1 e2 e3=>?_⟩,fun y c' e=>?_,I.free,I.freeC,fun p hp=>?_,C ⟨oc,a3,I.freeC x c hc⟩ hs,by simpa using I.len⟩ ⟨c,hs,.inr hc⟩
  ·exact(hs.2 b (aq (ah (aw e) (I.ok.cab x c J hc)))).trans (I.base.keep b o e n hb hx)
  ·obtain⟨sl,e1⟩:=I.base.slot b o e n hb hx
   exact⟨sl,(hs.2 b (aq (ah (aw e) (I.ok.cab x c J hc)))).trans e1⟩
  ·obtain⟨o',e1⟩:=I.base.there b o e hx
   exact⟨o',(hs.2 b (aq (ah (aw e) (I.ok.cab x c J hc)))).trans e1⟩
  ·by_cases hj:j=i
   ·subst hj
    rw[hi]at e1;cases e1
    rw[aU Y]at e2
    cases e2
    exact⟨u,r,.inr ⟨.inl hk,c,hc,a2⟩⟩
   ·rw[bj (bE hj)]at e2
    obtain⟨u',r',q⟩:=hl j y v' e1 e2 e3
    refine⟨u',r',?_⟩
    rcases q with q|⟨k,c',e,z'⟩
    ·exact .inl q
    ·refine .inr ⟨k,c',e,z'.sameBut hs ?_⟩
     rintro rfl
     exact hj (ax3 hN e1 (I.ok.inj _ _ _ e hc▸hi))
  ·by_cases hcc:c'=c
   ·subst hcc;exact⟨_,a2⟩
   ·obtain⟨w2,z2⟩:=I.cell y c' e
    exact⟨w2,z2.sameBut hs hcc⟩
  ·obtain⟨e,n,ne,nf,d⟩:=I.pin p hp
   refine⟨(hs.2 p.1 ?_).trans e,n,ne,nf,d⟩
   intro q
   rw[q,a3]at e
   have q':oc=p.2:=ay e
   exact d w' (by rw[<-q'];exact a1)
theorem am0 {M:Model}{A:aP}{E:Value->ac->Prop}{i:Nat}{x:Str}{v:V}{u:Value}{Q:Unit->ac->Prop}(I:Inv X pins σ H s)(hN:X.N.Nodup)(hi:X.N[i]?=some x)(hx:Loc X.env.scope x)(r:RelV v u)
  (h:∀ s',Inv X pins (σ.set i (some v)) H s'->Q () s') (z:X.fn x=true\/X.env.scope.names.lookup x=some .local:=by first|exact .inl rfl|exact .inr rfl|assumption):wpAny M A (eP X.env x u) Q E s :=
 as0 I hN hi hx r (fun s' y _=>h s' y) z
theorem Inv.call' {s':ac}{ch:List Addr}(I:Inv X pins σ H s)(ho:s'.os=s.os)(u:Un (frs X.stack) ch H H' s.heap s'.heap)(hok:HOk X.prog X.w H' s'.heap)(y:d9 s'.gens)
  (h:∀ b∈ch,(b∈X.ex\/X.s₀.heap.objs.size<=b)/\b≠X.env.locals/\(∀ x c,X.env.cells.lookup x=some c->c≠b)/\∀ p∈X.pn++pins,p.1≠b):Inv X pins σ H' s':=by
 obtain⟨h',g',d',t',z⟩:=s'
 have e:z=s.os:=ho
 subst e
 exact I.call (g':=g') (t':=t') (d':=d') u hok y h
end
abbrev XK:=Value->Option Addr->Hp->Prop
noncomputable abbrev St:=List (Option V)
abbrev VK:=V->Hp->Prop
abbrev TE:=St->Hp->VK->Prop
abbrev TT:=St->Hp->(Bool->Hp->Prop)->Prop
abbrev TA:=St->Hp->(List V->Hp->Prop)->Prop
structure Ends where
 nx:St->Hp->Prop
 rt:VK
 bk:St->Hp->Prop:=fun _ _=>False
 ct:St->Hp->Prop:=fun _ _=>False
abbrev TS:=Ends->St->Hp->Prop
def EP (X:Cx)(pins:List (Addr×Obj))(σ:St)(Q:VK)(u:Value)(s':ac):Prop:=∃ v H',Inv X pins σ H' s'/\RelV v u/\Q v H'
def TP (X:Cx)(pins:List (Addr×Obj))(σ:St)(Q:Bool->Hp->Prop)(b:Bool)(s':ac):Prop:=∃ H',Inv X pins σ H' s'/\Q b H'
def AP (X:Cx)(pins:List (Addr×Obj))(σ:St)(Q:List V->Hp->Prop)(us:List Value)(s':ac):Prop:=∃ vs H',Inv X pins σ H' s'/\Vals vs us/\Q vs H'
def SP (X:Cx)(pins:List (Addr×Obj))(D:Ends)(f:Flow)(s':ac):Prop :=
 match f with
 | .next=>∃ σ' H',Inv X pins σ' H' s'/\D.nx σ' H'
 | .brk=>∃ σ' H',Inv X pins σ' H' s'/\D.bk σ' H'
 | .cont=>∃ σ' H',Inv X pins σ' H' s'/\D.ct σ' H'
 | .ret u=>∃ v σ' H',Inv X pins σ' H' s'/\RelV v u/\D.rt v H'
def PE (X:Cx)(e:Expr)(t:TE):Prop :=
 ∀(pins:List (Addr×Obj)) (s:ac) (σ:St) (H:Hp) (Q:VK),Inv X pins σ H s->t σ H Q->wpAny (model X.prog X.w) X.A (eval e X.env) (EP X pins σ Q) X.xe s
def PT (X:Cx)(e:Expr)(t:TT):Prop :=
 ∀(pins:List (Addr×Obj)) (s:ac) (σ:St) (H:Hp) (Q:Bool->Hp->Prop),Inv X pins σ H s->t σ H Q->wpAny (model X.prog X.w) X.A (cV e X.env (eval e X.env)) (TP X pins σ Q) X.xe s
def PW (X:Cx)(e:Expr)(t:TT):Prop :=
 ∀(whole:Sem Value) (pins:List (Addr×Obj)) (s:ac) (σ:St) (H:Hp) (Q:Bool->Hp->Prop),Inv X pins σ H s->t σ H Q->wpAny (model X.prog X.w) X.A (cV e X.env whole) (TP X pins σ Q) X.xe s
theorem PW.pt {X:Cx}{e:Expr}{t:TT}(h:PW X e t):PT X e t:=h _
def PA (X:Cx)(es:List Expr)(t:TA):Prop :=
 ∀(pos:Pos) (pins:List (Addr×Obj)) (s:ac) (σ:St) (H:Hp) (Q:List V->Hp->Prop),Inv X pins σ H s->t σ H Q->wpAny (model X.prog X.w) X.A (spliced (cW pos (aW es X.env))) (AP X pins σ Q) X.xe s
def PS (X:Cx)(st:Stmt)(t:TS):Prop :=
 ∀(pins:List (Addr×Obj)) (s:ac) (σ:St) (H:Hp) (D:Ends),Inv X pins σ H s->t D σ H->wpAny (model X.prog X.w) X.A (exec st X.env) (SP X pins D) X.xe s
def PSs (X:Cx)(st:List Stmt)(t:TS):Prop :=
 ∀(pins:List (Addr×Obj)) (s:ac) (σ:St) (H:Hp) (D:Ends),Inv X pins σ H s->t D σ H->wpAny (model X.prog X.w) X.A (execs st X.env) (SP X pins D) X.xe s
theorem thn {α:Type}{t:Sem α}{Q y:α->ac->Prop}{M:Model}{A:aP}{E:Value->ac->Prop}{s:ac}(h:wpAny M A t Q E s)(z:∀ a s,Q a s->y a s):wpAny M A t y E s:=bP h z fun _ _ x=>x
section
variable {X:Cx}
theorem bin {a b:Expr}{G tb:TE}(ha:PE X a G)(hb:PE X b tb){z:List (Addr×Obj)}{s:ac}{σ:St}{H:Hp}{R:V->V->Hp->Prop}(I:Inv X z σ H s)(h:G σ H fun x C=>tb σ C fun y H2=>R x y H2)
  {α:Type} {Q:α->ac->Prop} {f:Value->Value->Sem α}
  (hf:∀ v u s2 x y H2,Inv X z σ H2 s2->RelV x v->RelV y u->R x y H2->wpAny (model X.prog X.w) X.A (f v u) Q X.xe s2) :
  wpAny (model X.prog X.w) X.A (eval a X.env) (fun v s₁=>wpAny (model X.prog X.w) X.A (eval b X.env) (fun u J=>wpAny (model X.prog X.w) X.A (f v u) Q X.xe J) X.xe s₁) X.xe s:=by
 refine thn (ha z s σ H _ I h) fun v s1 ⟨x,C,I1,r1,Y⟩=>?_
 refine thn (hb z s1 σ C _ I1 Y) fun u s2 ⟨y,H2,I2,r2,q2⟩=>?_
 exact hf v u s2 x y H2 I2 r1 r2 q2
def bb3 (i:Nat):TE:=fun σ H Q=>∃ v,σ[i]?=some (some v)/\Q v H
def tC (v:V):TE:=fun _ H Q=>Q v H
theorem aJ6 {i:Nat}{x:Str}{pos:Pos}(hN:X.N[i]?=some x)(C:Vis X.env.scope x)(hd:(x==("__debug__":Str))=false:=by decide)(z:(x==("__classdict__":Str))=false:=by decide):PE X (.Name x pos) (bb3 i):=by
 intro y s σ H Q I h
 obtain⟨v,e,h⟩:=h
 obtain⟨m,hn,hl⟩:=I.loc
 obtain⟨u,r,l⟩:=hl i x v hN e C
 have fin:EP X y σ Q u s:=⟨v,H,I,r,h⟩
 rcases l with⟨hk,G⟩|⟨hk,c,hc,hcell⟩
 ·exact iw (wpAny_loadName_local I.ok.kind hk hn G fin) hd
 ·rcases hk with hk|hk
  ·exact iw (wpAny_loadName_cell I.ok.kind hk hc hcell fin) hd
  ·exact iw (wpAny_loadName_free I.ok.kind hk hc hcell fin z) hd
theorem bb7 {i j pos}:PE X (.Constant (.int i) j pos) (tC (.int i)):=fun _ _ _ H _ I h=>wpAny_Constant_int ⟨.int i,H,I.tok _,⟨_,rfl⟩,h⟩
theorem bI9 {b j pos}:PE X (.Constant (.bool b) j pos) (tC (.bl b)):=fun _ _ _ H _ I h=>Constant_bool ⟨.bl b,H,I,rfl,h⟩
theorem bu6 {j pos}:PE X (.Constant .none j pos) (tC .non):=fun _ _ _ H _ I h=>gj ⟨.non,H,I,rfl,h⟩
theorem bC5 {x j pos}:PE X (.Constant (.str x) j pos) (tC (.str x)):=fun _ _ _ H _ I h=>Calls.Constant_str ⟨.str x,H,I.tok _,⟨_,rfl⟩,h⟩
def Gl (X:Cx)(x:Str):Prop:=X.env.kindOf x=some .globalImplicit
theorem an8 {E:Value->ac->Prop}{y:List (Addr×Obj)}{s:ac}{σ:St}{H:Hp}{x:Str}{u:Value}{pos:Pos}{Q:Value->ac->Prop}(I:Inv X y σ H s)(C:Gl X x)(z:X.mg x=some u)(h:Q u s)
  (hd:(x==("__debug__":Str))=false:=by decide):wpAny (model X.prog X.w) X.A (eval (.Name x pos) X.env) Q E s :=
 dU I.ok.kind C (Calls.loadGlobal_global (by rw[I.ok.glob];exact I.mod.glob.keeps I.bk) z h) hd
theorem ai6 {E:Value->ac->Prop}{y:List (Addr×Obj)}{s:ac}{σ:St}{H:Hp}{x:Str}{u:Value}{pos:Pos}{Q:Value->ac->Prop}(I:Inv X y σ H s)(Y:Gl X x)(z:X.mg x=none)(G:aY x=some u)(h:Q u s)
  (hn:x ≠ "__name__":=by decide) (hd:(x==("__debug__":Str))=false:=by decide):wpAny (model X.prog X.w) X.A (eval (.Name x pos) X.env) Q E s:=by
 obtain⟨mb,J,C⟩:=I.mod.blt
 exact dU I.ok.kind Y (Calls.loadGlobal_builtin (by rw[I.ok.glob];exact I.mod.glob.keeps I.bk) z (by rw[I.ok.blt];exact J.keeps I.bk) ((C x hn).trans G) h) hd
theorem be5 {x:Str}{v:V}{u:Value}{pos:Pos}(z:Gl X x)(y:X.mg x=some u)(r:RelV v u)(hd:(x==("__debug__":Str))=false:=by decide):PE X (.Name x pos) (tC v) :=
 fun _ _ _ H _ I h=>an8 I z y ⟨v,H,I,r,h⟩ hd
theorem bm9 {x:Str}{v:V}{u:Value}{pos:Pos}(C:Gl X x)(y:X.mg x=none)(z:aY x=some u)(r:RelV v u)(hn:x ≠ "__name__":=by decide)(hd:(x==("__debug__":Str))=false:=by decide):PE X (.Name x pos) (tC v) :=
 fun _ _ _ H _ I h=>ai6 I C y z ⟨v,H,I,r,h⟩ hn hd
variable {a b:Expr} {ta tb:TE} {pos:Pos}
def PC (X:Cx)(op:CmpOp)(a b:Expr)(t:TE):Prop :=
 ∀(pins:List (Addr×Obj)) (s:ac) (σ:St) (H:Hp) (Q:VK),Inv X pins σ H s->t σ H Q ->
  wpAny (model X.prog X.w) X.A (eval a X.env) (fun v s₁=>wpAny (model X.prog X.w) X.A (eval b X.env) (fun u s₂=>wpAny (model X.prog X.w) X.A (dq op v u) (EP X pins σ Q) X.xe s₂) X.xe s₁) X.xe s
theorem aA5 (b:Expr){op:CmpOp}(h:op≠.In)(y:op≠.NotIn):cz op b=false:=by
 have e1:(op==CmpOp.In)=false:=by cases op<;>first|rfl|exact absurd rfl h
 have e2:(op==CmpOp.NotIn)=false:=by cases op<;>first|rfl|exact absurd rfl y
 cases b<;>simp[cz,e1,e2]
def bO5 (ta:TE):TE:=fun σ H Q=>ta σ H fun x H1=>Q (.bl (decide (x=.non))) H1
def bs7 (ta:TE):TE:=fun σ H Q=>ta σ H fun x H1=>Q (.bl (!decide (x=.non))) H1
theorem RelV.none_iff {x:V}{v:Value}(r:RelV x v):(v==Value.none)=decide (x=.non):=by
 cases x with
 | non=>cases r;rfl
 | bl _=>cases r;rfl
 | int _=>obtain⟨t,rfl⟩:=r;rfl
 | str _=>obtain⟨t,rfl⟩:=r;rfl
 | byt _=>obtain⟨t,rfl⟩:=r;rfl
 | flt _=>obtain⟨t,rfl⟩:=r;rfl
 | ref _=>cases r;rfl
 | ty _=>cases r;rfl
theorem ba2 {j pos'}(ha:PE X a ta):PC X .Is a (.Constant .none j pos') (bO5 ta):=by
 intro y s σ H Q I h
 refine thn (ha y s σ H _ I h) fun v s1 ⟨x,G,C,r1,z⟩=>?_
 exact gj (is_none_gen ⟨.bl _,G,C,by rw[r1.none_iff];rfl,z⟩)
theorem aI9 {j pos'}(ha:PE X a ta):PC X .IsNot a (.Constant .none j pos') (bs7 ta):=by
 intro y s σ H Q I h
 refine thn (ha y s σ H _ I h) fun v s1 ⟨x,G,C,r1,z⟩=>?_
 exact gj (isnot_none_gen ⟨.bl _,G,C,by rw[r1.none_iff];rfl,z⟩)
def tB (t:TE):TT:=fun σ H Q=>t σ H fun x H1=>∃ c,x=.bl c/\Q c H1
theorem ba6 {op:CmpOp}{t:TE}(h:PC X op a b t)(z:cz op b=false:=by first|exact aA5 _ (by decide) (by decide)|rfl):PE X (.Compare a [op] [b] pos) t:=fun y s σ H Q I hw=>wpAny_Compare1 (h y s σ H Q I hw) z
theorem aZ8 {op:CmpOp}{t:TE}(h:PC X op a b t)(z:cz op b=false:=by first|exact aA5 _ (by decide) (by decide)|rfl):PT X (.Compare a [op] [b] pos) (tB t):=by
 intro y s σ H Q I hw
 refine fH (thn (h y s σ H _ I hw) fun v s1 z=>thn z fun u s2 C=>thn C fun c s3 ⟨x,Y,J,r1,G⟩=>?_) z
 obtain⟨d,rfl,q⟩:=G
 cases r1
 exact bH ⟨Y,J,q⟩
theorem bC7 {e:Expr}{t:TE}(h:PE X e t)(G:∀ y,cV e X.env y=(do let v <- y;standAt e.pos;gM [v] (truthy v)):=by intro _;rfl):PT X e (tB t):=by
 intro z s σ H Q I hw
 refine isTrue_plain (thn (h z s σ H _ I hw) fun v s1 ⟨x,Y,J,r1,C⟩=>?_) (G _)
 obtain⟨d,rfl,q⟩:=C
 cases r1
 exact bH ⟨Y,J,q⟩
variable {tA tB':TT} {rest:List Expr}
def bO9 (t u:TT):TT:=fun σ H Q=>t σ H fun c H1=>if c=true then u σ H1 Q else Q false H1
def tOr (t u:TT):TT:=fun σ H Q=>t σ H fun c H1=>if c=true then Q true H1 else u σ H1 Q
def bO8 (t:TT):TT:=fun σ H Q=>t σ H fun c H1=>Q (!c) H1
theorem bo4 (ha:PT X a tA):PW X (.BoolOp .And [a] pos) tA:=by
 intro z y s σ H Q I h
 refine isTrue_and (thn (ha y s σ H Q I h) fun c s1 e=>?_)
 cases c with
 | true=>exact isTrue_and_nil e
 | false=>exact e
theorem bE2 (ha:PT X a tA):PW X (.BoolOp .Or [a] pos) tA:=by
 intro z y s σ H Q I h
 refine isTrue_or (thn (ha y s σ H Q I h) fun c s1 e=>?_)
 cases c with
 | false=>exact isTrue_or_nil e
 | true=>exact e
theorem ba3 (ha:PT X a tA)(hb:PW X (.BoolOp .And (b::rest) pos) tB'):PW X (.BoolOp .And (a::b::rest) pos) (bO9 tA tB'):=by
 intro J y s σ H Q I h
 refine isTrue_and (thn (ha y s σ H _ I h) fun c s1 ⟨G,C,z⟩=>?_)
 cases c with
 | true=>exact hb J y s1 σ G Q C z
 | false=>exact⟨G,C,z⟩
theorem bD8 (ha:PT X a tA)(hb:PW X (.BoolOp .Or (b::rest) pos) tB'):PW X (.BoolOp .Or (a::b::rest) pos) (tOr tA tB'):=by
 intro J y s σ H Q I h
 refine isTrue_or (thn (ha y s σ H _ I h) fun c s1 ⟨G,C,z⟩=>?_)
 cases c with
 | true=>exact⟨G,C,z⟩
 | false=>exact hb J y s1 σ G Q C z
theorem bB5 (ha:PT X a tA):PT X (.UnaryOp .Not a pos) (bO8 tA):=by
 intro y s σ H Q I h
 exact isTrue_not (ha y s σ H (fun c z=>Q (!c) z) I h)
def bD1 (ta tb:TE):TE:=fun σ H Q=>ta σ H fun x H1=>∃ c,x=.bl c/\if c=true then tb σ H1 Q else Q (.bl false) H1
def bN4 (ta tb:TE):TE:=fun σ H Q=>ta σ H fun x H1=>∃ c,x=.bl c/\if c=true then Q (.bl true) H1 else tb σ H1 Q
def bt6 (ta:TE):TE:=fun σ H Q=>ta σ H fun x H1=>∃ c,x=.bl c/\Q (.bl (!c)) H1
theorem ba5 {op}{t:TE}(h:PE X a t):PE X (.BoolOp op [a] pos) t:=fun y s σ H Q I hw=>BoolOp_one (h y s σ H Q I hw)
theorem ba9 (ha:PE X a ta)(hb:PE X (.BoolOp .And (b::rest) pos) tb):PE X (.BoolOp .And (a::b::rest) pos) (bD1 ta tb):=by
 intro y s σ H Q I h
 refine BoolOp_and (thn (ha y s σ H _ I h) fun v s1 ⟨x,G,C,r1,z⟩=>?_)
 obtain⟨c,rfl,z⟩:=z
 cases r1
 refine bH ?_
 cases c with
 | true=>exact hb y s1 σ G Q C z
 | false=>exact⟨.bl false,G,C,rfl,z⟩
theorem bw2 (ha:PE X a ta)(hb:PE X (.BoolOp .Or (b::rest) pos) tb):PE X (.BoolOp .Or (a::b::rest) pos) (bN4 ta tb):=by
 intro y s σ H Q I h
 refine BoolOp_or (thn (ha y s σ H _ I h) fun v s1 ⟨x,G,C,r1,z⟩=>?_)
 obtain⟨c,rfl,z⟩:=z
 cases r1
 refine bH ?_
 cases c with
 | false=>exact hb y s1 σ G Q C z
 | true=>exact⟨.bl true,G,C,rfl,z⟩
theorem br7 (ha:PE X a ta):PE X (.UnaryOp .Not a pos) (bt6 ta):=by
 intro y s σ H Q I h
 refine UnaryOp_ (thn (ha y s σ H _ I h) fun v s1 ⟨x,G,C,r1,z⟩=>?_)
 obtain⟨c,rfl,z⟩:=z
 cases r1
 exact not_of (bH ⟨.bl (!c),G,C,rfl,z⟩)
def tIf (t:TT)(ta tb:TE):TE:=fun σ H Q=>t σ H fun c H1=>if c=true then ta σ H1 Q else tb σ H1 Q
theorem aU9 {c:Expr}(hc:PT X c tA)(ha:PE X a ta)(hb:PE X b tb):PE X (.IfExp c a b pos) (tIf tA ta tb):=by
 intro y s σ H Q I h
 refine wpAny_IfExp (thn (hc y s σ H _ I h) fun d s1 ⟨G,C,z⟩=>?_)
 cases d with
 | true=>exact ha y s1 σ G Q C z
 | false=>exact hb y s1 σ G Q C z
end
def SqL (K:ab)(H:Hp)(a:Addr)(xs:List V):Prop :=
 Rd H a (.lst xs) \/
  ∃(o:Obj) (its:Array Value) (n:Nat),K.lookup a=some o/\o.cls=.type "list"/\o.dict=none/\o.data=.seq its n/\its.size<=aA/\Vals xs its.toList
def SqT (K:ab)(H:Hp)(a:Addr)(xs:List V):Prop :=
 Rd H a (.tup xs) \/
  ∃(o:Obj) (its:Array Value) (n:Nat),K.lookup a=some o/\o.cls=.type "tuple"/\o.data=.seq its n/\its.size<=aA/\Vals xs its.toList
noncomputable def bQ6:Value->Option V
 | .none=>some .non
 | .bool b=>some (.bl b)
 | .int i _=>some (.int i)
 | .str x _=>some (.str x)
 | .bytes b _=>some (.byt b)
 | .float b _=>some (.flt b)
 | .ref a=>some (.ref a)
 | .type n=>some (.ty n)
 | _=>none
theorem RelV.abs {x:V}{u:Value}(r:RelV x u):bQ6 u=some x:=by
 cases x with
 | non=>cases r;rfl
 | bl _=>cases r;rfl
 | int _=>obtain⟨t,rfl⟩:=r;rfl
 | str _=>obtain⟨t,rfl⟩:=r;rfl
 | byt _=>obtain⟨t,rfl⟩:=r;rfl
 | flt _=>obtain⟨t,rfl⟩:=r;rfl
 | ref _=>cases r;rfl
 | ty _=>cases r;rfl
theorem RelV.inj {x y:V}{u:Value}(r:RelV x u)(q:RelV y u):x=y:=ay (r.abs.symm.trans q.abs)
theorem Vals.inj:∀ {h ys:List V} {us:List Value},Vals h us->Vals ys us->h=ys
 | _,_,_,.nil,.nil=>rfl
 | _,_,_,.cons r t,.cons r' t'=>by rw[r.inj r',Vals.inj t t']
section
variable {X:Cx} {pins:List (Addr×Obj)} {σ:St} {H:Hp} {s:ac} {a:Addr} {xs ys:List V}
theorem SqL.of {K:ab}(h:H a=some (.lst xs)):SqL K H a xs:=.inl (.inl h)
theorem SqT.of {K:ab}(h:H a=some (.tup xs)):SqT K H a xs:=.inl (.inl h)
theorem Inv.list (I:Inv X pins σ H s)(h:SqL X.K H a xs):∃ its:List Value,Vals xs its/\PlainL s.heap a its.toArray/\xs.length<=aA:=by
 rcases h with h|⟨o,its,n,hk,hc,hd,hs,hz,r⟩
 ·obtain⟨z,its,n,r,e⟩:=h.ok I.hok
  exact⟨its,r,⟨_,n,e,rfl,rfl,rfl⟩,z⟩
 ·refine⟨its.toList,r,⟨o,n,I.kIn a o hk,hc,hd,by simpa using hs⟩,?_⟩
  have e:=r.length
  simp only[cN]at e
  omega
theorem Inv.tuple (I:Inv X pins σ H s)(h:SqT X.K H a xs):∃ its:List Value,Vals xs its/\IsTup s.heap a its.toArray/\xs.length<=aA:=by
 rcases h with h|⟨o,its,n,hk,hc,hs,hz,r⟩
 ·obtain⟨z,its,r,p⟩:=h.ok I.hok
  exact⟨its,r,p,z⟩
 ·refine⟨its.toList,r,⟨o,I.kIn a o hk,hc,n,by simpa using hs⟩,?_⟩
  have e:=r.length
  simp only[cN]at e
  omega
theorem Inv.list_inj (I:Inv X pins σ H s)(h:SqL X.K H a xs)(h':SqL X.K H a ys):xs=ys:=by
 obtain⟨its,r,⟨o,n,e,_,_,d⟩,_⟩:=I.list h
 obtain⟨its',y,⟨C,z,e',_,_,d'⟩,_⟩:=I.list h'
 rw[e]at e';cases e'
 rw[d]at d'
 injection d' with d1 _
 have:its=its':=by simpa using congrArg gN d1
 subst this
 exact r.inj y
theorem Inv.tuple_inj (I:Inv X pins σ H s)(h:SqT X.K H a xs)(h':SqT X.K H a ys):xs=ys:=by
 obtain⟨its,r,⟨o,e,_,n,d⟩,_⟩:=I.tuple h
 obtain⟨its',y,⟨C,e',_,z,d'⟩,_⟩:=I.tuple h'
 rw[e]at e';cases e'
 rw[d]at d'
 injection d' with d1 _
 have:its=its':=by simpa using congrArg gN d1
 subst this
 exact r.inj y
end
noncomputable abbrev Cx.wish (X:Cx)(E:Value->ac->Prop):Cx:={ X with xe:=E }
noncomputable abbrev Cx.nox (X:Cx):Cx:=X.wish fun _ _=>False
theorem Cx.Ok.wish {X:Cx}(ok:X.Ok)(E:Value->ac->Prop):(X.wish E).Ok :=
 ⟨ok.mod,ok.kind,ok.glob,ok.blt,ok.above,ok.inj,ok.has,ok.cab,ok.hd,ok.frames,ok.stk,ok.exf,ok.bs,ok.bsz,ok.noex,ok.exfs,ok.funs,ok.frf⟩
theorem Cx.Ok.unwish {X:Cx}{E:Value->ac->Prop}(ok:(X.wish E).Ok):X.Ok :=
 ⟨ok.mod,ok.kind,ok.glob,ok.blt,ok.above,ok.inj,ok.has,ok.cab,ok.hd,ok.frames,ok.stk,ok.exf,ok.bs,ok.bsz,ok.noex,ok.exfs,ok.funs,ok.frf⟩
section
variable {X:Cx} {pins:List (Addr×Obj)} {σ:St} {H:Hp} {s:ac} {E:Value->ac->Prop}
theorem Inv.wish (I:Inv X pins σ H s)(E:Value->ac->Prop):Inv (X.wish E) pins σ H s:=⟨I.ok.wish E,I.os,I.bare,I.base,I.loc,I.cell,I.free,I.freeC,I.pin,I.hok,I.len⟩
theorem Inv.unwish (I:Inv (X.wish E) pins σ H s):Inv X pins σ H s:=⟨I.ok.unwish,I.os,I.bare,I.base,I.loc,I.cell,I.free,I.freeC,I.pin,I.hok,I.len⟩
theorem SP.unwish {D:Ends}{f:Flow}{s':ac}(h:SP (X.wish E) pins D f s'):SP X pins D f s':=by
 cases f with
 | next=>obtain⟨σ',H',I,q⟩:=h;exact⟨σ',H',I.unwish,q⟩
 | brk=>obtain⟨σ',H',I,q⟩:=h;exact⟨σ',H',I.unwish,q⟩
 | cont=>obtain⟨σ',H',I,q⟩:=h;exact⟨σ',H',I.unwish,q⟩
 | ret u=>obtain⟨v,σ',H',I,r,q⟩:=h;exact⟨v,σ',H',I.unwish,r,q⟩
theorem PSs.nox {st:List Stmt}{t:TS}(h:PSs X.nox st t):PSs X st t:=fun y s σ H D I hw =>
 bP (h y s σ H D (I.wish _) hw) (fun _ _ q=>q.unwish) fun _ _ z=>bo z
end
section
variable {X:Cx} {st:Stmt} {rest:List Stmt} {t u:TS} {e:Expr} {te:TE} {pos:Pos}
def by7:TS:=fun D σ H=>D.nx σ H
noncomputable def bO2 (t u:TS):TS:=fun D σ H=>t { D with nx:=u D } σ H
theorem ax2:PSs X [] by7:=fun _ _ σ H _ I h=>fx ⟨σ,H,I,h⟩
theorem ag3 (G:PS X st t)(C:PSs X rest u):PSs X (st::rest) (bO2 t u):=by
 intro y s σ H D I h
 refine wpAny_execs_cons (thn (G y s σ H { D with nx:=u D } I h) fun f s1 q=>?_)
 cases f with
 | next =>
  obtain⟨σ',H',z,q⟩:=q
  exact C y s1 σ' H' D z q
 | ret v=>exact q
 | brk=>exact q
 | cont=>exact q
theorem Inv.quiet {h:List (Addr×Obj)}{σ:St}{H:Hp}{s:ac}(I:Inv X h σ H s):interactive X.env=false:=by simp[interactive,I.ok.kind]
def bu0 (te:TE):TS:=fun D σ H=>te σ H fun _ H1=>D.nx σ H1
theorem bq2 (C:PE X e te)(hs:dS e none pos.line X.env=pure false:=by rfl):PS X (.Expr e pos) (bu0 te):=by
 intro y s σ H D I h
 exact wpAny_Expr_any (thn (C y s σ H _ I h) fun v s1 ⟨x,J,G,r1,z⟩=>⟨σ,J,G,z⟩) I.quiet hs
def bN2 (te:TE):TS:=fun D σ H=>te σ H D.rt
theorem aO0 (C:PE X e te):PS X (.Return (some e) pos) (bN2 te):=by
 intro y s σ H D I h
 exact wpAny_Return_some (thn (C y s σ H _ I h) fun v s1 ⟨x,J,G,r1,z⟩=>⟨x,σ,J,G,r1,z⟩)
def bQ2 (c:TT)(t u:TS):TS:=fun D σ H=>c σ H fun b H1=>if b=true then t D σ H1 else u D σ H1
theorem bL0 {c:Expr}{a b:List Stmt}{C:TT}(hc:PT X c C)(ha:PSs X a t)(hb:PSs X b u):PS X (.If c a b pos) (bQ2 C t u):=by
 intro y s σ H D I h
 refine wpAny_If (thn (hc y s σ H _ I h) fun d s1 ⟨J,G,z⟩=>?_)
 cases d with
 | true=>exact ha y s1 σ J D G z
 | false=>exact hb y s1 σ J D G z
def bw1:TS:=fun _ _ _=>False
theorem aW7:PS X st bw1:=fun _ _ _ _ _ _ h=>h.elim
end
abbrev TG:=V->St->Hp->(St->Hp->Prop)->Prop
abbrev TGs:=List V->St->Hp->(St->Hp->Prop)->Prop
def PG (X:Cx)(target:Expr)(t:TG):Prop :=
 ∀(pins:List (Addr×Obj)) (s:ac) (σ:St) (H:Hp) (v:V) (u:Value) (Q:St->Hp->Prop),Inv X pins σ H s->RelV v u->t v σ H Q ->
  wpAny (model X.prog X.w) X.A (fe target X.env u) (fun _ s'=>∃ σ' H',Inv X pins σ' H' s'/\Q σ' H') X.xe s
def PGs (X:Cx)(ts:List Expr)(t:TGs):Prop :=
 ∀(pins:List (Addr×Obj)) (s:ac) (σ:St) (H:Hp) (vs:List V) (us:List Value) (Q:St->Hp->Prop),Inv X pins σ H s->Vals vs us->t vs σ H Q ->
  wpAny (model X.prog X.w) X.A (assignInOrder ((bV ts X.env).map (·.2)) us) (fun _ s'=>∃ σ' H',Inv X pins σ' H' s'/\Q σ' H') X.xe s
abbrev bG2:=V->V->V->Hp->(Hp->Prop)->Prop
def bL4 (X:Cx)(t:bG2):Prop :=
 ∀(pins:List (Addr×Obj)) (s:ac) (σ:St) (H:Hp) (o i v:V) (ov iv u:Value) (Q:Hp->Prop),Inv X pins σ H s->RelV o ov->RelV i iv->RelV v u->t o i v H Q ->
  wpAny (model X.prog X.w) X.A (setItem ov iv u) (fun _ s'=>∃ H',Inv X pins σ H' s'/\Q H') X.xe s
section
variable {X:Cx} {pos:Pos}
def at5 (i:Nat):TG:=fun v σ H Q=>Q (σ.set i (some v)) H
theorem aJ8 {i:Nat}{x:Str}(hN:X.N.Nodup)(hi:X.N[i]?=some x)(hx:Loc X.env.scope x)(C:X.fn x=true\/X.env.scope.names.lookup x=some .local:=by first|exact .inl rfl|exact .inr rfl|assumption):PG X (.Name x pos) (at5 i):=by
 intro y s σ H v u Q I r h
 exact gO (am0 I hN hi hx r (fun s' z=>⟨_,H,z,h⟩) C)
def bN8:TGs:=fun vs σ H Q=>vs=[]/\Q σ H
def bv3 (t:TG)(u:TGs):TGs:=fun vs σ H Q=>∃ v r,vs=v::r/\t v σ H fun σ' H'=>u r σ' H' Q
theorem bc8:PGs X [] bN8:=by
 intro y s σ H vs us Q I r h
 obtain⟨e,h⟩:=h
 subst e
 cases r
 exact assignInOrder_nil ⟨σ,H,I,h⟩
theorem aU3 {e:Expr}{es:List Expr}{t:TG}{u:TGs}(Y:PG X e t)(z:PGs X es u)
  (hs:(bV (e::es) X.env).map (·.2)=fe e X.env::(bV es X.env).map (·.2):=by rfl):PGs X (e::es) (bv3 t u):=by
 intro y s σ H vs us Q I r h
 obtain⟨v,vr,e1,h⟩:=h
 subst e1
 cases r with
 | cons r rr =>
  rw[hs]
  refine assignInOrder_cons (thn (Y y s σ H _ _ _ I r h) fun _ s1 ⟨σ1,C,J,G⟩=>?_)
  exact z y s1 σ1 C _ _ Q J rr G
def bM9 (K:ab)(n:Nat)(t:TGs):TG:=fun v σ H Q=>∃ a xs,v=.ref a/\SqT K H a xs/\xs.length=n/\t xs σ H Q
theorem bq8 {es:List Expr}{k:Nat}{t:TGs}{n:Nat}(hc:X.calm=true)(h:PGs X es t)
  (hn:(bV es X.env).length=n:=by rfl) (z:(bV es X.env).findIdx? (·.1)=none:=by rfl):PG X (.Tuple es k pos) (bM9 X.K n t):=by
 intro y s σ H v u Q I r hw
 obtain⟨a,Y,e1,hq,hl,hw⟩:=hw
 subst e1
 cases r
 obtain⟨its,C,J,hz⟩:=I.tuple hq
 refine assign_Tuple_tuple (I.ok.hd hc) J (by simp[hn,<-hl,C.length]) z fun h' hx=>?_
 have G:Inv X y σ H { s with heap:=h' }:=I.kept (t':=s.toks) fun b o e=>hx b o (aq (aw e)) e
 exact h y _ σ H Y _ Q G (by simpa using C) hw
def bN6 (to ti:TE)(t:bG2):TG:=fun v σ H Q=>to σ H fun o H1=>ti σ H1 fun i H2=>t o i v H2 fun H3=>Q σ H3
theorem bD2 {o i:Expr}{J Y:TE}{t:bG2}(ho:PE X o J)(hi:PE X i Y)(hs:bL4 X t)
  (ha:∀ v,fe (.Subscript o i pos) X.env v=(do
   let C <- gM [v] (eval o X.env)
   let G <- gM [v,C] (eval i X.env)
   standAt pos
   gM [v,C,G] (setItem C G v)
   release [v,C,G] []):=by intro _;rfl):PG X (.Subscript o i pos) (bN6 J Y t):=by
 intro z s σ H v u Q I r h
 rw[ha]
 refine ak (dw (thn (ho z s σ H _ I h) fun C s1 ⟨x,H1,I1,r1,q1⟩=>?_))
 refine ak (dw (thn (hi z s1 σ H1 _ I1 q1) fun G s2 ⟨y,H2,I2,r2,q2⟩=>?_))
 refine ak (gk (ak (dw (thn (hs z s2 σ H2 x y v C G u _ I2 r1 r2 r q2) fun _ s3 ⟨H3,I3,q3⟩=>?_))))
 exact wpAny_release ⟨σ,H3,I3,q3⟩
def aS0 (te:TE)(g:TG):TS:=fun D σ H=>te σ H fun x H1=>g x σ H1 D.nx
theorem bb1 {tg e:Expr}{z:TE}{g:TG}(J:PE X e z)(hg:PG X tg g)(hs:swapsWithSole [tg] e pos.line X.env=pure false:=by rfl)(hw:gm [tg] e X.env=pure none:=by rfl)
  (G:(bV [tg] X.env).map (·.2)=[fe tg X.env]:=by rfl):PS X (.Assign [tg] e pos) (aS0 z g):=by
 intro y s σ H D I h
 refine wpAny_Assign_stores (thn (J y s σ H _ I h) fun v s1 ⟨x,H1,Y,r1,C⟩=>?_) hs hw
 rw[G]
 exact thn (hg y s1 σ H1 x v _ Y r1 C) fun _ s2 q=>q
theorem aZ7 {i:Nat}{x:Str}{e:Expr}{G:TE}{z:Pos}(hN:X.N.Nodup)(hi:X.N[i]?=some x)(hx:Loc X.env.scope x)(he:PE X e G)(hs:dS e (some (.Name x z)) pos.line X.env=pure false:=by rfl)(hf:X.fn x=true\/X.env.scope.names.lookup x=some .local:=by first|exact .inl rfl|exact .inr rfl|assumption) :
  PS X (.Assign [.Name x z] e pos) (aS0 G (at5 i)):=by
 intro C s σ H D I h
 refine wpAny_Assign_Name (thn (he C s σ H _ I h) fun v s1 ⟨y,J,I1,r1,Y⟩=>?_) hs
 exact am0 I1 hN hi hx r1 (fun s2 I2=>⟨_,J,I2,Y⟩) hf
end
section
variable {X:Cx} {pos:Pos}
def aY9 (c:TT)(tb:TS):TS:=fun D σ H=>∃ W:Nat->St->Hp->Prop,(∃ m,W m σ H)/\∀ m σ H,W m σ H ->
 c σ H fun b H1=>if b=true then ∃ N:St->Hp->Prop,(∀ σ' H',N σ' H'->∃ m',m'<m/\W m' σ' H')/\tb { D with nx:=N,ct:=N,bk:=D.nx } σ H1 else D.nx σ H1
theorem aR1 {c:Expr}{body:List Stmt}{tc:TT}{tb:TS}(hp:PassesOwn (model X.prog X.w) X.A X.env X.xe)(hc:PT X c tc)(hb:PSs X body tb):PS X (.While c body [] pos) (aY9 tc tb):=by
 intro y s σ H D I h
 obtain⟨W,⟨m0,w0⟩,turn⟩:=h
 refine wpAny_While (codeAny_whileLoop (fun n s'=>∃ σ' H',Inv X y σ' H' s'/\W n σ' H') ?_ m0 ⟨σ,H,I,w0⟩)
 rintro n s1 ⟨σ1,H1,I1,w1⟩
 refine bZ hp (thn (hc y s1 σ1 H1 _ I1 (turn n σ1 H1 w1)) fun b s2 ⟨H2,I2,q2⟩=>?_)
 cases b with
 | true =>
  obtain⟨N,hN,q2⟩:=q2
  rw[if_pos rfl]
  refine bZ hp (thn (hb y s2 σ1 H2 _ I2 q2) fun f s3 q3=>?_)
  cases f with
  | next =>
   obtain⟨σ3,z,G,C⟩:=q3
   obtain⟨m',J,Y⟩:=hN σ3 z C
   exact⟨m',J,σ3,z,G,Y⟩
  | cont =>
   obtain⟨σ3,z,G,C⟩:=q3
   obtain⟨m',J,Y⟩:=hN σ3 z C
   exact⟨m',J,σ3,z,G,Y⟩
  | brk=>exact q3
  | ret v=>exact q3
 | false =>
  rw[if_neg aN]
  exact fx ⟨σ1,H2,I2,q2⟩
end
structure It where
 go:Nat->Hp->Prop
 yld:Nat->Hp->V->Hp->Prop
 stop:Nat->Hp->Prop
def FpOk (X:Cx)(pins:List (Addr×Obj))(H:Hp)(b:Addr):Prop :=
 H b=none/\b≠X.env.locals/\b ∉ X.fs/\(b∈X.ex\/X.s₀.heap.objs.size<=b)/\(∀ x c,X.env.cells.lookup x=some c->c≠b)/\∀ p∈X.pn++pins,p.1≠b
theorem Inv.fpOk {X:Cx}{h:List (Addr×Obj)}{σ:St}{H H':Hp}{s:ac}{b:Addr}(I:Inv X h σ H s)(hb:s.heap.objs.size<=b)(hn:H' b=none):FpOk X h H' b:=by
 refine⟨hn,cJ (ah I.lt hb),I.nofs hb,.inr (am I.sz hb),fun x c e z=>?_,fun p y z=>?_⟩
 ·obtain⟨v,q⟩:=I.cell x c e
  exact absurd (ah q.lt (by rw[z];exact hb)) (bf _)
 ·exact absurd (ah (aw (I.pin p y).1) (by rw[z];exact hb)) (bf _)
structure Turn (P:aD)(w:World)(K:ab)(tg:Expr)(J:It)(fp:List Addr)(it:Addr)(tn:Nat->Heap->Prop):Prop where
 mem:it∈fp
 obj:∀ i h,tn i h->∀ b∈fp,∃ o,h.get? b=some o/\∀ v,o.data≠.cell v
 keep:∀ i h h',tn i h->(∀ b∈fp,∀ o,h.get? b=some o->h'.get? b=some o)->tn i h'
 item:∀(X:Cx),X.prog=P->X.w=w->X.K=K->X.calm=true->∀(i:Nat) (pins:List (Addr×Obj)) (s:ac) (σ:St) (H:Hp) (E:Value->ac->Prop),Inv X pins σ H s->(∀ b∈fp,FpOk X pins H b)->tn i s.heap->J.go i H ->
  wpAny (model P w) X.A (g6 (.ref it)) (fun r s1=>∃ u,r=some u /\
   wpAny (model P w) X.A (dH tg (.ref it) u) (fun _ s2=>∃ x H',Inv X pins σ H' s2/\RelV x u/\J.yld i H x H'/\tn (i+1) s2.heap/\∀ b∈fp,H' b=none) E s1) E s
 done:∀(X:Cx),X.prog=P->X.w=w->X.K=K->X.calm=true->∀(i:Nat) (pins:List (Addr×Obj)) (s:ac) (σ:St) (H:Hp) (E:Value->ac->Prop),Inv X pins σ H s->(∀ b∈fp,FpOk X pins H b)->tn i s.heap->J.stop i H ->
  wpAny (model P w) X.A (g6 (.ref it)) (fun r s1=>r=none/\Inv X pins σ H s1) E s
 self:∀(A:aP) (i:Nat) (s:ac) (Q:Value->ac->Prop) (E:Value->ac->Prop),tn i s.heap->Q (.ref it) s->wpAny (model P w) A (iY (.ref it)) Q E s
abbrev TI:=St->Hp->(It->Hp->Prop)->Prop
def PIE (X:Cx)(pins:List (Addr×Obj))(σ:St)(tg:Expr)(R:It->Hp->Prop)(itv:Value)(s2:ac):Prop :=
 ∃(it:Addr) (fp:List Addr) (tn:Nat->Heap->Prop) (J:It) (H':Hp),itv=.ref it/\Inv X pins σ H' s2/\Turn X.prog X.w X.K tg J fp it tn/\tn 0 s2.heap/\(∀ b∈fp,FpOk X pins H' b)/\R J H'
def PI (X:Cx)(tg iter:Expr)(wi:TI):Prop :=
 ∀(pins:List (Addr×Obj)) (s:ac) (σ:St) (H:Hp) (R:It->Hp->Prop),Inv X pins σ H s->wi σ H R ->
  wpAny (model X.prog X.w) X.A (eval iter X.env) (fun v s1=>wpAny (model X.prog X.w) X.A (iY v) (PIE X pins σ tg R) X.xe s1) X.xe s
theorem aS9 {M : Model} {A : Around} {E : Value -> Shared -> Prop} {s : Shared} {tg : Expr} {it : Addr} {u : Value} {o : Obj} {n : String} {vs : Array Value} {Q : Unit -> Shared -> Prop} (ho : s.heap.get? it = some o) (hc : o.cls = .type n) (hd : o.data = .fields vs)
    (hn : ["enumerate", "zip", "dict_itemiterator", "dict_reverseitemiterator", "odict_iterator", "itertools.zip_longest", "itertools.pairwise"].contains n = false) (hQ : Q () s) : wpAny M A (dH tg (.ref it) u) Q E s := by
  unfold dH
  cases tg <;> first
    | exact aJ hQ
    | (cases u <;> first
        | exact aJ hQ
        | (refine ak (wpAny_load ho ?_)
           rw[hc, hd]
           show wpAny M A (if(["enumerate", "zip", "dict_itemiterator", "dict_reverseitemiterator", "odict_iterator", "itertools.zip_longest", "itertools.pairwise"].contains n && vs[0]? == some (b9 _)) = true then _ else _) Q E s
           rw[if_neg (by intro h; rw[hn, Bool.false_and]at h; cases h)]
           exact aJ hQ))
noncomputable def Itl (K:ab)(a:Addr):It :=
 ⟨fun i H=>∃ xs x,SqL K H a xs/\xs[i]?=some x,fun i H x H'=>H'=H/\∀ xs,SqL K H a xs->xs[i]?=some x,fun i H=>∃ xs,SqL K H a xs/\xs.length<=i⟩
noncomputable def Itt (K:ab)(a:Addr):It :=
 ⟨fun i H=>∃ xs x,SqT K H a xs/\xs[i]?=some x,fun i H x H'=>H'=H/\∀ xs,SqT K H a xs->xs[i]?=some x,fun i H=>∃ xs,SqT K H a xs/\xs.length<=i⟩
noncomputable def Itr (lo:Int)(n:Nat):It:=⟨fun i _=>i<n,fun i H x H'=>H'=H/\x=.int (lo+i),fun i _=>n<=i⟩
theorem aP2 {P:aD}{w:World}{K:ab}{tg:Expr}(a it:Addr):Turn P w K tg (Itl K a) [it] it (fun i h=>h.IsListIter it a i) where
 mem:=by simp
 obj:=fun i h st b hb=>by
  have e:b=it:=by simpa using hb
  subst e
  obtain⟨o,e,c,d⟩:=st
  exact⟨o,e,fun v z=>by rw[d]at z;cases z⟩
 keep:=fun i h h' st k=>st.at fun o e=>k it (by simp) o e
 item:=by
  intro X hP hw hK hc i y s σ H E I G st hg
  subst hP hw hK
  obtain⟨xs,x,hq,hx⟩:=hg
  obtain⟨its,rv,p,hz⟩:=I.list hq
  obtain⟨u,hu,ru⟩:=rv.get hx
  obtain⟨J,f1,f2,f3,f4,Y⟩:=G it (by simp)
  refine wpAny_pyNext_list_item st p.isList (x:=u) (by simpa using hu) fun h' C sb=>?_
  have I1:Inv X y σ H { s with heap:=h' }:=I.turned (t':=s.toks) (fun b o hb e=>(sb.2 b hb).trans e) J f1 f3 f4 Y
  obtain⟨o,e,c,d⟩:=id C
  exact⟨u,rfl,aS9 (s:={ s with heap:=h' }) e c d (by decide) ⟨x,H,I1,ru,⟨rfl,fun ys hy=>by rw[I.list_inj hy hq];exact hx⟩,C,fun b hb=>(G b hb).1⟩⟩
 done:=by
  intro X hP hw hK hc i y s σ H E I G st hg
  subst hP hw hK
  obtain⟨xs,hq,hx⟩:=hg
  obtain⟨its,rv,p,hz⟩:=I.list hq
  obtain⟨J,f1,f2,f3,f4,Y⟩:=G it (by simp)
  have hl:=rv.length
  exact wpAny_pyNext_list_end (I.ok.hd hc) st p.isList (by simp;omega) fun h' eb=>⟨rfl,I.turned (t':=s.toks) (fun b o hb e=>eb b o hb e) J f1 f3 f4 Y⟩
 self:=fun _ _ _ _ _ st h=>wpAny_pyIter_listiter st h
theorem aE3 {P:aD}{w:World}{K:ab}{tg:Expr}(a it:Addr):Turn P w K tg (Itt K a) [it] it (fun i h=>h.IsTupleIter it a i) where
 mem:=by simp
 obj:=fun i h st b hb=>by
  have e:b=it:=by simpa using hb
  subst e
  obtain⟨o,e,c,d⟩:=st
  exact⟨o,e,fun v z=>by rw[d]at z;cases z⟩
 keep:=fun i h h' st k=>st.at fun o e=>k it (by simp) o e
 item:=by
  intro X hP hw hK hc i y s σ H E I G st hg
  subst hP hw hK
  obtain⟨xs,x,hq,hx⟩:=hg
  obtain⟨its,rv,p,hz⟩:=I.tuple hq
  obtain⟨u,hu,ru⟩:=rv.get hx
  obtain⟨J,f1,f2,f3,f4,Y⟩:=G it (by simp)
  refine wpAny_pyNext_tuple_item st (show s.heap.IsTuple a its.toArray from p) (x:=u) (by simpa using hu) fun h' C sb=>?_
  have I1:Inv X y σ H { s with heap:=h' }:=I.turned (t':=s.toks) (fun b o hb e=>(sb.2 b hb).trans e) J f1 f3 f4 Y
  obtain⟨o,e,c,d⟩:=id C
  exact⟨u,rfl,aS9 (s:={ s with heap:=h' }) e c d (by decide) ⟨x,H,I1,ru,⟨rfl,fun ys hy=>by rw[I.tuple_inj hy hq];exact hx⟩,C,fun b hb=>(G b hb).1⟩⟩
 done:=by
  intro X hP hw hK hc i y s σ H E I G st hg
  subst hP hw hK
  obtain⟨xs,hq,hx⟩:=hg
  obtain⟨its,rv,p,hz⟩:=I.tuple hq
  obtain⟨J,f1,f2,f3,f4,Y⟩:=G it (by simp)
  have hl:=rv.length
  exact wpAny_pyNext_tuple_end (I.ok.hd hc) st (show s.heap.IsTuple a its.toArray from p) (by simp;omega) fun h' eb=>⟨rfl,I.turned (t':=s.toks) (fun b o hb e=>eb b o hb e) J f1 f3 f4 Y⟩
 self:=fun _ _ _ _ _ st h=>wpAny_pyIter_tupleiter st h
theorem aD4 {P:aD}{w:World}{K:ab}{tg:Expr}(it:Addr)(lo:Int)(n:Nat):Turn P w K tg (Itr lo n) [it] it (fun i h=>IsRangeIter h it (lo+(i:Nat)*1) ((n:Int) - (i:Nat)) 1) where
 mem:=by simp
 obj:=fun i h st b hb=>by
  have e:b=it:=by simpa using hb
  subst e
  exact⟨_,st,fun v z=>by
   have z':Data.fields _=Data.cell v:=z
   cases z'⟩
 keep:=fun i h h' st k=>k it (by simp) _ st
 item:=by
  intro X hP hw hK hc i y s σ H E I G st hg
  subst hP hw hK
  obtain⟨J,f1,f2,f3,f4,Y⟩:=G it (by simp)
  have W:=Walks.range (prog:=X.prog) (w:=X.w) (I.ok.hd hc) it lo 1 n
  refine W.item i s _ _ hg st fun v h' tk hv C kk=>?_
  obtain⟨t,rfl⟩:=hv
  have I1:Inv X y σ H { s with heap:=h',toks:=tk }:=I.turned (fun b o hb e=>kk b o (by simpa using hb) e) J f1 f3 f4 Y
  refine⟨_,rfl,aS9 (s:={ s with heap:=h',toks:=tk }) (n := "range_iterator") C rfl rfl (by decide) ⟨.int (lo+i),H,I1,⟨t,?_⟩,⟨rfl,rfl⟩,C,fun b hb=>(G b hb).1⟩⟩
  rw[Int.mul_one]
 done:=by
  intro X hP hw hK hc i y s σ H E I G st hg
  subst hP hw hK
  obtain⟨J,f1,f2,f3,f4,Y⟩:=G it (by simp)
  exact wpAny_pyNext_range_end (I.ok.hd hc) st (by have:n<=i:=hg;omega) fun h' eb=>⟨rfl,I.turned (t':=s.toks) (fun b o hb e=>eb b o hb e) J f1 f3 f4 Y⟩
 self:=fun _ _ _ _ _ st h=>wpAny_pyIter_rangeiter st h
section
variable {X:Cx} {tg:Expr}
def bj2 (K:ab)(tl:TE):TI:=fun σ H R=>tl σ H fun x H1=>∃ a,x=.ref a/\(∃ xs,SqL K H1 a xs)/\R (Itl K a) H1
def bG4 (K:ab)(tl:TE):TI:=fun σ H R=>tl σ H fun x H1=>∃ a,x=.ref a/\(∃ xs,SqT K H1 a xs)/\R (Itt K a) H1
theorem bo3 {l:Expr}{C:TE}(hl:PE X l C):PI X tg l (bj2 X.K C):=by
 intro y s σ H R I h
 refine thn (hl y s σ H _ I h) fun v s1 ⟨x,G,z,r1,J⟩=>?_
 obtain⟨a,e,⟨xs,hq⟩,q⟩:=J
 subst e
 cases r1
 obtain⟨its,Y,p,hz⟩:=z.list hq
 refine cC p.isList ?_
 refine⟨s1.heap.objs.size,[s1.heap.objs.size],_,_,G,rfl,z.kept (t':=s1.toks) fun b o e=>af _ e,aP2 a _,⟨_,aF _ rfl,rfl,rfl⟩,fun b hb=>?_,q⟩
 have e:b=s1.heap.objs.size:=by simpa using hb
 subst e
 exact z.fpOk (ai _) (z.hok.fresh (ai _))
theorem bD6 {l:Expr}{C:TE}(hl:PE X l C):PI X tg l (bG4 X.K C):=by
 intro y s σ H R I h
 refine thn (hl y s σ H _ I h) fun v s1 ⟨x,G,z,r1,J⟩=>?_
 obtain⟨a,e,⟨xs,hq⟩,q⟩:=J
 subst e
 cases r1
 obtain⟨its,Y,p,hz⟩:=z.tuple hq
 refine gz (show s1.heap.IsTuple a its.toArray from p) ?_
 refine⟨s1.heap.objs.size,[s1.heap.objs.size],_,_,G,rfl,z.kept (t':=s1.toks) fun b o e=>af _ e,aE3 a _,⟨_,aF _ rfl,rfl,rfl⟩,fun b hb=>?_,q⟩
 have e:b=s1.heap.objs.size:=by simpa using hb
 subst e
 exact z.fpOk (ai _) (z.hok.fresh (ai _))
theorem aQ8 {h:List (Addr×Obj)}{σ:St}{H:Hp}{s:ac}{R:It->Hp->Prop}{E:Value->ac->Prop}{lo hi:Int}{t u v:Tok}{tk:Nat}(I:Inv X h σ H s)(J:-(2^62)<=lo)(z:lo<2^62)(G:-(2^62)<=hi)(C:hi<2^62)
  (q:R (Itr lo (hi - lo).toNat) H):wpAny (model X.prog X.w) X.A (iY (.ref s.heap.objs.size)) (PIE X h σ tg R) E { s with heap:=s.heap.push { cls:=.type "range",data:=.fields #[.int lo t,.int hi u,.int 1 v] },toks:=tk }:=by
 refine wpAny_pyIter_range (je ..) (small_one J z G C) ?_
 have y:Inv X h σ H { s with heap:=s.heap.push { cls:=.type "range",data:=.fields #[.int lo t,.int hi u,.int 1 v] },toks:=tk }:=I.kept fun b o e=>af _ e
 refine⟨(s.heap.push { cls:=.type "range",data:=.fields #[.int lo t,.int hi u,.int 1 v] }).objs.size,[(s.heap.push { cls:=.type "range",data:=.fields #[.int lo t,.int hi u,.int 1 v] }).objs.size],_,_,H,rfl,
  y.kept (t':=tk) fun b o e=>af _ e,aD4 _ lo (hi - lo).toNat,?_,fun b hb=>?_,q⟩
 ·have e1:lo+((0:Nat):Int)*1=lo:=by simp
  have e2:(((hi - lo).toNat:Nat):Int) - ((0:Nat):Int)=eQ lo hi 1:=by rw[rangeSize_one];split<;>omega
  show IsRangeIter _ _ (lo+((0:Nat):Int)*1) ((((hi - lo).toNat:Nat):Int) - ((0:Nat):Int)) 1
  rw[e1,e2]
  exact aF _ rfl
 ·have e:b=(s.heap.push { cls:=.type "range",data:=.fields #[.int lo t,.int hi u,.int 1 v] }).objs.size:=by simpa using hb
  subst e
  exact y.fpOk (ai _) (y.hok.fresh (ai _))
def bA4 (ta:TA):TI:=fun σ H R=>ta σ H fun vs H1=>∃ j:Int,vs=[.int j]/\-(2^62)<=j/\j<2^62/\R (Itr 0 j.toNat) H1
theorem aI8 {a:Expr}{C:TA}{p pos:Pos}(Y:Gl X "range")(G:X.mg "range"=none)(ha:PA X [a] C)(hs:aW [a] X.env=[(false,eval a X.env)]:=by rfl):PI X tg (.Call (.Name "range" p) [a] [] pos) (bA4 C):=by
 intro y s σ H R I h
 refine Call_ (ai6 I Y G boot_range (bS (thn (ha pos y s σ H _ I h) fun us s1 ⟨vs,H1,J,r1,z⟩=>?_) hs rfl))
 obtain⟨j,e,z,q2,q⟩:=z
 subst e
 cases r1 with
 | cons r rr =>
  cases rr
  obtain⟨t,rfl⟩:=r
  exact call_range_1 (aQ8 J (by omega) (by omega) z q2 (by simpa using q))
def bO1 (wi:TI)(g:TG)(tb:TS):TS:=fun D σ H=>wi σ H fun J H1=>∃ W:Nat->Nat->St->Hp->Prop,(∃ m,W 0 m σ H1)/\∀ i m σ H,W i m σ H ->
 (J.stop i H/\D.nx σ H)\/(J.go i H/\∃ N:St->Hp->Prop,(∀ σ' H',N σ' H'->∃ m',m'<m/\W (i+1) m' σ' H')/\∀ x H',J.yld i H x H'->g x σ H' fun σ2 H2=>tb { D with nx:=N,ct:=N,bk:=D.nx } σ2 H2)
noncomputable def ap7 (fp:List Addr)(h:Heap):List (Addr×Obj):=fp.filterMap fun b=>(h.get? b).map fun o=>(b,o)
theorem qA {y:List Addr}{h:Heap}{b:Addr}{o:Obj}(hb:b∈y)(e:h.get? b=some o):(b,o)∈ap7 y h:=cc.mpr ⟨b,hb,by rw[e];rfl⟩
theorem aO8 {y:List Addr}{h:Heap}{p:Addr×Obj}(z:p∈ap7 y h):p.1∈y/\h.get? p.1=some p.2:=by
 obtain⟨b,hb,e⟩:=cc.mp z
 cases q:h.get? b with
 | none=>rw[q]at e;cases e
 | some o =>
  rw[q]at e
  have e':(b,o)=p:=ay e
  subst e'
  exact⟨hb,q⟩
theorem Inv.pinned {h:List (Addr×Obj)}{σ:St}{H:Hp}{s:ac}{y:List Addr}(I:Inv X h σ H s)(G:∀ b∈y,FpOk X h H b)(ho:∀ b∈y,∃ o,s.heap.get? b=some o/\∀ v,o.data≠.cell v):Inv X (h++ap7 y s.heap) σ H s :=
 I.pins_of fun p C=>(cq.mp C).elim (fun z=>I.pin p (a9 _ z)) fun z=>by
  obtain⟨hb,e⟩:=aO8 z
  obtain⟨J,f1,Y,_⟩:=G p.1 hb
  obtain⟨o,e',d⟩:=ho p.1 hb
  rw[e]at e';cases e'
  exact⟨e,J,f1,Y,d⟩
theorem Inv.unpinned {h y:List (Addr×Obj)}{σ:St}{H:Hp}{s:ac}(I:Inv X (h++y) σ H s):Inv X h σ H s:=I.pins_of fun p z=>I.pin p (a9 _ (fO _ z))
theorem bu4 {iter:Expr}{body:List Stmt}{wi:TI}{g:TG}{tb:TS}{pos:Pos}(hp:PassesOwn (model X.prog X.w) X.A X.env X.xe)(hc:X.calm=true)(hi:PI X tg iter wi)(hg:PG X tg g)(hb:PSs X body tb)
  (hs:∀ x,cD iter X.env x=pure x:=by intro _;rfl):PS X (.For tg iter body [] pos) (bO1 wi g tb):=by
 intro y s σ H D I h
 refine wpAny_For (thn (hi y s σ H _ I h) fun v s1 h1=>thn h1 fun a6 s2 h2=>?_) hs
 obtain⟨it,fp,tn,J,H2,e,I2,T,a5,f2,W,⟨m0,w0⟩,turn⟩:=h2
 subst e
 have C:∀ {H':Hp},(∀ b∈fp,H' b=none)->∀ b∈fp,FpOk X y H' b:=fun hn b hb=>⟨hn b hb,(f2 b hb).2⟩
 refine codeAny_forLoop_any (fun n s'=>∃ i σ' H',Inv X y σ' H' s'/\tn i s'.heap/\(∀ b∈fp,H' b=none)/\W i n σ' H') ?_ m0 ⟨0,σ,H2,I2,a5,fun b hb=>(f2 b hb).1,w0⟩
 rintro n s3 ⟨i,σ3,H3,I3,a2,a1,w3⟩
 rcases turn i n σ3 H3 w3 with⟨stop,qn⟩|⟨go,N,hN,step⟩
 ·refine bZ hp (thn (T.done X rfl rfl rfl hc i y s3 σ3 H3 X.xe I3 (C a1) a2 stop) fun r s4 ⟨hr,I4⟩=>?_)
  subst hr
  exact fx ⟨σ3,H3,I4,qn⟩
 ·refine bZ hp (thn (T.item X rfl rfl rfl hc i y s3 σ3 H3 X.xe I3 (C a1) a2 go) fun r s4 ⟨u,hr,h4⟩=>?_)
  subst hr
  refine bZ hp (thn h4 fun _ s5 ⟨x,H5,I5,r5,y5,a0,a3⟩=>?_)
  have a4:=I5.pinned (C a3) (T.obj _ _ a0)
  refine bZ hp (thn (hg _ s5 σ3 H5 x u _ a4 r5 (step x H5 y5)) fun _ s6 ⟨σ6,H6,I6,q6⟩=>?_)
  refine bZ hp (thn (hb _ s6 σ6 H6 _ I6 q6) fun f s7 q7=>?_)
  have G:∀ {σ7:St} {z:Hp},Inv X (y++ap7 fp s5.heap) σ7 z s7->N σ7 z->∃ m,m<n/\∃ i σ' H',Inv X y σ' H' s7/\tn i s7.heap/\(∀ b∈fp,H' b=none)/\W i m σ' H':=fun {σ7 z} Y n7=>by
   obtain⟨m',hm,w7⟩:=hN σ7 z n7
   refine⟨m',hm,i+1,σ7,z,Y.unpinned,T.keep _ _ _ a0 fun b hb o e=>(Y.pin (b,o) (a9 _ (a9 _ (qA hb e)))).1,fun b hb=>?_,w7⟩
   obtain⟨o,e,d⟩:=T.obj _ _ a0 b hb
   exact(Y.pin (b,o) (a9 _ (a9 _ (qA hb e)))).2.1
  cases f with
  | next=>obtain⟨σ7,z,Y,n7⟩:=q7;exact G Y n7
  | cont=>obtain⟨σ7,z,Y,n7⟩:=q7;exact G Y n7
  | brk=>obtain⟨σ7,z,Y,q7⟩:=q7;exact⟨σ7,z,Y.unpinned,q7⟩
  | ret v=>obtain⟨x7,σ7,z,Y,r7,q7⟩:=q7;exact⟨x7,σ7,z,Y.unpinned,r7,q7⟩
end
abbrev R2:=V->V->Hp->VK->Prop
def OpR (X:Cx)(f:Value->Value->Sem Value)(r:R2):Prop :=
 ∀(pins:List (Addr×Obj)) (s:ac) (σ:St) (H:Hp) (x y:V) (v u:Value) (Q:VK),Inv X pins σ H s->RelV x v->RelV y u->r x y H Q ->
  wpAny (model X.prog X.w) X.A (f v u) (EP X pins σ Q) X.xe s
def UnR (X:Cx)(f:Value->Sem Value)(r:V->Hp->VK->Prop):Prop :=
 ∀(pins:List (Addr×Obj)) (s:ac) (σ:St) (H:Hp) (x:V) (v:Value) (Q:VK),Inv X pins σ H s->RelV x v->r x H Q ->
  wpAny (model X.prog X.w) X.A (f v) (EP X pins σ Q) X.xe s
def ab6 (X:Cx)(f:Value)(r:List V->Hp->VK->Prop):Prop :=
 ∀(pins:List (Addr×Obj)) (s:ac) (σ:St) (H:Hp) (xs:List V) (us:List Value) (Q:VK),Inv X pins σ H s->Vals xs us->r xs H Q ->
  wpAny (model X.prog X.w) X.A (call f us) (EP X pins σ Q) X.xe s
def tOp (r:R2)(ta tb:TE):TE:=fun σ H Q=>ta σ H fun x H1=>tb σ H1 fun y H2=>r x y H2 Q
def tUn (r:V->Hp->VK->Prop)(ta:TE):TE:=fun σ H Q=>ta σ H fun x H1=>r x H1 Q
def rI (C:Int->Int->Prop)(g:Int->Int->V):R2:=fun x y H Q=>∃ i j,x=.int i/\y=.int j/\C i j/\Q (g i j) H
def rI0 (g:Int->Int->V):R2:=fun x y H Q=>∃ i j,x=.int i/\y=.int j/\Q (g i j) H
def rU (g:Int->V):V->Hp->VK->Prop:=fun x H Q=>∃ i,x=.int i/\Q (g i) H
section
variable {X:Cx} {a b c:Expr} {ta tb tc:TE} {pos:Pos}
theorem bJ0 (ha:PE X a ta)(hb:PE X b tb){z:List (Addr×Obj)}{s:ac}{σ:St}{H:Hp}{R:V->V->Hp->Prop}(I:Inv X z σ H s)
  (h:ta σ H fun x C=>tb σ C fun y H2=>R x y H2) {Q:Value->ac->Prop} {f:Value->Value->Sem Value}
  (Y:∀ v u s2 x y H2,Inv X z σ H2 s2->RelV x v->RelV y u->R x y H2->wpAny (model X.prog X.w) X.A (f v u) Q X.xe s2) :
  wpAny (model X.prog X.w) X.A (eval a X.env) (fun v s₁=>wpAny (model X.prog X.w) X.A (eval b X.env) (fun u G=>wpAny (model X.prog X.w) X.A (f v u) Q X.xe G) X.xe s₁) X.xe s:=by
 refine thn (ha z s σ H _ I h) fun v s1 ⟨x,C,I1,r1,J⟩=>?_
 refine thn (hb z s1 σ C _ I1 J) fun u s2 ⟨y,H2,I2,r2,q2⟩=>?_
 exact Y v u s2 x y H2 I2 r1 r2 q2
theorem bK3 {op:Operator}{r:R2}(ho:OpR X (bI op) r)(ha:PE X a ta)(hb:PE X b tb):PE X (.BinOp a op b pos) (tOp r ta tb):=by
 intro z s σ H Q I h
 exact wpAny_BinOp (bJ0 ha hb I h fun v u s2 x y H2 I2 G C q=>ho z s2 σ H2 x y v u Q I2 G C q)
theorem bI0 {op:UnaryOp}{r:V->Hp->VK->Prop}(ho:UnR X (unaryOp op) r)(ha:PE X a ta):PE X (.UnaryOp op a pos) (tUn r ta):=by
 intro y s σ H Q I h
 exact UnaryOp_ (thn (ha y s σ H _ I h) fun v s1 ⟨x,G,C,r1,z⟩=>ho y s1 σ G x v Q C r1 z)
theorem opI {f:Value->Value->Sem Value}{C:Int->Int->Prop}{g:Int->Int->Int}
  (rule:∀(i j:Int) (t u:Tok) (s:ac) (Q:Value->ac->Prop) (E:Value->ac->Prop),C i j->Q (.int (g i j) s.toks) { s with toks:=s.toks+1 }->wpAny (model X.prog X.w) X.A (f (.int i t) (.int j u)) Q E s) :
  OpR X f (rI C fun i j=>.int (g i j)):=by
 intro z s σ H x y v u Q I G J h
 obtain⟨i,j,rfl,rfl,hc,q⟩:=h
 obtain⟨t,rfl⟩:=G
 obtain⟨t',rfl⟩:=J
 exact rule i j t t' s _ _ hc ⟨.int (g i j),H,I.tok _,⟨_,rfl⟩,q⟩
theorem bQ0 {f:Value->Value->Sem Value}{g:Int->Int->Int}
  (rule:∀(i j:Int) (t u:Tok) (s:ac) (Q:Value->ac->Prop) (E:Value->ac->Prop),Q (.int (g i j) s.toks) { s with toks:=s.toks+1 }->wpAny (model X.prog X.w) X.A (f (.int i t) (.int j u)) Q E s) :
  OpR X f (rI0 fun i j=>.int (g i j)):=by
 intro z s σ H x y v u Q I G C h
 obtain⟨i,j,rfl,rfl,q⟩:=h
 obtain⟨t,rfl⟩:=G
 obtain⟨t',rfl⟩:=C
 exact rule i j t t' s _ _ ⟨.int (g i j),H,I.tok _,⟨_,rfl⟩,q⟩
theorem bF7 {f:Value->Value->Sem Value}{g:Int->Int->Bool}
  (rule:∀(i j:Int) (t u:Tok) (s:ac) (Q:Value->ac->Prop) (E:Value->ac->Prop),Q (.bool (g i j)) s->wpAny (model X.prog X.w) X.A (f (.int i t) (.int j u)) Q E s) :
  OpR X f (rI0 fun i j=>.bl (g i j)):=by
 intro z s σ H x y v u Q I G C h
 obtain⟨i,j,rfl,rfl,q⟩:=h
 obtain⟨t,rfl⟩:=G
 obtain⟨t',rfl⟩:=C
 exact rule i j t t' s _ _ ⟨.bl (g i j),H,I,rfl,q⟩
def bO4 (i j:Int):Prop:=0<=j/\j<=1000000/\i.natAbs<2^64
def bF3 (i j:Int):Prop:=(-(2^64)<i/\i<2^64)\/(-(2^64)<j/\j<2^64)
theorem bF3.ok {i j:Int}(h:bF3 i j):IntMulOk i j:=by
 rcases h with⟨y,z⟩|⟨y,z⟩
 ·exact .of_left (intBits_le_64 y z)
 ·exact .of_right (intBits_le_64 y z)
theorem aE7 (k:Nat):(0:Int)<=2^k:=by
 rw[two_pow_cast]
 exact Int.natCast_nonneg _
theorem bz5:OpR X (bI .Add) (rI0 fun i j=>.int (i+j)):=bQ0 fun _ _ _ _ _ _ _ q=>add_int q
theorem bu5:OpR X (bI .Sub) (rI0 fun i j=>.int (i - j)):=bQ0 fun _ _ _ _ _ _ _ q=>sub_int q
theorem bz2:OpR X (bI .Mod) (rI (fun _ j=>0<j) fun i j=>.int (i % j)):=opI fun i j _ _ _ _ _ hc q=>by
 have h:(0:Int)<j:=hc
 exact mod_int' (by omega) (by rw[Int.fmod_eq_emod_of_nonneg i (by omega)];exact q)
theorem by8:OpR X (bI .Pow) (rI bO4 fun i j=>.int (i^j.toNat)):=opI fun _ _ _ _ _ _ _ hc q=>pow_int_small hc.1 hc.2.1 hc.2.2 q
theorem bu3:OpR X (bI .LShift) (rI bO4 fun i j=>.int (i*2^j.toNat)):=opI fun _ _ _ _ _ _ _ hc q=>lshift_int_small hc.1 hc.2.1 hc.2.2 q
theorem by1:OpR X (bI .RShift) (rI (fun _ j=>0<=j) fun i j=>.int (i / 2^j.toNat)):=opI fun i j _ _ _ _ _ hc q =>
 rshift_int hc (by rw[dW i (aE7 _)];exact q)
theorem unI {f:Value->Sem Value}{g:Int->Int}
  (rule:∀(i:Int) (t:Tok) (s:ac) (Q:Value->ac->Prop) (E:Value->ac->Prop),Q (.int (g i) s.toks) { s with toks:=s.toks+1 }->wpAny (model X.prog X.w) X.A (f (.int i t)) Q E s) :
  UnR X f (rU fun i=>.int (g i)):=by
 intro y s σ H x v Q I z h
 obtain⟨i,rfl,q⟩:=h
 obtain⟨t,rfl⟩:=z
 exact rule i t s _ _ ⟨.int (g i),H,I.tok _,⟨_,rfl⟩,q⟩
theorem bA2:UnR X (unaryOp .USub) (rU fun i=>.int (-i)):=unI fun _ _ _ _ _ q=>neg_int q
end
section
variable {X:Cx} {a b c:Expr} {ta tb tc:TE} {pos:Pos}
theorem bL8:OpR X (dq .Lt) (rI0 fun i j=>.bl (decide (i<j))):=bF7 fun _ _ _ _ _ _ _ q=>lt_int q
theorem bL1:OpR X (dq .LtE) (rI0 fun i j=>.bl (decide (i<=j))):=bF7 fun _ _ _ _ _ _ _ q=>le_int q
theorem bK8:OpR X (dq .Gt) (rI0 fun i j=>.bl (decide (j<i))):=bF7 fun _ _ _ _ _ _ _ q=>gt_int q
theorem bG5:OpR X (dq .GtE) (rI0 fun i j=>.bl (decide (j<=i))):=bF7 fun _ _ _ _ _ _ _ q=>ge_int q
theorem bc9 {op:CmpOp}{r:R2}(ho:OpR X (dq op) r)(ha:PE X a ta)(hb:PE X b tb)(C:cz op b=false):PE X (.Compare a [op] [b] pos) (tOp r ta tb):=by
 intro z s σ H Q I h
 exact wpAny_Compare1 (bJ0 ha hb I h fun v u s2 x y H2 I2 J G q=>ho z s2 σ H2 x y v u Q I2 J G q) C
def bA9 (t:TE):TT:=fun σ H Q=>t σ H fun x H'=>∃ k,x=.bl k/\Q k H'
theorem bd6 {op:CmpOp}{r:R2}(ho:OpR X (dq op) r)(ha:PE X a ta)(hb:PE X b tb)(hm:cz op b=false):PT X (.Compare a [op] [b] pos) (bA9 (tOp r ta tb)):=by
 intro C s σ H Q I h
 refine fH (thn (ha C s σ H _ I h) fun v s1 ⟨x,J,I1,r1,q1⟩=>thn (hb C s1 σ J _ I1 q1) fun u s2 ⟨y,H2,I2,r2,q2⟩ =>
  thn (ho C s2 σ H2 x y v u _ I2 r1 r2 q2) fun c s3 ⟨z,H3,Y,G,k,e,q3⟩=>?_) hm
 subst e
 cases G
 exact bH ⟨H3,Y,q3⟩
theorem ah5:(aA:Nat)<2^63:=by rw[cY];decide
theorem aF0:OpR X (bI .Add) (fun x y H Q=>∃ i j,x=.str i/\y=.str j/\i.length+j.length<=aA/\Q (.str (i++j)) H):=by
 intro z s σ H x y v u Q I G C h
 obtain⟨i,j,rfl,rfl,hz,q⟩:=h
 obtain⟨t,rfl⟩:=G
 obtain⟨t',rfl⟩:=C
 exact add_str (fun t' tk=>⟨.str (i++j),H,I.tok _,⟨_,rfl⟩,q⟩) hz
theorem af4 {x:V}{us:List Value}(r:Vals [x] us):∃ u,us=[u]/\RelV x u:=by
 cases r with
 | cons r1 r2=>cases r2;exact⟨_,rfl,r1⟩
theorem bm4 {x y:V}{us:List Value}(r:Vals [x,y] us):∃ u h,us=[u,h]/\RelV x u/\RelV y h:=by
 cases r with
 | cons r1 r2 =>
  cases r2 with
  | cons r3 r4=>cases r4;exact⟨_,_,rfl,r1,r3⟩
theorem aX2:ab6 X (.builtin "abs") (fun z H Q=>∃ i,z=[.int i]/\Q (.int (if i<0 then -i else i)) H):=by
 intro y s σ H z us Q I r h
 obtain⟨i,rfl,q⟩:=h
 obtain⟨u,rfl,t,rfl⟩:=af4 r
 exact call_abs_int fun u tk=>⟨.int (if i<0 then -i else i),H,I.tok _,⟨_,rfl⟩,q⟩
theorem aH0 (hc:X.calm=true):ab6 X (.builtin "max") (fun z H Q=>∃ i j,z=[.int i,.int j]/\Q (.int (if j > i then j else i)) H):=by
 intro y s σ H z us Q I r h
 obtain⟨i,j,rfl,q⟩:=h
 obtain⟨u,C,rfl,⟨t,rfl⟩,⟨t',rfl⟩⟩:=bm4 r
 refine max_two_ints (I.ok.hd hc) fun h' tk k=>⟨_,H,I.kept k,?_,q⟩
 by_cases hj:j > i
 ·rw[if_pos hj,if_pos hj];exact⟨_,rfl⟩
 ·rw[if_neg hj,if_neg hj];exact⟨_,rfl⟩
theorem aJ4 (hc:X.calm=true):ab6 X (.builtin "min") (fun z H Q=>∃ i j,z=[.int i,.int j]/\Q (.int (if j<i then j else i)) H):=by
 intro y s σ H z us Q I r h
 obtain⟨i,j,rfl,q⟩:=h
 obtain⟨u,C,rfl,⟨t,rfl⟩,⟨t',rfl⟩⟩:=bm4 r
 refine min_two_ints (I.ok.hd hc) fun h' tk k=>⟨_,H,I.kept k,?_,q⟩
 by_cases hj:j<i
 ·rw[if_pos hj,if_pos hj];exact⟨_,rfl⟩
 ·rw[if_neg hj,if_neg hj];exact⟨_,rfl⟩
theorem aJ5:ab6 X (.type "int") (fun y H Q=>(∃ i,y=[.int i]/\Q (.int i) H)\/∃ k,y=[.bl k]/\Q (.int (if k then 1 else 0)) H):=by
 intro z s σ H y us Q I r h
 rcases h with⟨i,rfl,q⟩|⟨k,rfl,q⟩
 ·obtain⟨u,rfl,t,rfl⟩:=af4 r
  exact call_int_int ⟨.int i,H,I,⟨_,rfl⟩,q⟩
 ·obtain⟨u,rfl,r1⟩:=af4 r
  cases r1
  exact call_int_bool ⟨.int (if k then 1 else 0),H,I.tok _,⟨_,rfl⟩,q⟩
end
structure ObjM (h:Heap)(x dx C:Addr)(mA:Str->Option Value):Prop where
 obj:h.get? x=some (fw C dx)
 ns:h.Ns1 dx mA
 ne:dx≠x
theorem aL9 {h:Heap}{G:Addr}{J:Str->Option Value}(n:h.Ns1 G J):∃ od,h.get? G=some od/\∀ name,fR name od=some (J name):=by
 obtain⟨o,es,ep,ho,hd,hk,_,Y⟩:=n
 refine⟨o,ho,fun name=>?_⟩
 have e:=Y name
 unfold nsFind findBy at e
 rw[<-Array.find?_toList]at e
 unfold fR
 rw[hd]
 dsimp only
 split
 ·rename_i y q
  rw[q]at e
  exact congrArg some e
 ·rename_i q
  rw[q]at e
  have a:es.toList.any (·.refKey)=false:=by
   rw[List.any_eq_false]
   intro y hy
   obtain⟨z,t,C⟩:=hk y (Array.mem_toList_iff.mp hy)
   simp[DictEntry.refKey,C]
  have a':¬ es.toList.any (·.refKey)=true:=by rw[a];exact aN
  rw[if_neg a']
  exact congrArg some e
theorem ObjM.look {h:Heap}{x y C:Addr}{z:Str->Option Value}(I:ObjM h x y C z):∃ od,PySem.W.InstAt h x (fw C y) C (some od)/\∀ name,fR name od=some (z name) :=
 let⟨od,ho,hl⟩:=aL9 I.ns
 ⟨od,⟨I.obj,rfl,rfl,ho⟩,hl⟩
section
variable {prog:aD} {w:World} {A:aP} {E:Value->ac->Prop} {s:ac} {K:ab} {x dx C f:Addr} {mA:Str->Option Value} {name:Str} {v:Value}
end
theorem aE9.some_of {v:V}{o:Option Value}(r:aE9 (some v) o):∃ u,o=some u/\RelV v u:=by
 cases o with
 | none=>exact(show False from r).elim
 | some u=>exact⟨u,rfl,r⟩
section
variable {P:aD} {w:World} {H H':Hp} {h h':Heap} {a C dx:Addr} {fs fs':List (Str×V)}
theorem bp3 (hok:HOk P w H h)(e:H a=some (.ins C dx fs)):∃ y,ObjM h a dx C y/\(∀ f,aE9 (fs.lookup f) (y f))/\iX y (fs.map (·.1))/\fs.length<=1000/\H dx=some (.own a):=by
 obtain⟨d,z,ne,ob,y,n,r,q⟩:=(show ab4 P w H h a (.ins C dx fs)from hok a _ e)
 exact⟨y,⟨ob,n,ne⟩,r,q,z,d⟩
end
structure Cls (K:ab)(C:Addr):Prop where
 pg:g7 K C Str.empty=true
 hd:PySem.W.hasDictIn K C=true
 po:PySem.W.plainOver K C=true
 sa:fS K (.ref C) "__setattr__"=some (some (.builtin "object.__setattr__"))
theorem Cls.get {K:ab}{C:Addr}(c:Cls K C)(f:Str):g7 K C f=true:=c.pg
section
variable {X:Cx} {pins:List (Addr×Obj)} {σ:St} {H:Hp} {s:ac} {a C dx:Addr} {fs:List (Str×V)} {f:Str} {v:V} {A:aP} {E:Value->ac->Prop}
end
section
variable {X:Cx} {o e value:Expr} {f:Str} {pos pos' tpos:Pos} {ta tv:TE}
end
section
variable {X:Cx} {pins:List (Addr×Obj)} {σ:St} {H:Hp} {s:ac} {A:aP} {E:Value->ac->Prop} {Q:Value->ac->Prop} {c:Value} {b:Bool}
inductive TyOf (K:ab)(H:Hp):V->Value->Prop where
 | non:TyOf K H .non (.type "NoneType")
 | bl (x:Bool):TyOf K H (.bl x) (.type "bool")
 | int (i:Int):TyOf K H (.int i) (.type "int")
 | str (x:Str):TyOf K H (.str x) (.type "str")
 | flt (x:UInt64):TyOf K H (.flt x) (.type "float")
 | lst {a:Addr} {xs:List V} (e:H a=some (.lst xs)):TyOf K H (.ref a) (.type "list")
 | frz {a:Addr} {o:Obj} {xs:List V} (e:H a=some (.frz o (.lst xs))):TyOf K H (.ref a) (.type "list")
 | tup {a:Addr} {xs:List V} (e:H a=some (.tup xs)):TyOf K H (.ref a) (.type "tuple")
 | dK {a:Addr} {kvs:List (Key×V)} (e:H a=some (.dK kvs)):TyOf K H (.ref a) (.type "dict")
 | dT {a:Addr} {kvs:List (List Key×V)} (e:H a=some (.dT kvs)):TyOf K H (.ref a) (.type "dict")
 | ins {a C dx:Addr} {fs:List (Str×V)} (e:H a=some (.ins C dx fs)) (cl:Cls K C) (ha:fS K (.ref C) "__class__"=some (some (.builtin "object.__class__")))
   (hn:PySem.W.specialIn K (.builtin "object.__class__") "__get__"=some (some (.builtin "getset_descriptor.__get__"))) (htk:PySem.W.takesIn K (.builtin "object.__class__")=some true)
   (hm:PySem.W.mroIn K C (.type "object")=some true):TyOf K H (.ref a) (.ref C)
theorem qv {x:V}{u t:Value}(I:Inv X pins σ H s)(G:RelV x u)(ty:TyOf X.K H x t)(e:bW X.K t c=some b)(h:∀ tk,Q (.bool b) { s with toks:=tk }) :
  wpAny (model X.prog X.w) A (call (.builtin "isinstance") [u,c]) Q E s:=by
 cases ty with
 | non=>cases(show u=Value.none from G);exact bq PySem.W.kitx_none I.kIn True.intro e (fun z=>nomatch z) h
 | bl y=>cases(show u=Value.bool y from G);exact bq PySem.W.kitx_bool I.kIn True.intro e (fun z=>nomatch z) h
 | int i=>obtain⟨t,q⟩:=(show ∃ t,u=Value.int i t from G);cases q;exact bq PySem.W.kitx_int I.kIn True.intro e (fun z=>nomatch z) h
 | str y=>obtain⟨t,q⟩:=(show ∃ t,u=Value.str y t from G);cases q;exact bq PySem.W.kitx_str I.kIn True.intro e (fun z=>nomatch z) h
 | flt y=>obtain⟨t,q⟩:=(show ∃ t,u=Value.float y t from G);cases q;exact bq PySem.W.kitx_float I.kIn True.intro e (fun z=>nomatch z) h
 | @lst a xs ea =>
  cases(show u=Value.ref a from G)
  obtain⟨_,_,n,_,Y⟩:=(show ab4 X.prog X.w H s.heap a (.lst xs)from I.hok a _ ea)
  exact bq gP I.kIn ⟨_,Y,rfl⟩ e (fun z=>nomatch z) h
 | @frz a ob xs ea =>
  cases(show u=Value.ref a from G)
  obtain⟨_,_,_,n,_,Y⟩:=(show ab4 X.prog X.w H s.heap a (.frz ob (.lst xs))from I.hok a _ ea)
  exact bq gP I.kIn ⟨_,Y,rfl⟩ e (fun z=>nomatch z) h
 | @tup a xs ea =>
  cases(show u=Value.ref a from G)
  obtain⟨_,_,_,p⟩:=(show ab4 X.prog X.w H s.heap a (.tup xs)from I.hok a _ ea)
  obtain⟨o,Y,h2,_⟩:=p
  exact bq gA I.kIn ⟨o,Y,h2⟩ e (fun z=>nomatch z) h
 | @dK a kvs ea =>
  cases(show u=Value.ref a from G)
  obtain⟨_,_,vs,_,p⟩:=(show ab4 X.prog X.w H s.heap a (.dK kvs)from I.hok a _ ea)
  obtain⟨o,es,ep,Y,h2,_⟩:=p
  exact bq gQ I.kIn ⟨o,Y,h2.1⟩ e (fun z=>nomatch z) h
 | @dT a kvs ea =>
  cases(show u=Value.ref a from G)
  obtain⟨_,_,xs,_,o,es,ep,Y,h2,_⟩:=(show ab4 X.prog X.w H s.heap a (.dT kvs)from I.hok a _ ea)
  exact bq gQ I.kIn ⟨o,Y,h2.1⟩ e (fun z=>nomatch z) h
 | @ins a C dx fs ea cl ha hn htk hm =>
  cases(show u=Value.ref a from G)
  obtain⟨mA,O,_⟩:=bp3 I.hok ea
  obtain⟨od,J,_⟩:=O.look
  exact bq (PySem.W.kitx_own (cl.get _) cl.hd ha hn htk hm) I.kIn J e (fun z=>nomatch z) h
end
structure Room (k:Nat)(A:aP):Prop where
 hd:A.handled=none
 dp:A.depth+3*k+5<recursionLimit
 un:A.units+16*k+200<cLine
theorem Room.mono {j k:Nat}{A:aP}(r:Room k A)(h:j<=k):Room j A:=⟨r.hd,by have:=r.dp;omega,by have:=r.un;omega⟩
theorem Room.deeper {k:Nat}{A:aP}(r:Room (k+1) A)(env:Env):Room k (A.deeper env) :=
 ⟨r.hd,by have:=r.dp;show A.depth+1+3*k+5<_;omega,by have:=r.un;show A.units+3+16*k+200<_;omega⟩
theorem Room.in1 {k:Nat}{A:aP}(r:Room (k+1) A):Room k A.in1 :=
 ⟨r.hd,by have:=r.dp;show A.depth+3*k+5<_;omega,by have:=r.un;show A.units+1+16*k+200<_;omega⟩
theorem Room.depth {k:Nat}{A:aP}(r:Room k A):A.depth<recursionLimit:=by have:=r.dp;omega
theorem Room.units {k:Nat}{A:aP}(r:Room k A):A.units+64<cLine:=by have:=r.un;omega
theorem Room.units0 {k:Nat}{A:aP}(r:Room k A):A.units<cLine:=by have:=r.un;omega
def aS2:TA:=fun _ H Q=>Q [] H
def al8 (ta:TE)(tr:TA):TA:=fun σ H Q=>ta σ H fun x H1=>tr σ H1 fun xs H2=>Q (x::xs) H2
section
variable {X:Cx} {e:Expr} {es:List Expr} {te:TE} {t:TA} {pos:Pos}
theorem ac9:PA X [] aS2:=fun _ _ _ _ H Q I h=>Calls.spliced_nil ⟨[],H,I,.nil,h⟩
theorem zK (ha:PE X e te)(hr:PA X es t)(hs:aW (e::es) X.env=(false,eval e X.env)::aW es X.env:=by rfl):PA X (e::es) (al8 te t):=by
 intro pos y s σ H Q I h
 rw[hs]
 show wpAny _ _ (spliced ((false,eval e X.env)::cW pos (aW es X.env))) _ _ s
 refine gB (thn (ha y s σ H _ I h) fun u s1 ⟨x,Y,C,r1,z⟩=>?_)
 exact thn (hr pos y s1 σ Y _ C z) fun us s2 ⟨G,H2,I2,J,q2⟩=>⟨x::G,H2,I2,.cons r1 J,q2⟩
def bP7 (t:TA):TE:=fun σ H Q=>t σ H fun xs H1=>xs.length<=aA/\∀ p,H1 p=none->Q (.ref p) (upd H1 p (.tup xs))
def bR0 (t:TA):TE:=fun σ H Q=>t σ H fun xs H1=>xs.length<=aA/\∀ p,H1 p=none->Q (.ref p) (upd H1 p (.lst xs))
theorem bx2 {x1}(h:PA X es t):PE X (.Tuple es x1 pos) (bP7 t):=by
 intro y s σ H Q I hq
 refine wpAny_Tuple_spliced (thn (h pos y s σ H _ I hq) fun us s1 ⟨J,G,C,r,z,q⟩=>⟨by rw[<-r.length];exact z,?_⟩)
 have Y:G s1.heap.objs.size=none:=C.hok.fresh (ai _)
 refine⟨.ref s1.heap.objs.size,upd G s1.heap.objs.size (.tup J),C.laid (t':=s1.toks) (fun b u e=>af _ e) (ai _) ?_,rfl,q _ Y⟩
 exact⟨z,us,r,⟨_,aF _ rfl,rfl,_,rfl⟩⟩
theorem ba0 (h:PA X es t):PE X (.List es pos) (bR0 t):=by
 intro y s σ H Q I hq
 refine wpAny_List_spliced (thn (h pos y s σ H _ I hq) fun us s1 ⟨J,G,C,r,z,q⟩=>⟨by rw[<-r.length];exact z,?_⟩)
 have Y:G s1.heap.objs.size=none:=C.hok.fresh (ai _)
 refine⟨.ref s1.heap.objs.size,upd G s1.heap.objs.size (.lst J),C.laid (t':=s1.toks) (fun b u e=>af _ e) (ai _) ?_,rfl,q _ Y⟩
 exact⟨z,us,0,r,aF _ rfl⟩
end
abbrev Sp:=List V->Hp->VK->XK->Prop
abbrev CXT:=List Env->Hp->ac->XK->Value->ac->Prop
structure Env0 (P:aD)(w:World)(K:ab)(mg:Str->Option Value)(base:Heap)(A:aP)(outer:List Env)(s:ac)(H:Hp):Prop where
 frames:A.frames=some outer
 mod:Mod K mg base
 bs:∀ b o,base.get? b=some o->s.heap.get? b=some o/\H b=none
 bsz:base.objs.size<=s.heap.objs.size
 funs:s.heap.FunFrames base outer
 frf:∀ b∈frs outer,H b=none
 hok:HOk P w H s.heap
 bare:d9 s.gens
def CE (outer:List Env)(P:aD)(w:World)(H:Hp)(s:ac)(Q:VK)(u:Value)(s':ac):Prop :=
 ∃ v H',s'.os=s.os/\d9 s'.gens/\Un (frs outer) [] H H' s.heap s'.heap/\HOk P w H' s'.heap/\RelV v u/\Q v H'
def CR (CX:CXT)(outer:List Env)(P:aD)(w:World)(H:Hp)(s:ac)(Q:VK)(E:XK)(r:iZ)(s':ac):Prop :=
 match r with
 | .ok (.ret u)=>CE outer P w H s Q u s'
 | .ok _=>False
 | .error e=>CX outer H s E e s'
structure FnOk (P:aD)(w:World)(K:ab)(mg:Str->Option Value)(base:Heap)(CX:CXT)(k:Nat)(f:Addr)(fd:bp)(ps:List Str)(sp:Sp):Prop where
 len:∀ vs H Q E,sp vs H Q E->vs.length=ps.length
 run:∀(A:aP) (outer:List Env) (s:ac) (H:Hp) (args:Args) (us:List Value) (vs:List V) (Q:VK) (E:XK),Room k A->Env0 P w K mg base A outer s H->ip s fd args (ps.zip us)->Vals vs us->sp vs H Q E ->
  ed (model P w) A (.call (.ref f) args) (CR CX outer P w H s Q E) s
theorem FnOk.imp {P:aD}{w:World}{K:ab}{mg:Str->Option Value}{y:Heap}{C:CXT}{k:Nat}{f:Addr}{G:bp}{ps:List Str}{sp z:Sp}(F:FnOk P w K mg y C k f G ps sp)
  (h:∀ vs H Q E,z vs H Q E->sp vs H Q E):FnOk P w K mg y C k f G ps z :=
 ⟨fun vs H Q E q=>F.len vs H Q E (h _ _ _ _ q),fun A outer s H args us vs Q E Y he hb J hs=>F.run A outer s H args us vs Q E Y he hb J (h _ _ _ _ hs)⟩
section
variable {X:Cx} {pins:List (Addr×Obj)} {σ:St} {H:Hp} {s s':ac}
theorem Inv.env0 (I:Inv X pins σ H s):Env0 X.prog X.w X.K X.mg X.base X.A X.stack s H :=
 ⟨I.ok.frames,I.ok.mod,I.bs,am I.ok.bsz I.sz,I.stack,I.stkFree,I.hok,I.bare⟩
theorem Inv.after {Q:VK}{u:Value}(I:Inv X pins σ H s)(h:CE X.stack X.prog X.w H s Q u s'):EP X pins σ Q u s':=by
 obtain⟨v,H',os,bare,un,hok,r,q⟩:=h
 obtain⟨C,g,d,t,y⟩:=s'
 obtain rfl:y=s.os:=os
 exact⟨v,H',I.call (h':=C) (g':=g) (d':=d) (t':=t) (ch:=[]) un hok bare (fun b z=>absurd z (by simp)),r,q⟩
end
def aD5 (sp:Sp)(dvs:List V)(E:XK)(t:TA):TE:=fun σ H Q=>t σ H fun vs H1=>sp (vs++dvs) H1 Q E
def Binds (K:ab)(fd:bp)(ps:List Str)(ds:List Value):Prop :=
 ∀(s:ac) (us:List Value),K.In s.heap->(us++ds).length=ps.length->ip s fd ⟨us,[]⟩ (ps.zip (us++ds))
theorem Binds.all {K:ab}{y:bp}{ps:List Str}(h:∀ us:List Value,us.length=ps.length->dB y ⟨us,[]⟩=pure (ps.zip us)):Binds K y ps []:=fun s us _ hl=>by
 rw[bh]at hl ⊢
 exact .of_eq (h us hl)
def az6 (CX:CXT)(X:Cx)(E:XK):Prop:=∀(pins:List (Addr×Obj)) (σ:St) (H:Hp) (s:ac) (e:Value) (s':ac),Inv X pins σ H s->CX X.stack H s E e s'->X.xe e s'
section
variable {X:Cx} {CX:CXT} {k:Nat} {f C:Addr} {fd:bp} {ps:List Str} {sp:Sp} {dvs:List V} {ds:List Value} {E:XK} {x m:Str} {p pos apos:Pos} {e o:Expr} {es:List Expr} {ta:TE} {t:TA}
theorem bb0 {y:List (Addr×Obj)}{σ:St}{H:Hp}{s:ac}{Q:VK}{us:List Value}{vs:List V}(F:FnOk X.prog X.w X.K X.mg X.base CX k f fd ps sp)(C:Room k X.A)(hb:Binds X.K fd ps ds)(hd:Vals dvs ds)(hx:az6 CX X E)
  (I:Inv X y σ H s) (r:Vals vs us) (h:sp (vs++dvs) H Q E):wpAny (model X.prog X.w) X.A (call (.ref f) us) (EP X y σ Q) X.xe s:=by
 have z:Vals (vs++dvs) (us++ds):=r.append hd
 have hl:(us++ds).length=ps.length:=by rw[<-z.length];exact F.len _ _ _ _ h
 refine iy (dN (F.run X.A X.stack s H ⟨us,[]⟩ (us++ds) (vs++dvs) Q E C I.env0 (hb s us I.kIn hl) z h) fun r s' hq=>?_)
 cases r with
 | error e=>exact hx y σ H s e s' I hq
 | ok fl =>
  cases fl with
  | ret u=>exact I.after hq
  | next=>exact bo hq
  | brk=>exact bo hq
  | cont=>exact bo hq
theorem bh1 (F:FnOk X.prog X.w X.K X.mg X.base CX k f fd ps sp)(hr:Room k X.A)(hg:Gl X x)(J:X.mg x=some (.ref f))(hk:bN X.K (.ref f)=true)(hb:Binds X.K fd ps ds)(hd:Vals dvs ds)(hx:az6 CX X E)
  (ha:PA X (e::es) t) (C:(x==("__debug__":Str))=false:=by decide) (Y:aW (e::es) X.env=(false,eval e X.env)::aW es X.env:=by rfl) (z:(cW pos (aW es X.env)).any (·.1)=false:=by rfl) :
  PE X (.Call (.Name x p) (e::es) [] pos) (aD5 sp dvs E t):=by
 intro y s σ H Q I h
 refine bG (an8 I hg J ?_ C)
 refine gC (h₀:=X.base) I.ok.mod.kin hk (thn (ha pos y s σ H _ I h) fun us s1 ⟨vs,H1,G,r,q⟩=>⟨G.kIn,?_⟩) Y z
 exact bb0 F hr hb hd hx G r q
theorem aV9 (F:FnOk X.prog X.w X.K X.mg X.base CX k f fd ps sp)(J:Room k X.A)(G:Gl X x)(C:X.mg x=some (.ref f))(hk:bN X.K (.ref f)=true)(hb:Binds X.K fd ps ds)(hd:Vals dvs ds)(hx:az6 CX X E)
  (y:(x==("__debug__":Str))=false:=by decide):PE X (.Call (.Name x p) [] [] pos) (aD5 sp dvs E aS2):=by
 intro z s σ H Q I h
 refine bG (an8 I G C ?_ y)
 exact PySem.W.callWith_K0 I.kIn hk (bb0 (us:=[]) F J hb hd hx I .nil h)
structure Mk (K:ab)(C f:Addr):Prop where
 makes:PySem.W.makesIn K C=true
 init:fS K (.ref C) "__init__"=some (some (.ref f))
 fn:PySem.W.isFn K (.ref f)=true
 kp:bN K (.ref C)=true
end
section
variable {X:Cx} {CX:CXT} {k:Nat} {f C:Addr} {fd:bp} {ps ks:List Str} {sp:Sp} {E:XK} {x m:Str} {p pos apos kpos:Pos} {e o:Expr} {es:List Expr} {kws:List iq} {te ta:TE} {t tk:TA} {nm:Option Str}
variable {g:List Value->List Value->List Value} {gV:List V->List V->List V}
end
structure FnScope (N P:List Str)(sc:Scope):Prop where
 kind:sc.kind=.function
 co:sc.isCoroutine=false
 gen:sc.isGenerator=false
 nd:N.Nodup
 pre:N.take P.length=P
 par:∀ x∈P,sc.names.lookup x=some .local\/sc.names.lookup x=some .cell
 nofree:∀ y∈sc.names,y.2≠.free
theorem as5 {dr:Str->Option bw}{x:Str}:∀ {binds:List (Str×Value)} {m:Str->Option Value},(∀ v,(x,v) ∉ binds)->bindL dr binds m x=m x
 | [],_,_=>rfl
 | (n,v)::r,m,h=>by
  unfold bindL
  rw[as5 fun w hw=>h w (ao _ hw)]
  split
  ·have:x≠n:=by rintro rfl;exact h v az
   simp[this]
  ·rfl
theorem at7 {dr:Str->Option bw}{x:Str}:∀ {binds:List (Str×Value)} {m:Str->Option Value},(∀ v,(x,v) ∉ binds)->bindC dr binds m x=m x
 | [],_,_=>rfl
 | (n,v)::r,m,h=>by
  unfold bindC
  rw[at7 fun w hw=>h w (ao _ hw)]
  split
  ·rfl
  ·have:x≠n:=by rintro rfl;exact h v az
   simp[this]
theorem ah8 {dr:Str->Option bw}{x:Str}{v:Value}:∀ {P:List Str} {vs:List Value} {i:Nat} {m:Str->Option Value},P.Nodup->P[i]?=some x->vs[i]?=some v->dr x=some .local ->
  bindL dr (P.zip vs) m x=some v
 | [],_,_,_,_,h,_,_=>by simp at h
 | _::_,[],_,_,_,_,h,_=>by simp at h
 | p::P,w::vs,0,m,nd,h1,h2,hk=>by
  simp at h1 h2;subst h1;subst h2
  show bindL dr ((p,w)::P.zip vs) m p=_
  unfold bindL
  rw[as5 fun v y=>(cr.mp nd).1 (cU y).1,if_pos hk]
  simp
 | p::P,w::vs,i+1,m,nd,h1,h2,hk=>by
  show bindL dr ((p,w)::P.zip vs) m x=_
  unfold bindL
  exact ah8 (i:=i) (cr.mp nd).2 (by simpa using h1) (by simpa using h2) hk
theorem ag5 {dr:Str->Option bw}{x:Str}{v:Value}:∀ {P:List Str} {vs:List Value} {i:Nat} {m:Str->Option Value},P.Nodup->P[i]?=some x->vs[i]?=some v->dr x≠some .local ->
  bindC dr (P.zip vs) m x=some v
 | [],_,_,_,_,h,_,_=>by simp at h
 | _::_,[],_,_,_,_,h,_=>by simp at h
 | p::P,w::vs,0,m,nd,h1,h2,hk=>by
  simp at h1 h2;subst h1;subst h2
  show bindC dr ((p,w)::P.zip vs) m p=_
  unfold bindC
  rw[at7 fun v y=>(cr.mp nd).1 (cU y).1,if_neg hk]
  simp
 | p::P,w::vs,i+1,m,nd,h1,h2,hk=>by
  show bindC dr ((p,w)::P.zip vs) m x=_
  unfold bindC
  exact ag5 (i:=i) (cr.mp nd).2 (by simpa using h1) (by simpa using h2) hk
noncomputable def ae7 (N:List Str)(vs:List V):St:=vs.map some++ax (N.length - vs.length) none
noncomputable def aX6 (CX:CXT)(P:aD)(w:World)(K:ab)(mg:Str->Option Value)(base:Heap)(N:List Str)(qual:Str)(scope:Scope)(f:Addr)(cd:Value)(A:aP)(outer:List Env)(s:ac)(H:Hp)(E:XK):Cx where
 prog:=P
 w:=w
 K:=K
 mg:=mg
 base:=base
 A:=A.deeper (eF qual scope s.heap.objs.size f cd)
 N:=N
 s₀:=s
 H₀:=H
 env:=eF qual scope s.heap.objs.size f cd
 outer:=outer
 stack:=eF qual scope s.heap.objs.size f cd::outer
 ex:=[]
 calm:=true
 fn:=fun _=>true
 pn:=[]
 xe:=fun e s'=>wpAny (model P w) (A.deeper (eF qual scope s.heap.objs.size f cd)) (leaving (eF qual scope s.heap.objs.size f cd) e) (fun _ s''=>CX outer H s E e s'') (fun e' s''=>CX outer H s E e' s'') s'
theorem zM {sc:Scope}{n:Nat}{x:Str}(h:sc.names.lookup x=some .cell):∃ c,(aE n sc.names []).lookup x=some c:=by
 have q:=fg sc.names n [] (.inl h)
 exact eG.mp q
theorem aH2 {CX:CXT}{P:aD}{w:World}{K:ab}{mg:Str->Option Value}{G:Heap}{N ps:List Str}{qual:Str}{scope:Scope}{f:Addr}{cd:Value}{A:aP}{outer:List Env}{s s1:ac}{H:Hp}{E:XK}{us:List Value}{vs:List V}
  (S:FnScope N ps scope) (hd:A.handled=none) (J:Env0 P w K mg G A outer s H) (hl:vs.length=ps.length) (r:Vals vs us)
  (x:ee s s.heap.objs.size (bindL (eF qual scope s.heap.objs.size f cd).kindOf (ps.zip us) fun _=>none) (aE (s.heap.objs.size+1) scope.names []) (bindC (eF qual scope s.heap.objs.size f cd).kindOf (ps.zip us) fun _=>none) s1) :
  Inv (aX6 CX P w K mg G N qual scope f cd A outer s H E) [] (ae7 N vs) H s1:=by
 have a1:ps.length<=N.length:=by have:=congrArg jf S.pre;rw[dt]at this;omega
 obtain⟨h1,tk,rfl,hk⟩:=x.done
 have Y:∀ b:Addr,b ∉ (aX6 CX P w K mg G N qual scope f cd A outer s H E).ex:=fun b z=>absurd (show b∈([]:List Addr)from z) (by simp)
 refine⟨⟨J.mod,S.kind,rfl,rfl,ai _,fun y z c h1 C=>?_,fun y hy=>?_,fun y c _ h=>?_,fun _=>hd,fT J.frames,.inr ⟨rfl,rfl⟩,fun b z=>absurd z (Y b),J.bs,J.bsz,fun b _ _=>Y b,fun b z=>absurd z (Y b),J.funs,J.frf⟩,
  rfl,J.bare,Un.kept hk,⟨_,x.toInCall.ns,fun i y v h1 C h3=>?_⟩,fun y c h=>⟨_,x.cell y c h⟩,J.hok.fresh (ai _),fun y c h=>?_,fun p hp=>absurd (show p∈([]:List (Addr×Obj))from hp) (by simp),J.hok.kept hk,?_⟩
 ·exact fh x.apart (au h1) (au C)
 ·have hy:scope.names.lookup y=some .cell\/scope.names.lookup y=some .free:=hy
  rcases hy with hy|hy
  ·exact zM hy
  ·exact absurd rfl (S.nofree _ (au hy))
 ·exact cI (x.above y c (au h))
 ·have hi:i<vs.length:=by
   unfold ae7 at C
   by_cases hi:i<vs.length
   ·exact hi
   ·rw[aB (by simpa using hi)]at C
    rw[eR]at C
    split at C<;>cases C
  have ha:vs[i]?=some v:=by
   unfold ae7 at C
   rw[aH (by simpa using hi),aG]at C
   cases e:vs[i]? with
   | none=>rw[e]at C;cases C
   | some a=>rw[e]at C;cases C;rfl
  obtain⟨u,hu,rv⟩:=r.get ha
  have hp:ps[i]?=some y:=by
   rw[<-S.pre,List.getElem?_take_of_lt (by omega)];exact h1
  have a0:ps.Nodup:=by rw[<-S.pre];exact S.nd.sublist (List.take_sublist _ _)
  refine⟨u,rv,?_⟩
  rcases S.par y (aX hp)with k|k
  ·exact .inl ⟨k,ah8 a0 hp hu k⟩
  ·obtain⟨c,e⟩:=zM (n:=s.heap.objs.size+1) k
   refine .inr ⟨.inl k,c,e,?_⟩
   have q:=x.cell y c e
   rw[ag5 a0 hp hu (by show scope.names.lookup y≠_;rw[k];decide)]at q
   exact q
 ·exact J.hok.fresh (cI (x.above y c (au h)))
 ·unfold ae7
  show _=N.length
  rw[aR,aI,List.length_replicate]
  omega
theorem bE1 {CX:CXT}{P:aD}{w:World}{K:ab}{mg:Str->Option Value}{base:Heap}{k:Nat}{f:Addr}{name qual:Str}{params:aV}{body:List Stmt}{scope:Scope}{dV kV G pm h ct oc:Value}{an od:Option Addr}
  {a0:Array (Option Value)} {N ps:List Str} {sp:Sp} (lk:K.lookup f=some ⟨oc,od,.func (cf name qual params body scope dV kV G pm an h ct),a0⟩) (a1:dX K h qual=true) (S:FnScope N ps scope)
  (len:∀ vs H Q E,sp vs H Q E->vs.length=ps.length)
  (C:∀(A:aP) (outer:List Env) (s:ac) (H:Hp) (vs:List V) (Q:VK) (E:XK),Room k (A.deeper (eF qual scope s.heap.objs.size f h))->sp vs H Q E ->
   ∃ t,PSs (aX6 CX P w K mg base N qual scope f h A outer s H E) body t/\t { nx:=fun _ H'=>Q .non H',rt:=Q } (ae7 N vs) H) :
  FnOk P w K mg base CX (k+1) f (cf name qual params body scope dV kV G pm an h ct) ps sp:=by
 refine⟨len,fun A outer s H args us vs Q E hr e0 hb r Y=>?_⟩
 have hl:=len _ _ _ _ Y
 have KX:K.In s.heap:=e0.mod.kin.keeps fun b o e=>(e0.bs b o e).1
 have a2:s.heap.NoLimit:=e0.mod.nolimit.keeps fun b o e=>(e0.bs b o e).1
 have z:∀ y∈ps.zip us,scope.names.lookup y.1=some .local\/(scope.names.lookup y.1=some .cell/\((aE (s.heap.objs.size+1) scope.names []).lookup y.1).isSome=true):=fun⟨n,v⟩ hy=>by
  rcases S.par n (cU hy).1 with q|q
  ·exact .inl q
  ·exact .inr ⟨q,fg _ _ _ (.inl q)⟩
 refine fI hr.depth (KX _ _ lk) rfl S.co S.gen rfl (PySem.W.codeRec_of KX a1) (hb _ _ _ _ ?_)
 refine wpAny_newFunctionEnv_cells S.kind z fun env he s1 x=>?_
 subst he
 refine⟨a2.keeps x.toInCall.keep,codeAny_func ?_⟩
 obtain⟨t,ht,hq⟩:=C A outer s H vs Q E (hr.deeper _) Y
 have I:Inv (aX6 CX P w K mg base N qual scope f h A outer s H E) [] (ae7 N vs) H s1:=aH2 S hr.hd e0 hl r x
 refine bP (ht [] s1 (ae7 N vs) H _ I hq) (fun fl s' hs=>?_) fun e s' hs=>hs
 have fin:∀ {σ':St} {H':Hp} {v:V} {u:Value},Inv (aX6 CX P w K mg base N qual scope f h A outer s H E) [] σ' H' s'->RelV v u->Q v H'->CE outer P w H s Q u s' :=
  fun {σ' H' v u} J rv q=>⟨v,H',J.os,J.bare,J.base,J.hok,rv,q⟩
 cases fl with
 | ret u =>
  obtain⟨v,σ',H',J,rv,q⟩:=hs
  exact fin J rv q
 | next =>
  obtain⟨σ',H',J,q⟩:=hs
  exact fin (v:=V.non) (u:=Value.none) J rfl q
 | brk =>
  obtain⟨_,_,_,q⟩:=hs
  exact bo q
 | cont =>
  obtain⟨_,_,_,q⟩:=hs
  exact bo q
section
variable {X:Cx} {x:Str} {p pos:Pos} {e:Expr} {es:List Expr} {t:TA} {id T:String} {r:List V->Hp->VK->Prop}
def tCB (r:List V->Hp->VK->Prop)(t:TA):TE:=fun σ H Q=>t σ H fun vs H1=>r vs H1 Q
theorem ao9 (hc:ab6 X (.builtin id) r)(hg:Gl X x)(G:X.mg x=none)(Y:aY x=some (.builtin id))(ha:PA X (e::es) t)(hn:x ≠ "__name__":=by decide)(C:(x==("__debug__":Str))=false:=by decide)
  (he:aW (e::es) X.env=(false,eval e X.env)::aW es X.env:=by rfl) (z:(cW pos (aW es X.env)).any (·.1)=false:=by rfl):PE X (.Call (.Name x p) (e::es) [] pos) (tCB r t):=by
 intro y s σ H Q I h
 refine bG (ai6 I hg G Y ?_ hn C)
 exact PyProof.Rows.callWith_builtin1 (thn (ha pos y s σ H _ I h) fun us s1 ⟨vs,H1,I1,r1,J⟩=>hc y s1 σ H1 vs us Q I1 r1 J) he z
theorem aj1 (hc:ab6 X (.type T) r)(hg:Gl X x)(G:X.mg x=none)(Y:aY x=some (.type T))(ha:PA X (e::es) t)(hn:x ≠ "__name__":=by decide)(C:(x==("__debug__":Str))=false:=by decide)
  (he:aW (e::es) X.env=(false,eval e X.env)::aW es X.env:=by rfl) (z:(cW pos (aW es X.env)).any (·.1)=false:=by rfl):PE X (.Call (.Name x p) (e::es) [] pos) (tCB r t):=by
 intro y s σ H Q I h
 refine bG (ai6 I hg G Y ?_ hn C)
 exact bS (thn (ha pos y s σ H _ I h) fun us s1 ⟨vs,H1,I1,r1,J⟩=>hc y s1 σ H1 vs us Q I1 r1 J) he z
end
end L2
end
noncomputable section
namespace HT
open PySem PyProof.Rows
section
open PySem.SeqAt
open PySem.AutoSeq1 (wpAny_loadPart')
open PySem.MeetsSeq PySem.MeetsSeq2 PySem.MeetsSeq3
end
section
variable {prog:aD} {w:World} {A:aP} {E:Value->ac->Prop} {s:ac}
theorem cat_tup {t b:Addr}{vs ws:List Value}{Q:Value->ac->Prop}(ht:IsTup s.heap t vs.toArray)(hb:IsTup s.heap b ws.toArray)(Y:vs≠[])
  (h1:ws=[]->Q (.ref t) s) (h2:ws≠[]->Q (.ref s.heap.objs.size) { s with heap:=s.heap.push { cls:=.type "tuple",data:=.seq (vs++ws).toArray } })
  (hsz:vs.length+ws.length<=aA):wpAny (model prog w) A (bI .Add (.ref t) (.ref b)) Q E s:=by
 obtain⟨⟨cls,dd,data,sl⟩,ho,hc,n,hd⟩:=id ht
 obtain⟨⟨a0,C,J,y⟩,h,z,n2,G⟩:=id hb
 simp only at hc hd z G
 subst hc hd z G
 have e:vs.toArray++ws.toArray=(vs++ws).toArray:=by simp
 by_cases hw:ws=[]
 ·exact gR ⟨_,ho,rfl⟩ ⟨_,h,rfl⟩ eT gq c6 cZ (cR _ _)
   (tuple_addW1 t b vs.toArray ws.toArray n n2 dd C sl y (by simpa using Y) (by simp[hw])) ⟨ho,h,h1 hw⟩
 ·refine gR ⟨_,ho,rfl⟩ ⟨_,h,rfl⟩ eT gq c6 cZ (cR _ _)
   (tuple_addW2 t b vs.toArray ws.toArray n n2 dd C sl y (by simpa using Y) (by simpa using hw) (by rw[ar,ar];exact hsz)) ⟨ho,h,?_⟩
  rw[e]
  exact h2 hw
end
end HT
noncomputable section
namespace L2
open PySem PySem.Spec PyProof.Rows
abbrev TO:=St->Hp->(Option Int->Hp->Prop)->Prop
section
variable {X:Cx} {e:Expr} {te:TE} {lo hi:Option Expr} {tl th:TO} {pos p2:Pos}
def bI1 (K:ab):R2:=fun x y H Q=>∃ a b xs ys,x=.ref a/\y=.ref b/\SqT K H a xs/\SqT K H b ys/\xs≠[]/\xs.length+ys.length<=aA /\
 (ys=[]->Q (.ref a) H)/\(ys≠[]->∀ p,H p=none->Q (.ref p) (upd H p (.tup (xs++ys))))
theorem Vals.nil_iff {h:List V}{us:List Value}(r:Vals h us):us=[]↔h=[]:=by
 cases r with
 | nil=>simp
 | cons _ _=>simp
theorem bo5:OpR X (bI .Add) (bI1 X.K):=by
 intro G s σ H x y v u Q I rx ry h
 obtain⟨a,b,xs,ys,rfl,rfl,ha,hb,hx,hz,Y,q2⟩:=h
 cases rx
 cases ry
 obtain⟨its,r1,p1,_⟩:=I.tuple ha
 obtain⟨J,C,p2,_⟩:=I.tuple hb
 refine HT.cat_tup p1 p2 (fun z=>hx (r1.nil_iff.mp z)) (fun z=>⟨.ref a,H,I,rfl,Y (C.nil_iff.mp z)⟩) (fun z=>?_) (by rw[<-r1.length,<-C.length];exact hz)
 refine⟨.ref s.heap.objs.size,_,I.laid (t':=s.toks) (o:=.tup (xs++ys)) (fun b ob q=>af _ q) (ai _) ?_,rfl,q2 (fun w=>z (C.nil_iff.mpr w)) _ (I.hok.fresh (ai _))⟩
 exact⟨by rw[aR];exact hz,_,r1.append C,iV _ _⟩
end
noncomputable def ixN (n:Nat)(i:Int):Option Nat:=if 0<=i then(if i<n then some i.toNat else none)else if -(n:Int)<=i then some (i+n).toNat else none
noncomputable def atI {α:Type}(xs:List α)(i:Int):Option α:=(ixN xs.length i).bind fun j=>xs[j]?
theorem aH9 {n:Nat}{i:Int}{j:Nat}(h:ixN n i=some j):seqIndex? i n=some j/\j<n/\-(n:Int)<=i/\i<n:=by
 unfold ixN at h
 by_cases h0:0<=i
 ·rw[if_pos h0]at h
  by_cases h1:i<n
  ·rw[if_pos h1]at h
   have e:i.toNat=j:=ay h
   exact⟨by rw[hZ h0 h1,e],by omega,by omega,h1⟩
  ·rw[if_neg h1]at h;cases h
 ·rw[if_neg h0]at h
  by_cases h1:-(n:Int)<=i
  ·rw[if_pos h1]at h
   have e:(i+n).toNat=j:=ay h
   exact⟨by rw[gS (by omega) h1,e],by omega,h1,by omega⟩
  ·rw[if_neg h1]at h;cases h
theorem aw7 {α:Type}{y:List α}{i:Int}{v:α}(h:atI y i=some v):∃ j,seqIndex? i y.length=some j/\y[j]?=some v/\j<y.length/\-(y.length:Int)<=i/\i<y.length:=by
 unfold atI at h
 cases e:ixN y.length i with
 | none=>rw[e]at h;cases h
 | some j =>
  rw[e]at h
  obtain⟨C,z,J,G⟩:=aH9 e
  exact⟨j,C,h,z,J,G⟩
def aG6 (b:Expr):Prop:=∀ o i,subscripted b false o i=operate [o,i] (gT o i)
def IxR (X:Cx)(r:R2):Prop :=
 ∀(value slice:Expr) (pins:List (Addr×Obj)) (s:ac) (σ:St) (H:Hp) (x y:V) (v u:Value) (Q:VK),Inv X pins σ H s->RelV x v->RelV y u->r x y H Q ->
  subscripted slice false v u=operate [v,u] (gT v u)->wpAny (model X.prog X.w) X.A (subscriptTail value slice v u) (EP X pins σ Q) X.xe s
def MtR (X:Cx)(id:String)(r:V->List V->Hp->VK->Prop):Prop :=
 ∀(pins:List (Addr×Obj)) (s:ac) (σ:St) (H:Hp) (x:V) (xs:List V) (v:Value) (us:List Value) (Q:VK),Inv X pins σ H s->RelV x v->Vals xs us->r x xs H Q ->
  wpAny (model X.prog X.w) X.A (call (.builtin id) (v::us)) (EP X pins σ Q) X.xe s
section
variable {X:Cx} {a b:Expr} {ta tb:TE} {pos:Pos}
theorem bK1 {r:R2}(J:IxR X r)(ha:PE X a ta)(hb:PE X b tb)(hs:aG6 b):PE X (.Subscript a b pos) (tOp r ta tb):=by
 intro z s σ H Q I h
 exact Subscript_ (bJ0 ha hb I h fun v u s2 x y H2 I2 G C q=>J a b z s2 σ H2 x y v u Q I2 G C q (hs _ _))
def bQ3 (K:ab):R2:=fun x y H Q=>∃ p xs i v,x=.ref p/\y=.int i/\SqL K H p xs/\atI xs i=some v/\Q v H
def bO0 (K:ab):R2:=fun x y H Q=>∃ p xs i v,x=.ref p/\y=.int i/\SqT K H p xs/\atI xs i=some v/\Q v H
def bR1:R2:=fun x y H Q=>∃ z i c,x=.str z/\y=.int i/\z.length<=aA/\atI z.cps.toList i=some c/\Q (.str ⟨#[c]⟩) H
theorem bq1:IxR X (bQ3 X.K):=by
 intro a0 J C s σ H x y v u Q I rx ry h hs
 obtain⟨p,xs,i,z,rfl,rfl,hq,he,q⟩:=h
 cases rx
 obtain⟨t,rfl⟩:=ry
 obtain⟨its,r,Y,hz⟩:=I.list hq
 obtain⟨j,G,h2,h3,h4,h5⟩:=aw7 he
 obtain⟨w,ew,a1⟩:=r.get h2
 have hl:=r.length
 have hn:=ah5
 have fin:EP X C σ Q w s:=⟨z,H,I,a1,q⟩
 by_cases h0:0<=i
 ·have hj:i.toNat=j:=by
   rw[hZ h0 h5]at G
   exact ay G
  exact item_listR Y.isList h0 (by omega) (by rw[hj];simpa using ew) fin hs
 ·have hj:(i+(its.toArray.size:Int)).toNat=j:=by
   rw[gS (by omega) h4]at G
   rw[ar,<-hl]
   exact ay G
  exact fi (x:=w) Y.isList.typeIs gU.lookup
   (wpAny_getItem_list_neg (Q:=fun r s'=>r=w/\EP X C σ Q r s') Y.isList (by omega) (by rw[ar]<;>omega) (by omega) (by rw[hj];simpa using ew) ⟨rfl,fin⟩) hs
theorem ix_tup:IxR X (bO0 X.K):=by
 intro J G C s σ H x y v u Q I rx ry h hs
 obtain⟨p,xs,i,z,rfl,rfl,hq,he,q⟩:=h
 cases rx
 obtain⟨t,rfl⟩:=ry
 obtain⟨its,r,pl,hz⟩:=I.tuple hq
 obtain⟨j,h1,h2,h3,h4,h5⟩:=aw7 he
 obtain⟨w,ew,Y⟩:=r.get h2
 have hl:=r.length
 have hn:=ah5
 have fin:EP X C σ Q w s:=⟨z,H,I,Y,q⟩
 exact fi (x:=w) pl.typeIs slot_tuple_getitem.lookup
  (getItem_tuple (j:=j) (Q:=fun r s'=>r=w/\EP X C σ Q r s') pl (by omega) (by omega) (by rw[ar,<-hl];exact h1) (by simpa using ew) ⟨rfl,fin⟩) hs
theorem ix_str:IxR X bR1:=by
 intro G C J s σ H x y v u Q I rx ry h hs
 obtain⟨z,i,c,rfl,rfl,hz,he,q⟩:=h
 obtain⟨t,rfl⟩:=rx
 obtain⟨t',rfl⟩:=ry
 obtain⟨j,Y,h2,h3,h4,h5⟩:=aw7 he
 have hl:z.cps.toList.length=z.length:=by simp[Str.length]
 rw[hl]at Y h4 h5
 have hn:=ah5
 exact iz (iA s z t) slot_str_getitem.lookup (getItem_str (c:=c) (by
  have e1:decide (i < -(2^63:Int))=false:=decide_eq_false (by omega)
  have e2:decide (i ≥ 2^63)=false:=decide_eq_false (by omega)
  rw[e1,e2,Bool.or_false]) (by rw[Y];simpa using h2) ⟨.str ⟨#[c]⟩,H,I.tok _,⟨_,rfl⟩,q⟩) hs
theorem aE0 (its:List Value)(n j:Nat)(u:Value):fj (·.setIfInBounds j u) { cls:=.type "list",data:=.seq its.toArray n }={ cls:=.type "list",data:=.seq (its.set j u).toArray n }:=by
 simp[fj]
theorem Inv.lst {y:List (Addr×Obj)}{σ:St}{H:Hp}{s:ac}{p:Addr}{C:List V}(I:Inv X y σ H s)(h:H p=some (.lst C)) :
  ∃(its:List Value) (n:Nat),Vals C its/\s.heap.get? p=some { cls:=.type "list",data:=.seq its.toArray n }/\C.length<=aA:=by
 obtain⟨z,its,n,r,e⟩:=I.hok p _ h
 exact⟨its,n,r,e,z⟩
theorem Inv.lstUpd {y:List (Addr×Obj)}{σ:St}{H:Hp}{s:ac}{p:Addr}{G ys:List V}{its its':List Value}{n z:Nat}{f:Obj->Obj}(I:Inv X y σ H s)(h:H p=some (.lst G))
  (ho:s.heap.get? p=some { cls:=.type "list",data:=.seq its.toArray n }) (C:f { cls:=.type "list",data:=.seq its.toArray n }={ cls:=.type "list",data:=.seq its'.toArray z }) (r:Vals ys its') (hz:ys.length<=aA) (t:Nat) :
  Inv X y σ (upd H p (.lst ys)) { s with heap:=s.heap.update p f,toks:=t }:=by
 have e:(s.heap.update p f).get? p=some { cls:=.type "list",data:=.seq its'.toArray z }:=by
  rw[cA f ho (by rw[C]<;>rfl),C]
 refine I.write (x:=p) (e:=p) (by rw[h];trivial) (.inl rfl) (fun b u hb q=>(bA _ _ (bE hb)).trans q) ⟨_,e⟩ ?_
 exact⟨hz,its',z,r,e⟩
def bL7:V->V->V->Hp->(Hp->Prop)->Prop:=fun o i v H Q=>∃ p xs k j,o=.ref p/\i=.int k/\H p=some (.lst xs)/\ixN xs.length k=some j/\Q (upd H p (.lst (xs.set j v)))
theorem aT2:bL4 X bL7:=by
 intro y s σ H o i v ov iv u Q I ro ri rv h
 obtain⟨p,xs,k,j,rfl,rfl,C,hj,q⟩:=h
 cases ro
 obtain⟨t,rfl⟩:=ri
 obtain⟨its,n,r,ho,hz⟩:=I.lst C
 obtain⟨z,h2,Y,J⟩:=aH9 hj
 have hl:=r.length
 have hn:=ah5
 have G:Inv X y σ (upd H p (.lst (xs.set j v))) { s with heap:=s.heap.update p (fj (·.setIfInBounds j u)) } :=
  I.lstUpd C ho (aE0 its n j u) (r.set rv j) (by rw[br];exact hz) s.toks
 by_cases h0:0<=k
 ·have hk:k.toNat=j:=by
   rw[hZ h0 J]at z
   exact ay z
  exact PySem.W.ki_setAt ho h0 (by omega) (by rw[ar,<-hl];exact J) (by rw[hk];exact⟨_,G,q⟩)
 ·have hk:(k+(its.toArray.size:Int)).toNat=j:=by
   rw[gS (by omega) Y]at z
   rw[ar,<-hl]
   exact ay z
  exact PySem.W.ki_setBack ho (by omega) (by rw[ar,<-hl];exact Y) (by omega) (by rw[hk];exact⟨_,G,q⟩)
theorem ap1:ab6 X (.builtin "len") (fun J H Q=>∃ p ys,J=[.ref p]/\(SqL X.K H p ys\/SqT X.K H p ys)/\Q (.int ys.length) H):=by
 intro G s σ H J us Q I r h
 obtain⟨p,ys,rfl,hq,q⟩:=h
 obtain⟨u,rfl,Y⟩:=af4 r
 cases Y
 have hn:=ah5
 rcases hq with hq|hq
 ·obtain⟨its,C,z,hz⟩:=I.list hq
  have y:=C.length
  exact Calls.call_len_list z.isList (by simp only[ar]<;>omega) ⟨.int ys.length,H,I.tok _,⟨s.toks+1,by rw[ar,y]⟩,q⟩
 ·obtain⟨its,C,z,hz⟩:=I.tuple hq
  have y:=C.length
  exact len_tuple z (by simp only[ar]<;>omega) ⟨.int ys.length,H,I.tok _,⟨s.toks+1,by rw[ar,y]⟩,q⟩
theorem ap6:ab6 X (.builtin "len") (fun C H Q=>∃ z,C=[.str z]/\z.length<=aA/\Q (.int z.length) H):=by
 intro y s σ H C us Q I r h
 obtain⟨z,rfl,hz,q⟩:=h
 obtain⟨u,rfl,t,rfl⟩:=af4 r
 have hn:=ah5
 exact len_str (by omega) ⟨.int z.length,H,I.tok _,⟨_,rfl⟩,q⟩
theorem ab6.or {f:Value}{r C:List V->Hp->VK->Prop}(h:ab6 X f r)(h':ab6 X f C):ab6 X f (fun z H Q=>r z H Q\/C z H Q):=by
 intro y s σ H z us Q I G q
 rcases q with q|q
 ·exact h y s σ H z us Q I G q
 ·exact h' y s σ H z us Q I G q
theorem aq1:ab6 X (.type "list") (fun xs H Q=>∃ p ys,xs=[.ref p]/\(SqL X.K H p ys\/SqT X.K H p ys)/\∀ l,H l=none->Q (.ref l) (upd H l (.lst ys))):=by
 intro C s σ H xs us Q I r h
 obtain⟨p,ys,rfl,hq,q⟩:=h
 obtain⟨u,rfl,rx⟩:=af4 r
 cases rx
 have fin:∀(its:List Value),Vals ys its->ys.length<=aA->∀(h':Heap) (z:Nat),(∀ b Y,s.heap.get? b=some Y->h'.get? b=some Y) ->
   h'.get? s.heap.objs.size=some { cls:=.type "list",dict:=none,data:=.seq its.toArray z,slots:=#[] }->EP X C σ Q (.ref s.heap.objs.size) { s with heap:=h' }:=fun its y hz h' z kp e =>
  ⟨.ref s.heap.objs.size,_,I.laid (t':=s.toks) kp (ai _) (show ab4 X.prog X.w _ h' _ (.lst ys)from⟨hz,its,z,y,e⟩),rfl,q _ (I.hok.fresh (ai _))⟩
 rcases hq with hq|hq
 ·obtain⟨its,y,J,hz⟩:=I.list hq
  have G:=y.length
  obtain⟨o,ho,hc,n,hd⟩:=J.isList
  exact call_list_seq p (.inl rfl) ho hc hd (fun h' z kp e=>fin its y hz h' z kp e) (by simp only[ar]<;>omega)
 ·obtain⟨its,y,J,hz⟩:=I.tuple hq
  have G:=y.length
  obtain⟨o,ho,hc,n,hd⟩:=J
  exact call_list_seq p (.inr rfl) ho hc hd (fun h' z kp e=>fin its y hz h' z kp e) (by simp only[ar]<;>omega)
theorem ao3:ab6 X (.type "tuple") (fun Y H Q=>∃ p ys,Y=[.ref p]/\((SqL X.K H p ys/\∀ l,H l=none->Q (.ref l) (upd H l (.tup ys)))\/(SqT X.K H p ys/\Q (.ref p) H))):=by
 intro y s σ H Y us Q I r h
 obtain⟨p,ys,rfl,h⟩:=h
 obtain⟨u,rfl,rx⟩:=af4 r
 cases rx
 rcases h with⟨hq,q⟩|⟨hq,q⟩
 ·obtain⟨its,z,C,hz⟩:=I.list hq
  have G:=z.length
  refine call_tuple_list C.isList (fun h' kp=>?_) (by simp only[ar]<;>omega)
  have J:Inv X y σ H { s with heap:=h' }:=I.kept (t':=s.toks) kp
  have I2:Inv X y σ (upd H h'.objs.size (.tup ys)) { s with heap:=h'.push { cls:=.type "tuple",data:=.seq its.toArray } } :=
   J.laid (t':=s.toks) (fun b o e=>af _ e) (ai _) (show ab4 X.prog X.w _ _ _ (.tup ys)from⟨hz,its,z,iV _ _⟩)
  exact⟨.ref h'.objs.size,_,I2,rfl,q _ (J.hok.fresh (ai _))⟩
 ·obtain⟨its,z,C,hz⟩:=I.tuple hq
  exact call_tuple_same C ⟨.ref p,H,I,rfl,q⟩
def tyV (K:ab)(T:String)(x:V)(H:Hp):Prop:=match x with
 | .str _=>T = "str"
 | .int _=>T = "int"
 | .ref p=>(T = "list"/\∃ xs,SqL K H p xs)\/(T = "tuple"/\∃ o,K.lookup p=some o/\o.cls=.type "tuple"/\o.dict=none) \/
   (T = "dict"/\((∃ kvs,H p=some (.dK kvs))\/∃ kvs,H p=some (.dT kvs)))\/(T = "set"/\∃ S n,H p=some (.set S n))
 | _=>False
theorem aY6 {h:List (Addr×Obj)}{σ:St}{H:Hp}{s:ac}{T:String}{x:V}{v:Value}(I:Inv X h σ H s)(r:RelV x v)(y:tyV X.K T x H) :
  s.TypeIs v T/\∀ a,v=.ref a->∃ ob,s.heap.get? a=some ob/\ob.dict=none:=by
 cases x with
 | str z =>
  obtain⟨t,rfl⟩:=r
  cases(show T = "str" from y)
  exact⟨iA s z t,fun _ e=>nomatch e⟩
 | int i =>
  obtain⟨t,rfl⟩:=r
  cases(show T = "int" from y)
  exact⟨dY s i t,fun _ e=>nomatch e⟩
 | ref p =>
  cases r
  rcases y with⟨rfl,J,hq⟩|⟨rfl,o,hk,hc,hd⟩|⟨rfl,hk⟩|⟨rfl,S,n,hk⟩
  ·obtain⟨its,_,G,_⟩:=I.list hq
   refine⟨G.isList.typeIs,fun a e=>?_⟩
   cases e
   obtain⟨o,n,e,c,hd,_⟩:=G
   exact⟨o,e,hd⟩
  ·refine⟨⟨o,I.kIn p o hk,hc⟩,fun a e=>?_⟩
   cases e
   exact⟨o,I.kIn _ o hk,hd⟩
  ·have z:∃ o,s.heap.get? p=some o/\o.ExactDict:=by
    rcases hk with⟨C,hk⟩|⟨C,hk⟩
    ·obtain⟨_,_,_,_,o,_,_,e,ex,_⟩:=I.hok p _ hk
     exact⟨o,e,ex⟩
    ·obtain⟨_,_,_,_,o,_,_,e,ex,_⟩:=I.hok p _ hk
     exact⟨o,e,ex⟩
   obtain⟨o,e,ex⟩:=z
   refine⟨⟨o,e,ex.1⟩,fun a e2=>?_⟩
   cases e2
   exact⟨o,e,ex.2.1⟩
  ·obtain⟨o,_,_,_,e,ex,_⟩:=I.hok p _ hk
   refine⟨⟨o,e,ex.1⟩,fun a e2=>?_⟩
   cases e2
   exact⟨o,e,ex.2.1⟩
 | _=>exact bo y
def bO7 (K:ab)(T:String)(r:V->List V->Hp->VK->Prop)(to:TE):TE:=fun σ H Q=>to σ H fun x H1=>tyV K T x H1/\r x [] H1 Q
def tBM (K:ab)(T:String)(r:V->List V->Hp->VK->Prop)(to:TE)(t:TA):TE:=fun σ H Q=>to σ H fun x H1=>tyV K T x H1/\t σ H1 fun xs H2=>r x xs H2 Q
variable {o e:Expr} {es:List Expr} {to:TE} {t:TA} {name:Str} {apos cpos:Pos} {T id:String} {r:V->List V->Hp->VK->Prop}
theorem aZ4 (pa:iB T)(slot:Slot T name id)(G:typeOf (.builtin id)=pure (.type "method_descriptor"))(hm:MtR X id r)(ho:PE X o to)
  (z:eI o name X.env (eval o X.env)=eval o X.env:=by rfl) (C:(apos.endLine==cpos.line)=true:=by rfl):PE X (.Call (.Attribute o name apos) [] [] cpos) (bO7 X.K T r to):=by
 intro y s σ H Q I h
 refine wpAny_Call_method0_late z C (thn (ho y s σ H _ I h) fun v s1 ⟨x,H1,J,r1,ty,q1⟩=>?_)
 obtain⟨h1,Y⟩:=aY6 J r1 ty
 exact⟨T,id,pa,slot,G,h1,Y,fm rfl (PySem.evalArgs_none (hm y s1 σ H1 x [] v [] Q J r1 .nil q1))⟩
theorem bI4 (pa:iB T)(slot:Slot T name id)(Y:typeOf (.builtin id)=pure (.type "method_descriptor"))(hm:MtR X id r)(ho:PE X o to)(ha:PA X (e::es) t)
  (C:eI o name X.env (eval o X.env)=eval o X.env:=by rfl)
  (J:((cW cpos (aW (e::es) X.env)).all (fun x=>!x.1)&&(backToKw cpos (keywordEach [] X.env)).all (fun x=>x.1.isSome)
   && decide ((e::es).length+([]:List iq).length+(if([]:List iq).isEmpty then 0 else 1)<30))=true:=by rfl)
  (G:(apos.endLine==cpos.line)=true:=by rfl) (hs:aW (e::es) X.env=(false,eval e X.env)::aW es X.env:=by rfl) (z:(cW cpos (aW es X.env)).any (·.1)=false:=by rfl) :
  PE X (.Call (.Attribute o name apos) (e::es) [] cpos) (tBM X.K T r to t):=by
 intro y s σ H Q I h
 refine wpAny_Call_method_late C J G rfl (thn (ho y s σ H _ I h) fun v s1 ⟨x,H1,I1,r1,ty,q1⟩=>?_)
 obtain⟨h1,h2⟩:=aY6 I1 r1 ty
 refine⟨T,id,pa,slot,Y,h1,h2,?_⟩
 have hA:=ha cpos y s1 σ H1 _ I1 q1
 rw[hs]at hA ⊢
 refine fm (by show(false||(cW cpos (aW es X.env)).any (·.1))=false;rw[z]<;>rfl) (Calls.evalArgs_plain ?_)
 exact thn hA fun us s2 ⟨vs,H2,I2,r2,q2⟩=>hm y s2 σ H2 x vs v us Q I2 r1 r2 q2
end
def MtM (X:Cx)(id:String)(r:V->List V->Hp->VK->Prop):Prop :=
 ∀(pins:List (Addr×Obj)) (s:ac) (σ:St) (H:Hp) (x:V) (xs:List V) (v:Value) (us:List Value) (Q:VK),Inv X pins σ H s->RelV x v->Vals xs us->r x xs H Q ->
  wpAny (model X.prog X.w) X.A (call (.builtin id) (v::us)) (EP X pins σ Q) X.xe s
theorem Vals.one:∀ {x:V} {us:List Value},Vals [x] us->∃ u,us=[u]/\RelV x u
 | _,_,.cons r .nil=>⟨_,rfl,r⟩
theorem Vals.zero:∀ {us:List Value},Vals [] us->us=[]
 | _,.nil=>rfl
theorem Vals.dropLast {y:List V}{us:List Value}(h:Vals y us):Vals y.dropLast us.dropLast:=by
 induction h with
 | nil=>exact .nil
 | cons r t ih =>
  cases t with
  | nil=>exact .nil
  | cons q t'=>exact .cons r ih
theorem Vals.reverse {y:List V}{us:List Value}(h:Vals y us):Vals y.reverse us.reverse:=by
 induction h with
 | nil=>exact .nil
 | cons r t ih=>rw[c7,c7];exact Vals.append ih (.cons r .nil)
theorem Vals.rep {y:List V}{us:List Value}(h:Vals y us):∀ k:Nat,Vals (ax k y).flatten (ax k us).flatten
 | 0=>.nil
 | k+1=>by
  rw[bu,bu,cE,cE]
  exact Vals.append h (Vals.rep h k)
theorem ar6 (its:List Value):∀(k:Nat) (h:List Value),
  iC (fun x1 y=>x1++y) h.toArray (ax k its.toArray)=(h++(ax k its).flatten).toArray
 | 0,h=>by simp
 | k+1,h=>by
  have e:h.toArray++its.toArray=(h++its).toArray:=by simp
  have e2:(h++its)++(ax k its).flatten=h++(ax (k+1) its).flatten:=by
   rw[bu,cE,ef]
  rw[<-e2,<-ar6 its k (h++its),<-e,bu,cu]
section
variable {X:Cx} {pins:List (Addr×Obj)} {σ:St} {H:Hp} {s:ac} {l b:Addr} {xs ys zs:List V}
theorem Inv.lset {its its':List Value}{n:Nat}{f:Array Value->Array Value}{t':Nat}(I:Inv X pins σ H s)(C:H l=some (.lst xs))
  (e:s.heap.get? l=some { cls:=.type "list",data:=.seq its.toArray n }) (y:f its.toArray=its'.toArray) (h:Vals ys its') (hz:ys.length<=aA) :
  Inv X pins σ (upd H l (.lst ys)) { s with heap:=s.heap.update l (fj f),toks:=t' }:=by
 have q:=PySem.IsL.update e f
 rw[y]at q
 refine I.write (x:=l) (e:=l) (by rw[C];exact trivial) (.inl rfl) (fun G u hb z=>(bA s.heap (fj f) (bE hb)).trans z) ⟨_,q⟩ ?_
 exact⟨hz,its',_,h,q⟩
theorem Inv.lnew {its:List Value}{t':Nat}(I:Inv X pins σ H s)(h:Vals ys its)(hz:ys.length<=aA) :
  Inv X pins σ (upd H s.heap.objs.size (.lst ys)) { s with heap:=s.heap.push { cls:=.type "list",data:=.seq its.toArray },toks:=t' } :=
 I.laid (fun _ _ q=>af _ q) (ai _) ⟨hz,its,0,h,aF _ rfl⟩
theorem Inv.fresh (I:Inv X pins σ H s):H s.heap.objs.size=none:=I.hok.fresh (ai _)
theorem Inv.lstM (I:Inv X pins σ H s)(h:H l=some (.lst xs)):xs.length<=aA/\∃(its:List Value) (n:Nat),Vals xs its/\xs.length=its.length/\s.heap.get? l=some { cls:=.type "list",data:=.seq its.toArray n }:=by
 obtain⟨z,its,n,r,e⟩:=I.hok l _ h
 exact⟨z,its,n,r,r.length,e⟩
theorem aW0 {n:Nat}(h:n<=aA):cS n=false:=by
 unfold cS
 exact decide_eq_false (by omega)
end
section
variable {X:Cx}
def bn5:V->List V->Hp->VK->Prop:=fun x vs H Q=>∃ l xs y,x=.ref l/\vs=[y]/\H l=some (.lst xs)/\xs.length<aA/\Q .non (upd H l (.lst (xs++[y])))
theorem ap0:MtM X "list.append" bn5:=by
 intro C s σ H x vs v us Q I Y rv h
 obtain⟨l,xs,y,rfl,rfl,G,hz,q⟩:=h
 cases Y
 obtain⟨u,rfl,J⟩:=rv.one
 obtain⟨z,its,n,r,hl,e⟩:=I.lstM G
 refine gD fJ ⟨_,e,rfl⟩ F.entry_list_append (F.args_list_append_2 _ _) (PySem.list_append l its.toArray n u (by rw[ar];omega)) ⟨e,?_⟩
 refine⟨.non,_,I.lset (its':=its++[u]) G e (by simp) (r.append (.cons J .nil)) ?_,rfl,q⟩
 rw[aR,cB]
 omega
def bQ5:R2:=fun x y H Q=>∃ l b xs zs,x=.ref l/\y=.ref b/\H l=some (.lst xs)/\H b=some (.lst zs)/\xs.length+zs.length<=aA/\∀ p,H p=none->Q (.ref p) (upd H p (.lst (xs++zs)))
theorem bs8:OpR X (bI .Add) bQ5:=by
 intro G s σ H x y v u Q I rx ry h
 obtain⟨l,b,xs,zs,rfl,rfl,hH,hB,hz,q⟩:=h
 cases rx
 cases ry
 obtain⟨z,its,n,r,hl,e⟩:=I.lstM hH
 obtain⟨z2,C,n2,Y,hl2,e2⟩:=I.lstM hB
 refine PySem.P.add_list e e2 ?_ (by rw[ar,ar];omega)
 have J:its.toArray++C.toArray=(its++C).toArray:=by simp
 rw[J]
 exact⟨.ref _,_,I.lnew (t':=s.toks) (r.append Y) (by rw[aR];omega),rfl,q _ I.fresh⟩
def bR5:R2:=fun x y H Q=>∃ l k xs,x=.ref l/\y=.int k/\H l=some (.lst xs)/\-(2^63)<=k/\k<2^63/\xs.length*k.toNat<=aA /\
 ∀ p,H p=none->Q (.ref p) (upd H p (.lst (ax k.toNat xs).flatten))
theorem bg0 {α:Type}(h:List α)(k:Nat):(ax k h).flatten.length=k*h.length:=by
 induction k with
 | zero=>simp
 | succ k ih=>rw[bu,cE,aR,ih,Nat.succ_mul,fq]
theorem bx5:OpR X (bI .Mult) bR5:=by
 intro a1 s σ H x y v u Q I rx ry h
 obtain⟨l,k,xs,rfl,rfl,hH,h1,h2,hz,q⟩:=h
 cases rx
 obtain⟨t,rfl⟩:=ry
 obtain⟨z,its,n,r,hl,e⟩:=I.lstM hH
 have G:its.toArray.size*k.toNat<=aA:=by rw[ar,<-hl];exact hz
 have a0:¬ its.toArray.size*k.toNat > (2^63 - 1) / 8:=by
  have:(aA:Nat)<=(2^63 - 1) / 8:=by decide
  omega
 have Y:¬(!Builtin.List.listFitsIndex k)=true:=by
  rw[fitsIndex_both h1 h2]
  exact aN
 have C:¬ cS (its.toArray.size*k.toNat)=true:=by
  rw[aW0 G]
  exact aN
 have J:iC (fun x1 x2=>x1++x2) #[] (ax (if its.toArray.isEmpty=true then 0 else k.toNat) its.toArray)=(ax k.toNat its).flatten.toArray:=by
  have f0:∀ m:Nat,iC (fun x1 x2=>x1++x2) #[] (ax m its.toArray)=(ax m its).flatten.toArray:=fun m=>by
   have:=ar6 its m []
   rw[fy]at this
   exact this
  rw[f0]
  cases its with
  | nil=>simp
  | cons a r'=>rw[if_neg (by simp)]
 refine d4 (T := "list") (U := "int") (by decide) ⟨_,e,rfl⟩ (fun s'=>dY s' k t) noFill_list_mul gE cX repeat_list gb.lookup
  (gD cX (dY s k t) gd (fU _ _) (int___rmul___int_list k t l its.toArray n)
   ⟨e,rfl,⟨_,e,rfl⟩,gD F.slot_list_mul ⟨_,e,rfl⟩ F.entry_list_mul (F.args_list_mul_2 _ _) (AutoListH.list___mul___list_int_3 l its.toArray n k t Y a0 C) ⟨e,?_⟩⟩)
 rw[J]
 exact⟨.ref _,_,I.lnew (t':=s.toks) (r.rep k.toNat) (by rw[bg0,gW];exact hz),rfl,q _ I.fresh⟩
end
section
variable {prog:aD} {w:World} {A:aP} {E:Value->ac->Prop} {s:ac}
end
section
variable {X:Cx}
end
end L2
end
noncomputable section
namespace Att
open PySem PySem.W PySem.Calls PyProof.Rows
theorem ints_of_wellAll {P:Params}{h:Heap}:∀(ns:List Int) (vs:List Value),WellAll P h vs (ns.map WData.int)->ir vs ns:=by
 intro ns
 induction ns with
 | nil =>
  intro vs w
  rw[cK]at w
  cases w
  exact .nil
 | cons n ns ih =>
  intro vs w
  rw[aL]at w
  cases w with
  | cons a b =>
   cases a
   exact .cons _ _ (ih _ b)
theorem script_of {l:OpenLaw}{n:Nat}(hn:l.most=some n){P:Params}{h:Heap}{args:List WData}{z:List Value}
  (y:l.row.toRowW.claim.pre args=true) (a0:WellAll P h z args) :
  ∃ a vs ns,z=[Value.ref a]/\args=[WData.list (ns.map WData.int)]/\h.get? a=some { cls:=.type "list",data:=.seq vs.toArray }/\ir vs ns/\ns.length<=n:=by
 have Y:WShape.hasAll [] args [.list .int]=true:=(pre_splitW y).1
 have hc:l.pre.holds [] { args:=args }=true:=(pre_splitW y).2
 obtain⟨d,r,rfl,h1,h2⟩:=hasAllW_cons Y
 obtain rfl:=hasAllW_nil h2
 obtain⟨xs,rfl,h3⟩:=hasW_list h1
 obtain⟨ns,rfl⟩:=items_int h3
 have C:ns.length<=n:=by
  unfold OpenLaw.pre at hc
  have J:(WTm.not (.lt (.lit (.int (n:Int))) (.len (.arg 0)))).holds [] { args:=[.list (ns.map .int)] }=true:=by
   have J:=(holds_andW hc).1
   rw[hn]at J
   exact J
  have G:=condW_of J (w_not (w_lt w_lit (w_len_list (w_arg rfl))))
  rw[aI]at G
  refine g8 fun q=>?_
  have q':(n:Int)<((ns.length:Nat):Int):=by omega
  first
   | (rw[decide_eq_true q']at G;exact absurd G (by decide))
   | (simp at G;omega)
 cases a0 with
 | cons w1 w2 =>
  cases w2
  cases w1 with
  | list ho hall=>exact⟨_,_,ns,rfl,rfl,ho,ints_of_wellAll ns _ hall,C⟩
theorem post_true (l:OpenLaw)(args:List WData):l.row.toRowW.claim.post args (.bool true) args=true :=
 postW_of (r:=l.row.toRowW) (X:=(true==true))
  (show WShape.has [] (.bool true) .bool=true by first|rfl|decide|simp[WShape.has,WShape.arms,WShape.armsAll])
  (show(WTm.eq .res (.lit (.bool true))).value [] { args:=args,res:=some (.bool true),after:=args }=some (.bool (true==true))from w_eq_bool (w_res rfl) w_lit) rfl
theorem attach_call {l:OpenLaw}{n:Nat}{q:aD}{loose:List Str}{XP:(Str->Option Value)->Heap->Prop}{YP:World->Heap->Prop}{d:DefRec}
  (hn:l.most=some n) (a1:d.params.defaults=[])
  (call:∀(w:World) (s₀ h:ac) (mg mb:Str->Option Value) (fa:Addr) (o:Obj) (pm cd z:Value) (a:Addr) (vs:List Value) (ns:List Int),
   Ground q loose [] XP w s₀ mg mb h.heap->YP w h.heap ->
   h.heap.get? fa=some o->o.data=.func (docDef d.name d.params d.body d.scope pm cd z)->h.heap.CodeRec cd d.name->mg d.name=some (.ref fa) ->
   h.heap.get? a=some { cls:=.type "list",data:=.seq vs.toArray }->ir vs ns->ns.length<=n->h.gens=#[] ->
   ed (model l.prog w) f7 (.call (.ref fa) ⟨[.ref a],[]⟩) (fun r s'=>r=.ok (.ret (.bool true))/\OldK h.heap s'.heap/\s'.os=h.os/\d9 s'.gens) h) :
  WalkO q loose XP YP l.row.toRowW d [] (fun f vs=>iu f vs):=by
 intro w s₀ h mg mb G Y fa o pm cd z dV kV ho hd a3 hD a4 hg args a6 as a0 a5 b0 a2 b1
 obtain rfl:dV=.none:=Dflts.none hD a1
 obtain rfl:kV=.none:=Dflts.noKw hD
 obtain⟨a,vs,ns,rfl,rfl,J,y,C⟩:=script_of hn a0 a2
 refine enter_call (dN (call w s₀ h mg mb fa o pm cd z a vs ns G Y ho (fd_plain hd) a3 a4 J y C hg) fun r s' hq=>?_)
 obtain⟨rfl,h2,h3,h4⟩:=hq
 exact⟨.inl ⟨.bool true,.bool true,[],rfl,fun _=>rfl,.bool true,post_true l _,fun _=>⟨List.Pairwise.nil,fun _ hm=>(nomatch hm)⟩⟩,h2,h3,h4⟩
section
variable {prog:aD} {w:World} {A:aP} {E:Value->ac->Prop} {s:ac} {K:Frag}
end
end Att
noncomputable section
namespace L2
open PySem PySem.Spec PyProof.Rows
theorem as6:∀ {vs:List Value} {ns:List Int},ir vs ns->Vals (ns.map V.int) vs
 | _,_,.nil=>.nil
 | _,_,.cons n t h=>.cons ⟨t,rfl⟩ (as6 h)
noncomputable def defArgs (s:Stmt):aV:=match s with
 | .FunctionDef _ a _ _ _ _ _ _ _ _=>a
 | _=>{ posonlyargs:=[],args:=[],vararg:=none,kwonlyargs:=[],kw_defaults:=[],kwarg:=none,defaults:=[] }
noncomputable def zD (s:Stmt):List Stmt:=match s with
 | .FunctionDef _ _ b _ _ _ _ _ _ _=>b
 | _=>[]
noncomputable def defScope (s:Stmt):Scope:=match s with
 | .FunctionDef _ _ _ _ _ _ sc _ _ _=>sc
 | _=>{ kind:=.function,names:=[],isGenerator:=false,isCoroutine:=false }
noncomputable abbrev CX0:CXT:=fun _ _ _ _ _ _=>False
abbrev E0:XK:=fun _ _ _=>False
theorem bB2 {X:Cx}:az6 CX0 X E0:=fun _ _ _ _ _ _ _ h=>h.elim
structure Fun (K:ab)(x qual:Str)(st:Stmt)(f:Addr)(fd:bp):Prop where
 ex:∃(oc:Value) (od:Option Addr) (kV doc pm:Value) (an:Option Addr) (cdv ct:Value) (osl:Array (Option Value)),
  fd=cf x qual (defArgs st) (zD st) (defScope st) .none kV doc pm an cdv ct/\K.lookup f=some ⟨oc,od,.func fd,osl⟩/\dX K cdv qual=true
 kp:bN K (.ref f)=true
section
variable {P:aD} {w:World} {K:ab} {mg:Str->Option Value} {base:Heap}
theorem Fun.ok {x qual:Str}{st:Stmt}{f:Addr}{J:bp}{N ps:List Str}{k:Nat}{sp:Sp}(F:Fun K x qual st f J)(S:FnScope N ps (defScope st))(len:∀ vs H Q E,sp vs H Q E->vs.length=ps.length)
  (z:∀(y:Value) (A:aP) (outer:List Env) (s:ac) (H:Hp) (vs:List V) (Q:VK) (E:XK),Room k (A.deeper (eF qual (defScope st) s.heap.objs.size f y))->sp vs H Q E ->
   ∃ t,PSs (aX6 CX0 P w K mg base N qual (defScope st) f y A outer s H E).nox (zD st) t/\t { nx:=fun _ H'=>Q .non H',rt:=Q } (ae7 N vs) H):FnOk P w K mg base CX0 (k+1) f J ps sp:=by
 obtain⟨oc,od,kV,Y,pm,an,y,ct,a0,rfl,lk,G⟩:=F.ex
 refine bE1 lk G S len fun A outer s H vs Q E hr C=>?_
 obtain⟨t,h,q⟩:=z y A outer s H vs Q E hr C
 exact⟨t,h.nox,q⟩
theorem Fun.binds {x qual:Str}{st:Stmt}{f:Addr}{J:bp}{ps:List Str}(F:Fun K x qual st f J)
  (h:∀(kV z G:Value) (C:Option Addr) (y ct:Value) (us:List Value),us.length=ps.length->dB (cf x qual (defArgs st) (zD st) (defScope st) .none kV z G C y ct) ⟨us,[]⟩=pure (ps.zip us)):Binds K J ps []:=by
 obtain⟨oc,od,kV,z,G,C,y,ct,Y,rfl,lk,a0⟩:=F.ex
 exact .all (h kV z G C y ct)
theorem ba4 {x qual:Str}{st:Stmt}{f:Addr}{oc:Value}{od C:Option Addr}{z:Array (Option Value)}{kV y G h ct:Value}(l:K.lookup f=some ⟨oc,od,.func (cf x qual (defArgs st) (zD st) (defScope st) .none kV y G C h ct),z⟩)
  (c:dX K h qual=true) (k:bN K (.ref f)=true):Fun K x qual st f (cf x qual (defArgs st) (zD st) (defScope st) .none kV y G C h ct):=⟨⟨oc,od,kV,y,G,C,h,ct,z,rfl,l,c⟩,k⟩
end
theorem bz9 {A:aP}{k:Nat}(h:Room k A):A.units+1<cLine:=Nat.lt_of_le_of_lt (Nat.add_le_add_left (by decide:1<=64) _) h.units
section
variable {X:Cx}
theorem pv (i:Nat){x:Str}{pos:Pos}(hN:X.N[i]?=some x:=by rfl)(y:Vis X.env.scope x:=by first|exact Or.inl rfl|exact Or.inr (Or.inl rfl)|exact Or.inr (Or.inr rfl))(hd:(x==("__debug__":Str))=false:=by decide)
  (h:(x==("__classdict__":Str))=false:=by decide):PE X (.Name x pos) (bb3 i):=aJ6 hN y hd h
end
theorem bR2 {A B:Prop}(h:B):if false=true then A else B:=by
 rw[if_neg aN]
 exact h
theorem bR4 {A B:Prop}(h:A):if true=true then A else B:=by
 rw[if_pos rfl]
 exact h
def ae1 (H H':Hp):Prop:=∀ b o,H b=some o->H' b=some o
theorem ae1.refl (H:Hp):ae1 H H:=fun _ _ h=>h
theorem aG1 {prog:aD}{w:World}{A:aP}{R:iZ->ac->Prop}{s:ac}{G y iter:Expr}{C:List Expr}{scope:Scope}{pos:Pos}{it z:Value}{env:Env}(I:Nat->ac->Prop)
  (turn:∀ n s,I n s->wpAny (model prog w) A (g6 it) (fun r s₁=>match r with
   | none=>R (.ok .next) s₁
   | some v=>wpAny (model prog w) A (dH y it v) (fun _ J=>wpAny (model prog w) A (fe y env v) (fun _ s₂ =>
     wpAny (model prog w) A (forIn C true fun c r=>if r=true then do let ok <- cV c env (eval c env);pure (ForInStep.yield ok)else pure (ForInStep.yield r)) (fun ok Y =>
      if ok=true then wpAny (model prog w) A (eval G env) (fun x s₄ =>
       wpAny (model prog w) A (call (.builtin "list.append") [z,x]) (fun _ s₅=>∃ m,m<n/\I m s₅) (gX (model prog w) A env fun e s'=>R (.error e) s') s₄) (gX (model prog w) A env fun e s'=>R (.error e) s') Y
      else ∃ m,m<n/\I m Y) (gX (model prog w) A env fun e s'=>R (.error e) s') s₂) (gX (model prog w) A env fun e s'=>R (.error e) s') J) (gX (model prog w) A env fun e s'=>R (.error e) s') s₁) (gX (model prog w) A env fun e s'=>R (.error e) s') s)
  (n:Nat) (h:I n s) :
  ed (model prog w) A (.compLoop (.ListComp G [⟨y,iter,C,0⟩] scope pos) 0 it z env) R s:=by
 refine codeAny_loop rfl I (fun n s hI=>?_) n h
 show wpAny _ A ((compTurn (.ListComp G [⟨y,iter,C,0⟩] scope pos) 0 it z env).onRaise (fun x=>do noteFrame x env;theTreesLotGoes x)) _ _ s
 refine wpAny_noted ?_
 rw[compTurn_list]
 refine ak (gk (ak (bP (turn n s hI) (fun r s₁ h₁=>?_) fun _ _ h'=>h')))
 cases r with
 | none=>exact aJ h₁
 | some v =>
  refine ak (bP h₁ (fun _ J a0=>?_) fun _ _ h'=>h')
  refine ak (bP a0 (fun _ s₂ h₂=>ak (bP h₂ (fun ok Y h₃=>?_) fun _ _ h'=>h')) fun _ _ h'=>h')
  cases ok with
  | false=>exact aJ ⟨rfl,h₃⟩
  | true =>
   exact ak (ak (bP h₃ (fun x s₄ h₄=>ak (bP h₄ (fun _ s₅ h₅=>aJ (aJ ⟨rfl,h₅⟩)) fun _ _ h'=>h')) fun _ _ h'=>h'))
noncomputable def ac1 (cells:List (Str×Addr)):List (Str×bw)->List (Str×Addr)->List (Str×Addr)
 | [],acc=>acc
 | (n,k)::r,acc=>ac1 cells r (if k==.free then(match cells.lookup n with|some c=>(n,c)::acc|none=>acc)else acc)
theorem ae2 {env:Env}:∀(names:List (Str×bw)) (z:List (Str×Addr)),(∀ y∈names,y.2=.free->∃ c,env.cells.lookup y.1=some c) ->
  (forIn names z fun(x:Str×bw) (cs:List (Str×Addr))=>(if x.2==.free then do let c <- cellOf env x.1;pure (ForInStep.yield ((x.1,c)::cs))else pure (ForInStep.yield cs):Sem (ForInStep (List (Str×Addr)))))=pure (ac1 env.cells names z)
 | [],z,_=>by rw[fV];rfl
 | (n,k)::r,z,h=>by
  have C:=fun a=>ae2 r a fun y hy=>h y (ao _ hy)
  rw[ig]
  unfold ac1
  cases e:(k==NameKind.free)with
  | false =>
   simp only[bz,if_false]
   exact C z
  | true =>
   have hk:k=.free:=by simpa using e
   obtain⟨c,hc⟩:=h (n,k) az hk
   have e1:cellOf env n=pure c:=by unfold cellOf;rw[hc]
   simp only[if_true,e1,hc]
   exact C _
theorem zS {scope:Scope}{env:Env}(h:∀ y∈scope.names,y.2=.free->∃ c,env.cells.lookup y.1=some c):closureFor scope env=pure (ac1 env.cells scope.names []):=by
 have:=ae2 (env:=env) scope.names [] h
 show(forIn scope.names [] (fun(x:Str×bw) (cs:List (Str×Addr))=>(if x.2==.free then do let c <- cellOf env x.1;pure (ForInStep.yield ((x.1,c)::cs))else pure (ForInStep.yield cs):Sem (ForInStep (List (Str×Addr))))) >>= fun cs=>pure cs)=_
 rw[this]
 rfl
theorem clOf_mem {cells:List (Str×Addr)}{n:Str}{c:Addr}:∀ {names:List (Str×bw)} {C:List (Str×Addr)},(n,c)∈ac1 cells names C->cells.lookup n=some c\/(n,c)∈C
 | [],_,h=>.inr h
 | (m,k)::r,C,h=>by
  unfold ac1 at h
  rcases clOf_mem h with z|z
  ·exact .inl z
  ·cases e:(k==NameKind.free)with
   | false=>simp only[e,bz,if_false]at z;exact .inr z
   | true =>
    simp only[e,if_true]at z
    cases q:cells.lookup m with
    | none=>rw[q]at z;exact .inr z
    | some d =>
     rw[q]at z
     rcases aC.mp z with y|y
     ·cases y;exact .inl q
     ·exact .inr y
theorem az3 {cells:List (Str×Addr)}{n:Str}{c:Addr}(hc:cells.lookup n=some c):∀ {names:List (Str×bw)} {y:List (Str×Addr)},((n,NameKind.free)∈names\/(n,c)∈y)->(n,c)∈ac1 cells names y
 | [],_,h=>by rcases h with h|h;(exact absurd h (by simp));exact h
 | (m,k)::r,y,h=>by
  unfold ac1
  refine az3 hc ?_
  rcases h with h|h
  ·rcases aC.mp h with e|h
   ·cases e
    right
    simp[hc]
   ·exact .inl h
  ·right
   cases e:(k==NameKind.free)with
   | false=>simpa using h
   | true =>
    simp only[if_true]
    cases q:cells.lookup m with
    | none=>exact h
    | some d=>exact ao _ h
theorem ae4 {α:Type}{n:Str}{c:α}:∀ {l:List (Str×α)},(n,c)∈l->(∀ d,(n,d)∈l->d=c)->l.lookup n=some c
 | (m,d)::r,h,u=>by
  rw[aS]
  cases e:n==m with
  | true =>
   have e':=beq_iff_eq.mp e
   subst e'
   rw[u d az]
  | false =>
   rcases aC.mp h with z|z
   ·cases z;simp at e
   ·exact ae4 z fun d' h'=>u d' (ao _ h')
theorem qb {cells:List (Str×Addr)}{n:Str}{c:Addr}{names:List (Str×bw)}(hc:cells.lookup n=some c)(h:(n,NameKind.free)∈names):(ac1 cells names []).lookup n=some c:=by
 refine ae4 (az3 hc (.inl h)) fun d hd=>?_
 rcases clOf_mem hd with z|z
 ·rw[hc]at z;exact(ay z).symm
 ·exact absurd z (by simp)
theorem zg:∀(names:List (Str×bw)) (n:Nat) (h:List (Str×Addr)),aE n names h=aE n names []++h
 | [],_,h=>by simp[aE]
 | (x,k)::r,n,h=>by
  unfold aE
  split
  ·rw[zg r (n+1) ((x,n)::h),zg r (n+1) [(x,n)]]
   simp
  ·exact zg r n h
theorem zv:∀ {names:List (Str×bw)} {n:Nat} {C:List (Str×Addr)} {x:Str} {c:Addr},(x,c)∈aE n names C->(x,NameKind.cell)∈names\/(x,c)∈C
 | [],_,_,_,_,h=>.inr h
 | (y,k)::r,n,C,x,c,h=>by
  unfold aE at h
  split at h
  ·rename_i hk
   rcases zv h with z|z
   ·exact .inl (ao _ z)
   ·rcases aC.mp z with e|z
    ·cases e
     have:k=.cell:=by simpa using hk
     subst this
     exact .inl az
    ·exact .inr z
  ·rcases zv h with z|z
   ·exact .inl (ao _ z)
   ·exact .inr z
theorem zA {α:Type}(x:Str):∀(l r:List (Str×α)),(l++r).lookup x=(l.lookup x).or (r.lookup x)
 | [],r=>by simp
 | (y,v)::l,r=>by
  rw[g9,aS,aS]
  cases x==y with
  | true=>rfl
  | false=>exact zA x l r
noncomputable def zN (N':List Str)(src:List (Option Nat))(scope:Scope)(XN:List Str)(xs:Scope):Bool :=
 (scope.kind==.function) &&
 (scope.names.all fun y=>!(y.2==.free)||(xs.names.lookup y.1==some .cell||xs.names.lookup y.1==some .free)) &&
 (scope.names.all fun y=>!(y.2==.local)||scope.names.lookup y.1==some .local) &&
 (scope.names.all fun y=>!(y.2==.cell)||(scope.names.all fun z=>!(z.1==y.1)||z.2==.cell)) &&
 (src.length==N'.length) &&
 ((N'.zip src).all fun y=>match y.2 with|none=>true|some j=>XN[j]?==some y.1&&scope.names.lookup y.1==some .free)
structure CompCk (N':List Str)(src:List (Option Nat))(scope:Scope)(XN:List Str)(xs:Scope):Prop where
 kind:scope.kind=.function
 fr:∀ y∈scope.names,y.2=.free->xs.names.lookup y.1=some .cell\/xs.names.lookup y.1=some .free
 loc:∀ y∈scope.names,y.2=.local->scope.names.lookup y.1=some .local
 cel:∀ y∈scope.names,y.2=.cell->∀ z∈scope.names,z.1=y.1->z.2=.cell
 len:src.length=N'.length
 sr:∀(i j:Nat) (x:Str),src[i]?=some (some j)->N'[i]?=some x->XN[j]?=some x/\scope.names.lookup x=some .free
theorem bb9 {C:List Str}{src:List (Option Nat)}{scope:Scope}{G:List Str}{J:Scope}(h:zN C src scope G J=true):CompCk C src scope G J:=by
 unfold zN at h
 simp only[ag]at h
 obtain⟨⟨⟨⟨⟨h1,h2⟩,h3⟩,h4⟩,h5⟩,h6⟩:=h
 refine⟨by simpa using h1,fun y hy e=>?_,fun y hy e=>?_,fun y hy e z hz ez=>?_,by simpa using h5,fun i j x e1 e2=>?_⟩
 ·have:=aM.mp h2 y hy
  simpa [e]using this
 ·have:=aM.mp h3 y hy
  simpa [e]using this
 ·have:=aM.mp h4 y hy
  simp only[e,beq_self_eq_true,Bool.not_true,iT]at this
  have:=aM.mp this z hz
  simpa [ez]using this
 ·have Y:(x,some j)∈C.zip src:=by
   refine aX (i:=i) ?_
   rw[List.getElem?_zip_eq_some]
   exact⟨e2,e1⟩
  have:=aM.mp h6 _ Y
  simpa using this
noncomputable abbrev zC (X:Cx)(N':List Str)(scope:Scope)(C:Addr)(cells:List (Str×Addr))(s:ac)(H:Hp)(ex:List Addr):Cx where
 prog:=X.prog
 w:=X.w
 K:=X.K
 mg:=X.mg
 base:=X.base
 A:=X.A
 N:=N'
 s₀:=s
 H₀:=H
 env:={ scope:=dz scope X.env,locals:=C,globals:=X.env.globals,cells:=cells,qual:=X.env.qual,func:=none,code:=X.env.code,frame:=X.env.frame,builtins:=X.env.builtins }
 outer:=X.stack
 stack:=X.stack
 ex:=ex
 fn:=fun x=>scope.names.lookup x==some .cell
 calm:=X.calm
 pn:=[]
 xe:=fun _ _=>False
def PIf (X:Cx)(ifs:List Expr)(t:TT):Prop :=
 ∀(pins:List (Addr×Obj)) (s:ac) (σ:St) (H:Hp) (Q:Bool->Hp->Prop),Inv X pins σ H s->t σ H Q ->
  wpAny (model X.prog X.w) X.A (forIn ifs true fun c r=>if r=true then do let ok <- cV c X.env (eval c X.env);pure (ForInStep.yield ok)else pure (ForInStep.yield r)) (TP X pins σ Q) X.xe s
def bR3:TT:=fun _ H Q=>Q true H
theorem bi7 {X:Cx}:PIf X [] bR3:=fun _ _ _ H _ I h=>wpAny_tests_nil ⟨H,I,h⟩
theorem bh3 {X:Cx}{c:Expr}{t:TT}(h:PT X c t):PIf X [c] t:=fun y s σ H Q I hw=>wpAny_tests_one (h y s σ H Q I hw)
noncomputable def aq8 (src:List (Option Nat))(σ:St):St:=src.map fun o=>match o with|none=>none|some j=>(σ[j]?).join
def tComp (src:List (Option Nat))(wi:TI)(g:TG)(tc:TT)(te:TE):TE:=fun σ H Q=>wi σ H fun J H1=>∀ D,H1 D=none ->
 ∃ W:Nat->Nat->St->Hp->Prop,(∃ m,W 0 m (aq8 src σ) (upd H1 D (.lst [])))/\∀ i m σ' H',W i m σ' H' ->
  (J.stop i H'/\Q (.ref D) H')\/(J.go i H'/\∃ N:St->Hp->Prop,(∀ σ2 H2,N σ2 H2->∃ m',m'<m/\W (i+1) m' σ2 H2) /\
   ∀ x H2,J.yld i H' x H2->g x σ' H2 fun σ3 H3=>tc σ3 H3 fun b H4=>if b=true then te σ3 H4 fun v H5=>∃ ys,H5 D=some (.lst ys)/\ys.length<aA/\N σ3 (upd H5 D (.lst (ys++[v])))else N σ3 H4)
theorem qh {env:Env}:∀ {names:List (Str×bw)} {x:Str} {k:bw},names.lookup x=some k ->
  (names.map fun(n,k)=>if(k==NameKind.free&&env.scope.kind==.function&&env.kindOf n==some .cell)then(n,NameKind.cell)else(n,k)).lookup x =
   some (if(k==NameKind.free&&env.scope.kind==.function&&env.kindOf x==some .cell)then NameKind.cell else k)
 | [],_,_,h=>by simp at h
 | (n,k)::r,x,k',h=>by
  have y:=@qh env r x k'
  show jg x ((if(k==NameKind.free&&env.scope.kind==.function&&env.kindOf n==some .cell)=true then(n,NameKind.cell)else(n,k))::_)=_
  cases hx:x==n with
  | true =>
   have e:=beq_iff_eq.mp hx
   subst e
   simp only[aS,hx]at h
   cases h
   by_cases hc:(k==NameKind.free&&env.scope.kind==.function&&env.kindOf x==some .cell)=true
   ·rw[if_pos hc,if_pos hc];simp only[aS,hx]
   ·rw[if_neg hc,if_neg hc];simp only[aS,hx]
  | false =>
   simp only[aS,hx]at h
   by_cases hc:(k==NameKind.free&&env.scope.kind==.function&&env.kindOf n==some .cell)=true
   ·rw[if_pos hc];simp only[aS,hx];exact y h
   ·rw[if_neg hc];simp only[aS,hx];exact y h
theorem zX {env:Env}:∀ {names:List (Str×bw)} {x:Str},names.lookup x=none ->
  (names.map fun(n,k)=>if(k==NameKind.free&&env.scope.kind==.function&&env.kindOf n==some .cell)then(n,NameKind.cell)else(n,k)).lookup x=none
 | [],_,_=>rfl
 | (n,k)::r,x,h=>by
  have y:=@zX env r x
  show jg x ((if(k==NameKind.free&&env.scope.kind==.function&&env.kindOf n==some .cell)=true then(n,NameKind.cell)else(n,k))::_)=_
  cases hx:x==n with
  | true=>simp only[aS,hx]at h;cases h
  | false =>
   simp only[aS,hx]at h
   by_cases hc:(k==NameKind.free&&env.scope.kind==.function&&env.kindOf n==some .cell)=true
   ·rw[if_pos hc];simp only[aS,hx];exact y h
   ·rw[if_neg hc];simp only[aS,hx];exact y h
theorem ak4 {X:Cx}{N':List Str}{src:List (Option Nat)}{scope:Scope}{a6:List (Addr×Obj)}{σ:St}{H:Hp}{s s4:ac}{fp:List Addr}
  (J:CompCk N' src scope X.N X.env.scope) (I:Inv X a6 σ H s) (hf:∀ b∈fp,FpOk X a6 H b) (b4:∀ b∈fp,b<s.heap.objs.size)
  (e4:∃ tk,s4={ s with heap:=du (s.heap.push { cls:=.type "dict",data:=.dict #[] }) scope.names,toks:=tk }) :
  Inv (zC X N' scope s.heap.objs.size (aE (s.heap.objs.size+1) scope.names (ac1 X.env.cells scope.names [])) s H fp) [] (aq8 src σ) H s4:=by
 obtain⟨tk,rfl⟩:=e4
 have hk:∀ b o,s.heap.get? b=some o->(du (s.heap.push { cls:=.type "dict",data:=.dict #[] }) scope.names).get? b=some o:=fun b o e=>cw _ _ b o (af _ e)
 have ok:=cellsFrom_ok scope.names (s.heap.push { cls:=.type "dict",data:=.dict #[] }) (s.heap.objs.size+1) [] ⟨fun _ _ hm=>(nomatch hm),List.Pairwise.nil⟩ (by rw[bJ];exact ai _)
 rw[bJ]at ok
 have a3:=zg scope.names (s.heap.objs.size+1) (ac1 X.env.cells scope.names [])
 have lk:∀ x c,(aE (s.heap.objs.size+1) scope.names (ac1 X.env.cells scope.names [])).lookup x=some c ->
   ((x,c)∈aE (s.heap.objs.size+1) scope.names []/\(x,NameKind.cell)∈scope.names)\/(X.env.cells.lookup x=some c/\(aE (s.heap.objs.size+1) scope.names []).lookup x=none):=fun x c e=>by
  rw[a3,zA]at e
  cases q:(aE (s.heap.objs.size+1) scope.names []).lookup x with
  | some d =>
   rw[q]at e
   have e':d=c:=ay e
   subst e'
   have hm:=au q
   refine .inl ⟨hm,?_⟩
   rcases zv hm with z|z
   ·exact z
   ·exact absurd z (by simp)
  | none =>
   rw[q]at e
   have e':(ac1 X.env.cells scope.names []).lookup x=some c:=e
   rcases clOf_mem (au e')with z|z
   ·exact .inr ⟨z,rfl⟩
   ·exact absurd z (by simp)
 have up:∀ x c,(x,c)∈aE (s.heap.objs.size+1) scope.names []->s.heap.objs.size+1<=c:=fun x c h=>(ok.empty x c h).2
 have b5:∀ x c,X.env.cells.lookup x=some c->c<s.heap.objs.size:=fun x c h=>by
  obtain⟨v,q⟩:=I.cell x c h
  exact q.lt
 have a5:∀ b,b<s.heap.objs.size->b≠s.heap.objs.size:=fun b h=>aq h
 have b2:∀ b∈fp,H b=none/\b≠X.env.locals/\b ∉ X.fs:=fun b hb=>⟨(hf b hb).1,(hf b hb).2.1,(hf b hb).2.2.1⟩
 have b6:(du (s.heap.push { cls:=.type "dict",data:=.dict #[] }) scope.names).Ns s.heap.objs.size (fun _=>none):=(jh s.heap (.type "dict")).keeps (cw _ _)
 have a0:∀ x k,scope.names.lookup x=some k->(dz scope X.env).names.lookup x=some (if(k==NameKind.free&&X.env.scope.kind==.function&&X.env.kindOf x==some .cell)then NameKind.cell else k):=fun x k e=>qh (env:=X.env) e
 have a4:∀ x,scope.names.lookup x=none->(dz scope X.env).names.lookup x=none:=fun x e=>zX (env:=X.env) e
 have b1:∀ x c,(x,NameKind.free)∈scope.names->X.env.cells.lookup x=some c->(aE (s.heap.objs.size+1) scope.names (ac1 X.env.cells scope.names [])).lookup x=some c:=fun x c hx hc=>by
  rw[a3,zA]
  cases q:(aE (s.heap.objs.size+1) scope.names []).lookup x with
  | some d =>
   rcases zv (au q)with z|z
   ·have:=J.cel _ z rfl _ hx rfl
    cases this
   ·exact absurd z (by simp)
  | none=>exact qb hc hx
 have b0:∀ x,(x,NameKind.free)∈scope.names->∃ c,X.env.cells.lookup x=some c:=fun x hx=>I.ok.has x (J.fr _ hx rfl)
 refine⟨⟨I.ok.mod,J.kind,I.ok.glob,I.ok.blt,ai _,fun x y c e1 e2=>?_,fun x hx=>?_,fun x c hx e=>?_,I.ok.hd,I.ok.frames,.inl rfl,fun b hb=>⟨a5 b (b4 b hb),fun x c e z=>?_⟩,I.bs,am I.ok.bsz I.sz,fun b o e hb=>?_,fun b hb z=>?_,I.stack,I.stkFree⟩,
  rfl,I.bare,Un.kept hk,⟨_,b6,fun i x v e1 e2 e3=>?_⟩,fun x c e=>?_,I.hok.fresh (ai _),fun x c e=>?_,fun p hp=>absurd (show p∈([]:List (Addr×Obj))from hp) (by simp),I.hok.kept hk,by unfold aq8;rw[aI];exact J.len⟩
 ·rcases lk x c e1 with⟨a1,_⟩|⟨a1,_⟩<;>rcases lk y c e2 with⟨a2,_⟩|⟨a2,_⟩
  ·exact fh ok.apart a1 a2
  ·exact absurd (ah (b5 _ _ a2) (eh (up _ _ a1))) (bf _)
  ·exact absurd (ah (b5 _ _ a1) (eh (up _ _ a2))) (bf _)
  ·exact I.ok.inj x y c a1 a2
 ·cases q:scope.names.lookup x with
  | none =>
   have G:(dz scope X.env).names.lookup x=some .cell\/(dz scope X.env).names.lookup x=some .free:=hx
   rw[a4 x q]at G
   rcases G with z|z<;>cases z
  | some k =>
   have G:(dz scope X.env).names.lookup x=some .cell\/(dz scope X.env).names.lookup x=some .free:=hx
   rw[a0 x k q]at G
   cases k with
   | free =>
    obtain⟨c,hc⟩:=b0 x (au q)
    exact⟨c,b1 x c (au q) hc⟩
   | cell =>
    obtain⟨c,hc⟩:=zM (n:=s.heap.objs.size+1) q
    exact⟨c,by show(aE _ _ _).lookup x=_;rw[a3,zA,hc];rfl⟩
   | _=>rcases G with z|z<;>cases z
 ·have G:(scope.names.lookup x==some .cell)=true:=hx
  have q:scope.names.lookup x=some .cell:=by simpa using G
  rcases lk x c e with⟨a,_⟩|⟨a,b⟩
  ·have:=up _ _ a;show s.heap.objs.size<=c;omega
  ·obtain⟨d,hd⟩:=zM (n:=s.heap.objs.size+1) q
   rw[hd]at b;cases b
 ·subst z
  rcases lk x c e with⟨a,_⟩|⟨a,_⟩
  ·exact absurd (ah (b4 c hb) (eh (up _ _ a))) (bf _)
  ·exact(hf c hb).2.2.2.2.1 x c a rfl
 ·rcases(hf b hb).2.2.2.1 with z|z
  ·exact I.ok.noex b o e z
  ·exact absurd (ah (aw e) (am I.ok.bsz z)) (bf _)
 ·rcases aC.mp (I.stkSub b z)with y|y
  ·exact(b2 b hb).2.1 y
  ·exact(b2 b hb).2.2 y
 ·have C:(aq8 src σ)[i]?=some (some v):=e2
  unfold aq8 at C
  rw[aG]at C
  cases q:src[i]? with
  | none=>rw[q]at C;cases C
  | some o =>
   rw[q]at C
   cases o with
   | none=>cases C
   | some j =>
    have Y:(σ[j]?).join=some v:=ay C
    have ej:σ[j]?=some (some v):=by
     cases q2:σ[j]? with
     | none=>rw[q2]at Y;cases Y
     | some o2=>rw[q2]at Y;exact congrArg some Y
    obtain⟨h1,h2⟩:=J.sr i j x q e1
    have hm:=au h2
    obtain⟨mX,c3,c0⟩:=I.loc
    have b3:Vis X.env.scope x:=by
     rcases J.fr _ hm rfl with z|z
     ·exact .inr (.inl z)
     ·exact .inr (.inr z)
    obtain⟨u,ru,look⟩:=c0 j x v h1 ej b3
    refine⟨u,ru,.inr ?_⟩
    have hcell:∃ c,X.env.cells.lookup x=some c/\s.heap.IsCell c (some u):=by
     rcases look with⟨z,_⟩|⟨_,c,z1,z2⟩
     ·have z':X.env.scope.names.lookup x=some .local:=z
      rcases J.fr _ hm rfl with y|y<;>(rw[z']at y;cases y)
     ·exact⟨c,z1,z2⟩
    obtain⟨c,c1,c2⟩:=hcell
    refine⟨?_,c,b1 x c hm c1,c2.keeps hk⟩
    show(dz scope X.env).names.lookup x=some .cell\/(dz scope X.env).names.lookup x=some .free
    rw[a0 x _ h2]
    by_cases hc:(NameKind.free==NameKind.free&&X.env.scope.kind==.function&&X.env.kindOf x==some .cell)=true
    ·rw[if_pos hc];exact .inl rfl
    ·rw[if_neg hc];exact .inr rfl
 ·rcases lk x c e with⟨a,_⟩|⟨a,_⟩
  ·exact⟨_,(ok.empty x c a).1⟩
  ·obtain⟨v,q⟩:=I.cell x c a
   exact⟨v,q.keeps hk⟩
 ·rcases lk x c e with⟨a,_⟩|⟨a,_⟩
  ·exact I.hok.fresh (by have:=up _ _ a;omega)
  ·exact I.freeC x c a
theorem aC0 {X:Cx}{N':List Str}{scope:Scope}{h:List (Addr×Obj)}{σ σ':St}{H G:Hp}{s s5:ac}{Y:List Addr}{cells:List (Str×Addr)}{h':Heap}
  (I:Inv X h σ H s) (C:∀ b∈Y,FpOk X h H b) (J:Inv (zC X N' scope s.heap.objs.size cells s H Y) [] σ' G s5) (hs:c5 s.heap.objs.size s5.heap h') :
  Inv X h σ G { s5 with heap:=h' }:=by
 have y:∀ b o,s.heap.get? b=some o->b≠s.heap.objs.size:=fun b o e=>aq (aw e)
 have u:Un (frs X.stack) Y H G s.heap s5.heap:=J.base
 refine I.call' (s':={ s5 with heap:=h' }) (ch:=Y) J.os ⟨fun b o e n hb hx=>?_,fun b o e n hb hx=>?_,fun b o e n hx=>u.free b o e n hx,fun b o e hx=>?_,u.tups,u.frzs,u.tbls⟩ (fun b o e=>?_) J.bare fun b hb=>⟨(C b hb).2.2.2.1,(C b hb).2.1,(C b hb).2.2.2.2.1,(C b hb).2.2.2.2.2⟩
 ·exact(hs.2 b (y b o e)).trans (u.keep b o e n hb hx)
 ·obtain⟨sl,q⟩:=u.slot b o e n hb hx
  exact⟨sl,(hs.2 b (y b o e)).trans q⟩
 ·obtain⟨o',q⟩:=u.there b o e hx
  exact⟨o',(hs.2 b (y b o e)).trans q⟩
 ·have fr:G s.heap.objs.size=none:=J.free
  refine(J.hok b o e).stay (fun c w' hc q=>(hs.2 c ?_).trans q) (fun _ q=>q) fun _ _ q=>q
  rintro rfl
  rcases hc with z|hc
  ·rw[<-z,fr]at e;cases e
  ·rw[fr]at hc;cases hc
theorem ad6 {M:Model}{A:aP}{E:Value->ac->Prop}{s:ac}{scope:Scope}{globals:Addr}{y:List (Str×Addr)}{qual:Str}{outer:Env}{Q:Env->ac->Prop}
  (h:Q { scope:=scope,locals:=s.heap.objs.size,globals:=globals,cells:=aE (s.heap.objs.size+1) scope.names y,qual:=qual,func:=none,code:=outer.code,frame:=outer.frame,builtins:=outer.builtins }
   { s with heap:=du (s.heap.push { cls:=.type "dict",data:=.dict #[] }) scope.names }) :
  wpAny M A (dZ scope globals y [] qual none .none (some outer)) Q E s:=by
 simp only[dZ,gF,if_true]
 refine ak (wpAny_alloc ?_)
 refine ak (wpAny_layCells _ (fun name kind cells=>by cases hkc:kind==NameKind.cell<;>simp[hkc]) _ _ _ _ ?_)
 rw[show({ s with heap:=s.heap.push { cls:=.type "dict",data:=.dict #[] } }:ac).heap.objs.size=s.heap.objs.size+1 from bJ ..]
 refine ak ?_
 rw[fV]
 exact aJ (aJ h)
theorem ar3 {X':Cx}{R:iZ->ac->Prop}{a4 tg iter:Expr}{a2:List Expr}{scope:Scope}{pos:Pos}{g:TG}{tc:TT}{te:TE}{J:It}{fp:List Addr}{it D:Addr}{tn:Nat->Heap->Prop}{W:Nat->Nat->St->Hp->Prop}
  {QD:Hp->Prop} {σ0:St} {H0:Hp} {s4:ac} {m0:Nat} (hx:X'.xe=fun _ _=>False) (Y:X'.calm=true) (I4:Inv X' [] σ0 H0 s4) (T:Turn X'.prog X'.w X'.K tg J fp it tn) (b2:tn 0 s4.heap)
  (C:∀ H':Hp,(∀ b∈fp,H' b=none)->∀ b∈fp,FpOk X' [] H' b) (b3:∀ b∈fp,H0 b=none) (w0:W 0 m0 σ0 H0)
  (turn:∀ i m σ' H',W i m σ' H'->(J.stop i H'/\QD H')\/(J.go i H'/\∃ N:St->Hp->Prop,(∀ σ2 H2,N σ2 H2->∃ m',m'<m/\W (i+1) m' σ2 H2) /\
   ∀ x H2,J.yld i H' x H2->g x σ' H2 fun σ3 H3=>tc σ3 H3 fun b H4=>if b=true then te σ3 H4 fun v H5=>∃ ys,H5 D=some (.lst ys)/\ys.length<aA/\N σ3 (upd H5 D (.lst (ys++[v])))else N σ3 H4))
  (hg:PG X' tg g) (b1:PIf X' a2 tc) (he:PE X' a4 te) (a1:∀ σ' H' s',Inv X' [] σ' H' s'->QD H'->R (.ok .next) s') :
  ed (model X'.prog X'.w) X'.A (.compLoop (.ListComp a4 [⟨tg,iter,a2,0⟩] scope pos) 0 (.ref it) (.ref D) X'.env) R s4:=by
 have nox:∀ {α:Type} {t:Sem α} {Q Q':α->ac->Prop} {E:Value->ac->Prop} {s:ac},wpAny (model X'.prog X'.w) X'.A t Q X'.xe s->(∀ a s,Q a s->Q' a s)->wpAny (model X'.prog X'.w) X'.A t Q' E s :=
  fun h hQ=>bP h hQ fun _ _ z=>by rw[hx]at z;exact z.elim
 refine aG1 (fun n s'=>∃ i σ' H',Inv X' [] σ' H' s'/\tn i s'.heap/\(∀ b∈fp,H' b=none)/\W i n σ' H') ?_ m0 ⟨0,σ0,H0,I4,b2,b3,w0⟩
 rintro n s3 ⟨i,σ3,H3,I3,a3,a5,w3⟩
 rcases turn i n σ3 H3 w3 with⟨stop,qn⟩|⟨go,N,hN,step⟩
 ·refine nox (T.done X' rfl rfl rfl Y i [] s3 σ3 H3 X'.xe I3 (C H3 a5) a3 stop) fun r s4 ⟨hr,I4⟩=>?_
  subst hr
  exact a1 σ3 H3 s4 I4 qn
 ·refine nox (T.item X' rfl rfl rfl Y i [] s3 σ3 H3 X'.xe I3 (C H3 a5) a3 go) fun r s4 ⟨u,hr,h4⟩=>?_
  subst hr
  refine nox h4 fun _ s5 ⟨x,H5,I5,r5,y5,a0,a6⟩=>?_
  have b0:=I5.pinned (C H5 a6) (T.obj _ _ a0)
  refine nox (hg _ s5 σ3 H5 x u _ b0 r5 (step x H5 y5)) fun _ s6 ⟨σ6,H6,I6,q6⟩=>?_
  have G:∀ {σ7:St} {H7:Hp} {s7:ac},Inv X' ([]++ap7 fp s5.heap) σ7 H7 s7->N σ7 H7->∃ m,m<n/\∃ i σ' H',Inv X' [] σ' H' s7/\tn i s7.heap/\(∀ b∈fp,H' b=none)/\W i m σ' H':=fun {σ7 H7 s7} I7 n7=>by
   obtain⟨m',hm,w7⟩:=hN σ7 H7 n7
   refine⟨m',hm,i+1,σ7,H7,I7.unpinned,T.keep _ _ _ a0 fun b hb o e=>(I7.pin (b,o) (a9 _ (a9 _ (qA hb e)))).1,fun b hb=>?_,w7⟩
   obtain⟨o,e,d⟩:=T.obj _ _ a0 b hb
   exact(I7.pin (b,o) (a9 _ (a9 _ (qA hb e)))).2.1
  refine nox (b1 _ s6 σ6 H6 _ I6 q6) fun b s7 ⟨H7,I7,q7⟩=>?_
  cases b with
  | false =>
   rw[if_neg aN]at q7 ⊢
   exact G I7 q7
  | true =>
   rw[if_pos rfl]at q7 ⊢
   refine nox (he _ s7 σ6 H7 _ I7 q7) fun v s8 ⟨y,H8,I8,r8,ys,hy,hz,q8⟩=>?_
   refine nox (ap0 _ s8 σ6 H8 (.ref D) [y] (.ref D) [v] (fun _ H9=>N σ6 H9) I8 rfl (.cons r8 .nil) ⟨D,ys,y,rfl,rfl,hy,hz,q8⟩) fun v9 s9 ⟨_,H9,I9,_,q9⟩=>?_
   exact G I9 q9
theorem aJ2 {X:Cx}{a6 tg iter:Expr}{a1:List Expr}{scope:Scope}{pos:Pos}{wi:TI}{g:TG}{tc:TT}{te:TE}(N':List Str)(src:List (Option Nat))
  (b3:zN N' src scope X.N X.env.scope=true) (hi:PI X tg iter wi) (Y:X.calm=true)
  (b5:∀(C:Addr) (cells:List (Str×Addr)) (s:ac) (H:Hp) (ex:List Addr),PG (zC X N' scope C cells s H ex) tg g/\PIf (zC X N' scope C cells s H ex) a1 tc/\PE (zC X N' scope C cells s H ex) a6 te)
  (hs:∀ x,cD iter X.env x=pure x:=by intro _;rfl):PE X (.ListComp a6 [⟨tg,iter,a1,0⟩] scope pos) (tComp src wi g tc te):=by
 intro z s σ H Q I h
 have ck:=bb9 b3
 rw[eval_ListComp]
 have b6:=zS (scope:=scope) (env:=X.env) fun y hy e=>I.ok.has y.1 (ck.fr y hy e)
 refine eJ (use:=none) rfl hs b6 ck.kind ck.loc (thn (hi z s σ H _ I h) fun v s1 h1=>thn h1 fun c1 s2 h2=>?_)
 obtain⟨it,G,tn,J,H2,e,I2,T,a4,f2,W⟩:=h2
 subst e
 have hD:=I2.fresh
 obtain⟨W,⟨m0,w0⟩,turn⟩:=W _ hD
 have I3:=I2.lnew (its:=[]) (ys:=[]) (t':=s2.toks) .nil (dC _)
 have a3:∀ b∈G,b<s2.heap.objs.size:=fun b hb=>by obtain⟨o,q,_⟩:=T.obj _ _ a4 b hb;exact aw q
 have f3:∀ b∈G,FpOk X z (upd H2 s2.heap.objs.size (.lst [])) b:=fun b hb=>⟨by rw[za (aq (a3 b hb))];exact(f2 b hb).1,(f2 b hb).2⟩
 refine bO (ad6 ?_)
 generalize a0:({ s2 with heap:=s2.heap.push { cls:=.type "list",data:=.seq ([]:List Value).toArray },toks:=s2.toks }:ac)=s3 at I3
 have c0:({ s2 with heap:=s2.heap.push { cls:=.type "list",data:=.seq ([]:List Value).toArray } }:ac)=s3:=a0
 have b1:∀ b∈G,b<s3.heap.objs.size:=fun b hb=>by
  rw[<-a0]
  show b<(s2.heap.push _).objs.size
  rw[bJ]
  exact em (a3 b hb)
 have I4:=ak4 (s4:={ s3 with heap:=du (s3.heap.push { cls:=.type "dict",data:=.dict #[] }) scope.names }) ck I3 f3 b1 ⟨_,rfl⟩
 have a2:tn 0 (du (s3.heap.push { cls:=.type "dict",data:=.dict #[] }) scope.names):=T.keep _ _ _ a4 fun b hb o e=>cw _ _ b o (af _ (by rw[<-a0];exact af _ e))
 obtain⟨hg,b4,he⟩:=b5 s3.heap.objs.size (aE (s3.heap.objs.size+1) scope.names (ac1 X.env.cells scope.names [])) s3 (upd H2 s2.heap.objs.size (.lst [])) G
 have a5:∀ H':Hp,(∀ b∈G,H' b=none)->∀ b∈G,FpOk (zC X N' scope s3.heap.objs.size (aE (s3.heap.objs.size+1) scope.names (ac1 X.env.cells scope.names [])) s3 (upd H2 s2.heap.objs.size (.lst [])) G) [] H' b:=fun H' hn b hb =>
  ⟨hn b hb,(I4.ok.exf b hb).1,I4.ok.exfs b hb,.inl hb,fun x c e=>(I4.ok.exf b hb).2 x c e,fun p hp=>absurd (show p∈([]:List (Addr×Obj))from hp) (by simp)⟩
 have T':Turn X.prog X.w X.K tg J G it tn:=T
 have b2:∀ b∈G,upd H2 s2.heap.objs.size (.lst []) b=none:=fun b hb=>(f3 b hb).1
 have L:=ar3 (X':=zC X N' scope s3.heap.objs.size (aE (s3.heap.objs.size+1) scope.names (ac1 X.env.cells scope.names [])) s3 (upd H2 s2.heap.objs.size (.lst [])) G) (R:=compPost (model X.prog X.w) X.A X.xe none (EP X z σ Q) (Value.ref s2.heap.objs.size) s3.heap.objs.size) (iter:=iter) (scope:=scope) (pos:=pos) (QD:=fun H'=>Q (.ref s2.heap.objs.size) H') rfl Y I4 T' a2 a5 b2 w0 turn hg b4 he
  (fun σ' H' s' J' q=>by
   obtain⟨mm,hn,_⟩:=J'.loc
   exact⟨mm,hn,fun h' b0=>⟨.ref s2.heap.objs.size,H',aC0 I3 f3 J' b0,rfl,q⟩⟩)
 exact fu L (T.self _ _ _ _ _ a2 L)
section
variable {X:Cx}
theorem bJ4:aY "abs"=some (.builtin "abs"):=by decide +kernel
theorem bJ8:aY "len"=some (.builtin "len"):=by decide +kernel
theorem bc3:aY "min"=some (.builtin "min"):=by decide +kernel
theorem bH9:aY "max"=some (.builtin "max"):=by decide +kernel
theorem bH3:aY "all"=some (.builtin "all"):=by decide +kernel
theorem at1:aY "isinstance"=some (.builtin "isinstance"):=by decide +kernel
theorem bz6:aY "int"=some (.type "int"):=by decide +kernel
theorem bv9:aY "bool"=some (.type "bool"):=by decide +kernel
theorem bI8:aY "str"=some (.type "str"):=by decide +kernel
theorem aK5:aY "tuple"=some (.type "tuple"):=by decide +kernel
theorem aN0:aY "list"=some (.type "list"):=by decide +kernel
def bK0 (i j:Int):Prop:=0<j/\j<2^4096
theorem aD3 {y:Int}(h0:0<y)(h:y<2^4096):y.natAbs.log2<9000:=by
 have hn:y.natAbs<2^4096:=by
  have:(y.natAbs:Int)=y:=by omega
  have z:(y.natAbs:Int)<((2^4096:Nat):Int):=by rw[this];simpa using h
  exact gY.mp z
 have:=(Nat.log2_lt (by omega)).mpr hn
 omega
theorem aS3:OpR X (bI .FloorDiv) (rI bK0 fun i j=>.int (i / j)):=opI fun i j _ _ _ _ _ hc q=>by
 refine floordiv_int (by have:=hc.1;omega) ?_ (.inl (PyProof.noPylong_of_log2 (aD3 hc.1 hc.2)))
 rw[dW i (by have:=hc.1;omega)]
 exact q
theorem ax7 {K:ab}(h:X.K=K):IxR X (bQ3 K):=by subst h;exact bq1
theorem bp6 {K:ab}(h:X.K=K):IxR X (bO0 K):=by subst h;exact ix_tup
theorem aj3 {K:ab}(y:X.K=K):ab6 X (.builtin "len") (fun h H Q=>∃ p ys,h=[.ref p]/\(SqL K H p ys\/SqT K H p ys)/\Q (.int ys.length) H):=by subst y;exact ap1
theorem av2 {K:ab}(y:X.K=K):ab6 X (.type "tuple") (fun h H Q=>∃ p ys,h=[.ref p]/\((SqL K H p ys/\∀ l,H l=none->Q (.ref l) (upd H l (.tup ys)))\/(SqT K H p ys/\Q (.ref p) H))):=by subst y;exact ao3
theorem aE2 {K:ab}(y:X.K=K):ab6 X (.type "list") (fun h H Q=>∃ p ys,h=[.ref p]/\(SqL K H p ys\/SqT K H p ys)/\∀ l,H l=none->Q (.ref l) (upd H l (.lst ys))):=by subst y;exact aq1
theorem aR9 {K:ab}{tg l:Expr}{h:TE}(y:X.K=K)(hl:PE X l h):PI X tg l (bj2 K h):=by subst y;exact bo3 hl
theorem bm2 {K:ab}{tg l:Expr}{h:TE}(y:X.K=K)(hl:PE X l h):PI X tg l (bG4 K h):=by subst y;exact bD6 hl
theorem bj7 {K:ab}{pos:Pos}{es:List Expr}{k:Nat}{t:TGs}{n:Nat}(z:X.K=K)(hc:X.calm=true)(h:PGs X es t)
  (hn:(bV es X.env).length=n:=by rfl) (y:(bV es X.env).findIdx? (·.1)=none:=by rfl):PG X (.Tuple es k pos) (bM9 K n t):=by subst z;exact bq8 hc h hn y
end
structure DefAt (K:ab)(mg:Str->Option Value)(x:Str)(st:Stmt)(ps:List Str)(f:Addr)(fd:bp):Prop where
 fn:Fun K x x st f fd
 mg:mg x=some (.ref f)
 bi:Binds K fd ps []
@[irreducible] noncomputable def bS4 (p:Prop):Prop:=p
theorem ae1.new {p:Addr}{H y:Hp}{o:HO}(h:ae1 H y)(z:y p=none):ae1 H (L2.upd y p o):=fun x o e=>by
 have e1:=h x o e
 rw[za (zm e1 z)]
 exact e1
section
variable {prog:aD} {w:World} {A:aP} {R:iZ->ac->Prop} {I:Addr} {fp wr:List Addr} {n:Nat} {P:Nat->Value->Prop} {St:Nat->Heap->Prop} {kw:List (Str×Value)}
theorem aG7 (W:Walks prog w A.in1 I fp wr n P St)(bt:Nat->Nat->Bool)(a6:CmpOf prog w A.in1 .Lt P bt)(S:Addr)(b1:S ∉ fp) :
  ∀(k j:Nat) (s:ac) (vb:Value) (c:Nat),n - (j+1)=k->j+1<=n->St (j+1) s.heap->P (cL bt j) vb ->
  s.heap.get? S=some { cls:=.type "list",dict:=none,data:=.seq #[vb,vb] c,slots:=#[] } ->
  (∀ v h' tk,P (cL bt (n - 1)) v->(∀ b o,b ∉ wr->b≠S->s.heap.get? b=some o->h'.get? b=some o)->R (.ok (.ret v)) { s with heap:=h',toks:=tk }) ->
  ed (model prog w) A (.builtin "min.loop" ⟨[.ref I,.none,.ref S],kw⟩) R s:=by
 have b0:S ∉ wr:=fun h=>b1 (W.sub _ h)
 have a0:(toString "min"++toString ".loop":String) = "min.loop":=by decide
 intro k
 induction k with
 | zero =>
  intro j s vb c hk hj a4 a1 hS hR
  have b2:j+1=n:=by omega
  refine fA eV ?_
  rw[dD bU _]
  show wpAny _ A.in1 (f8 (.ref S) >>= _) _ _ s
  refine ak (c9 hS rfl ?_)
  show wpAny _ A.in1 (tryCatch (g6 (.ref I)) _ >>= _) _ _ s
  refine ak (da (W.done s _ _ (b2▸a4) fun h' tk z=>?_))
  have Y:=z S _ b0 hS
  show wpAny _ A.in1 (updateSeq S (fun _=>#[]) >>= _) _ _ _
  refine ak ?_
  refine fB Y rfl (ak (fW (aJ ?_)))
  refine hR vb _ tk (by rw[<-b2];exact a1) fun b o y C e=>(bA _ _ (bE C)).trans (z b o y e)
 | succ k ih =>
  intro j s vb c hk hj a4 a1 hS hR
  have hlt:j+1<n:=by omega
  refine fA eV ?_
  rw[dD bU _]
  show wpAny _ A.in1 (f8 (.ref S) >>= _) _ _ s
  refine ak (c9 hS rfl ?_)
  show wpAny _ A.in1 (tryCatch (g6 (.ref I)) _ >>= _) _ _ s
  refine ak (da (W.item (j+1) s _ _ hlt a4 fun v h' tk hP a2 z=>?_))
  have Y:=z S _ b0 hS
  show wpAny _ A.in1 (tryCatch (gM [v,v] (richCompare .Lt v vb >>= _)) _ >>= _) _ _ _
  refine ak (da (dw (ak (a6 (j+1) (cL bt j) v vb _ _ _ hP a1 ?_))))
  refine ak (dw (bH ?_))
  refine ak (fW (aJ ?_))
  cases hb:bt (j+1) (cL bt j)with
  | true =>
   simp only[if_true]
   refine ak ?_
   refine fB Y rfl (ak (fW ?_))
   rw[a0]
   refine aJ ⟨eK bU _,ih (j+1) _ v _ (by omega) hlt (W.frame _ _ _ a2 fun b b3 o e=>?_) (by simp only[cL,hb,if_true];exact hP) (cA _ Y rfl)
    fun v' a5 J a3 G=>?_⟩
   ·exact(bA _ _ (fun h:S=b=>b1 (by rw[h];exact b3))).trans e
   ·exact hR v' a5 J a3 fun b o y C e=>G b o y C ((bA _ _ (bE C)).trans (z b o y e))
  | false =>
   simp only[bz,if_false]
   refine ak (fW ?_)
   rw[a0]
   refine aJ ⟨eK bU _,ih (j+1) _ vb c (by omega) hlt a2 (by simp only[cL,hb,bz,if_false];exact a1) Y fun v' a5 J a3 G=>?_⟩
   exact hR v' a5 J a3 fun b o y C e=>G b o y C (z b o y e)
theorem aC7 (W:Walks prog w A.in1 I fp wr n P St)(bt:Nat->Nat->Bool)(J:CmpOf prog w A.in1 .Lt P bt)(S:Addr)(C:S ∉ fp){s:ac}{c:Nat}{d:Value}(a2:St 0 s.heap)
  (hS:s.heap.get? S=some { cls:=.type "list",dict:=none,data:=.seq #[] c,slots:=#[] })
  (h0:n=0->∀ h' tk,(∀ b o,b ∉ wr->b≠S->s.heap.get? b=some o->h'.get? b=some o)->R (.ok (.ret d)) { s with heap:=h',toks:=tk })
  (hR:0<n->∀ v h' tk,P (cL bt (n - 1)) v->(∀ b o,b ∉ wr->b≠S->s.heap.get? b=some o->h'.get? b=some o)->R (.ok (.ret v)) { s with heap:=h',toks:=tk }) :
  ed (model prog w) A (.builtin "min.loop" ⟨[.ref I,.none,.ref S],[(cM "default",d)]⟩) R s:=by
 have b0:S ∉ wr:=fun h=>C (W.sub _ h)
 have G:(toString "min"++toString ".loop":String) = "min.loop":=by decide
 refine fA eV ?_
 rw[dD bU _]
 show wpAny _ A.in1 (f8 (.ref S) >>= _) _ _ s
 refine ak (c9 hS rfl ?_)
 show wpAny _ A.in1 (tryCatch (g6 (.ref I)) _ >>= _) _ _ s
 rcases Nat.eq_zero_or_pos n with hn|hn
 ·refine ak (da (W.done s _ _ (hn▸a2) fun h' tk y=>?_))
  show wpAny _ A.in1 (rule _ >>= _) _ _ _
  refine ak (iD (aJ ?_))
  exact h0 hn h' tk fun b o z _ e=>y b o z e
 ·refine ak (da (W.item 0 s _ _ hn a2 fun v h' tk hP a4 y=>?_))
  have a3:=y S _ b0 hS
  show wpAny _ A.in1 (updateSeq S (fun _=>#[v,v]) >>= _) _ _ _
  refine ak ?_
  refine fB a3 rfl ?_
  rw[G]
  refine aJ ⟨eK bU _,aG7 W bt J S C _ 0 _ v _ rfl hn (W.frame _ _ _ a4 fun b a5 o e=>?_) hP (cA _ a3 rfl) fun v' b1 a1 a6 Y=>?_⟩
  ·exact(bA _ _ (fun h:S=b=>C (by rw[h];exact a5))).trans e
  ·exact hR hn v' b1 a1 a6 fun b o z a0 e=>Y b o z a0 ((bA _ _ (bE a0)).trans (y b o z e))
end
theorem aL0 (a d:Value):argsOk "min" ⟨[a],[(cM "default",d)]⟩:=by unfold argsOk;kernel_rfl
theorem qI (val : Nat -> Int) : ∀ k j, j <= k -> val (cL (fun i j => decide (val i < val j)) k) <= val j
  | 0, j, h => by have : j = 0 := by omega
                  subst this; exact et _
  | k + 1, j, h => by
    have ih := qI val k
    unfold cL
    by_cases hb : val (k + 1) < val (cL (fun i j => decide (val i < val j)) k)
    · rw[if_pos (by simpa using hb)]
      by_cases hj : j = k + 1
      · subst hj; exact et _
      · have := ih j (by omega); omega
    · rw[if_neg (by simpa using hb)]
      by_cases hj : j = k + 1
      · subst hj; omega
      · exact ih j (by omega)
def bj6 (K:ab):V->V->Hp->VK->Prop:=fun x d H Q=>∃ a ns,x=.ref a/\SqL K H a (ns.map V.int)/\(ns=[]->Q d H)/\∀ m∈ns,(∀ y∈ns,m<=y)->Q (.int m) H
theorem ao7 {ns:List Int}{its:List Value}(r:Vals (ns.map V.int) its){i:Nat}{v:Value}(h:its[i]?=some v):∃ z t,ns[i]?=some z/\v=Value.int z t:=by
 have hl:=r.length
 rw[aI]at hl
 have hi:i<its.length:=(ae.mp h).1
 obtain⟨u,e1,q⟩:=r.get (i:=i) (x:=.int ns[i]) (by rw[aG,aj (by omega)];rfl)
 rw[h]at e1;cases e1
 obtain⟨t,rfl⟩:=q
 exact⟨_,t,aj (by omega),rfl⟩
theorem aW6 {X:Cx}{C:List (Addr×Obj)}{σ:St}{H:Hp}{s:ac}{x d:V}{u w':Value}{Q:VK}(hc:X.calm=true)(I:Inv X C σ H s)(rx:RelV x u)(rd:RelV d w')(h:bj6 X.K x d H Q) :
  wpAny (model X.prog X.w) X.A (call (.builtin "min") [u] [(cM "default",w')]) (EP X C σ Q) X.xe s:=by
 obtain⟨a,ns,rfl,hS,q0,qm⟩:=h
 cases rx
 obtain⟨its,rv,pl,hz⟩:=I.list hS
 have hl:=rv.length
 rw[aI]at hl
 have Y:(toString "min"++toString ".loop":String) = "min.loop":=by decide
 refine kmb_tree F.kind_min F.plain_min F.entry_min (aL0 _ _) ?_
 show wpAny _ X.A.in1 (dP "min" ["key", "default"] 0 ⟨[],[(cM "default",w')]⟩ >>= _) _ _ s
 refine ak (wpAny_of_eq (show dP "min" ["key", "default"] 0 ⟨[],[(cM "default",w')]⟩=pure [none,some w']from rfl) ?_)
 refine ak (aJ ?_)
 refine ak (cC pl.isList ?_)
 have a0:a<s.heap.objs.size:=by obtain⟨o,_,e,_⟩:=pl;exact aw e
 have W:=iE (prog:=X.prog) (w:=X.w) (A:=X.A.in1) (I.ok.hd hc) s.heap.objs.size a (aq a0) its.toArray
 refine ak (bO ?_)
 generalize J:s.heap.push _=h2
 have G:h2.objs.size=s.heap.objs.size+1:=by rw[<-J,bJ]
 have a1:∀ b o,s.heap.get? b=some o->h2.get? b=some o:=fun b o e=>by rw[<-J];exact af _ e
 have a4:h2.objs.size ∉ [s.heap.objs.size,a]:=by
  rw[G]
  intro z
  rcases aC.mp z with z|z
  ·exact absurd z (Nat.succ_ne_self _)
  ·have z':s.heap.objs.size+1=a:=by simpa using z
   exact absurd (ah a0 (by rw[<-z'];exact cG _)) (bf _)
 have a3:(h2.push { cls:=.type "list",data:=.seq ([]:List Value).toArray }).IsListIter s.heap.objs.size a 0/\(h2.push { cls:=.type "list",data:=.seq ([]:List Value).toArray }).IsList a its.toArray:=by
  refine⟨⟨_,af _ (by rw[<-J];exact aF _ rfl),rfl,rfl⟩,?_⟩
  obtain⟨o,e,r⟩:=pl.isList
  exact⟨o,af _ (a1 _ _ e),r⟩
 let val:Nat->Int:=fun i=>ns.getD i 0
 have a2:∀ i v,its.toArray[i]?=some v->∃ t,v=Value.int (val i) t:=fun i v e=>by
  obtain⟨z,t,e1,e2⟩:=ao7 rv (i:=i) (v:=v) (by rw[bK]at e;exact e)
  refine⟨t,?_⟩
  rw[e2]
  show Value.int z t=Value.int (ns.getD i 0) t
  rw[aK,e1]
  rfl
 rw[Y]
 have nx:∀(h':Heap) (tk:Nat),(∀ b o,b ∉ [s.heap.objs.size]->b≠h2.objs.size->(h2.push { cls:=.type "list",data:=.seq ([]:List Value).toArray }).get? b=some o->h'.get? b=some o)->Inv X C σ H { s with heap:=h',toks:=tk }:=fun h' tk k=>I.kept fun b o e=>by
  refine k b o ?_ ?_ (af _ (a1 b o e))
  ·intro z
   have z':b=s.heap.objs.size:=by simpa using z
   exact absurd (aw e) (by rw[z'];exact bf _)
  ·intro z
   exact absurd (aw e) (by rw[z,G];exact Nat.not_lt.mpr (cG _))
 refine aJ ⟨eK bU _,aC7 (d:=w') W _ (iU val a2) h2.objs.size a4 a3 (aF _ rfl) (fun hn h' tk k=>?_) fun hn v h' tk hP k=>?_⟩
 ·have e:ns=[]:=by
   have:its.toArray.size=0:=hn
   have:its.length=0:=by simpa using this
   exact c4.mp (by omega)
  exact⟨d,H,nx h' tk k,rd,q0 e⟩
 ·obtain⟨z,t,e1,e2⟩:=ao7 rv (i:=cL (fun i j=>decide (val i<val j)) (its.toArray.size - 1)) (v:=v) (by rw[bK]at hP;exact hP)
  subst e2
  have hv:val (cL (fun i j=>decide (val i<val j)) (its.toArray.size - 1))=z:=by
   show ns.getD _ 0=z
   rw[aK,e1]
   rfl
  refine⟨.int z,H,nx h' tk k,⟨t,rfl⟩,qm z (aX e1) fun y hy=>?_⟩
  obtain⟨j,hj,e3⟩:=dE.mp hy
  have:=qI val (its.toArray.size - 1) j (by simp only[ar];omega)
  rw[hv]at this
  have e4:val j=y:=by
   show ns.getD j 0=y
   rw[aK,aj hj]
   exact e3
  omega
def bL9 (K:ab)(ta td:TE):TE:=fun σ H Q=>ta σ H fun x H1=>td σ H1 fun d H2=>bj6 K x d H2 Q
theorem bh4 {X:Cx}{K:ab}{e Y:Expr}{J G:TE}{p pos kp:Pos}(hK:X.K=K)(hc:X.calm=true)(hg:Gl X "min")(hm:X.mg "min"=none)(ha:PE X e J)(hd:PE X Y G)
  (hs:aW [e] X.env=[(false,eval e X.env)]:=by rfl) :
  PE X (.Call (.Name "min" p) [e] [⟨some "default",Y,kp⟩] pos) (bL9 K J G):=by
 subst hK
 intro y s σ H Q I h
 refine bG (ai6 I hg hm bc3 ?_)
 have h':al8 J aS2 σ H (fun vs z=>match vs with|[x]=>G σ z fun d H2=>bj6 X.K x d H2 Q|_=>False):=h
 refine callWith_kw (env:=X.env) (thn ((zK ha ac9 hs) pos y s σ H _ I h') fun us s1 ⟨vs,z,I1,r1,C⟩=>?_) (by rw[hs];rfl) (by rw[hs];rfl)
 match vs,C,r1 with
 | [x],C,r1 =>
  obtain⟨u,rfl,ru⟩:=af4 r1
  refine kws_cons (thn (hd y s1 σ z _ I1 C) fun v s2 ⟨d,H2,I2,rd,q2⟩=>kws_nil ?_)
  exact aW6 hc I2 ru rd q2
inductive D where
 | non|bl (b:Bool)|int (i:Int)|str (x:Str)|tup (l:List D)|lst (l:List D)
mutual
noncomputable def D.deep:D->Nat
 | .tup l=>D.deepL l+1
 | .lst l=>D.deepL l+1
 | _=>0
noncomputable def D.deepL:List D->Nat
 | []=>0
 | d::l=>max (D.deep d) (D.deepL l)
end
section
variable {X:Cx}
end
section
variable {X:Cx}
def bJ1 (K:ab):R2:=fun x y H Q=>∃ a b xs ys,x=.ref a/\y=.ref b/\SqT K H a xs/\SqT K H b ys/\xs.length+ys.length<=aA/\∀ p H',ae1 H H'->SqT K H' p (xs++ys)->(H' p=some (.tup (xs++ys))\/(p=a/\ys=[])\/(p=b/\xs=[]))->Q (.ref p) H'
theorem bn2 {prog:aD}{w:World}{A:aP}{E:Value->ac->Prop}{s:ac}{t b:Addr}{ws:List Value}{Q:Value->ac->Prop}(ht:IsTup s.heap t ([]:List Value).toArray)(hb:IsTup s.heap b ws.toArray)(h1:Q (.ref b) s) :
  wpAny (model prog w) A (bI .Add (.ref t) (.ref b)) Q E s:=by
 obtain⟨⟨cls,dd,data,sl⟩,ho,hc,n,hd⟩:=id ht
 obtain⟨⟨Y,J,C,G⟩,h,z,n2,y⟩:=id hb
 simp only at hc hd z y
 subst hc hd z y
 exact gR ⟨_,ho,rfl⟩ ⟨_,h,rfl⟩ eT gq c6 cZ (cR _ _)
   (tuple_addW0 t b _ ws.toArray n n2 dd J sl G rfl) ⟨ho,h,h1⟩
theorem bi6 {K:ab}(hK:X.K=K):OpR X (bI .Add) (bJ1 K):=by
 subst hK
 intro C s σ H x y v u Q I G J h
 obtain⟨a,b,Y,ys,e1,e2,ha,hb,hz,q⟩:=h
 by_cases hx:Y=[]
 ·subst e1;subst e2;subst hx
  cases G;cases J
  obtain⟨its,r1,p1,_⟩:=I.tuple ha
  obtain⟨a0,r2,p2,_⟩:=I.tuple hb
  obtain rfl:its=[]:=r1.nil_iff.mpr rfl
  exact bn2 p1 p2 ⟨.ref b,H,I,rfl,q b H (ae1.refl H) hb (.inr (.inr ⟨rfl,rfl⟩))⟩
 ·refine bo5 C s σ H x y v u Q I G J ⟨a,b,Y,ys,e1,e2,ha,hb,hx,hz,fun z=>?_,fun z p hp=>?_⟩
  ·subst z
   exact q a H (ae1.refl H) (by rw[bh];exact ha) (.inr (.inl ⟨rfl,rfl⟩))
  ·exact q p _ ((ae1.refl H).new hp) (SqT.of zb) (.inl zb)
end
noncomputable def Its (x:Str):It:=⟨fun i _=>i<x.cps.size,fun i H v H'=>H'=H/\∃ c,x.cps[i]?=some c/\v=.str ⟨#[c]⟩,fun i _=>x.cps.size<=i⟩
theorem ay0 {P:aD}{w:World}{K:ab}{tg:Expr}{G:String}{x:Str}{t:Tok}(it:Addr)(hn:["enumerate", "zip", "dict_itemiterator", "dict_reverseitemiterator", "odict_iterator", "itertools.zip_longest", "itertools.pairwise"].contains G=false)
  (W:∀ A:aP,A.handled=none->Walks P w A it [it] [it] x.cps.size (SignAt x) (fun i h=>h.IsStrIter it G x t i))
  (J:∀(A:aP) (s:ac) (i:Nat) (Q:Option Value->ac->Prop) (E:Value->ac->Prop),A.handled=none->s.heap.IsStrIter it G x t i->x.cps[i]?=none->(∀ h',ib it s.heap h'->Q none { s with heap:=h' })->wpAny (model P w) A (g6 (.ref it)) Q E s)
  (C:∀(A:aP) (i:Nat) (s:ac) (Q:Value->ac->Prop) (E:Value->ac->Prop),s.heap.IsStrIter it G x t i->Q (.ref it) s->wpAny (model P w) A (iY (.ref it)) Q E s):Turn P w K tg (Its x) [it] it (fun i h=>h.IsStrIter it G x t i) where
 mem:=by simp
 obj:=fun i h st b hb=>by
  have e:b=it:=by simpa using hb
  subst e
  obtain⟨o,ho,hc,hd⟩:=st
  exact⟨o,ho,fun v z=>by rw[hd]at z;cases z⟩
 keep:=fun i h h' st k=>by
  obtain⟨o,ho,r⟩:=st
  exact⟨o,k it (by simp) _ ho,r⟩
 item:=by
  intro X hP hw hK hc i y s σ H E I hf st hg
  subst hP hw hK
  obtain⟨f0,f1,f2,f3,f4,f5⟩:=hf it (by simp)
  refine(W X.A (I.ok.hd hc)).item i s _ _ hg st fun v h' tk hv Y kk=>?_
  obtain⟨c,u,a0,rfl⟩:=hv
  have I1:Inv X y σ H { s with heap:=h',toks:=tk }:=I.turned (fun b o hb e=>kk b o (by simpa using hb) e) f0 f1 f3 f4 f5
  obtain⟨o,ho,a1,hd⟩:=id Y
  exact⟨_,rfl,aS9 (s:={ s with heap:=h',toks:=tk }) (n:=G) ho a1 hd hn ⟨.str ⟨#[c]⟩,H,I1,⟨u,rfl⟩,⟨rfl,c,a0,rfl⟩,Y,fun b hb=>(hf b hb).1⟩⟩
 done:=by
  intro X hP hw hK hc i y s σ H E I hf st hg
  subst hP hw hK
  obtain⟨f0,f1,f2,f3,f4,f5⟩:=hf it (by simp)
  have a2:x.cps.size<=i:=hg
  exact J X.A s i _ E (I.ok.hd hc) st (by simp;omega) fun h' eb=>⟨rfl,I.turned (t':=s.toks) (fun b o hb e=>eb b o hb e) f0 f1 f3 f4 f5⟩
 self:=fun A i s Q E st h=>C A i s Q E st h
def bP8 (tl:TE):TI:=fun σ H R=>tl σ H fun v H1=>∃ x,v=.str x/\R (Its x) H1
theorem br4 {X:Cx}{tg l:Expr}{Y:TE}(hl:PE X l Y):PI X tg l (bP8 Y):=by
 intro y s σ H R I h
 refine thn (hl y s σ H _ I h) fun v s1 ⟨v0,H1,G,r1,q1⟩=>?_
 obtain⟨x,e,q⟩:=q1
 subst e
 obtain⟨t,rfl⟩:=r1
 have fin:∀(J:String) (o:Obj),o={ cls:=.type J,data:=.fields #[.str x t,.int 0 0] }->Turn X.prog X.w X.K tg (Its x) [s1.heap.objs.size] s1.heap.objs.size (fun i h=>h.IsStrIter s1.heap.objs.size J x t i)->PIE X y σ tg R (.ref s1.heap.objs.size) { s1 with heap:=s1.heap.push o }:=fun J o eo T=>by
  subst eo
  refine⟨s1.heap.objs.size,[s1.heap.objs.size],_,_,H1,rfl,G.kept (t':=s1.toks) fun b o e=>af _ e,T,⟨_,aF _ rfl,rfl,rfl⟩,fun b hb=>?_,q⟩
  have e:b=s1.heap.objs.size:=by simpa using hb
  subst e
  exact G.fpOk (ai _) (G.hok.fresh (ai _))
 cases ha:x.cps.all (·<128)
 ·exact wpAny_pyIter_wide ha (fin "str_iterator" _ rfl (ay0 _ (by decide) (fun A z=>Walks.strWide z _ x t) (fun A s i Q E z st hx C=>wpAny_pyNext_wide_end z st hx C) fun A i s Q E st h=>wpAny_pyIter_striter_wide st h))
 ·exact wpAny_pyIter_ascii ha (fin "str_ascii_iterator" _ rfl (ay0 _ (by decide) (fun A z=>Walks.strAscii z _ x t) (fun A s i Q E z st hx C=>wpAny_pyNext_ascii_end z st hx C) fun A i s Q E st h=>wpAny_pyIter_striter_ascii st h))
section
variable {X:Cx} {K:ab} {T id:String} {name:Str} {o e:Expr} {es:List Expr} {to:TE} {t:TA} {r:V->List V->Hp->VK->Prop} {apos cpos:Pos}
theorem br8 (Y:X.K=K)(pa:iB T)(slot:Slot T name id)(G:typeOf (.builtin id)=pure (.type "method_descriptor"))(J:MtR X id r)(ho:PE X o to)(ha:PA X (e::es) t)
  (z:eI o name X.env (eval o X.env)=eval o X.env:=by rfl)
  (C:((cW cpos (aW (e::es) X.env)).all (fun x=>!x.1)&&(backToKw cpos (keywordEach [] X.env)).all (fun x=>x.1.isSome)
   && decide ((e::es).length+([]:List iq).length+(if([]:List iq).isEmpty then 0 else 1)<30))=true:=by rfl)
  (y:(apos.endLine==cpos.line)=true:=by rfl) (hs:aW (e::es) X.env=(false,eval e X.env)::aW es X.env:=by rfl) (h:(cW cpos (aW es X.env)).any (·.1)=false:=by rfl) :
  PE X (.Call (.Attribute o name apos) (e::es) [] cpos) (tBM K T r to t):=by
 subst Y
 exact bI4 pa slot G J ho ha z C y hs h
end
structure Mach where
 letters:Int
 rooms:Int
 begins:List Int
 ends:List Int
 doors:List (Int×Str×Int×Int)
noncomputable def bG7 (q:Int×Str×Int×Int):D:=.tup [.int q.1,.str q.2.1,.int q.2.2.1,.int q.2.2.2]
noncomputable def Mach.D (M:Mach):D:=.tup [.int M.letters,.int M.rooms,.tup (M.begins.map .int),.tup (M.ends.map .int),.tup (M.doors.map bG7)]
noncomputable def ltr (i:Nat):Str:=⟨#[97+i]⟩
structure DoorOk (letters rooms:Int)(q:Int×Str×Int×Int):Prop where
 s0:0<=q.1
 s1:q.1<rooms
 l:∃ i:Nat,(i:Int)<letters/\q.2.1=ltr i
 g0:0<=q.2.2.1
 g1:q.2.2.1<rooms
 t0:0<=q.2.2.2
 t1:q.2.2.2<=3
structure RoomsOk (rooms:Int)(l:List Int):Prop where
 mem:∀ r∈l,0<=r/\r<rooms
 up:l.Pairwise (· < ·)
structure Mach.Ok (most:Nat)(M:Mach):Prop where
 l0:1<=M.letters
 l1:M.letters<=3
 r0:1<=M.rooms
 r1:M.rooms<=5
 b:RoomsOk M.rooms M.begins
 e:RoomsOk M.rooms M.ends
 d:∀ q∈M.doors,DoorOk M.letters M.rooms q
 m:M.doors.length<=most
mutual
noncomputable def D.tups:D->Bool
 | .lst _=>false
 | .tup l=>D.tupsL l
 | _=>true
noncomputable def D.tupsL:List D->Bool
 | []=>true
 | d::l=>D.tups d&&D.tupsL l
end
end L2
end
noncomputable section
namespace L2
end L2
end
noncomputable section
namespace L2
open PySem PySem.Spec PyProof.Rows
noncomputable def bQ8:Option Int->D
 | none=>.non
 | some i=>.int i
noncomputable def addO:Option Int->Option Int->Option Int
 | some a,some b=>some (a+b)
 | _,_=>none
noncomputable def minO:List Int->Option Int
 | []=>none
 | a::l=>some (match minO l with|none=>a|some b=>if b<a then b else a)
theorem aC6 {X:Cx}{a1 tg iter:Expr}{a0:List Expr}{scope:Scope}{pos a2 py:Pos}{y:Str}{i:Nat}{wi:TI}{g:TG}{tc:TT}{te:TE}(N':List Str)(src:List (Option Nat))
  (hN:X.N.Nodup) (c1:X.N[i]?=some y) (a6:X.env.scope.names.lookup y=some .local)
  (c2:zN N' src scope X.N X.env.scope=true) (hi:PI X tg iter wi) (a4:X.calm=true)
  (b5:∀(C:Addr) (cells:List (Str×Addr)) (s:ac) (H:Hp) (ex:List Addr),PG (zC X N' scope C cells s H ex) tg g/\PIf (zC X N' scope C cells s H ex) a0 tc/\PE (zC X N' scope C cells s H ex) a1 te)
  (hs:∀ x,cD iter X.env x=pure x:=by intro _;rfl)
  (b6:dS (.ListComp a1 [⟨tg,iter,a0,0⟩] scope pos) (some (.Name y py)) a2.line X.env=pure true:=by rfl) :
  PS X (.Assign [.Name y py] (.ListComp a1 [⟨tg,iter,a0,0⟩] scope pos) a2) (aS0 (tComp src wi g tc te) (at5 i)):=by
 intro G s σ H D0 I h
 have ck:=bb9 c2
 rw[exec_Assign_Name_used _ _ _ _ b6]
 refine ak (gk (ak ?_))
 show wpAny _ X.A (do let _ <- comprehension (.ListComp a1 [⟨tg,iter,a0,0⟩] scope pos) scope X.env _ (newList []) false (eval iter X.env) (some (fe (.Name y py) X.env))) _ _ s
 have c3:=zS (scope:=scope) (env:=X.env) fun y hy e=>I.ok.has y.1 (ck.fr y hy e)
 refine ak (bP (eJ (use:=some (fe (.Name y py) X.env)) (Q:=fun _ s'=>SP X G D0 .next s') rfl hs c3 ck.kind ck.loc (thn (hi G s σ H _ I h) fun v s1 h1=>thn h1 fun d2 s2 h2=>?_)) (fun _ s' hq=>aJ (aJ hq)) fun _ _ e=>e)
 obtain⟨it,Y,tn,J,H2,e,I2,T,b2,f2,W⟩:=h2
 subst e
 have hD:=I2.fresh
 obtain⟨W,⟨m0,w0⟩,turn⟩:=W _ hD
 have I3:=I2.lnew (its:=[]) (ys:=[]) (t':=s2.toks) .nil (dC _)
 have b1:∀ b∈Y,b<s2.heap.objs.size:=fun b hb=>by obtain⟨o,q,_⟩:=T.obj _ _ b2 b hb;exact aw q
 have f3:∀ b∈Y,FpOk X G (upd H2 s2.heap.objs.size (.lst [])) b:=fun b hb=>⟨by rw[za (aq (b1 b hb))];exact(f2 b hb).1,(f2 b hb).2⟩
 refine bO (ad6 ?_)
 generalize a3:({ s2 with heap:=s2.heap.push { cls:=.type "list",data:=.seq ([]:List Value).toArray },toks:=s2.toks }:ac)=s3 at I3
 have d1:({ s2 with heap:=s2.heap.push { cls:=.type "list",data:=.seq ([]:List Value).toArray } }:ac)=s3:=a3
 have d0:∀ b∈Y,b<s3.heap.objs.size:=fun b hb=>by
  rw[<-a3]
  show b<(s2.heap.push _).objs.size
  rw[bJ]
  exact em (b1 b hb)
 have I4:=ak4 (s4:={ s3 with heap:=du (s3.heap.push { cls:=.type "dict",data:=.dict #[] }) scope.names }) ck I3 f3 d0 ⟨_,rfl⟩
 have b0:tn 0 (du (s3.heap.push { cls:=.type "dict",data:=.dict #[] }) scope.names):=T.keep _ _ _ b2 fun b hb o e=>cw _ _ b o (af _ (by rw[<-a3];exact af _ e))
 obtain⟨hg,b4,he⟩:=b5 s3.heap.objs.size (aE (s3.heap.objs.size+1) scope.names (ac1 X.env.cells scope.names [])) s3 (upd H2 s2.heap.objs.size (.lst [])) Y
 have a5:∀ H':Hp,(∀ b∈Y,H' b=none)->∀ b∈Y,FpOk (zC X N' scope s3.heap.objs.size (aE (s3.heap.objs.size+1) scope.names (ac1 X.env.cells scope.names [])) s3 (upd H2 s2.heap.objs.size (.lst [])) Y) [] H' b:=fun H' hn b hb =>
  ⟨hn b hb,(I4.ok.exf b hb).1,I4.ok.exfs b hb,.inl hb,fun x c e=>(I4.ok.exf b hb).2 x c e,fun p hp=>absurd (show p∈([]:List (Addr×Obj))from hp) (by simp)⟩
 have T':Turn X.prog X.w X.K tg J Y it tn:=T
 have c0:∀ b∈Y,upd H2 s2.heap.objs.size (.lst []) b=none:=fun b hb=>(f3 b hb).1
 have L:=ar3 (X':=zC X N' scope s3.heap.objs.size (aE (s3.heap.objs.size+1) scope.names (ac1 X.env.cells scope.names [])) s3 (upd H2 s2.heap.objs.size (.lst [])) Y) (R:=compPost (model X.prog X.w) X.A X.xe (some (fe (.Name y py) X.env)) (fun _ s'=>SP X G D0 .next s') (Value.ref s2.heap.objs.size) s3.heap.objs.size) (iter:=iter) (scope:=scope) (pos:=pos) (QD:=fun H'=>D0.nx (σ.set i (some (.ref s2.heap.objs.size))) H') rfl a4 I4 T' b0 a5 c0 w0 turn hg b4 he
  (fun σ' H' s' J' q=>by
   have J2:=aC0 I3 f3 J' (Heap.SameBut.refl _ _)
   obtain⟨mm,hn,_⟩:=J'.loc
   have nL:s3.heap.objs.size≠X.env.locals:=cJ I3.lt
   have nC:∀ x c,X.env.cells.lookup x=some c->c≠s3.heap.objs.size:=fun x c e=>by
    obtain⟨v,z⟩:=I3.cell x c e
    exact aq z.lt
   show wpAny _ X.A (fe (.Name y py) X.env (.ref s2.heap.objs.size)) _ _ _
   refine gO (as0 (v:=.ref s2.heap.objs.size) J2 hN c1 (.inl a6) rfl (fun s5 I5 sb=>?_) (.inr a6))
   obtain⟨aa,sb,ha⟩:=sb
   have na:s3.heap.objs.size≠aa:=by
    rcases ha with z|z
    ·rw[z];exact nL
    ·exact fun e=>nC _ _ z e.symm
   refine⟨mm,hn.sameBut sb na,fun h' b3=>⟨_,H',I5.turned (t':=s5.toks) (fun b o hb e=>(b3.2 b hb).trans e) J'.free nL (.inr I3.sz) nC fun p hp z=>?_,q⟩⟩
   exact absurd (aw (I3.pin p hp).1) (by rw[z];exact bf _))
 exact fu L (T.self _ _ _ _ _ b0 L)
section
variable {M:Model} {A:aP} {E:Value->ac->Prop} {s₀ s:ac} {m cm:Str->Option Value} {env:Env} {cs:List (Str×Addr)}
theorem be0 {n:Str}{v:Value}{Q:Unit->ac->Prop}(z:ee s₀ env.locals m cs cm s)(G:env.scope.kind=.function)(kl:env.kindOf n=some .local)
  (go:∀ s',ee s₀ env.locals (fun y=>if y=n then some v else m y) cs cm s'->Q () s'):wpAny M A (eP env n v) Q E s:=by
 refine fG kl z.toInCall.ns (fun g C h=>go _ ⟨⟨?a,C,fun b o e=>?b,z.toInCall.fresh⟩,fun k c e=>?c,z.apart,z.above⟩) (by rw[G];rfl)
 case a=>obtain⟨J,tk,e⟩:=z.toInCall.same;subst e;exact⟨g,_,rfl⟩
 case b=>exact h.extBut b o (aq (ah (aw e) z.toInCall.fresh)) (z.toInCall.keep b o e)
 case c=>exact(z.cell k c e).sameBut h (cJ (z.above k c (au e)))
theorem bf4 {n:Str}{c:Addr}{v:Value}{Q:Unit->ac->Prop}(z:ee s₀ env.locals m cs cm s)(C:env.scope.kind=.function)(G:env.kindOf n=some .cell)
  (e1:env.cells.lookup n=some c) (e2:cs.lookup n=some c) (go:∀ s',ee s₀ env.locals m cs (fun y=>if y=n then some v else cm y) s'->Q () s'):wpAny M A (eP env n v) Q E s:=by
 have up:=z.above n c (au e2)
 refine fQ C G e1 (z.cell n c e2) fun g Y h=>go _ ⟨⟨?a,z.toInCall.ns.sameBut h (aq up),fun b o e=>?b,z.toInCall.fresh⟩,fun k J e=>?c,z.apart,z.above⟩
 case a=>obtain⟨h₁,tk,e⟩:=z.toInCall.same;subst e;exact⟨g,_,rfl⟩
 case b=>exact h.extBut b o (aq (db (ah (aw e) z.toInCall.fresh) up)) (z.toInCall.keep b o e)
 case c =>
  by_cases q:k=n
  ·subst q
   rw[e2]at e;cases e
   simpa using Y
  ·rw[if_neg q]
   exact(z.cell k J e).sameBut h fun y=>q (fh z.apart (au e) (y▸au e2))
theorem aw8 (f:Str×Value->PUnit->Sem (ForInStep PUnit))(Y:∀ n v u,f (n,v) u=(do eP env n v;pure (.yield ⟨⟩)))(G:env.scope.kind=.function)(sub:∀ n c,cs.lookup n=some c->env.cells.lookup n=some c) :
  ∀(bs:List (Str×Value)) (m J:Str->Option Value) (s:ac) (Q:PUnit->ac->Prop),ee s₀ env.locals m cs J s ->
   (∀ y∈bs,env.kindOf y.1=some .local\/(env.kindOf y.1=some .cell/\∃ c,cs.lookup y.1=some c)) ->
   (∀ s',ee s₀ env.locals (bindL env.kindOf bs m) cs (bindC env.kindOf bs J) s'->Q ⟨⟩ s')->wpAny M A (forIn bs ⟨⟩ f) Q E s
 | [],m,J,s,Q,z,_,go=>by rw[fV];exact aJ (go s z)
 | (n,v)::r,m,J,s,Q,z,hy,go=>by
  rw[ig,Y]
  have hr:=fun y (q:y∈r)=>hy y (ao _ q)
  rcases hy (n,v) az with kl|⟨kc,c,e2⟩
  ·refine ak (ak (be0 z G kl fun s' z'=>aJ (aw8 f Y G sub r _ _ s' Q z' hr fun h C=>go h ?_)))
   unfold bindL bindC;rw[if_pos kl,if_pos kl];exact C
  ·have nl:¬ env.kindOf n=some .local:=by rw[kc];decide
   refine ak (ak (bf4 z G kc (sub n c e2) e2 fun s' z'=>aJ (aw8 f Y G sub r _ _ s' Q z' hr fun h C=>go h ?_)))
   unfold bindL bindC;rw[if_neg nl,if_neg nl];exact C
end
theorem ak7 {M:Model}{A:aP}{E:Value->ac->Prop}{s:ac}{scope:Scope}{globals:Addr}{h:List (Str×Addr)}{binds:List (Str×Value)}{qual:Str}{func:Option Addr}{code:Value}{builtins:Addr}{Q:Env->ac->Prop}
  (C:scope.kind=.function) (hy:∀ y∈binds,scope.names.lookup y.1=some .local\/(scope.names.lookup y.1=some .cell/\∃ c,(aE (s.heap.objs.size+1) scope.names []).lookup y.1=some c))
  (go:∀ env,env=newEnv scope s.heap.objs.size globals (aE (s.heap.objs.size+1) scope.names h) qual func code none builtins ->
   ∀ s',ee s env.locals (bindL env.kindOf binds fun _=>none) (aE (s.heap.objs.size+1) scope.names []) (bindC env.kindOf binds fun _=>none) s'->Q env s') :
  wpAny M A (dZ scope globals h binds qual func code none builtins) Q E s:=by
 simp only[dZ,Option.isSome_none,bz,if_false]
 refine ak (wpAny_alloc (ak (wpAny_layCells _ (fun Y kd J=>by cases q:kd==NameKind.cell<;>simp[q]) _ _ _ _ ?_)))
 have ok:=cellsFrom_ok scope.names (s.heap.push { cls:=.type "frame",data:=.dict #[] }) (s.heap.objs.size+1) [] ⟨fun _ _ G=>(nomatch G),List.Pairwise.nil⟩ (by rw[bJ];exact ai _)
 have z:({ s with heap:=s.heap.push { cls:=.type "frame",data:=.dict #[] } }:ac).heap.objs.size=s.heap.objs.size+1:=bJ ..
 rw[bJ]at ok
 rw[z]
 refine ak (aw8 (s₀:=s) (cs:=aE (s.heap.objs.size+1) scope.names []) (env:=newEnv scope s.heap.objs.size globals (aE (s.heap.objs.size+1) scope.names h) qual func code none builtins)
  _ (fun _ _ _=>rfl) C (fun n c e=>?sub) binds (fun _=>none) (fun _=>none) _ _ ⟨⟨⟨_,_,rfl⟩,?ns,fun b o e=>?k,ai _⟩,fun n c e=>(ok.empty n c (au e)).1,ok.apart,fun n c e=>(ok.empty n c e).2⟩ hy fun s' x=>aJ (go _ rfl s' x))
 case sub =>
  show(aE _ _ _).lookup n=some c
  rw[zg,zA,e];rfl
 case ns=>exact(jh s.heap (.type "frame")).keeps (cw _ _)
 case k=>exact cw _ _ b o (af _ e)
noncomputable def qa (c:Addr)(qual:Str):HO:=.ext fun h=>h.CodeRec (.ref c) qual
noncomputable def am8 (f:Addr)(fd:bp):HO:=.ext fun h=>h.get? f=some { cls:=.type "function",data:=.func fd }
theorem aB6 {P:aD}{w:World}{H:Hp}{h:Heap}{c:Addr}{q:Str}(r:h.CodeRec (.ref c) q):ab4 P w H h c (qa c q):=by
 refine⟨r,?_,fun G C z k=>?_⟩
 ·obtain⟨y,o,vs,t,e,g,_⟩:=r
  cases e
  exact⟨o,g⟩
 ·obtain⟨y,o,vs,t,e,g,d⟩:=z
  cases e
  exact⟨c,o,vs,t,rfl,k o g,d⟩
theorem at4 {P:aD}{w:World}{H:Hp}{h:Heap}{c:Addr}{q:Str}(x:HOk P w H h)(e:H c=some (qa c q)):h.CodeRec (.ref c) q:=(x c _ e).1
theorem an3 {P:aD}{w:World}{H:Hp}{h:Heap}{f:Addr}{y:bp}(r:h.get? f=some { cls:=.type "function",data:=.func y }):ab4 P w H h f (am8 f y) :=
 ⟨r,⟨_,r⟩,fun _ _ z k=>k _ z⟩
theorem ao5 {P:aD}{w:World}{H:Hp}{h:Heap}{f:Addr}{y:bp}(x:HOk P w H h)(e:H f=some (am8 f y)):h.get? f=some { cls:=.type "function",data:=.func y }:=(x f _ e).1
noncomputable def isC (cells:List (Str×Addr))(b:Addr):Bool:=cells.any fun p=>cells.lookup p.1==some b
theorem ac5 {cells:List (Str×Addr)}{b:Addr}:isC cells b=true↔∃ x,cells.lookup x=some b:=by
 unfold isC
 rw[List.any_eq_true]
 constructor
 ·rintro⟨p,_,e⟩;exact⟨p.1,by simpa using e⟩
 ·rintro⟨x,e⟩;exact⟨(x,b),au e,by simpa using e⟩
noncomputable def aa7 (cells:List (Str×Addr))(H:Hp):Hp:=fun b=>if isC cells b=true then none else H b
noncomputable def Put (cells:List (Str×Addr))(H H':Hp):Hp:=fun b=>if isC cells b=true then H b else H' b
theorem aa7.cell {cells:List (Str×Addr)}{H:Hp}{b:Addr}(h:isC cells b=true):aa7 cells H b=none:=if_pos h
theorem aa7.ne {cells:List (Str×Addr)}{H:Hp}{b:Addr}(h:isC cells b≠true):aa7 cells H b=H b:=if_neg h
theorem aa7.some {cells:List (Str×Addr)}{H:Hp}{b:Addr}{o:HO}(h:aa7 cells H b=some o):isC cells b≠true/\H b=some o:=by
 unfold aa7 at h
 split at h
 ·cases h
 ·rename_i z;exact⟨z,h⟩
theorem aa7.none {cells:List (Str×Addr)}{H:Hp}{b:Addr}(h:H b=none):aa7 cells H b=none:=by
 unfold aa7
 split
 ·rfl
 ·exact h
theorem Put.cell {cells:List (Str×Addr)}{H H':Hp}{b:Addr}(h:isC cells b=true):Put cells H H' b=H b:=if_pos h
theorem Put.ne {cells:List (Str×Addr)}{H H':Hp}{b:Addr}(h:isC cells b≠true):Put cells H H' b=H' b:=if_neg h
def Cells (clos:List (Str×Addr))(H:Hp):Prop:=∀ x c,clos.lookup x=some c->∃ o v,H c=some (.frz o (.own c))/\o.data=.cell v
theorem Cells.at {y:List (Str×Addr)}{H:Hp}(z:Cells y H){b:Addr}(h:isC y b=true):∃ o v,H b=some (.frz o (.own b))/\o.data=.cell v:=by
 obtain⟨x,e⟩:=ac5.mp h
 exact z x b e
def Cap (clos:List (Str×Addr))(H:Hp)(fr:List Str)(cap:List V):Prop:=∀(i:Nat) (x:Str) (v:V),fr[i]?=some x->cap[i]?=some v->∃ c o u,clos.lookup x=some c/\H c=some (.frz o (.own c))/\o.data=.cell (some u)/\RelV v u
structure LamScope (N ps fr:List Str)(sc:Scope):Prop where
 kind:sc.kind=.function
 co:sc.isCoroutine=false
 gen:sc.isGenerator=false
 nd:N.Nodup
 app:N=ps++fr
 par:∀ x∈ps,sc.names.lookup x=some .local\/sc.names.lookup x=some .cell
 frs:∀ x∈fr,sc.names.lookup x=some .free
 cel:∀ y∈sc.names,y.2=.cell->sc.names.lookup y.1=some .cell
noncomputable def aw9 (P:aD)(w:World)(K:ab)(mg:Str->Option Value)(base:Heap)(N:List Str)(qual:Str)(scope:Scope)(f:Addr)(cd:Value)(clos:List (Str×Addr))(A:aP)(outer:List Env)(s:ac)(H:Hp):Cx where
 prog:=P
 w:=w
 K:=K
 mg:=mg
 base:=base
 A:=A.deeper (ci qual scope s.heap.objs.size f cd (aE (s.heap.objs.size+1) scope.names clos))
 N:=N
 s₀:=s
 H₀:=aa7 clos H
 env:=ci qual scope s.heap.objs.size f cd (aE (s.heap.objs.size+1) scope.names clos)
 outer:=outer
 stack:=ci qual scope s.heap.objs.size f cd (aE (s.heap.objs.size+1) scope.names clos)::outer
 ex:=[]
 fn:=fun x=>scope.names.lookup x==some .cell
 calm:=true
 pn:=[]
 xe:=fun _ _=>False
theorem HOk.drop {P:aD}{w:World}{H:Hp}{h:Heap}{C:List (Str×Addr)}(x:HOk P w H h)(z:Cells C H):HOk P w (aa7 C H) h:=fun b o e=>by
 obtain⟨_,e'⟩:=aa7.some e
 have G:∀ c u,H c=some u->(∀ o v,u≠.frz o v)->isC C c≠true:=fun c u q d y=>by
  obtain⟨o,v,J,_⟩:=z.at y
  rw[q]at J;cases J
  exact d _ _ rfl
 exact(x b o e').stay (fun _ _ _ q=>q) (fun c q=>by rw[aa7.ne (G c _ q fun _ _=>by nofun)];exact q) fun c Y q=>by rw[aa7.ne (G c _ q fun _ _=>by nofun)];exact q
theorem aP5 {P:aD}{w:World}{K:ab}{mg:Str->Option Value}{J:Heap}{N ps fr:List Str}{qual:Str}{scope:Scope}{f:Addr}{cd:Value}{h:List (Str×Addr)}{A:aP}{outer:List Env}{s s1:ac}{H:Hp}{us:List Value}{vs cap:List V}
  (S:LamScope N ps fr scope) (hd:A.handled=none) (C:Env0 P w K mg J A outer s H) (hl:vs.length=ps.length) (a3:cap.length=fr.length) (r:Vals vs us)
  (hc:Cells h H) (inj:∀ x y c,h.lookup x=some c->h.lookup y=some c->x=y) (a4:∀ x,scope.names.lookup x=some .free->∃ c,h.lookup x=some c) (a1:Cap h H fr cap)
  (x:ee s s.heap.objs.size (bindL (ci qual scope s.heap.objs.size f cd (aE (s.heap.objs.size+1) scope.names h)).kindOf (ps.zip us) fun _=>none) (aE (s.heap.objs.size+1) scope.names [])
   (bindC (ci qual scope s.heap.objs.size f cd (aE (s.heap.objs.size+1) scope.names h)).kindOf (ps.zip us) fun _=>none) s1) :
  Inv (aw9 P w K mg J N qual scope f cd h A outer s H) [] (vs.map some++cap.map some) (aa7 h H) s1:=by
 obtain⟨h1,tk,rfl,hk⟩:=x.done
 have Y:∀ b:Addr,b ∉ (aw9 P w K mg J N qual scope f cd h A outer s H).ex:=fun b z=>absurd (show b∈([]:List Addr)from z) (by simp)
 have lk:∀ y c,(aE (s.heap.objs.size+1) scope.names h).lookup y=some c->(aE (s.heap.objs.size+1) scope.names []).lookup y=some c\/((aE (s.heap.objs.size+1) scope.names []).lookup y=none/\h.lookup y=some c):=fun y c e=>by
  rw[zg,zA]at e
  cases q:(aE (s.heap.objs.size+1) scope.names []).lookup y with
  | some d=>rw[q]at e;left;simpa using e
  | none=>rw[q]at e;right;exact⟨rfl,by simpa using e⟩
 have own:∀ y c,(aE (s.heap.objs.size+1) scope.names []).lookup y=some c->s.heap.objs.size<c:=fun y c e=>x.above y c (au e)
 have a2:∀ y c,h.lookup y=some c->c<s.heap.objs.size:=fun y c e=>by
  obtain⟨o,v,q,_⟩:=hc y c e
  exact C.hok.lt q
 have hx:∀ y c,h.lookup y=some c->scope.names.lookup y=some .free->(aE (s.heap.objs.size+1) scope.names h).lookup y=some c:=fun y c e k=>by
  rw[zg,zA]
  cases q:(aE (s.heap.objs.size+1) scope.names []).lookup y with
  | none=>exact e
  | some d =>
   rcases zv (au q)with z|z
   ·rw[S.cel _ z rfl]at k;cases k
   ·exact absurd z (by simp)
 have dn:∀ b,H b=none->aa7 h H b=none:=fun b e=>aa7.none e
 refine⟨⟨C.mod,S.kind,rfl,rfl,ai _,fun y z c a b=>?inj,fun y hy=>?has,fun y c hy e=>?cab,fun _=>hd,fT C.frames,.inr ⟨rfl,rfl⟩,fun b z=>absurd z (Y b),fun b o e=>⟨(C.bs b o e).1,dn b (C.bs b o e).2⟩,C.bsz,fun b _ _=>Y b,fun b z=>absurd z (Y b),C.funs,fun b hb=>dn b (C.frf b hb)⟩,
  rfl,C.bare,Un.kept hk,⟨_,x.toInCall.ns,fun i y v q1 q2 q3=>?loc⟩,fun y c e=>?cell,dn _ (C.hok.fresh (ai _)),fun y c e=>?freeC,fun p hp=>absurd (show p∈([]:List (Addr×Obj))from hp) (by simp),(C.hok.drop hc).kept hk,?len⟩
 case inj =>
  rcases lk y c a with a|⟨_,a⟩<;>rcases lk z c b with b|⟨_,b⟩
  ·exact fh x.apart (au a) (au b)
  ·exact absurd (db (own _ _ a) (a2 _ _ b)) (bf _)
  ·exact absurd (db (own _ _ b) (a2 _ _ a)) (bf _)
  ·exact inj y z c a b
 case has =>
  have hy:scope.names.lookup y=some .cell\/scope.names.lookup y=some .free:=hy
  rcases hy with hy|hy
  ·obtain⟨c,e⟩:=zM (n:=s.heap.objs.size+1) hy
   refine⟨c,?_⟩
   show(aE (s.heap.objs.size+1) scope.names h).lookup y=some c
   rw[zg,zA,e];rfl
  ·obtain⟨c,e⟩:=a4 y hy
   exact⟨c,hx y c e hy⟩
 case cab =>
  have hy:(scope.names.lookup y==some .cell)=true:=hy
  have a5:scope.names.lookup y=some .cell:=by simpa using hy
  rcases lk y c e with a|⟨a,_⟩
  ·exact cI (own y c a)
  ·obtain⟨d,q⟩:=zM (n:=s.heap.objs.size+1) a5
   rw[q]at a;cases a
 case loc =>
  have a0:ps.Nodup:=by have:=S.nd;rw[S.app]at this;exact(List.nodup_append.mp this).1
  by_cases hi:i<vs.length
  ·have ha:vs[i]?=some v:=by
    rw[aH (by simpa using hi),aG]at q2
    cases e:vs[i]? with
    | none=>rw[e]at q2;cases q2
    | some a=>rw[e]at q2;cases q2;rfl
   obtain⟨u,hu,rv⟩:=r.get ha
   have hp:ps[i]?=some y:=by
    have G:N[i]?=some y:=q1
    rw[S.app,aH (by omega)]at G;exact G
   refine⟨u,rv,?_⟩
   rcases S.par y (aX hp)with k|k
   ·exact .inl ⟨k,ah8 a0 hp hu k⟩
   ·obtain⟨c,e⟩:=zM (n:=s.heap.objs.size+1) k
    refine .inr ⟨.inl k,c,?_,?_⟩
    ·show(aE (s.heap.objs.size+1) scope.names h).lookup y=some c
     rw[zg,zA,e];rfl
    ·have q:=x.cell y c e
     rw[ag5 a0 hp hu (by show scope.names.lookup y≠_;rw[k];decide)]at q
     exact q
  ·have hf:fr[i - vs.length]?=some y:=by
    have G:N[i]?=some y:=q1
    rw[S.app,aB (by omega)]at G;rw[hl];exact G
   have hv:cap[i - vs.length]?=some v:=by
    rw[aB (by simpa using hi),aG,aI]at q2
    cases e:cap[i - vs.length]? with
    | none=>rw[e]at q2;cases q2
    | some a=>rw[e]at q2;cases q2;rfl
   obtain⟨c,o,u,e1,e2,e3,e4⟩:=a1 _ y v hf hv
   have kf:=S.frs y (aX hf)
   refine⟨u,e4,.inr ⟨.inr kf,c,hx y c e1 kf,?_⟩⟩
   exact⟨o,hk c o (C.hok c _ e2).1,e3⟩
 case cell =>
  rcases lk y c e with a|⟨_,a⟩
  ·exact⟨_,x.cell y c a⟩
  ·obtain⟨o,v,q,d⟩:=hc y c a
   exact⟨v,o,hk c o (C.hok c _ q).1,d⟩
 case freeC =>
  rcases lk y c e with a|⟨_,a⟩
  ·exact dn c (C.hok.fresh (cI (own y c a)))
  ·exact aa7.cell (ac5.mpr ⟨y,a⟩)
 case len =>
  show _=N.length
  rw[S.app]
  simp[hl,a3]
theorem aP6 {P:aD}{w:World}{outer:List Env}{H H':Hp}{s s':ac}{h:List (Str×Addr)}(hok:HOk P w H s.heap)(hc:Cells h H)(frf:∀ b∈frs outer,H b=none)
  (un:Un (frs outer) [] (aa7 h H) H' s.heap s'.heap) (J:HOk P w H' s'.heap):Un (frs outer) [] H (Put h H H') s.heap s'.heap/\HOk P w (Put h H H') s'.heap:=by
 have nc:∀ b,H b=none->isC h b≠true:=fun b e y=>by
  obtain⟨o,v,q,_⟩:=hc.at y
  rw[e]at q;cases q
 have C:∀ c u,H c=some u->(∀ o v,u≠.frz o v)->isC h c≠true:=fun c u q d y=>by
  obtain⟨o,v,Y,_⟩:=hc.at y
  rw[q]at Y;cases Y
  exact d _ _ rfl
 have G:∀ b,isC h b=true->H' b=none:=fun b y=>by
  obtain⟨o,v,q,_⟩:=hc.at y
  exact un.free b o (hok b _ q).1 (aa7.cell y) (by simp)
 refine⟨⟨fun b o e n hb hx=>un.keep b o e (aa7.none n) hb hx,fun b o e n hb hx=>un.slot b o e (aa7.none n) hb hx,fun b o e n hx=>?_,fun b o e hx=>un.there b o e hx,fun b xs e=>?_,fun b o u e=>?_,fun b ps e=>?_⟩,fun b o e=>?_⟩
 ·rw[Put.ne (nc b n)];exact un.free b o e (aa7.none n) hx
 ·have z:=C b _ e fun _ _=>by nofun
  rw[Put.ne z];exact un.tups b xs (by rw[aa7.ne z];exact e)
 ·by_cases z:isC h b=true
  ·rw[Put.cell z];exact e
  ·rw[Put.ne z];exact un.frzs b o u (by rw[aa7.ne z];exact e)
 ·have z:=C b _ e fun _ _=>by nofun
  rw[Put.ne z];exact un.tbls b ps (by rw[aa7.ne z];exact e)
 ·by_cases z:isC h b=true
  ·rw[Put.cell z]at e
   obtain⟨ob,v,q,d⟩:=hc.at z
   rw[q]at e;cases e
   have g:=(hok b _ q).1
   have g':=un.keep b ob g (aa7.cell z) (fun y=>by rw[frf b y]at q;cases q) (by simp)
   exact⟨g',ob,g'⟩
  ·rw[Put.ne z]at e
   have np:∀ c u,H' c=some u->Put h H H' c=some u:=fun c u q=>by
    rw[Put.ne fun y=>by rw[G c y]at q;cases q];exact q
   exact(J b o e).stay (fun _ _ _ q=>q) (fun c q=>np c _ q) fun c xs q=>np c _ q
structure ClOk (P:aD)(w:World)(K:ab)(mg:Str->Option Value)(base:Heap)(k:Nat)(R:Hp->Prop)(f:Addr)(sp:Sp):Prop where
 run:∀(A:aP) (outer:List Env) (s:ac) (H:Hp) (us:List Value) (vs:List V) (Q:VK),Room k A->Env0 P w K mg base A outer s H->R H->Vals vs us->sp vs H Q E0 ->
  ed (model P w) A (.call (.ref f) ⟨us,[]⟩) (CR CX0 outer P w H s Q E0) s
theorem ClOk.ofFn {P:aD}{w:World}{K:ab}{mg:Str->Option Value}{y:Heap}{k:Nat}{f:Addr}{C:bp}{ps:List Str}{sp:Sp}(F:FnOk P w K mg y CX0 k f C ps sp)(hb:Binds K C ps []):ClOk P w K mg y k (fun _=>True) f sp :=
 ⟨fun A outer s H us vs Q G z _ r h=>by
  have hl:=F.len _ _ _ _ h
  have:=hb s us (z.mod.kin.keeps fun b o e=>(z.bs b o e).1) (by rw[bh,<-r.length];exact hl)
  rw[bh]at this
  exact F.run A outer s H ⟨us,[]⟩ us vs Q E0 G z this r h⟩
def ap2 (H:Hp)(f:Addr)(qual:Str)(params:aV)(body:Expr)(scope:Scope)(fr:List Str)(cap:List V)(clos:List (Str×Addr)):Prop :=
 ∃ pm c' ctv,H f=some (am8 f (bC "<lambda>" qual params body scope clos pm (.ref c') ctv))/\H c'=some (qa c' qual)/\Cells clos H /\
  (∀ x y c,clos.lookup x=some c->clos.lookup y=some c->x=y)/\(∀ x,scope.names.lookup x=some .free->∃ c,clos.lookup x=some c)/\Cap clos H fr cap
def BM (mg:Str->Option Value)(base:Heap):Prop:=∃ bm ob,mg "__builtins__"=some (.ref bm)/\bm≠fc/\base.get? bm=some ob/\ob.cls=.type "module"/\ob.dict=some fc/\ob.data=.plain
def bP6 (cells:List (Str×Addr))(P:Addr)(qual:Str)(params:aV)(body:Expr)(scope:Scope)(pos:Pos):TE:=fun _ H Q =>
 ∃ ps:Array Value,H P=some (.tbl ps)/\f9 ps.toList /\
  (cb pos ps.toList=none->∀ c' f pm ctv,H c'=none->H f=none->c'≠f ->
   Q (.ref f) (upd (upd (upd H P (.tbl (ps++#[b9 pos.line,b9 pos.col,.ref c']))) c' (qa c' qual)) f (am8 f (bC "<lambda>" qual params body scope (ac1 cells scope.names []) pm (.ref c') ctv)))) /\
  (∀ cv,cb pos ps.toList=some cv->∃ c',cv=.ref c'/\∀ f pm ctv,H f=none->Q (.ref f) (upd H f (am8 f (bC "<lambda>" qual params body scope (ac1 cells scope.names []) pm (.ref c') ctv))))
noncomputable def lamCheck (scope xs:Scope):Bool:=scope.names.all fun y=>!(y.2==.free)||(xs.names.lookup y.1==some .cell||xs.names.lookup y.1==some .free)
theorem aP7 {X:Cx}{c P:Addr}{params:aV}{body:Expr}{scope:Scope}{pos:Pos}(Y:X.env.code=.ref c)(C:bD X.base c P)(hB:BM X.mg X.base)
  (e4:lamCheck scope X.env.scope=true) (a2:iG params X.env=([],[]):=by rfl) :
  PE X (.Lambda params body scope pos) (bP6 X.env.cells P (X.env.qual ++ "<lambda>") params body scope pos):=by
 intro e6 s σ H Q I h
 have d2:∀ y∈scope.names,y.2=.free->X.env.kindOf y.1=some .cell\/X.env.kindOf y.1=some .free:=fun y hy e=>by
  have z:=aM.mp e4 y hy
  have z':X.env.scope.names.lookup y.1=some .cell\/X.env.scope.names.lookup y.1=some .free:=by simpa [e]using z
  exact z'
 obtain⟨ps,hP,ht,a3,a6⟩:=h
 refine PySem.W.kla_eval a2 ?_
 have c1:=zS (scope:=scope) (env:=X.env) fun y hy e=>I.ok.has y.1 (d2 y hy e)
 have oP:s.heap.get? P=some (dg ps):=I.hok P _ hP
 have a1:s.heap.Ns a8 X.mg:=I.mod.glob.keeps I.bk
 have hC:bD s.heap c P:=C.keeps I.bk
 have e0:a8≠P:=fun q=>by
  obtain⟨o,es,ep,e,d,_⟩:=a1
  rw[q,oP]at e;cases e;cases d
 have hb:s.heap.BuiltinsAt X.mg P:=by
  obtain⟨bm,ob,b1,b2,b3,b4,b5,b6⟩:=hB
  refine⟨bm,ob,b1,b2,fun q=>?_,fun q=>?_,I.bk _ _ b3,b4,b5,b6⟩
  ·obtain⟨o,es,ep,e,d,_⟩:=I.mod.glob
   rw[q,e]at b3;cases b3;rw[d]at b6;cases b6
  ·have e:=I.bk _ _ b3
   rw[q,oP]at e;cases e;cases b4
 cases q:cb pos ps.toList with
 | none =>
  refine PySem.W.kla_makeFunction (mg:=X.mg) c1 I.ok.glob a1 Y hC oP ht q e0 hb fun G J h' tk hx hge hlt a4 a5=>?_
  have b0:P<s.heap.objs.size:=aw oP
  have d1:G≠P:=cJ (ah b0 hge)
  have e5:h'.objs.size≠P:=cJ (db (ah b0 hge) hlt)
  have d0:G≠h'.objs.size:=aq hlt
  have hsz:s.heap.objs.size<=h'.objs.size:=am hge (cI hlt)
  have nP:∀ b,H b=none->b≠P:=fun b n z=>by rw[z,hP]at n;cases n
  have lt:∀ b o,H b=some o->b≠G/\b≠h'.objs.size:=fun b o e=>⟨aq (ah (I.hok.lt e) hge),aq (ah (I.hok.lt e) hsz)⟩
  have c0:∀ b o,s.heap.get? b=some o->b≠G/\b≠h'.objs.size:=fun b o e=>⟨aq (ah (aw e) hge),aq (ah (aw e) hsz)⟩
  have keep:∀ b o,b≠P->s.heap.get? b=some o->(h'.push (PySem.W.kla_obj "<lambda>" (X.env.qual ++ "<lambda>") params body scope (ac1 X.env.cells scope.names []) ((X.mg "__name__").getD .none) G J)).get? b=some o:=fun b o n e=>af _ (hx b o n e)
  have a0:∀ b,b≠P->b≠G->b≠h'.objs.size->∀ o1 o2 o3,upd (upd (upd H P o1) G o2) h'.objs.size o3 b=H b:=fun b n1 n2 n3 o1 o2 o3=>by rw[za n3,za n2,za n1]
  refine⟨.ref h'.objs.size,upd (upd (upd H P (.tbl (ps++#[b9 pos.line,b9 pos.col,.ref G]))) G (qa G (X.env.qual ++ "<lambda>"))) h'.objs.size (am8 h'.objs.size (bC "<lambda>" (X.env.qual ++ "<lambda>") params body scope (ac1 X.env.cells scope.names []) ((X.mg "__name__").getD .none) (.ref G) J)),I.un (t':=tk) ⟨fun b o e n _ _=>keep b o (nP b n) e,fun b o e n _ _=>⟨o.slots,keep b o (nP b n) e⟩,fun b o e n _=>?fr,fun b o e _=>?th,fun b xs e=>?tu,fun b o u e=>?fz,fun b qs e=>?tb⟩ ?ok,rfl,a3 q G h'.objs.size _ J (I.hok.fresh hge) (I.hok.fresh hsz) d0⟩
  case fr=>rw[a0 b (nP b n) (c0 b o e).1 (c0 b o e).2];exact n
  case th =>
   by_cases z:b=P
   ·subst z;exact⟨_,af _ a5⟩
   ·exact⟨o,keep b o z e⟩
  case tu=>rw[a0 b (fun z=>by rw[z,hP]at e;cases e) (lt b _ e).1 (lt b _ e).2];exact e
  case fz=>rw[a0 b (fun z=>by rw[z,hP]at e;cases e) (lt b _ e).1 (lt b _ e).2];exact e
  case tb =>
   by_cases z:b=P
   ·subst z
    rw[hP]at e;cases e
    exact⟨#[b9 pos.line,b9 pos.col,.ref G],by rw[za (bE e5),za (bE d1),zb]⟩
   ·exact⟨#[],by rw[a0 b z (lt b _ e).1 (lt b _ e).2,e];simp⟩
  case ok =>
   intro b o e
   by_cases zf:b=h'.objs.size
   ·subst zf
    rw[zb]at e;cases e
    exact an3 (aF _ rfl)
   ·rw[za zf]at e
    by_cases zc:b=G
    ·subst zc
     rw[zb]at e;cases e
     obtain⟨c2,oc,vs,t,e1,e2,e3⟩:=a4
     exact aB6 ⟨c2,oc,vs,t,e1,af _ e2,e3⟩
    ·rw[za zc]at e
     by_cases zp:b=P
     ·subst zp
      rw[zb]at e;cases e
      exact af _ a5
     ·rw[za zp]at e
      have c3:∀ d u,H d=some u->(∀ ps,u≠.tbl ps)->upd (upd (upd H P (.tbl (ps++#[b9 pos.line,b9 pos.col,.ref G]))) G (qa G (X.env.qual ++ "<lambda>"))) h'.objs.size (am8 h'.objs.size (bC "<lambda>" (X.env.qual ++ "<lambda>") params body scope (ac1 X.env.cells scope.names []) ((X.mg "__name__").getD .none) (.ref G) J)) d=some u:=fun d u e nt=>by
       rw[a0 d (fun z=>by rw[z,hP]at e;cases e;exact nt _ rfl) (lt d _ e).1 (lt d _ e).2];exact e
      refine(I.hok b o e).stay (fun d u hd q=>keep d u ?_ q) (fun d q=>c3 d _ q fun _=>by nofun) fun d xs q=>c3 d _ q fun _=>by nofun
      rintro rfl
      rcases hd with hd|hd
      ·exact zp hd.symm
      ·rw[hP]at hd;cases hd
 | some cv =>
  obtain⟨G,rfl,hq⟩:=a6 cv q
  refine PySem.W.kla_makeFunctionHit (mg:=X.mg) c1 I.ok.glob a1 Y hC oP ht q hb fun J h' tk hk hsz=>?_
  refine⟨.ref h'.objs.size,_,I.laid (t':=tk) (fun b o e=>af _ (hk b o e)) hsz (an3 (aF _ rfl)),rfl,hq h'.objs.size _ J (I.hok.fresh hsz)⟩
structure Caught (cl:List (Str×Addr))(N:List Str)(kd:Str->Option bw)(σ:St)(H1 H2:Hp):Prop where
 ne:∀ b,isC cl b≠true->H2 b=H1 b
 free:∀ b,isC cl b=true->H1 b=none
 cells:Cells cl H2
 cap:∀(i:Nat) (x:Str) (v:V) (c:Addr),N[i]?=some x->σ[i]?=some (some v)->(kd x=some .cell\/kd x=some .free)->cl.lookup x=some c->∃ o u,H2 c=some (.frz o (.own c))/\o.data=.cell (some u)/\RelV v u
 inj:∀ x y c,cl.lookup x=some c->cl.lookup y=some c->x=y
def bC6 (cl:List (Str×Addr))(N:List Str)(kd:Str->Option bw)(sp:Sp)(t:TA):TE:=fun σ H Q=>t σ H fun vs H1=>∀ H2,Caught cl N kd σ H1 H2->sp vs H2 (fun v H3=>Q v (aa7 cl H3)) E0
theorem bo6 {X:Cx}{k:Nat}{f:Addr}{fd:bp}{ps:List Str}{sp:Sp}{J:List (Addr×Obj)}{σ:St}{H:Hp}{s:ac}{Q:VK}{us:List Value}{vs:List V}(F:FnOk X.prog X.w X.K X.mg X.base CX0 k f fd ps sp)(hr:Room k X.A)(hb:Binds X.K fd ps [])
  (b0:∀ x,X.fn x=true) (I:Inv X J σ H s) (r:Vals vs us) (h:∀ H2,Caught X.env.cells X.N X.env.kindOf σ H H2->sp vs H2 (fun v H3=>Q v (aa7 X.env.cells H3)) E0):wpAny (model X.prog X.w) X.A (call (.ref f) us) (EP X J σ Q) X.xe s:=by
 let H2:Hp:=fun b=>if isC X.env.cells b=true then(s.heap.get? b).map fun o=>.frz o (.own b)else H b
 have C:∀ b,isC X.env.cells b≠true->H2 b=H b:=fun b z=>if_neg z
 have G:∀ b,isC X.env.cells b=true->∃ o v,s.heap.get? b=some o/\o.data=.cell v/\H2 b=some (.frz o (.own b)):=fun b z=>by
  obtain⟨x,e⟩:=ac5.mp z
  obtain⟨v,o,g,d⟩:=I.cell x b e
  exact⟨o,v,g,d,by show(if _ then _ else _)=_;rw[if_pos z,g];rfl⟩
 have fr:∀ b,isC X.env.cells b=true->H b=none:=fun b z=>by
  obtain⟨x,e⟩:=ac5.mp z
  exact I.freeC x b e
 have up:∀ b,isC X.env.cells b=true->X.s₀.heap.objs.size<=b:=fun b z=>by
  obtain⟨x,e⟩:=ac5.mp z
  exact I.ok.cab x b (b0 x) e
 have a0:∀ b o,X.s₀.heap.get? b=some o->isC X.env.cells b≠true:=fun b o e z=>absurd (ah (aw e) (up b z)) (bf _)
 have a3:∀ b∈frs X.stack,isC X.env.cells b≠true:=fun b hb z=>by
  rcases aC.mp (I.stkSub b hb)with e|hb
  ·obtain⟨x,e2⟩:=ac5.mp z
   exact I.cne x b e2 e
  ·obtain⟨_,o,ho,_⟩:=I.ok.funs.mem hb
   exact a0 b o ho z
 have a6:HOk X.prog X.w H2 s.heap:=fun b o e=>by
  by_cases z:isC X.env.cells b=true
  ·obtain⟨ob,v,g,d,q⟩:=G b z
   rw[q]at e;cases e
   exact⟨g,ob,g⟩
  ·rw[C b z]at e
   have np:∀ c u,H c=some u->H2 c=some u:=fun c u q=>by rw[C c fun y=>by rw[fr c y]at q;cases q];exact q
   exact(I.hok b o e).stay (fun _ _ _ q=>q) (fun c q=>np c _ q) fun c xs q=>np c _ q
 have nb:∀ b o,X.base.get? b=some o->isC X.env.cells b≠true:=fun b o e=>a0 b o (I.ok.bs b o e).1
 have e0:Env0 X.prog X.w X.K X.mg X.base X.A X.stack s H2:=⟨I.ok.frames,I.ok.mod,fun b o e=>⟨(I.bs b o e).1,by rw[C b (nb b o e)];exact(I.bs b o e).2⟩,am I.ok.bsz I.sz,I.stack,fun b hb=>by rw[C b (a3 b hb)];exact I.stkFree b hb,a6,I.bare⟩
 have ca:Caught X.env.cells X.N X.env.kindOf σ H H2:=⟨C,fr,fun x c e=>by
   obtain⟨o,v,g,d,q⟩:=G c (ac5.mpr ⟨x,e⟩)
   exact⟨o,v,q,d⟩,fun i x v c e1 e2 e3 e4=>by
   obtain⟨m,hn,hl⟩:=I.loc
   have vis:Vis X.env.scope x:=e3.elim (fun z=>.inr (.inl z)) fun z=>.inr (.inr z)
   obtain⟨u,ru,lk⟩:=hl i x v e1 e2 vis
   rcases lk with⟨z,_⟩|⟨_,c2,z1,z2⟩
   ·rcases e3 with y|y<;>(rw[z]at y;cases y)
   ·rw[e4]at z1;cases z1
    obtain⟨o,w',g,d,q⟩:=G c (ac5.mpr ⟨x,e4⟩)
    obtain⟨o2,g2,d2⟩:=z2
    rw[g]at g2;cases g2
    exact⟨o,u,q,d2,ru⟩,I.ok.inj⟩
 have a2:=h H2 ca
 have hl:=F.len _ _ _ _ a2
 have a5:=hb s us I.kIn (by rw[bh,<-r.length];exact hl)
 rw[bh]at a5
 refine iy (dN (F.run X.A X.stack s H2 ⟨us,[]⟩ us vs _ E0 hr e0 a5 r a2) fun r s' hq=>?_)
 cases r with
 | error e=>exact bo hq
 | ok fl =>
  cases fl with
  | next=>exact bo hq
  | brk=>exact bo hq
  | cont=>exact bo hq
  | ret u =>
   obtain⟨v,H3,os,bare,un,a4,rv,q⟩:=hq
   have a1:∀ b,isC X.env.cells b=true->∃ o,s.heap.get? b=some o/\s'.heap.get? b=some o/\H3 b=some (.frz o (.own b)):=fun b z=>by
    obtain⟨o,v,g,d,q2⟩:=G b z
    have q3:=un.frzs b o _ q2
    exact⟨o,g,(a4 b _ q3).1,q3⟩
   have Y:∀ b u,H b=some u->isC X.env.cells b≠true:=fun b u e y=>by rw[fr b y]at e;cases e
   refine⟨v,_,I.call' (H':=aa7 X.env.cells H3) (ch:=[]) os ⟨fun b o e n hb hx=>?k,fun b o e n hb hx=>?sl,fun b o e n hx=>?fr,fun b o e hx=>un.there b o e hx,fun b xs e=>?tu,fun b o u e=>?fz,fun b ps e=>?tb⟩ (fun b o e=>?hok) bare (fun b z=>absurd z (by simp)),rv,q⟩
   case k =>
    by_cases z:isC X.env.cells b=true
    ·obtain⟨o2,g,g',_⟩:=a1 b z
     rw[e]at g;cases g
     exact g'
    ·exact un.keep b o e (by rw[C b z];exact n) hb hx
   case sl=>exact un.slot b o e (by rw[C b (a3 b hb)];exact n) hb hx
   case fr =>
    by_cases z:isC X.env.cells b=true
    ·exact aa7.cell z
    ·exact aa7.none (un.free b o e (by rw[C b z];exact n) hx)
   case tu =>
    rw[aa7.ne (Y b _ e)]
    exact un.tups b xs (by rw[C b (Y b _ e)];exact e)
   case fz =>
    rw[aa7.ne (Y b _ e)]
    exact un.frzs b o u (by rw[C b (Y b _ e)];exact e)
   case tb =>
    rw[aa7.ne (Y b _ e)]
    exact un.tbls b ps (by rw[C b (Y b _ e)];exact e)
   case hok =>
    obtain⟨z,e3⟩:=aa7.some e
    have np:∀ c u,H3 c=some u->(∀ o w',u≠.frz o w')->aa7 X.env.cells H3 c=some u:=fun c u q d=>by
     rw[aa7.ne fun y=>by obtain⟨o,_,_,q3⟩:=a1 c y;rw[q]at q3;cases q3;exact d _ _ rfl];exact q
    exact(a4 b o e3).stay (fun _ _ _ q=>q) (fun c q=>np c _ q fun _ _=>by nofun) fun c xs q=>np c _ q fun _ _=>by nofun
theorem ay9 {X:Cx}{k:Nat}{f:Addr}{Y:bp}{ps:List Str}{sp:Sp}{x:Str}{p pos:Pos}{e:Expr}{es:List Expr}{t:TA}(F:FnOk X.prog X.w X.K X.mg X.base CX0 k f Y ps sp)(hr:Room k X.A)(hg:Gl X x)(hm:X.mg x=some (.ref f))(hk:bN X.K (.ref f)=true)(hb:Binds X.K Y ps [])
  (G:∀ x,X.fn x=true) (ha:PA X (e::es) t) (z:(x==("__debug__":Str))=false:=by decide) (he:aW (e::es) X.env=(false,eval e X.env)::aW es X.env:=by rfl) (C:(cW pos (aW es X.env)).any (·.1)=false:=by rfl) :
  PE X (.Call (.Name x p) (e::es) [] pos) (bC6 X.env.cells X.N X.env.kindOf sp t):=by
 intro y s σ H Q I h
 refine bG (an8 I hg hm ?_ z)
 refine gC (h₀:=X.base) I.ok.mod.kin hk (thn (ha pos y s σ H _ I h) fun us s1 ⟨vs,H1,J,r,q⟩=>⟨J.kIn,?_⟩) he C
 exact bo6 F hr hb G J r q
def bn1 (K:ab)(H:Hp)(f:Addr):Prop:=(∃ fd,H f=some (am8 f fd))\/∃ oc od fd sl,K.lookup f=some ⟨oc,od,.func fd,sl⟩
theorem bn1.at {X:Cx}{y:List (Addr×Obj)}{σ:St}{H:Hp}{s:ac}{f:Addr}(h:bn1 X.K H f)(I:Inv X y σ H s):PySem.W.FnAt f s.heap:=by
 rcases h with⟨z,h⟩|⟨oc,od,z,sl,h⟩
 ·exact⟨_,_,_,_,ao5 I.hok h⟩
 ·exact⟨_,_,_,_,I.kIn _ _ h⟩
def bx8 (P:aD)(w:World)(K:ab)(mg:Str->Option Value)(base:Heap)(k:Nat)(i:Nat)(t:TA):TE:=fun σ H Q=>∃ f,σ[i]?=some (some (.ref f))/\bn1 K H f/\t σ H fun vs H1=>bn1 K H1 f/\∃ R sp,ClOk P w K mg base k R f sp/\R H1/\sp vs H1 Q E0
theorem bq9 {X:Cx}{k:Nat}{f:Addr}{sp:Sp}{R:Hp->Prop}{y:List (Addr×Obj)}{σ:St}{H:Hp}{s:ac}{Q:VK}{us:List Value}{vs:List V}(F:ClOk X.prog X.w X.K X.mg X.base k R f sp)(C:Room k X.A)(I:Inv X y σ H s)(z:R H)(r:Vals vs us)(h:sp vs H Q E0) :
  wpAny (model X.prog X.w) X.A (call (.ref f) us) (EP X y σ Q) X.xe s:=by
 refine iy (dN (F.run X.A X.stack s H us vs Q C I.env0 z r h) fun r s' hq=>?_)
 cases r with
 | error e=>exact bo hq
 | ok fl =>
  cases fl with
  | ret u=>exact I.after hq
  | next=>exact bo hq
  | brk=>exact bo hq
  | cont=>exact bo hq
theorem aR2 {X:Cx}{P:aD}{w:World}{K:ab}{mg:Str->Option Value}{base:Heap}{k i:Nat}{x:Str}{p pos:Pos}{e:Expr}{es:List Expr}{t:TA}(hP:X.prog=P)(hw:X.w=w)(hK:X.K=K)(C:X.mg=mg)(z:X.base=base)(hr:Room k X.A)(hv:PE X (.Name x p) (bb3 i))(ha:PA X (e::es) t)
  (he:aW (e::es) X.env=(false,eval e X.env)::aW es X.env:=by rfl) (G:(cW pos (aW es X.env)).any (·.1)=false:=by rfl) :
  PE X (.Call (.Name x p) (e::es) [] pos) (bx8 P w K mg base k i t):=by
 subst hP hw hK C z
 intro y s σ H Q I h
 obtain⟨f,hσ,hf,ht⟩:=h
 refine bG (thn (hv y s σ H (fun v H'=>v=.ref f/\H'=H) I ⟨.ref f,hσ,rfl,rfl⟩) fun u s0 ⟨v,H0,J,r0,ev,eH⟩=>?_)
 subst ev
 subst eH
 cases r0
 exact PySem.W.callWith_F (q:=f) (hf.at J) (thn (ha pos y s0 σ H0 _ J ht) fun us s1 ⟨vs,H1,Y,r,hF,R,sp,F,hR,q⟩=>⟨hF.at Y,bq9 F hr Y hR r q⟩) he G
noncomputable def as9 (K:ab)(names:List Str):List (Str×Addr×Addr):=names.filterMap fun x=>(aZ K x).map fun p=>(x,p)
theorem ak6 {K:ab}{names:List Str}{y:Str×Addr×Addr}:y∈as9 K names↔y.1∈names/\aZ K y.1=some y.2:=by
 unfold as9
 rw[cc]
 constructor
 ·rintro⟨x,hx,e⟩
  obtain⟨p,h,rfl⟩:=dh.mp e
  exact⟨hx,h⟩
 ·rintro⟨hx,e⟩
  exact⟨y.1,hx,by rw[e];rfl⟩
def bf9 (K:ab)(names:List Str)(base:Heap):Prop:=∀ x∈names,∀ c P,aZ K x=some (c,P)->bD base c P
def bn0 (K:ab)(names:List Str)(H:Hp):Prop:=∀ x∈names,∀ c P,aZ K x=some (c,P)->H P=some (.tbl #[])
noncomputable def bx4 (K:ab)(names:List Str)(ts:List Addr):Bool:=names.all fun x=>match aZ K x with
 | some (c,P)=>hG K c P&&ts.contains P
 | none=>true
theorem an1 {K:ab}{x:Str}(h:(aZ K x).isSome=true):aZ K x=some (((aZ K x).getD (0,0)).1,((aZ K x).getD (0,0)).2):=by
 obtain⟨p,e⟩:=eG.mp h
 rw[e]
 rfl
def bx7 (H:Hp)(P:Addr)(q:Str):Prop:=∃ ps:Array Value,H P=some (.tbl ps)/\f9 ps.toList/\∀ pos cv,cb pos ps.toList=some cv->∃ c',cv=.ref c'/\H c'=some (qa c' q)
def TabsH (T:List (Addr×Str))(H:Hp):Prop:=∀ y∈T,bx7 H y.1 y.2
def aO1 (H H':Hp):Prop:=∀ b o,(∀ ps,o≠.tbl ps)->H b=some o->H' b=some o
theorem aO1.of {H y:Hp}(a:ae1 H y):aO1 H y:=fun c o _ h=>a c o h
theorem TabsH.keep {T:List (Addr×Str)}{H H':Hp}(h:TabsH T H)(k:∀ b o,(∀ C,o≠.lst C)->H b=some o->H' b=some o):TabsH T H':=fun y hy=>by
 obtain⟨ps,e,t,c⟩:=h y hy
 refine⟨ps,k _ _ (fun _=>by nofun) e,t,fun pos G q=>?_⟩
 obtain⟨z,e1,e2⟩:=c pos G q
 exact⟨z,e1,k _ _ (fun _=>by unfold qa;nofun) e2⟩
theorem TabsH.same {T:List (Addr×Str)}{H H':Hp}(h:TabsH T H)(s:ae1 H H'):TabsH T H':=h.keep fun b o _ e=>s b o e
theorem TabsH.new {T:List (Addr×Str)}{H:Hp}{a:Addr}{o:HO}(h:TabsH T H)(n:H a=none):TabsH T (upd H a o):=h.same ((ae1.refl H).new n)
theorem TabsH.put {T:List (Addr×Str)}{H:Hp}{a:Addr}{o:HO}{y:List V}(h:TabsH T H)(n:H a=some (.lst y)):TabsH T (upd H a o):=h.keep fun b u d e=>by
 rw[za fun z=>by subst z;rw[n]at e;cases e;exact d _ rfl];exact e
theorem TabsH.init {T:List (Addr×Str)}{H:Hp}(h:∀ p∈T.map (·.1),H p=some (.tbl #[])):TabsH T H:=fun y hy =>
 ⟨#[],h _ (a7 hy),trivial,fun pos z e=>by simp[cb]at e⟩
theorem codeAmong_add {pos:Pos}{a b:Int}{c C:Value}:∀(l:List Value),f9 l->cb pos (l++[b9 a,b9 b,c])=some C->cb pos l=some C\/C=c:=by
 intro l
 fun_induction f9 l with
 | case1 =>
  intro _ e
  simp only[fy,cb,b9]at e
  split at e
  ·exact .inr (ay e).symm
  ·cases e
 | case2 x t y u z rest ih =>
  intro h e
  simp only[g9,cb]at e ⊢
  split at e
  ·rename_i q
   left;rw[if_pos q];exact e
  ·rename_i q
   rw[if_neg q];exact ih h e
 | case3 l h1 h2=>intro h;exact h.elim
theorem aW8 {cells:List (Str×Addr)}{N:List Str}{kd:Str->Option bw}{σ:St}{H1 H2:Hp}{f:Addr}{q:Str}{params:aV}{body:Expr}{scope:Scope}{fr:List Str}{cap:List V}(Y:Caught cells N kd σ H1 H2)
  (hf:∃ pm C h,H1 f=some (am8 f (bC "<lambda>" q params body scope (ac1 cells scope.names []) pm (.ref C) h))/\H1 C=some (qa C q))
  (J:∀ x,scope.names.lookup x=some .free->∃ c,cells.lookup x=some c)
  (G:∀(i:Nat) (x:Str) (v:V),fr[i]?=some x->cap[i]?=some v->scope.names.lookup x=some .free/\(kd x=some .cell\/kd x=some .free)/\∃ j:Nat,N[j]?=some x/\σ[j]?=some (some v)) :
  ap2 H2 f q params body scope fr cap (ac1 cells scope.names []):=by
 obtain⟨pm,C,h,h1,h2⟩:=hf
 have up:∀ b o,H1 b=some o->H2 b=some o:=fun b o e=>by
  rw[Y.ne b fun z=>by rw[Y.free b z]at e;cases e];exact e
 have sub:∀ x c,(ac1 cells scope.names []).lookup x=some c->cells.lookup x=some c:=fun x c e=>by
  rcases clOf_mem (au e)with z|z
  ·exact z
  ·exact absurd z (by simp)
 refine⟨pm,C,h,up _ _ h1,up _ _ h2,fun x c e=>Y.cells x c (sub x c e),fun x y c e1 e2=>Y.inj x y c (sub x c e1) (sub y c e2),fun x k=>?_,fun i x v e1 e2=>?_⟩
 ·obtain⟨c,e⟩:=J x k
  exact⟨c,qb e (au k)⟩
 ·obtain⟨k,kk,j,e3,e4⟩:=G i x v e1 e2
  obtain⟨c,e⟩:=J x k
  obtain⟨o,u,e5,e6,e7⟩:=Y.cap j x v c e3 e4 kk e
  exact⟨c,o,u,qb e (au k),e5,e6,e7⟩
theorem Caught.same {cells:List (Str×Addr)}{N:List Str}{kd:Str->Option bw}{σ:St}{y H2:Hp}(h:Caught cells N kd σ y H2):ae1 y H2:=fun b o e=>by
 rw[h.ne b fun z=>by rw[h.free b z]at e;cases e];exact e
theorem Fun.okC {P:aD}{w:World}{K:ab}{mg:Str->Option Value}{y:Heap}{x qual:Str}{st:Stmt}{f c:Addr}{J:bp}{N ps:List Str}{k:Nat}{sp:Sp}(F:Fun K x qual st f J)(Y:J.code=.ref c)(S:FnScope N ps (defScope st))(len:∀ vs H Q E,sp vs H Q E->vs.length=ps.length)
  (z:∀(A:aP) (outer:List Env) (s:ac) (H:Hp) (vs:List V) (Q:VK) (E:XK),Room k (A.deeper (eF qual (defScope st) s.heap.objs.size f (.ref c)))->sp vs H Q E ->
   ∃ t,PSs (aX6 CX0 P w K mg y N qual (defScope st) f (.ref c) A outer s H E).nox (zD st) t/\t { nx:=fun _ H'=>Q .non H',rt:=Q } (ae7 N vs) H):FnOk P w K mg y CX0 (k+1) f J ps sp:=by
 obtain⟨oc,od,kV,a0,pm,an,C,ct,a1,rfl,lk,hc⟩:=F.ex
 have e:C=.ref c:=Y
 subst e
 refine bE1 lk hc S len fun A outer s H vs Q E hr G=>?_
 obtain⟨t,h,q⟩:=z A outer s H vs Q E hr G
 exact⟨t,h.nox,q⟩
noncomputable def rowO (r:List (Option Int)):D:=.tup (r.map bQ8)
theorem aO5 {X:Cx}{K:ab}(hc:X.calm=true)(hK:X.K=K):ab6 X (.builtin "min") (fun xs H Q=>∃ a ns,xs=[.ref a]/\SqL K H a (ns.map V.int)/\ns≠[]/\∀ m∈ns,(∀ y∈ns,m<=y)->Q (.int m) H):=by
 subst hK
 intro a0 s σ H xs us Q I r h
 obtain⟨a,ns,rfl,hS,J,q⟩:=h
 obtain⟨u,rfl,ru⟩:=af4 r
 cases ru
 obtain⟨its,rv,Y,hz⟩:=I.list hS
 have hl:=rv.length
 rw[aI]at hl
 have a1:0<ns.length:=List.length_pos_iff.mpr J
 refine call_min_walk (cC Y.isList ?_)
 have C:a<s.heap.objs.size:=by obtain⟨o,_,e,_⟩:=Y;exact aw e
 have W:=iE (prog:=X.prog) (w:=X.w) (A:=X.A.in1) (I.ok.hd hc) s.heap.objs.size a (aq C) its.toArray
 let val:Nat->Int:=fun i=>ns.getD i 0
 have G:∀ i v,its.toArray[i]?=some v->∃ t,v=Value.int (val i) t:=fun i v e=>by
  obtain⟨z,t,e1,e2⟩:=ao7 rv (i:=i) (v:=v) (by rw[bK]at e;exact e)
  refine⟨t,?_⟩
  rw[e2]
  show Value.int z t=Value.int (ns.getD i 0) t
  rw[aK,e1]
  rfl
 refine⟨_,_,_,_,_,_,_,rfl,W,⟨⟨_,aF _ rfl,rfl,rfl⟩,?_⟩,fun b hb=>?_,by rw[ar];omega,iU val G,fun v h' tk hP k=>?_⟩
 ·obtain⟨o,e,r⟩:=Y.isList
  exact⟨o,af _ e,r⟩
 ·show b<(s.heap.push _).objs.size
  rw[bJ]
  rcases aC.mp hb with z|z
  ·rw[z];exact dv _
  ·have z':b=a:=by simpa using z
   rw[z'];exact em C
 ·obtain⟨z,t,e1,e2⟩:=ao7 rv (i:=cL (fun i j=>decide (val i<val j)) (its.toArray.size - 1)) (v:=v) (by rw[bK]at hP;exact hP)
  subst e2
  have hv:val (cL (fun i j=>decide (val i<val j)) (its.toArray.size - 1))=z:=by
   show ns.getD _ 0=z
   rw[aK,e1]
   rfl
  refine⟨.int z,H,I.kept (h':=h') (t':=tk) fun b o q=>k b o ?_ (af _ q),⟨t,rfl⟩,q z (aX e1) fun y hy=>?_⟩
  ·intro z
   have z':b=s.heap.objs.size:=by simpa using z
   exact absurd (aw q) (by rw[z'];exact bf _)
  ·obtain⟨j,hj,e3⟩:=dE.mp hy
   have:=qI val (its.toArray.size - 1) j (by simp only[ar];omega)
   rw[hv]at this
   have e4:val j=y:=by
    show ns.getD j 0=y
    rw[aK,aj hj]
    exact e3
   omega
noncomputable def mx (a b:Int):Int:=if b > a then b else a
section
variable {X:Cx}
end
noncomputable def mx3 (a b c:Int):Int:=mx (mx a b) c
noncomputable def rnd (x:Int):Int:=if x=0\/x=3 then x else 2
noncomputable def sharp (n:Nat)(s:Nat->Nat->Int)(i j:Nat):Int:=(minO ((av n).map fun k=>mx3 (s i k) (rnd (s k k)) (s k j))).getD 3
section
variable {n:Nat} {s:Nat->Nat->Int}
end
def bN7 (cells:List (Str×Addr))(P:Addr)(name q:Str)(params:aV)(body:List Stmt)(scope:Scope)(pos:Pos)(i:Nat):TS:=fun D σ H =>
 ∃ ps:Array Value,H P=some (.tbl ps)/\f9 ps.toList /\
  (cb pos ps.toList=none->∀ c' f doc pm ctv,H c'=none->H f=none->c'≠f ->
   D.nx (σ.set i (some (.ref f))) (upd (upd (upd H P (.tbl (ps++#[b9 pos.line,b9 pos.col,.ref c']))) c' (qa c' q)) f (am8 f (bT name q params body scope (ac1 cells scope.names []) .none .none doc pm none (.ref c') ctv)))) /\
  (∀ cv,cb pos ps.toList=some cv->∃ c',cv=.ref c'/\∀ f doc pm ctv,H f=none->D.nx (σ.set i (some (.ref f))) (upd H f (am8 f (bT name q params body scope (ac1 cells scope.names []) .none .none doc pm none (.ref c') ctv))))
theorem bC3 {X:Cx}{c P:Addr}{name q:Str}{i:Nat}{params:aV}{body:List Stmt}{scope:Scope}{pos:Pos}(hN:X.N.Nodup)(hi:X.N[i]?=some name)(hx:Loc X.env.scope name)(a1:X.env.code=.ref c)(C:bD X.base c P)(hB:BM X.mg X.base)
  (e6:lamCheck scope X.env.scope=true) (hq:iH X.env name name=q:=by rfl) (e4:params.defaults=[]:=by rfl) (d1:params.kw_defaults=[]:=by rfl) (ha:annTrees params none X.env=[]:=by rfl) (hf:X.fn name=true\/X.env.scope.names.lookup name=some .local:=by first|exact .inl rfl|exact .inr rfl) :
  PS X (.FunctionDef name params body [] none [] scope none name pos) (bN7 X.env.cells P name q params body scope pos i):=by
 intro a2 s σ H D I h
 have f1:∀ y∈scope.names,y.2=.free->X.env.kindOf y.1=some .cell\/X.env.kindOf y.1=some .free:=fun y hy e=>by
  have z:=aM.mp e6 y hy
  have z':X.env.scope.names.lookup y.1=some .cell\/X.env.scope.names.lookup y.1=some .free:=by simpa [e]using z
  exact z'
 obtain⟨ps,hP,ht,c3,a5⟩:=h
 refine PySem.W.nestDef_K e4 d1 ha ?_
 rw[hq]
 have fin:∀ {H2:Hp} {f:Addr} {s2:ac},Inv X a2 σ H2 s2->D.nx (σ.set i (some (.ref f))) H2->wpAny (model X.prog X.w) X.A (eP X.env name (.ref f)) (fun _ s3=>SP X a2 D .next s3) X.xe s2:=fun {H2 f s2} I2 q2=>am0 (v:=.ref f) I2 hN hi hx rfl (fun s3 I3=>⟨_,H2,I3,q2⟩) hf
 have c1:=zS (scope:=scope) (env:=X.env) fun y hy e=>I.ok.has y.1 (f1 y hy e)
 have oP:s.heap.get? P=some (dg ps):=I.hok P _ hP
 have a3:s.heap.Ns a8 X.mg:=I.mod.glob.keeps I.bk
 have hC:bD s.heap c P:=C.keeps I.bk
 have e5:a8≠P:=fun q=>by
  obtain⟨o,es,ep,e,d,_⟩:=a3
  rw[q,oP]at e;cases e;cases d
 have hb:s.heap.BuiltinsAt X.mg P:=by
  obtain⟨bm,ob,b1,b2,b3,b4,b5,b6⟩:=hB
  refine⟨bm,ob,b1,b2,fun q=>?_,fun q=>?_,I.bk _ _ b3,b4,b5,b6⟩
  ·obtain⟨o,es,ep,e,d,_⟩:=I.mod.glob
   rw[q,e]at b3;cases b3;rw[d]at b6;cases b6
  ·have e:=I.bk _ _ b3
   rw[q,oP]at e;cases e;cases b4
 cases qq:cb pos ps.toList with
 | none =>
  refine PySem.W.makeFunction_K (mg:=X.mg) c1 I.ok.glob a3 a1 hC oP ht qq e5 hb fun G J Y h' tk hx hge hlt d0 a4=>?_
  have b0:P<s.heap.objs.size:=aw oP
  have f0:G≠P:=cJ (ah b0 hge)
  have e0:h'.objs.size≠P:=cJ (db (ah b0 hge) hlt)
  have e7:G≠h'.objs.size:=aq hlt
  have hsz:s.heap.objs.size<=h'.objs.size:=am hge (cI hlt)
  have nP:∀ b,H b=none->b≠P:=fun b n z=>by rw[z,hP]at n;cases n
  have lt:∀ b o,H b=some o->b≠G/\b≠h'.objs.size:=fun b o e=>⟨aq (ah (I.hok.lt e) hge),aq (ah (I.hok.lt e) hsz)⟩
  have c0:∀ b o,s.heap.get? b=some o->b≠G/\b≠h'.objs.size:=fun b o e=>⟨aq (ah (aw e) hge),aq (ah (aw e) hsz)⟩
  have keep:∀ b o,b≠P->s.heap.get? b=some o->(h'.push (PySem.W.fnMade name q params body scope (ac1 X.env.cells scope.names []) Y ((X.mg "__name__").getD .none) G J)).get? b=some o:=fun b o n e=>af _ (hx b o n e)
  have a0:∀ b,b≠P->b≠G->b≠h'.objs.size->∀ o1 o2 o3,upd (upd (upd H P o1) G o2) h'.objs.size o3 b=H b:=fun b n1 n2 n3 o1 o2 o3=>by rw[za n3,za n2,za n1]
  refine fin (H2:=upd (upd (upd H P (.tbl (ps++#[b9 pos.line,b9 pos.col,.ref G]))) G (qa G q)) h'.objs.size (am8 h'.objs.size (bT name q params body scope (ac1 X.env.cells scope.names []) .none .none Y ((X.mg "__name__").getD .none) none (.ref G) J))) (I.un (t':=tk) ⟨fun b o e n _ _=>keep b o (nP b n) e,fun b o e n _ _=>⟨o.slots,keep b o (nP b n) e⟩,fun b o e n _=>?fr,fun b o e _=>?th,fun b xs e=>?tu,fun b o u e=>?fz,fun b qs e=>?tb⟩ ?ok) (c3 qq G h'.objs.size Y _ J (I.hok.fresh hge) (I.hok.fresh hsz) e7)
  case fr=>rw[a0 b (nP b n) (c0 b o e).1 (c0 b o e).2];exact n
  case th =>
   by_cases z:b=P
   ·subst z;exact⟨_,af _ a4⟩
   ·exact⟨o,keep b o z e⟩
  case tu=>rw[a0 b (fun z=>by rw[z,hP]at e;cases e) (lt b _ e).1 (lt b _ e).2];exact e
  case fz=>rw[a0 b (fun z=>by rw[z,hP]at e;cases e) (lt b _ e).1 (lt b _ e).2];exact e
  case tb =>
   by_cases z:b=P
   ·subst z
    rw[hP]at e;cases e
    exact⟨#[b9 pos.line,b9 pos.col,.ref G],by rw[za (bE e0),za (bE f0),zb]⟩
   ·exact⟨#[],by rw[a0 b z (lt b _ e).1 (lt b _ e).2,e];simp⟩
  case ok =>
   intro b o e
   by_cases zf:b=h'.objs.size
   ·subst zf
    rw[zb]at e;cases e
    exact an3 (aF _ rfl)
   ·rw[za zf]at e
    by_cases zc:b=G
    ·subst zc
     rw[zb]at e;cases e
     obtain⟨c2,oc,vs,t,e1,e2,e3⟩:=d0
     exact aB6 ⟨c2,oc,vs,t,e1,af _ e2,e3⟩
    ·rw[za zc]at e
     by_cases zp:b=P
     ·subst zp
      rw[zb]at e;cases e
      exact af _ a4
     ·rw[za zp]at e
      have a6:∀ d u,H d=some u->(∀ ps,u≠.tbl ps)->upd (upd (upd H P (.tbl (ps++#[b9 pos.line,b9 pos.col,.ref G]))) G (qa G q)) h'.objs.size (am8 h'.objs.size (bT name q params body scope (ac1 X.env.cells scope.names []) .none .none Y ((X.mg "__name__").getD .none) none (.ref G) J)) d=some u:=fun d u e nt=>by
       rw[a0 d (fun z=>by rw[z,hP]at e;cases e;exact nt _ rfl) (lt d _ e).1 (lt d _ e).2];exact e
      refine(I.hok b o e).stay (fun d u hd q=>keep d u ?_ q) (fun d q=>a6 d _ q fun _=>by nofun) fun d xs q=>a6 d _ q fun _=>by nofun
      rintro rfl
      rcases hd with hd|hd
      ·exact zp hd.symm
      ·rw[hP]at hd;cases hd
 | some cv =>
  obtain⟨G,rfl,d2⟩:=a5 cv qq
  refine PySem.W.makeFunction_hit (mg:=X.mg) c1 I.ok.glob a3 a1 hC oP ht qq hb fun J Y h' tk hk hsz=>?_
  exact fin (I.laid (t':=tk) (fun b o e=>af _ (hk b o e)) hsz (an3 (aF _ rfl))) (d2 h'.objs.size Y _ J (I.hok.fresh hsz))
def ah4 (H:Hp)(f:Addr)(name qual:Str)(params:aV)(body:List Stmt)(scope:Scope)(fr:List Str)(cap:List V)(clos:List (Str×Addr)):Prop :=
 ∃ doc pm c' ctv,H f=some (am8 f (bT name qual params body scope clos .none .none doc pm none (.ref c') ctv))/\H c'=some (qa c' qual)/\Cells clos H /\
  (∀ x y c,clos.lookup x=some c->clos.lookup y=some c->x=y)/\(∀ x,scope.names.lookup x=some .free->∃ c,clos.lookup x=some c)/\Cap clos H fr cap
theorem aR3 {cells:List (Str×Addr)}{N:List Str}{kd:Str->Option bw}{σ:St}{H1 H2:Hp}{f:Addr}{q:Str}{name:Str}{params:aV}{body:List Stmt}{scope:Scope}{fr:List Str}{cap:List V}(ca:Caught cells N kd σ H1 H2)
  (hf:∃ C pm G h,H1 f=some (am8 f (bT name q params body scope (ac1 cells scope.names []) .none .none C pm none (.ref G) h))/\H1 G=some (qa G q))
  (Y:∀ x,scope.names.lookup x=some .free->∃ c,cells.lookup x=some c)
  (J:∀(i:Nat) (x:Str) (v:V),fr[i]?=some x->cap[i]?=some v->scope.names.lookup x=some .free/\(kd x=some .cell\/kd x=some .free)/\∃ j:Nat,N[j]?=some x/\σ[j]?=some (some v)) :
  ah4 H2 f name q params body scope fr cap (ac1 cells scope.names []):=by
 obtain⟨C,pm,G,h,h1,h2⟩:=hf
 have up:∀ b o,H1 b=some o->H2 b=some o:=fun b o e=>by
  rw[ca.ne b fun z=>by rw[ca.free b z]at e;cases e];exact e
 have sub:∀ x c,(ac1 cells scope.names []).lookup x=some c->cells.lookup x=some c:=fun x c e=>by
  rcases clOf_mem (au e)with z|z
  ·exact z
  ·exact absurd z (by simp)
 refine⟨C,pm,G,h,up _ _ h1,up _ _ h2,fun x c e=>ca.cells x c (sub x c e),fun x y c e1 e2=>ca.inj x y c (sub x c e1) (sub y c e2),fun x k=>?_,fun i x v e1 e2=>?_⟩
 ·obtain⟨c,e⟩:=Y x k
  exact⟨c,qb e (au k)⟩
 ·obtain⟨k,kk,j,e3,e4⟩:=J i x v e1 e2
  obtain⟨c,e⟩:=Y x k
  obtain⟨o,u,e5,e6,e7⟩:=ca.cap j x v c e3 e4 kk e
  exact⟨c,o,u,qb e (au k),e5,e6,e7⟩
theorem ah4.fn {K:ab}{H:Hp}{f:Addr}{name qual:Str}{params:aV}{body:List Stmt}{scope:Scope}{fr:List Str}{cap:List V}{y:List (Str×Addr)}(h:ah4 H f name qual params body scope fr cap y):bn1 K H f:=by
 obtain⟨C,Y,J,G,z,_⟩:=h
 exact .inl ⟨_,z⟩
end L2
end
noncomputable section
namespace L2
open PySem PySem.Spec PyProof.Rows Builtin
section
variable {P:aD} {w:World} {A:aP} {E:Value->ac->Prop} {s:ac}
theorem au6 {it t:Addr}{i:Nat}{l:Array Value}{v:Value}{Q:Value->ac->Prop}(y:s.heap.IsTupleIter it t i)(J:s.heap.IsTuple t l)(C:l[i]?=some v)
  (k:∀ h',h'.IsTupleIter it t (i+1)->c5 it s.heap h'->Q v { s with heap:=h' }):wpAny (model P w) A (bB (.ref it)) Q E s:=by
 obtain⟨o,e1,e2,h⟩:=id y
 obtain⟨p,p1,_,n,G⟩:=J
 unfold bB
 refine ak (eW (name:=cM "__next__") y.typeIs bX (eX bX y.typeIs dQ ?_ (dI _)))
 show wpAny _ _ (field (.ref it) 0 >>= _) _ _ _
 refine ak (fX e1 h (x:=.ref t) rfl ?_)
 show wpAny _ _ (if(Value.ref t==Value.none)=true then _ else _) _ _ _
 rw[if_neg (show ¬((Value.ref t==Value.none)=true)from fun z=>nomatch z)]
 show wpAny _ _ (field (.ref it) 1 >>= _) _ _ _
 refine ak (fX e1 h (x:=.int i 0) rfl ?_)
 show wpAny _ _ (f8 (.ref t) >>= _) _ _ _
 refine ak (c9 p1 G ?_)
 simp only[di,C]
 refine ak (wpAny_setField e1 h (by simp) (aJ ⟨v,rfl,aJ (k _ ⟨_,cA _ e1 (Obj.isFreed_of_fields (gG h _)),(Obj.cls_mapFields ..).trans e2,by rw[gG h];simp[b9]⟩ (gf ..))⟩))
theorem aF2 {it t:Addr}{i:Nat}{l:Array Value}{Q:Value->ac->Prop}(C:A.handled=none)(h:s.heap.IsTupleIter it t i)(Y:s.heap.IsTuple t l)(G:l[i]?=none)
  (k:∀ h' e,ib it s.heap h'->(∃ o,h'.get? e=some o/\o.cls=.type "StopIteration")->E (.ref e) { s with heap:=h' }):wpAny (model P w) A (bB (.ref it)) Q E s:=by
 obtain⟨o,e1,e2,y⟩:=id h
 obtain⟨p,p1,_,n,J⟩:=Y
 unfold bB
 refine ak (eW (name:=cM "__next__") h.typeIs bX (eX bX h.typeIs dQ ?_ (dI _)))
 show wpAny _ _ (field (.ref it) 0 >>= _) _ _ _
 refine ak (fX e1 y (x:=.ref t) rfl ?_)
 show wpAny _ _ (if(Value.ref t==Value.none)=true then _ else _) _ _ _
 rw[if_neg (show ¬((Value.ref t==Value.none)=true)from fun z=>nomatch z)]
 show wpAny _ _ (field (.ref it) 1 >>= _) _ _ _
 refine ak (fX e1 y (x:=.int i 0) rfl ?_)
 show wpAny _ _ (f8 (.ref t) >>= _) _ _ _
 refine ak (c9 p1 J ?_)
 simp only[di,G]
 refine ak (iD (ak (wpAny_setField e1 y (by simp) ?_)))
 show wpAny _ _ (newExc (.type "StopIteration") [] >>= _) _ _ (_:ac)
 refine ak ?_
 simp only[newExc,newTuple]
 refine ak (bO ?_ (by size_fits))
 refine ak (m:=firstArgMember _ _) (wpAny_of_eq (a:=Value.none) (by first|rfl|(simp only[firstArgMember];rfl)) (bO ?_ (by size_fits)))
 simp only[raiseNew]
 refine ak (wpAny_handled ?_)
 first|rw[show A.in1.handled=none from C]|rw[C]
 exact ak (aJ (wpAny_throw (k _ _ (((gf ..).extBut.push _).push _) ⟨_,aF _ rfl,rfl⟩)))
end
structure Dw (P:aD)(w:World)(K:ab)(J:It)(it:Addr)(tn:Nat->Heap->Prop):Prop where
 obj:∀ i h,tn i h->∃ o,h.get? it=some o/\∀ v,o.data≠.cell v
 keep:∀ i h h',tn i h->(∀ o,h.get? it=some o->h'.get? it=some o)->tn i h'
 item:∀(X:Cx),X.prog=P->X.w=w->X.K=K->∀(A:aP) (i:Nat) (pins:List (Addr×Obj)) (s:ac) (σ:St) (H:Hp) (Q:Value->ac->Prop) (E:Value->ac->Prop),Inv X pins σ H s->tn i s.heap->J.go i H ->
  (∀ x u h' tk,RelV x u->J.yld i H x H->tn (i+1) h'->c5 it s.heap h'->Q u { s with heap:=h',toks:=tk })->wpAny (model P w) A (bB (.ref it)) Q E s
 done:∀(X:Cx),X.prog=P->X.w=w->X.K=K->∀(A:aP) (i:Nat) (pins:List (Addr×Obj)) (s:ac) (σ:St) (H:Hp) (Q:Value->ac->Prop) (E:Value->ac->Prop),A.handled=none->Inv X pins σ H s->tn i s.heap->J.stop i H ->
  (∀ h' e,ib it s.heap h'->(∃ o,h'.get? e=some o/\o.cls=.type "StopIteration")->E (.ref e) { s with heap:=h' })->wpAny (model P w) A (bB (.ref it)) Q E s
theorem bi4 {P:aD}{w:World}{K:ab}(a it:Addr):Dw P w K (Itl K a) it (fun i h=>h.IsListIter it a i) where
 obj:=fun i h st=>by
  obtain⟨o,e,c,d⟩:=st
  exact⟨o,e,fun v z=>by rw[d]at z;cases z⟩
 keep:=fun i h h' st k=>st.at k
 item:=by
  intro X hP hw G A i y s σ H Q E I st Y k
  subst hP hw G
  obtain⟨xs,x,hq,hx⟩:=Y
  obtain⟨its,J,p,hz⟩:=I.list hq
  obtain⟨u,hu,ru⟩:=J.get hx
  exact wpAny_nextOf_list_item st p.isList (x:=u) (by simpa using hu) fun h' C sb=>k x u h' s.toks ru ⟨rfl,fun ys hy=>by rw[I.list_inj hy hq];exact hx⟩ C sb
 done:=by
  intro X hP hw G A i y s σ H Q E hA I st Y k
  subst hP hw G
  obtain⟨xs,hq,hx⟩:=Y
  obtain⟨its,J,p,hz⟩:=I.list hq
  have hl:=J.length
  exact wpAny_nextOf_list_end hA st p.isList (by simp;omega) k
theorem bD7 {P:aD}{w:World}{K:ab}(a it:Addr):Dw P w K (Itt K a) it (fun i h=>h.IsTupleIter it a i) where
 obj:=fun i h st=>by
  obtain⟨o,e,c,d⟩:=st
  exact⟨o,e,fun v z=>by rw[d]at z;cases z⟩
 keep:=fun i h h' st k=>st.at k
 item:=by
  intro X hP hw G A i y s σ H Q E I st Y k
  subst hP hw G
  obtain⟨xs,x,hq,hx⟩:=Y
  obtain⟨its,J,p,hz⟩:=I.tuple hq
  obtain⟨u,hu,ru⟩:=J.get hx
  exact au6 st (show s.heap.IsTuple a its.toArray from p) (v:=u) (by simpa using hu) fun h' C sb=>k x u h' s.toks ru ⟨rfl,fun ys hy=>by rw[I.tuple_inj hy hq];exact hx⟩ C sb
 done:=by
  intro X hP hw G A i y s σ H Q E hA I st Y k
  subst hP hw G
  obtain⟨xs,hq,hx⟩:=Y
  obtain⟨its,J,p,hz⟩:=I.tuple hq
  have hl:=J.length
  exact aF2 hA st (show s.heap.IsTuple a its.toArray from p) (by simp;omega) k
theorem bD4 {P:aD}{w:World}{K:ab}(x:Str)(t:Tok)(it:Addr):Dw P w K (Its x) it (fun i h=>h.IsStrIter it (fY x) x t i) where
 obj:=fun i h st=>by
  obtain⟨o,e,c,d⟩:=st
  exact⟨o,e,fun v z=>by rw[d]at z;cases z⟩
 keep:=fun i h h' st k=>by
  obtain⟨o,ho,r⟩:=st
  exact⟨o,k _ ho,r⟩
 item:=by
  intro X hP hw Y A i G s σ H Q E I st hg k
  subst hP hw Y
  have C:i<x.cps.size:=hg
  have hc:x.cps[i]?=some x.cps[i]:=by simp[C]
  unfold fY at st k
  cases ha:x.cps.all (·<128)
  ·rw[ha]at st k
   exact wpAny_nextOf_wide_item st hc fun h' y J=>k (.str ⟨#[x.cps[i]]⟩) _ h' (s.toks+1) ⟨_,rfl⟩ ⟨rfl,_,hc,rfl⟩ y J
  ·rw[ha]at st k
   exact wpAny_nextOf_ascii_item st hc fun h' y J=>k (.str ⟨#[x.cps[i]]⟩) _ h' (s.toks+1) ⟨_,rfl⟩ ⟨rfl,_,hc,rfl⟩ y J
 done:=by
  intro X hP hw Y A i G s σ H Q E hA I st hg k
  subst hP hw Y
  have C:x.cps.size<=i:=hg
  have hc:x.cps[i]?=none:=by simp[C]
  unfold fY at st
  cases ha:x.cps.all (·<128)
  ·rw[ha]at st
   exact wpAny_nextOf_wide_end hA st hc k
  ·rw[ha]at st
   exact wpAny_nextOf_ascii_end hA st hc k
section
variable {X:Cx} {pins:List (Addr×Obj)} {σ:St} {H:Hp} {s:ac} {A:aP} {E:Value->ac->Prop} {J1 J2:It} {t1 t2:Nat->Heap->Prop} {z ti to i1 i2:Addr} {n:Nat} {a b:Value}
end
def Mkr (v:Value)(o:Obj)(h:Heap):Prop:=∀(P:aD) (w:World) (A:aP) (E:Value->ac->Prop) (s:ac) (Q:Value->ac->Prop),(∀ b u,h.get? b=some u->s.heap.get? b=some u) ->
 Q (.ref s.heap.objs.size) { s with heap:=s.heap.push o }->wpAny (model P w) A (iY v) Q E s
def Sr (K:ab)(H:Hp)(x:V)(J:It):Prop:=(∃ a,x=.ref a/\(∃ xs,SqL K H a xs)/\J=Itl K a)\/(∃ a,x=.ref a/\(∃ xs,SqT K H a xs)/\J=Itt K a)\/∃ y,x=.str y/\J=Its y
theorem Sr.mk {X:Cx}{z:List (Addr×Obj)}{σ:St}{H:Hp}{s:ac}{x:V}{u:Value}{J:It}(I:Inv X z σ H s)(h:Sr X.K H x J)(r:RelV x u) :
  ∃(o:Obj) (C:Addr->Nat->Heap->Prop),o.isFreed=false/\Mkr u o s.heap/\(∀ it,Dw X.prog X.w X.K J it (C it))/\∀ it h',h'.get? it=some o->C it 0 h':=by
 rcases h with⟨a,e,⟨Y,hq⟩,e'⟩|⟨a,e,⟨Y,hq⟩,e'⟩|⟨y,e,e'⟩
 ·subst e e';cases r
  obtain⟨its,G,p,hz⟩:=I.list hq
  exact⟨_,fun it i h=>h.IsListIter it a i,rfl,fun P w A E s' Q hk q=>cC (p.isList.at fun o e=>hk _ _ e) q,fun it=>bi4 a it,fun it h' e=>⟨_,e,rfl,rfl⟩⟩
 ·subst e e';cases r
  obtain⟨its,G,p,hz⟩:=I.tuple hq
  exact⟨_,fun it i h=>h.IsTupleIter it a i,rfl,fun P w A E s' Q hk q=>gz (Heap.IsTuple.at (show s.heap.IsTuple a its.toArray from p) fun o e=>hk _ _ e) q,fun it=>bD7 a it,fun it h' e=>⟨_,e,rfl,rfl⟩⟩
 ·subst e e';obtain⟨t,rfl⟩:=r
  exact⟨_,fun it i h=>h.IsStrIter it (fY y) y t i,rfl,fun P w A E s' Q hk q=>wpAny_pyIter_strU q,fun it=>bD4 y t it,fun it h' e=>⟨_,e,rfl,rfl⟩⟩
end L2
end
noncomputable section
namespace L2
open PySem PySem.Spec PyProof.Rows Builtin
open AutoSeq1 (wpAny_loadPart')
section
variable {X:Cx} {pins:List (Addr×Obj)} {σ:St} {H:Hp} {s:ac} {A:aP} {E:Value->ac->Prop} {J1:It} {t1:Nat->Heap->Prop} {z it:Addr} {n:Nat} {old:Value}
end
end L2
end
noncomputable section
namespace L2
open PySem PySem.Spec PyProof.Rows Builtin
open AutoSeq1 (wpAny_loadPart')
theorem av0:fillsNumberSlot (.type "tuple") "mul"=pure false :=
 PySem.fillsNumberSlot_seq (id := "tuple.__mul__") (r:=some (.builtin "tuple.__rmul__")) dj.lookup (by decide +kernel) eY.lookup (by decide +kernel)
theorem aF3:seqRepeat? (.type "tuple")=pure (some (.builtin "tuple.__mul__")):=by
 unfold seqRepeat?
 rw[hJ (T := "tuple") (name := "__mul__") (id := "tuple.__mul__") dj.lookup (by decide +kernel),hJ (T := "tuple") (name := "__rmul__") (id := "tuple.__rmul__") eY.lookup (by decide +kernel)]
 rfl
theorem at8 (a:Int)(t:Tok)(l:Addr)(o:Obj)(y:Array Value)(n:Nat)(z:Option Addr)(sl:Array (Option Value)) :
  Meets (Builtin.«int.__rmul__» ⟨[.int a t,.ref l],[]⟩) (fun _ R s=>s.heap.get? l=some { cls:=.type "tuple",dict:=z,data:=.seq y n,slots:=sl }/\R (.ok (.ret Value.notImplemented)) s) :=
 .of_wp fun prog w A R s h=>by obtain⟨C,g,d,tk,os⟩:=s;obtain⟨hl,h⟩:=h;wp_walk;exact⟨_,rfl,h⟩
noncomputable def aj7 {α:Type}:Nat->List α->List α
 | 0,_=>[]
 | n+1,a=>a++aj7 n a
theorem aA1 {α:Type}(l:List α):∀(n:Nat) (h:Array α),(ax n l.toArray).foldl (·++·) h=h++(aj7 n l).toArray
 | 0,h=>by simp[aj7]
 | n+1,h=>by rw[bu,cu,aA1 l n];simp[aj7]
theorem at2 {α:Type}(a:Array α):∀(n:Nat) (h:Array α),((ax n a).foldl (·++·) h).size=h.size+a.size*n
 | 0,h=>by simp
 | n+1,h=>by rw[bu,cu,at2 a n,Array.size_append,Nat.mul_succ];omega
def TmA (items:Array Value)(k:Int)(l:Addr)(R:Value->ac->Prop)(s:ac):Prop :=
 ((items.isEmpty||k==1)=true->R (.ref l) s)/\((items.isEmpty||k==1)=false->R (.ref s.heap.objs.size) { s with heap:=s.heap.push { cls:=.type "tuple",data:=.seq ((ax k.toNat items).foldl (·++·) #[]) } })
theorem aJ3 {P:aD}{w:World}{A:aP}{E:Value->ac->Prop}{s:ac}{l:Addr}{y:Array Value}{k:Int}{t:Tok}{Q:Value->ac->Prop}(h0:0<=k)(Y:k<=1000000)(hz:y.size*k.toNat<=1000000)(hl:IsTup s.heap l y)
  (h:TmA y k l Q s):wpAny (model P w) A (call (.builtin "tuple.__mul__") [.ref l,.int k t]) Q E s:=by
 refine eX dj hl.typeIs PySem.F.entry_tuple_mul ?_ (PySem.F.args_tuple_mul_2 _ _)
 obtain⟨C,q2⟩:=h
 show wpAny _ _ (asIndex (.int k t) >>= _) _ _ _
 refine ak (aJ ?_)
 rw[if_neg (by rw[decide_eq_false (by omega),decide_eq_false (by omega)];decide)]
 show wpAny _ _ (iI (.ref l) >>= _) _ _ _
 refine ak (tupleItemsOf_ hl ?_)
 have z:(y.size:Int)*k<=1000000:=by
  have:((y.size*k.toNat:Nat):Int)<=1000000:=by omega
  rw[ii,dL h0]at this
  exact this
 cases hb:(y.isEmpty||k==1)with
 | true =>
  rw[if_pos rfl]
  unfold iJ
  refine ak (ak (wpAny_typeOf hl.typeIs (aJ ?_)))
  rw[if_pos (by decide)]
  exact ak (iD (aJ ⟨_,rfl,C hb⟩))
 | false =>
  rw[if_neg aN]
  have G:y.isEmpty=false:=by
   rw[dF]at hb;exact hb.1
  have q:=q2 hb
  show wpAny _ _ (if(decide (k<=0)||y.isEmpty)=true then _ else _) _ _ _
  by_cases hk:k<=0
  ·rw[if_pos (by rw[decide_eq_true hk];rfl)]
   have:k.toNat=0:=by omega
   rw[this]at q
   exact ak (bO (aJ ⟨_,rfl,q⟩) (by size_fits))
  ·rw[if_neg (by rw[decide_eq_false hk,G];decide)]
   show wpAny _ _ (if(y.size:Int)*k > (2^63 - 1) / 8 then _ else _) _ _ _
   rw[if_neg (by omega)]
   show wpAny _ _ (if d3 ((y.size:Int)*k)=true then _ else _) _ _ _
   rw[if_neg (by unfold d3;rw[decide_eq_false (by unfold aA;omega)];decide)]
   refine ak (bO (aJ ⟨_,rfl,q⟩) ?_)
   show Array.size _<=aA
   rw[at2]
   show 0+_<=_
   rw[be]
   have J:y.size*k.toNat<=aA:=am hz (by decide)
   exact J
theorem az0 {α:Type}:∀ n,aj7 n ([]:List α)=[]
 | 0=>rfl
 | n+1=>by simp[aj7,az0 n]
theorem aY3 {α:Type}(l:List α):aj7 1 l=l:=by simp[aj7]
theorem ax9 {α:Type}(l:List α):∀ n,(aj7 n l).length=l.length*n
 | 0=>by simp[aj7]
 | n+1=>by simp[aj7,ax9 l n,fZ];omega
theorem Vals.repT {h:List V}{us:List Value}(r:Vals h us):∀ n,Vals (aj7 n h) (aj7 n us)
 | 0=>.nil
 | n+1=>r.append (Vals.repT r n)
def bM8 (K:ab):R2:=fun x y H Q=>∃ a xs n,x=.ref a/\y=.int n/\SqT K H a xs/\(0<=n/\n<=1000000/\xs.length*n.toNat<=1000000)/\∀ p H',ae1 H H'->SqT K H' p (aj7 n.toNat xs)->(H' p=some (.tup (aj7 n.toNat xs))\/(p=a/\aj7 n.toNat xs=xs))->Q (.ref p) H'
theorem bl3 {X:Cx}{K:ab}(Y:X.K=K):OpR X (bI .Mult) (bM8 K):=by
 subst Y
 intro G s σ H x y v u Q I rx ry h
 obtain⟨a,C,n,rfl,rfl,ha,⟨h0,h1,hz⟩,q⟩:=h
 cases rx
 obtain⟨t,rfl⟩:=ry
 obtain⟨its,r1,p1,a0⟩:=I.tuple ha
 have z:=r1.length
 obtain⟨⟨cls,dd,data,sl⟩,ho,hc,n1,hd⟩:=id p1
 simp only at hc hd
 subst hc hd
 refine d4 (T := "tuple") (U := "int") (by decide) p1.typeIs (fun s'=>dY s' n t) av0 gE cX aF3 gb.lookup
  (gD cX (dY s n t) gd (fU _ _) (at8 n t a default its.toArray n1 dd sl) ⟨ho,⟨rfl,p1.typeIs,aJ3 h0 h1 (by rw[ar,<-z];exact hz) p1 ⟨fun hb=>?_,fun hb=>?_⟩⟩⟩)
 ·have ex:aj7 n.toNat C=C:=by
   rw[bF]at hb
   rcases hb with hb|hb
   ·have hi:its=[]:=by simpa using hb
    have hx:C=[]:=r1.nil_iff.mp hi
    rw[hx,az0]
   ·have:n=1:=by simpa using hb
    subst this
    exact aY3 _
  exact⟨.ref a,H,I,rfl,q a H (ae1.refl H) (by rw[ex];exact ha) (.inr ⟨rfl,ex⟩)⟩
 ·have J:=I.hok.fresh (ai s.heap.objs.size)
  refine⟨.ref s.heap.objs.size,_,I.laid (t':=s.toks) (o:=.tup (aj7 n.toNat C)) (fun b ob q=>af _ q) (ai _) ?_,rfl,q _ _ ((ae1.refl H).new J) (SqT.of zb) (.inl zb)⟩
  refine⟨by rw[ax9];exact am hz (by decide),aj7 n.toNat its,r1.repT _,?_⟩
  rw[show(aj7 n.toNat its).toArray=(ax n.toNat its.toArray).foldl (·++·) #[]by rw[aA1];simp]
  exact⟨_,aF _ rfl,rfl,_,rfl⟩
end L2
end
noncomputable section
namespace L2
open PySem PySem.Spec PyProof.Rows
theorem bk1 (z:Str)(u:Tok):(⟨((ic z none none (some (-1,u))).filterMap (z.cps[·]?)).toArray⟩:Str)=⟨z.cps.reverse⟩:=by
 have h:=PyProof.Rows.step_rev_list z u
 unfold PySem.Txt.sliceBy at h
 rw[if_neg (by
  have:((((some ((-1:Int),u)).map (·.1)).getD 1==1))=false:=rfl
  rw[this];simp)]at h
 have y:((ic z none none (some (-1,u))).filterMap (z.cps[·]?))=z.cps.reverse.toList:=by
  have C:((ic z none none (some (-1,u))).filterMap (z.cps[·]?)).toArray.toList=(av z.length).map fun k=>z.cps.getD (z.length - 1 - k) 0:=h
  rw[List.toList_toArray]at C
  rw[C]
  apply eZ
  ·simp[Str.length]
  ·intro i G y
   have hz:z.length=z.cps.size:=rfl
   have hi:i<z.cps.size:=by simpa [hz]using G
   simp[hz]
   rw[Array.getElem?_eq_getElem (by omega)]
   rfl
 rw[y]
section
variable {κ:Type} [DecidableEq κ]
noncomputable def ay6 (kvs:List (κ×V))(k:κ):Option V:=(kvs.find? fun kv=>decide (kv.1=k)).map (·.2)
noncomputable def ak2 (kvs:List (κ×V))(k:κ)(v:V):List (κ×V) :=
 if(kvs.any fun kv=>decide (kv.1=k))=true then kvs.map (fun kv=>if kv.1=k then(kv.1,v)else kv)else kvs++[(k,v)]
theorem ag1 {p:κ×V}{r:List (κ×V)}{k:κ}(e:p.1=k):ay6 (p::r) k=some p.2:=by simp[ay6,cx,e]
theorem af8 {p:κ×V}{r:List (κ×V)}{k:κ}(e:¬ p.1=k):ay6 (p::r) k=ay6 r k:=by simp[ay6,cx,e]
theorem an7 (k:κ):∀ h:List (κ×V),(h.any fun y=>decide (y.1=k))=(ay6 h k).isSome
 | []=>rfl
 | p::r=>by
  rw[eM]
  by_cases e:p.1=k
  ·simp only[ag1 e,decide_eq_true e,Bool.true_or,gF]
  ·rw[af8 e,decide_eq_false e,iT];exact an7 k r
theorem qH (h:List (κ×V))(k:κ)(v:V):(ak2 h k v).length<=h.length+1:=by
 unfold ak2
 split
 ·rw[aI];omega
 ·rw[aR,aQ,dJ];omega
theorem aE9.isSome_eq {o:Option V}{u:Option Value}(r:aE9 o u):o.isSome=u.isSome:=by
 cases o with
 | none=>cases u with
  | none=>rfl
  | some _=>exact(show False from r).elim
 | some _=>cases u with
  | none=>exact(show False from r).elim
  | some _=>rfl
theorem aE9.getD {o:Option V}{u:Option Value}{d:V}{d':Value}(r:aE9 o u)(h:RelV d d'):RelV (o.getD d) (u.getD d'):=by
 cases o with
 | none=>cases u with
  | none=>exact h
  | some _=>exact(show False from r).elim
 | some _=>cases u with
  | none=>exact(show False from r).elim
  | some _=>exact r
theorem KV.val {y:List (κ×V)}{vs:List (κ×Value)}(r:KV y vs)(k:κ):aE9 (ay6 y k) (ga vs k):=by
 unfold KV at r
 induction r with
 | nil=>exact True.intro
 | @cons p q ps qs h t ih =>
  obtain⟨C,G⟩:=h
  by_cases e:p.1=k
  ·have e':q.1=k:=C.symm.trans e
   have b:ga (q::qs) k=some q.2:=by simp[ga,cx,e']
   rw[ag1 e,b];exact G
  ·have e':¬ q.1=k:=fun z=>e (C.trans z)
   have b:ga (q::qs) k=ga qs k:=by simp[ga,cx,e']
   rw[af8 e,b];exact ih
theorem KV.any {y:List (κ×V)}{vs:List (κ×Value)}(r:KV y vs)(k:κ):(y.any fun z=>decide (z.1=k))=vs.any fun z=>decide (z.1=k):=by
 unfold KV at r
 induction r with
 | nil=>rfl
 | cons h t ih=>rw[eM,eM,ih,h.1]
theorem KV.repl {G:List (κ×V)}{vs:List (κ×Value)}(r:KV G vs)(k:κ){y:V}{u:Value}(ry:RelV y u) :
  KV (G.map fun C=>if C.1=k then(C.1,y)else C) (vs.map fun C=>if C.1=k then(C.1,u)else C):=by
 unfold KV at r ⊢
 induction r with
 | nil=>exact .nil
 | @cons p q ps qs h t ih =>
  rw[aL,aL]
  refine .cons ?_ ih
  obtain⟨J,Y⟩:=h
  by_cases e:p.1=k
  ·rw[if_pos e,if_pos (J.symm.trans e)];exact⟨J,ry⟩
  ·rw[if_neg e,if_neg (fun z=>e (J.trans z))];exact⟨J,Y⟩
theorem KV.put {h:List (κ×V)}{vs:List (κ×Value)}(r:KV h vs)(k:κ){y:V}{u:Value}(z:RelV y u):KV (ak2 h k y) (stored vs k u):=by
 unfold ak2 stored
 rw[r.any k]
 by_cases e:(vs.any fun C=>decide (C.1=k))=true
 ·rw[if_pos e,if_pos e];exact r.repl k z
 ·rw[if_neg e,if_neg e];exact ji r ⟨rfl,z⟩
theorem KV.length {h:List (κ×V)}{vs:List (κ×Value)}(r:KV h vs):h.length=vs.length:=gi r
end
theorem aX3 {P:aD}{w:World}{k:Key}{u:Value}(r:RelV (kV k) u):(zE P w).is k u=true:=by
 cases k with
 | inl i=>obtain⟨t,e⟩:=(show ∃ t,u=Value.int i t from r);subst e;exact au8 P w i t
 | inr x=>obtain⟨t,e⟩:=(show ∃ t,u=Value.str x t from r);subst e;exact av7 P w x t
theorem aq7 {P:aD}{w:World}:∀ {y:List Key} {us:List Value},Vals (y.map kV) us->ItemsAre (zE P w) y us
 | [],_,r=>by rw[cK]at r;cases r;exact .nil
 | k::y,_,r=>by
  rw[aL]at r
  cases r with
  | cons h t=>exact .cons (aX3 h) (aq7 t)
abbrev KT (H:Hp):List (List Key×V)->List (List Key×Addr×Value)->Prop:=eD fun p q=>p.1=q.1/\H q.2.1=some (.tup (p.1.map kV))/\RelV p.2 q.2.2
theorem KT.val {H:Hp}{y:List (List Key×V)}{G:List (List Key×Addr×Value)}(r:KT H y G)(k:List Key):aE9 (ay6 y k) ((atKey G k).map (·.2)):=by
 induction r with
 | nil=>exact True.intro
 | @cons p q ps qs h t ih =>
  obtain⟨C,_,J⟩:=h
  by_cases e:p.1=k
  ·have e':q.1=k:=C.symm.trans e
   have b:atKey (q::qs) k=some q.2:=by simp[atKey,cx,e']
   rw[ag1 e,b];exact J
  ·have e':¬ q.1=k:=fun z=>e (C.trans z)
   have b:atKey (q::qs) k=atKey qs k:=by simp[atKey,cx,e']
   rw[af8 e,b];exact ih
theorem KT.repl {H:Hp}{C:List (List Key×V)}{xs:List (List Key×Addr×Value)}(r:KT H C xs)(k:List Key){y:V}{u:Value}(ry:RelV y u) :
  KT H (C.map fun J=>if J.1=k then(J.1,y)else J) (xs.map (putAt k u)):=by
 induction r with
 | nil=>exact .nil
 | @cons p q ps qs h t ih =>
  rw[aL,aL]
  refine .cons ?_ ih
  obtain⟨G,Y,h3⟩:=h
  unfold putAt
  by_cases e:p.1=k
  ·rw[if_pos e,if_pos (G.symm.trans e)];exact⟨G,Y,ry⟩
  ·rw[if_neg e,if_neg (fun z=>e (G.trans z))];exact⟨G,Y,h3⟩
theorem KT.put {H:Hp}{h:List (List Key×V)}{z:List (List Key×Addr×Value)}(r:KT H h z)(k:List Key){b:Addr}{y:V}{u:Value}(hb:H b=some (.tup (k.map kV)))(C:RelV y u) :
  KT H (ak2 h k y) (storedH z k b u):=by
 have e:(h.any fun G=>decide (G.1=k))=(atKey z k).isSome:=by
  rw[an7,(r.val k).isSome_eq,Option.isSome_map]
 unfold ak2 storedH
 rw[e]
 by_cases q:(atKey z k).isSome=true
 ·rw[if_pos q,if_pos q];exact r.repl k C
 ·rw[if_neg q,if_neg q];exact ji r ⟨rfl,hb,C⟩
theorem KT.keeps {H H':Hp}{h:List (List Key×V)}{y:List (List Key×Addr×Value)}(r:KT H h y)(C:∀ b ys,H b=some (.tup ys)->H' b=some (.tup ys)):KT H' h y :=
 eD.mapP r fun _ _ z=>⟨z.1,C _ _ z.2.1,z.2.2⟩
section
variable {P:aD} {w:World} {H:Hp} {h:Heap} {a:Addr}
theorem bB8 {u:HO}(ok:HOk P w H h)(e:Rd H a u):ab4 P w H h a u:=e.ok ok
theorem bh2 {y:List (Key×V)}(ok:HOk P w H h)(e:Rd H a (.dK y)):y.length<=aA/\(a==cF)=false/\∃ vs,KV y vs/\h.DictOf (zE P w) a vs :=
 show ab4 P w H h a (.dK y)from bB8 ok e
theorem bB9 {y:List (Key×V)}(ok:HOk P w H h)(e:H a=some (.dK y)):y.length<=aA/\(a==cF)=false/\∃ vs,KV y vs/\h.DictOf (zE P w) a vs:=bh2 ok (.inl e)
theorem aL4 {y:List Key}(ok:HOk P w H h)(e:H a=some (.tup (y.map kV))):(f6 (zE P w)).is h y a:=by
 obtain⟨_,its,r,o,C,z,n,G⟩:=(show ab4 P w H h a (.tup (y.map kV))from ok a _ e)
 exact⟨o,its.toArray,n,C,z,G,by simpa using aq7 r⟩
theorem bg5 {C:List (List Key×V)}(ok:HOk P w H h)(e:Rd H a (.dT C)):C.length<=aA/\(a==cF)=false /\
  ∃ G,KT H C G/\h.DictOfH (f6 (zE P w)) a G:=by
 obtain⟨z,y,G,r,o,es,Y,h1,J,h3,h4,h5⟩:=(show ab4 P w H h a (.dT C)from bB8 ok e)
 refine⟨z,y,G,r,o,es,Y,h1,J,h3,h4,fun x hx=>?_,h5⟩
 have all:∀ {l:List (List Key×V)} {m:List (List Key×Addr×Value)},KT H l m->∀ x∈m,(f6 (zE P w)).is h x.1 x.2.1:=by
  intro l m q
  induction q with
  | nil=>intro x hx;exact nomatch hx
  | @cons p q ps qs hq t ih =>
   intro x hx
   rcases aC.mp hx with e|hx
   ·subst e
    exact aL4 ok (by rw[<-hq.1];exact hq.2.1)
   ·exact ih x hx
 exact all r x hx
theorem bH6 {y:List (List Key×V)}(ok:HOk P w H h)(e:H a=some (.dT y)):y.length<=aA/\(a==cF)=false /\
  ∃ z,KT H y z/\h.DictOfH (f6 (zE P w)) a z:=bg5 ok (.inl e)
end
def aQ3 (H:Hp)(a:Addr)(y:V)(r:Option V):Prop :=
 (∃ kvs k,Rd H a (.dK kvs)/\y=kV k/\r=ay6 kvs k)\/∃ kvs k b,Rd H a (.dT kvs)/\y=.ref b/\H b=some (.tup (k.map kV))/\r=ay6 kvs k
def bl6 (H:Hp)(a:Addr)(y v:V)(H':Hp):Prop :=
 (∃ kvs k,H a=some (.dK kvs)/\y=kV k/\kvs.length<aA/\H'=upd H a (.dK (ak2 kvs k v))) \/
 ∃ kvs k b,H a=some (.dT kvs)/\y=.ref b/\H b=some (.tup (k.map kV))/\kvs.length<aA/\H'=upd H a (.dT (ak2 kvs k v))
theorem aQ3.k {H:Hp}{a:Addr}{h:List (Key×V)}{k:Key}(e:H a=some (.dK h)):aQ3 H a (kV k) (ay6 h k):=.inl ⟨h,k,.inl e,rfl,rfl⟩
theorem aQ3.t {H:Hp}{a b:Addr}{h:List (List Key×V)}{k:List Key}(e:H a=some (.dT h))(eb:H b=some (.tup (k.map kV))):aQ3 H a (.ref b) (ay6 h k):=.inr ⟨h,k,b,.inl e,rfl,eb,rfl⟩
theorem bl6.k {H:Hp}{a:Addr}{h:List (Key×V)}{k:Key}{v:V}(e:H a=some (.dK h))(hl:h.length<aA):bl6 H a (kV k) v (upd H a (.dK (ak2 h k v))):=.inl ⟨h,k,e,rfl,hl,rfl⟩
theorem bl6.t {H:Hp}{a b:Addr}{h:List (List Key×V)}{k:List Key}{v:V}(e:H a=some (.dT h))(eb:H b=some (.tup (k.map kV)))(hl:h.length<aA) :
  bl6 H a (.ref b) v (upd H a (.dT (ak2 h k v))):=.inr ⟨h,k,b,e,rfl,eb,hl,rfl⟩
section
variable {X:Cx} {pins:List (Addr×Obj)} {σ:St} {H:Hp} {s:ac} {a:Addr} {y v:V} {u r:Value} {o:Option V} {A:aP} {E:Value->ac->Prop}
theorem Inv.big (I:Inv X pins σ H s):cF<s.heap.objs.size:=by
 have h:a8<s.heap.objs.size:=(I.mod.glob.keeps I.bk).lt
 exact db (by decide) h
theorem ar1 {Q:Value->ac->Prop}(hu:A.units+1<cLine)(I:Inv X pins σ H s)(g:aQ3 H a y (some v))(ry:RelV y u)(h:∀ J s',Inv X pins σ H s'->RelV v J->Q J s') :
  wpAny (model X.prog X.w) A (gT (.ref a) u) Q E s:=by
 rcases g with⟨a0,k,e,ey,l⟩|⟨a0,k,b,e,ey,eb,l⟩
 ·subst ey
  obtain⟨z,hd,vs,C,dd⟩:=bh2 I.hok e
  obtain⟨J,hw,G⟩:=aE9.some_of (v:=v) (o:=ga vs k) (by rw[l];exact C.val k)
  exact wpAny_getItem_of (aX3 ry) dd.mapOf hw (h J _ (I.tok _) G)
 ·subst ey
  cases(show u=Value.ref b from ry)
  obtain⟨z,hd,xs,C,dd⟩:=bg5 I.hok e
  obtain⟨J,hw,G⟩:=aE9.some_of (v:=v) (o:=(atKey xs k).map (·.2)) (by rw[l];exact C.val k)
  obtain⟨p,hp,Y⟩:=dh.mp hw
  refine wpAny_getItem_heap (gH hu) (aL4 I.hok eb) dd hp ?_
  rw[Y]
  exact h J _ (I.tok _) G
theorem av3 {h':Heap}{t':Nat}{ob:HO}(I:Inv X pins σ H s)(mu:Mut (H a))(hs:c5 a s.heap h')(h:∃ q,h'.get? a=some q)(new:ab4 X.prog X.w (upd H a ob) h' a ob) :
  Inv X pins σ (upd H a ob) { s with heap:=h',toks:=t' } :=
 I.write (x:=a) (e:=a) mu (.inl rfl) (fun b q hb z=>(hs.2 b hb).trans z) h new
theorem aZ3 {P:aD}{w:World}{H':Hp}{h':Heap}{h:List (Key×V)}{vs:List (Key×Value)}(z:h.length<=aA)(hd:(a==cF)=false)(y:KV h vs)(dd:h'.DictOf (zE P w) a vs) :
  ab4 P w H' h' a (.dK h):=⟨z,hd,vs,y,dd⟩
theorem ar4 {H':Hp}{Q:Unit->ac->Prop}(hu:A.units+1<cLine)(I:Inv X pins σ H s)(g:bl6 H a y v H')(ry:RelV y u)(rv:RelV v r)(h:∀ s',Inv X pins σ H' s'->Q () s') :
  wpAny (model X.prog X.w) A (setItem (.ref a) u r) Q E s:=by
 rcases g with⟨C,k,e,Y,l,eH⟩|⟨C,k,b,e,Y,eb,l,eH⟩
 ·subst Y eH
  obtain⟨z,hd,vs,G,dd⟩:=bB9 I.hok e
  have hz:vs.length<=aA:=by rw[<-G.length];exact z
  have hl:(ak2 C k v).length<=aA:=by have:=qH C k v;omega
  refine wpAny_setItem_pairs (hsz:=hz) (aX3 ry) dd fun h' J hs=>h _ ?_
  have he:∃ q,h'.get? a=some q:=let⟨q,_,_,hq,_⟩:=J;⟨q,hq⟩
  exact av3 I (by rw[e];exact True.intro) hs he (aZ3 hl hd (G.put k rv) J)
 ·subst Y eH
  cases(show u=Value.ref b from ry)
  obtain⟨z,hd,xs,G,dd⟩:=bH6 I.hok e
  have hz:xs.length<=aA:=by rw[<-gi G];exact z
  have hl:(ak2 C k v).length<=aA:=by have:=qH C k v;omega
  refine wpAny_setItem_heap (hsz:=hz) (gH hu) (aL4 I.hok eb) dd fun h' J hs=>h _ ?_
  obtain⟨q,es,ep,hq,h2,h3,h4,_,h5⟩:=J
  refine av3 I (by rw[e];exact True.intro) hs ⟨q,hq⟩ ⟨hl,hd,_,(G.put k eb rv).keeps fun c ys ec=>?_,q,es,ep,hq,h2,h3,h4,h5⟩
  rw[za (bJ3 ec e (fun z=>nomatch z))]
  exact ec
end
section
variable {X:Cx} {pins:List (Addr×Obj)} {σ:St} {H:Hp} {s:ac} {a:Addr} {kvs:List (Key×V)} {k:Key} {u:Value} {A:aP} {E:Value->ac->Prop}
end
theorem ai8 {X:Cx}{h:List (Addr×Obj)}{σ:St}{H:Hp}{s:ac}{a:Addr}{y:V}{o:Option V}(I:Inv X h σ H s)(g:aQ3 H a y o):s.TypeIs (.ref a) "dict":=by
 rcases g with⟨z,k,e,_,_⟩|⟨z,k,b,e,_,_,_⟩
 ·obtain⟨_,_,vs,_,dd⟩:=bh2 I.hok e
  exact dd.typeIs
 ·obtain⟨_,_,C,_,dd⟩:=bg5 I.hok e
  exact dd.typeIs
section
variable {X:Cx} {o i e value:Expr} {pos pos' tpos:Pos} {td ty tv:TE}
end
theorem aB3 {P:aD}{w:World}{H:Hp}(h:Heap)(hb:cF<h.objs.size):ab4 P w H (h.push { cls:=.type "dict",data:=.dict #[] }) h.objs.size (.dK []) :=
 ⟨dC _,beq_eq_false_iff_ne.mpr (bE (aq hb)),[],.nil,Heap.DictOf.new h⟩
def bb5:TE:=fun _ H Q=>∀ p,H p=none->Q (.ref p) (upd H p (.dK []))
section
variable {X:Cx} {pos:Pos}
theorem aR5:PE X (.Dict [] [] pos) bb5:=fun y s σ H Q I h =>
 wpAny_Dict_empty ⟨.ref s.heap.objs.size,_,I.laid (a:=s.heap.objs.size) (o:=.dK []) (t':=s.toks) (fun _ _ q=>af _ q) (ai _) (aB3 s.heap I.big),rfl,h _ (I.hok.fresh (ai _))⟩
end
noncomputable def aI6:List (TE×TE)->St->Hp->(List (V×V)->Hp->Prop)->Prop
 | [],_,H,Q=>Q [] H
 | (tk,tv)::r,σ,H,Q=>tk σ H fun x H1=>tv σ H1 fun y H2=>aI6 r σ H2 fun ps H3=>Q ((x,y)::ps) H3
abbrev VV:List (V×V)->List (Value×Value)->Prop:=eD fun p q=>RelV p.1 q.1/\RelV p.2 q.2
def PPs (X:Cx)(pos:Pos)(keys:List (Option Expr))(values:List Expr)(trs:List (TE×TE)):Prop :=
 ∀(pins:List (Addr×Obj)) (s:ac) (σ:St) (H:Hp) (Q:List (V×V)->Hp->Prop),Inv X pins σ H s->aI6 trs σ H Q ->
  wpAny (model X.prog X.w) X.A (evalPairs (pairTrees keys values X.env pos)) (fun vs s'=>∃ ps H',Inv X pins σ H' s'/\VV ps vs/\Q ps H') X.xe s
theorem bp5 {X:Cx}{pos:Pos}:PPs X pos [] [] []:=fun y s σ H Q I h=>pairTrees_nil_walk ⟨[],H,I,.nil,h⟩
theorem aV5 {X:Cx}{pos:Pos}{k v:Expr}{Y:List (Option Expr)}{vs:List Expr}{tk J:TE}{C:List (TE×TE)}(hk:PE X k tk)(hv:PE X v J)(hr:PPs X pos Y vs C) :
  PPs X pos (some k::Y) (v::vs) ((tk,J)::C):=fun z s σ H Q I h =>
 pairTrees_cons_walk (thn (hk z s σ H _ I h) fun u s1 ⟨x,H1,I1,rx,q1⟩=>thn (hv z s1 σ H1 _ I1 q1) fun w2 s2 ⟨y,H2,I2,ry,q2⟩ =>
  thn (hr z s2 σ H2 _ I2 q2) fun ws s3 ⟨ps,H3,I3,G,q3⟩=>⟨(x,y)::ps,H3,I3,.cons ⟨rx,ry⟩ G,q3⟩)
noncomputable def as4 (kvs more:List (Key×V)):List (Key×V):=more.foldl (fun acc kv=>ak2 acc kv.1 kv.2) kvs
theorem KV.merge:∀ {y:List (Key×V)} {C:List (Key×Value)} {z:List (Key×V)} {vs:List (Key×Value)},KV y C->KV z vs->KV (as4 z y) (merged vs C):=by
 intro y C z vs r
 unfold KV at r
 induction r generalizing z vs with
 | nil=>intro q;exact q
 | @cons p q ps qs h t ih =>
  intro r0
  have e:KV (ak2 z p.1 p.2) (stored vs q.1 q.2):=by
   have:=r0.put p.1 h.2
   rw[<-h.1];exact this
  exact ih e
theorem ad9:∀(y h:List (Key×V)),(as4 h y).length<=h.length+y.length
 | [],h=>by show h.length<=h.length+0;omega
 | p::r,h=>by
  have C:=ad9 r (ak2 h p.1 p.2)
  have z:=qH h p.1 p.2
  show(as4 (ak2 h p.1 p.2) r).length<=_
  rw[aQ];omega
theorem ak5 {P:aD}{w:World}:∀ {y:List (Key×V)} {ws:List (Value×Value)},VV (y.map fun C=>(kV C.1,C.2)) ws->∃ z,Carries (zE P w) ws z/\KV y z
 | [],_,r=>by rw[cK]at r;cases r;exact⟨[],True.intro,.nil⟩
 | p::y,_,r=>by
  rw[aL]at r
  cases r with
  | @cons a b as bs h t =>
   obtain⟨z,c,q⟩:=ak5 (P:=P) (w:=w) t
   obtain⟨J,G⟩:=b
   exact⟨(p.1,G)::z,⟨aX3 h.1,rfl,c⟩,.cons ⟨rfl,h.2⟩ q⟩
def bv1 (trs:List (TE×TE)):TE:=fun σ H Q=>∀ p,H p=none->aI6 trs σ (upd H p (.dK [])) fun ps H2=>H2 p=some (.dK [])/\∃ kvs:List (Key×V),ps=kvs.map (fun kv=>(kV kv.1,kv.2))/\kvs.length<=15/\Q (.ref p) (upd H2 p (.dK (as4 [] kvs)))
theorem bk9 {X:Cx}{pos:Pos}{keys:List (Option Expr)}{y:List Expr}{G:List (TE×TE)}(h:PPs X pos keys y G)(Y:keys.all (·.isSome)=true)(hl:keys.length=y.length)(h0:keys≠[])
  (a1:keys.length<=15):PE X (.Dict keys y pos) (bv1 G):=by
 intro C s σ H Q I q
 have hn:=I.hok.fresh (ai s.heap.objs.size)
 have I1:=I.laid (a:=s.heap.objs.size) (o:=.dK []) (h':=s.heap.push { cls:=.type "dict",data:=.dict #[] }) (t':=s.toks) (fun _ _ q=>af _ q) (ai _) (aB3 s.heap I.big)
 refine wpAny_Dict_walk (knd:=zE X.prog X.w) Y hl h0 a1 (thn (h C _ σ _ _ I1 (q _ hn)) fun ws s2 ⟨ps,H2,I2,a2,e,J,ep,lk,q2⟩=>?_)
 subst ep
 obtain⟨rs,c,rk⟩:=ak5 (P:=X.prog) (w:=X.w) a2
 obtain⟨z,hd,a3,r0,dd⟩:=bB9 I2.hok e
 cases r0
 refine⟨rs,c,dd,fun h' a0 hs=>⟨.ref s.heap.objs.size,_,?_,rfl,q2⟩⟩
 have hz:(as4 [] J).length<=aA:=by
  have h1:=ad9 J []
  rw[dJ]at h1
  rw[cY];omega
 have he:∃ q,h'.get? s.heap.objs.size=some q:=let⟨q,_,_,hq,_⟩:=a0;⟨q,hq⟩
 exact av3 I2 (by rw[e];exact True.intro) hs he (aZ3 hz hd (rk.merge .nil) a0)
section
variable {X:Cx} {pins:List (Addr×Obj)} {σ:St} {H:Hp} {s:ac} {a:Addr} {y d:V} {u r:Value} {o:Option V} {A:aP} {E:Value->ac->Prop}
end
section
variable {X:Cx} {o e f:Expr} {apos cpos:Pos} {td ty tx:TE}
end
section
variable {P:aD} {w:World} {A:aP} {E:Value->ac->Prop} {s:ac}
end
section
variable {X:Cx} {pins:List (Addr×Obj)} {σ:St} {H:Hp} {s:ac}
end
section
variable {prog:aD} {w:World} {A:aP} {R:iZ->ac->Prop} {I:Addr} {fp wr:List Addr} {n:Nat} {P:Nat->Value->Prop} {St:Nat->Heap->Prop} {kw:List (Str×Value)}
end
theorem aU0 (its:List Value):slicePick its.toArray none none (some (-1))=its.reverse.toArray:=by
 have hb:sliceBounds none none (some (-1)) its.toArray.size=((its.length:Int) - 1,-1,-1):=by
  unfold sliceBounds
  simp
 have z:sliceRange ((its.length:Int) - 1) (-1) (-1)=(av its.length).map fun k=>its.length - 1 - k:=by
  unfold sliceRange
  have hc:(if(-1:Int) > 0 then(if(its.length:Int) - 1 < -1 then(-1 - ((its.length:Int) - 1)+-1 - 1) / -1 else 0)else(if(its.length:Int) - 1 > -1 then((its.length:Int) - 1 - -1 - -1 - 1) / (- -1)else 0))=its.length:=by
   rw[if_neg (by decide)]
   by_cases h:(its.length:Int) - 1 > -1
   ·rw[if_pos h,show(-(-1):Int)=1 by decide,Int.ediv_one];omega
   ·rw[if_neg h];omega
  simp only[hc,di]
  refine cO fun k hk=>?_
  have:=bv.mp hk
  omega
 unfold slicePick
 rw[hb]
 simp only[z]
 congr 1
 apply List.ext_getElem?
 intro i
 rw[List.filterMap_map]
 have e:((av its.length).filterMap ((fun x=>its.toArray[x]?) ∘ fun k=>its.length - 1 - k))=(av its.length).map fun k=>its.getD (its.length - 1 - k) .none:=by
  rw[<-List.filterMap_eq_map]
  have y:∀(l:List Nat) (f g:Nat->Option Value),(∀ x∈l,f x=g x)->l.filterMap f=l.filterMap g:=fun l f g h=>by
   induction l with
   | nil=>rfl
   | cons a l ih=>rw[bn,bn,h a (az ..),ih fun x hx=>h x (ao _ hx)]
  refine y _ _ _ fun k hk=>?_
  have:=bv.mp hk
  simp only[Function.comp,bK,aK]
  rw[aj (by omega)]
  rfl
 rw[e]
 by_cases hi:i<its.length
 ·rw[aG,bR hi,fK hi,bQ,aK,aj (by omega)]
  rfl
 ·rw[bL (by rw[aI,dk];omega),bL (by rw[b7];omega)]
def bu2 (K:ab)(te ts:TE):TE:=fun σ H Q=>te σ H fun x H1=>ts σ H1 fun y H2=>y=.int (-1)/\((∃ z:Str,x=.str z/\z.length<=aA/\Q (.str ⟨z.cps.reverse⟩) H2)\/∃ a xs,x=.ref a/\SqL K H2 a xs/\∀ p,H2 p=none->Q (.ref p) (upd H2 p (.lst xs.reverse)))
theorem bq0 {X:Cx}{K:ab}{e st:Expr}{te ts:TE}{p2 pos:Pos}(hK:X.K=K)(he:PE X e te)(hs:PE X st ts):PE X (.Subscript e (.Slice none none (some st) p2) pos) (bu2 K te ts):=by
 subst hK
 intro C s σ H Q I h
 refine Subscript_ (thn (he C s σ H _ I h) fun v s1 ⟨x,H1,I1,r1,q1⟩=>?_)
 refine wpAny_Slice ?_
 rw[evalPart_none]
 refine aJ ?_
 refine aJ ?_
 rw[evalPart_some]
 refine thn (hs C s1 σ H1 _ I1 q1) fun w s2 ⟨y,H2,I2,r2,q2⟩=>?_
 obtain⟨rfl,q2⟩:=q2
 obtain⟨G,rfl⟩:=r2
 have Y:Inv X C σ H2 { s2 with heap:=s2.heap.push { cls:=.type "slice",data:=.fields #[.none,.none,.int (-1) G] } }:=I2.kept (t':=s2.toks) fun b ob q=>af _ q
 have fin:∀(v:Value) (T:String) (id:String),typeLookup (.type T) "__getitem__"=pure (some (.builtin id))->Shared.TypeIs { s2 with heap:=s2.heap.push { cls:=.type "slice",data:=.fields #[.none,.none,.int (-1) G] } } v T->wpAny (model X.prog X.w) X.A (gT v (.ref s2.heap.objs.size)) (EP X C σ Q) X.xe { s2 with heap:=s2.heap.push { cls:=.type "slice",data:=.fields #[.none,.none,.int (-1) G] } } ->
   wpAny (model X.prog X.w) X.A (subscriptTail e (.Slice none none (some st) p2) v (.ref s2.heap.objs.size)) (EP X C σ Q) X.xe { s2 with heap:=s2.heap.push { cls:=.type "slice",data:=.fields #[.none,.none,.int (-1) G] } }:=fun v T id hT ht J=>iz (ops:=[v,.ref s2.heap.objs.size]) ht hT J (by with_unfolding_all rfl)
 rcases q2 with⟨z,rfl,hz,q⟩|⟨a,xs,rfl,hx,q⟩
 ·obtain⟨t,rfl⟩:=r1
  have J:wpAny (model X.prog X.w) X.A (gT (.str z t) (.ref s2.heap.objs.size)) (EP X C σ Q) X.xe { s2 with heap:=s2.heap.push { cls:=.type "slice",data:=.fields #[.none,.none,.int (-1) G] } }:=by
   refine wpAny_getItem_str_slice (l:=none) (u:=none) (st:=some (-1,G)) ⟨_,aF _ rfl,rfl,rfl⟩ rfl ?_
   unfold sliceMade
   rw[if_neg (by
    have:((((some ((-1:Int),G)).map (·.1)).getD 1==1))=false:=rfl
    rw[this];simp),bk1]
   refine⟨?_,.str _,H2,Y.tok _,⟨_,rfl⟩,q⟩
   show z.cps.reverse.size<=aA
   rw[Array.size_reverse];exact hz
  exact fin _ _ _ F.slot_str_getitem.lookup (iA _ z t) J
 ·cases r1
  obtain⟨its,r,ht,hz⟩:=Y.list hx
  have a0:=r.length
  have J:wpAny (model X.prog X.w) X.A (gT (.ref a) (.ref s2.heap.objs.size)) (EP X C σ Q) X.xe { s2 with heap:=s2.heap.push { cls:=.type "slice",data:=.fields #[.none,.none,.int (-1) G] } }:=by
   refine wpAny_getItem_list_slice (lo:=none) (hi:=none) (st:=some (-1)) ht.isList ⟨_,aF _ rfl,rfl,rfl⟩ .none .none (.int (-1) G) (by simp) ?_ (by rw[ar]<;>omega)
   rw[aU0]
   refine⟨.ref _,_,Y.laid (t':=s2.toks) (o:=.lst xs.reverse) (fun b ob q=>af _ q) (ai _) ?_,rfl,q _ (Y.hok.fresh (ai _))⟩
   exact⟨by rw[b7];exact hz,_,0,r.reverse,aF _ rfl⟩
  exact fin (.ref a) _ _ gU.lookup ht.isList.typeIs J
theorem bc4 (i:Int)(h:0<=i):iK i 1=i % 2:=by
 unfold iK
 rw[decide_eq_true h]
 show((i.toNat &&& (1:Int).toNat:Nat):Int)=_
 rw[show(1:Int).toNat=1 from rfl,Nat.and_one_is_mod]
 omega
theorem bo0 {X:Cx}:OpR X (bI .BitAnd) (rI (fun i j=>0<=i/\j=1) fun i j=>.int (i % 2)):=opI fun i j _ _ _ _ _ hc q=>by
 obtain⟨h0,rfl⟩:=hc
 refine and_int ?_
 rw[bc4 i h0]
 exact q
theorem bj8 {X:Cx}:MtR X "int.bit_length" (fun x vs H Q=>∃ i,x=.int i/\vs=[]/\Q (.int (dM i:Nat)) H):=by
 intro y s σ H x vs v us Q I z C h
 obtain⟨i,rfl,rfl,q⟩:=h
 obtain⟨t,rfl⟩:=z
 cases C
 refine call_gives dR (dY s _ t) PySem.F.entry_int_bit_length (PySem.F.args_int_bit_length_1 _) (gh i t) ?_
 exact⟨.int _,H,I.tok _,⟨_,rfl⟩,q⟩
theorem aG9:∀ {z:List V} {us:List Value},z.length=us.length->(∀(i:Nat) (x:V) (u:Value),z[i]?=some x->us[i]?=some u->RelV x u)->Vals z us
 | [],[],_,_=>.nil
 | [],_::_,h,_=>nomatch h
 | _::_,[],h,_=>nomatch h
 | x::z,u::us,h,r=>.cons (r 0 x u rfl rfl) (aG9 (i3 h) fun i y v e1 e2=>r (i+1) y v e1 e2)
def tLR (ta:TA):TE:=fun σ H Q=>ta σ H fun vs H1=>∃ j:Int,vs=[.int j]/\0<=j/\j<=1000000/\∀ p,H1 p=none->Q (.ref p) (upd H1 p (.lst ((av j.toNat).map fun(k:Nat)=>V.int (k:Int))))
theorem ar9 {X : Cx} {a : Expr} {ta : TA} {p p2 pos pos2 : Pos} (hc : X.calm = true) (hg : Gl X "range") (hm : X.mg "range" = none) (hg2 : Gl X "list") (hm2 : X.mg "list" = none) (ha : PA X [a] ta) (hs : starEach [a] X.env = [(false, eval a X.env)] := by rfl) :
    PE X (.Call (.Name "list" p2) [.Call (.Name "range" p) [a] [] pos] [] pos2) (tLR ta) := by
  intro pins s σ H Q I h
  refine bG (ai6 I hg2 hm2 aN0 ?_)
  have hst : aW [Expr.Call (.Name "range" p) [a] [] pos] X.env = [(false, eval (.Call (.Name "range" p) [a] [] pos) X.env)] := rfl
  refine bS (T := "list") ?_ hst rfl
  rw[hst]
  show wpAny _ _ (spliced ((false, eval (.Call (.Name "range" p) [a] [] pos) X.env) :: cW pos2 [])) _ _ s
  refine gB ?_
  refine Call_ (ai6 I hg hm boot_range (bS (thn (ha pos pins s σ H _ I h) fun us s1 ⟨vs, H1, I1, r1, q1⟩ => ?_) hs rfl))
  obtain⟨j, e, q1, q2, q⟩ := q1
  subst e
  cases r1 with
  | cons r rr =>
    cases rr
    obtain⟨t, rfl⟩ := r
    refine call_range_1 ?_
    refine aJ ?_
    generalize hs2 : s1.heap.push { cls := .type "range", data := .fields #[.int 0 s1.toks, .int j t, .int 1 (s1.toks + 1)] } = h2
    have I2 : Inv X pins σ H1 { s1 with heap := h2, toks := s1.toks + 1 + 1 } := I1.kept fun b o e => by rw[<- hs2]; exact af _ e
    have hr : IsRange h2 s1.heap.objs.size 0 j 1 s1.toks t (s1.toks + 1) := by rw[<- hs2]; exact je ..
    have hsz : eQ 0 j 1 = (j.toNat : Int) := by rw[rangeSize_one]; split <;> omega
    refine call_list_range (s := { s1 with heap := h2, toks := s1.toks + 1 + 1 }) (I2.ok.hd hc) hr (small_one (by omega) (by omega) (by omega) (by omega)) hsz (by omega) fun h' tk acc' c' hk hS hacc => ?_
    obtain⟨ha1, ha2⟩ := hacc
    have rv : Vals ((av j.toNat).map fun(k : Nat) => V.int (k : Int)) acc'.toList := by
      refine aG9 (by rw[aI, dk, cN, ha1]) fun i x u e1 e2 => ?_
      rw[aG]at e1
      have hi : i < j.toNat := by
        have := (ae.mp e2).1
        rw[cN, ha1]at this; exact this
      rw[bR hi]at e1
      cases e1
      obtain⟨t2, rfl⟩ := ha2 i u (by rw[<- fL]; exact e2)
      exact⟨t2, by rw[show(0 : Int) + (i : Nat) * 1 = i by omega]⟩
    refine⟨.ref h2.objs.size, _, I2.laid (t' := tk) hk (ai _) ?_, rfl, q _ (I2.hok.fresh (ai _))⟩
    exact ⟨by rw [List.length_map, List.length_range]; have : sizeLine ≥ 1000000 := by rw [sizeLine_eq]; decide
              omega, _, c', rv, by simpa using hS⟩
end L2
end
noncomputable section
namespace DV
inductive D where
 | non|bl (b:Bool)|int (i:Int)|str (x:List Nat)|tup (l:List D)|ref (n:Nat)|fn (f:String)|clo (f:String) (cs:List D)
noncomputable instance:DecidableEq D:=fun a b=>e8 (a=b)
noncomputable instance (x:D):Decidable (x=.non):=match x with
 | .non=>.isTrue rfl
 | .bl _=>.isFalse nofun
 | .int _=>.isFalse nofun
 | .str _=>.isFalse nofun
 | .tup _=>.isFalse nofun
 | .ref _=>.isFalse nofun
 | .fn _=>.isFalse nofun
 | .clo _ _=>.isFalse nofun
inductive O where
 | lst (l:List D)|ro (l:List D)|dic (l:List (D×D))|ins (c:String) (fs:List (String×D))|dit (l:List (D×D))
noncomputable instance:DecidableEq O:=fun a b=>e8 (a=b)
noncomputable abbrev Sto:=List O
noncomputable def O.kd:O->Nat
 | .lst _=>0|.ro _=>1|.dic _=>2|.ins _ _=>3|.dit _=>4
inductive R (α:Type) where
 | ok (a:α) (s:Sto)|exc (e:D) (s:Sto)|bad
noncomputable abbrev M (α:Type):=Sto->R α
noncomputable def R.bind {α β:Type}(r:R α)(f:α->Sto->R β):R β:=match r with
 | .ok a s=>f a s
 | .exc e s=>.exc e s
 | .bad=>.bad
@[simp] theorem R.bind_ok {α β:Type} (a:α) (s:Sto) (f:α->Sto->R β):(R.ok a s).bind f=f a s:=rfl
@[simp] theorem R.bind_bad {α β:Type} (f:α->Sto->R β):(R.bad:R α).bind f=.bad:=rfl
@[simp] theorem R.bind_exc {α β:Type} (e:D) (s:Sto) (f:α->Sto->R β):(R.exc e s:R α).bind f=.exc e s:=rfl
theorem R.bind_inv {α β:Type}{r:R α}{f:α->Sto->R β}{b:β}{t:Sto}(h:r.bind f=.ok b t):∃ a s,r=.ok a s/\f a s=.ok b t:=by
 cases r with
 | ok a s=>exact⟨a,s,rfl,h⟩
 | exc e s=>cases h
 | bad=>cases h
@[simp] theorem R.bind_assoc {α β γ:Type} (r:R α) (f:α->Sto->R β) (g:β->Sto->R γ):(r.bind f).bind g=r.bind fun a s=>(f a s).bind g:=by cases r<;>rfl
mutual
noncomputable def D.bnd (n:Nat):D->Bool
 | .tup l=>D.bndL n l
 | .ref k=>decide (k<n)
 | .clo _ l=>D.bndL n l
 | _=>true
noncomputable def D.bndL (n:Nat):List D->Bool
 | []=>true
 | d::l=>D.bnd n d&&D.bndL n l
end
noncomputable def O.bnd (n:Nat):O->Bool
 | .lst l=>D.bndL n l
 | .ro l=>D.bndL n l
 | .dic l=>D.bndL n (l.map (·.1))&&D.bndL n (l.map (·.2))
 | .ins _ fs=>D.bndL n (fs.map (·.2))
 | .dit l=>D.bndL n (l.map (·.1))&&D.bndL n (l.map (·.2))
mutual
noncomputable def D.plain:D->Bool
 | .non=>true|.int _=>true|.str _=>true
 | .tup l=>D.plainL l
 | _=>false
noncomputable def D.plainL:List D->Bool
 | []=>true
 | d::l=>D.plain d&&D.plainL l
end
mutual
noncomputable def D.ncl:D->Bool
 | .tup l=>D.nclL l
 | .clo _ _=>false
 | _=>true
noncomputable def D.nclL:List D->Bool
 | []=>true
 | d::l=>D.ncl d&&D.nclL l
end
noncomputable def O.ncl:O->Bool
 | .lst l=>D.nclL l
 | .ro l=>D.nclL l
 | .dic l=>D.nclL (l.map (·.2))
 | .dit l=>D.nclL (l.map (·.2))
 | _=>false
noncomputable def D.key:D->Bool
 | .int _=>true|.str _=>true|_=>false
noncomputable def D.hdI:List D->Bool
 | .int _::_=>true|_=>false
noncomputable def D.keyS:D->Bool
 | .int _=>true|.str x=>decide (x.length<=1000)|_=>false
noncomputable def D.keyT:D->Bool
 | .tup l=>D.hdI l&&(l.all D.keyS&&decide (l.length<=1000))|_=>false
noncomputable def LIM:Nat:=1000000
@[irreducible] noncomputable def BIG:Nat:=2^60000
@[irreducible] noncomputable def DIVL:Nat:=2^4096
inductive BOp where
 | add|sub|mul|fdiv|mod|pow|shl|shr|band|bor
 deriving DecidableEq
inductive COp where
 | eq|ne|lt|le|gt|ge|isin|notin
 deriving DecidableEq
inductive Cn where
 | non|bl (b:Bool)|int (i:Int)|str (x:List Nat)
 deriving DecidableEq
noncomputable def Cn.d:Cn->D
 | .non=>.non|.bl b=>.bl b|.int i=>.int i|.str x=>.str x
inductive Bi where
 | len|abs|int|str|min2|max2|max3|min3|isInt|isBool|isStr|isTup|isList|ord
 deriving DecidableEq
inductive Mk where
 | tuple|list|all|any|sum|min|max|sorted|lenset
 deriving DecidableEq
inductive Mt where
 | append|pop|index|count|reverse|clear|bitlen|get1|get2|setdefault|update|split|partition
 deriving DecidableEq
inductive Tg where
 | one (i:Nat)|tup (is:List Nat)
 deriving DecidableEq
mutual
inductive E where
 | var (i:Nat)|cst (c:Cn)|glob (x:String)
 | bin (op:BOp) (a b:E)|neg (a:E)|not (a:E)
 | cmp (op:COp) (a b:E)|chain (o p:COp) (a b c:E)
 | isN (a:E)|notN (a:E)|isB (a:E) (b:Bool)|notB (a:E) (b:Bool)
 | and (a b:E)|or (a b:E)|ite (c a b:E)
 | tup (es:Es)|lst (es:Es)|dic (ks vs:Es)|dicT|get2 (o k d:E)|bitl (a:E)|lrng (a:E)
 | ix (a b:E)|slL (a lo:E)|slU (a hi:E)|slLU (a lo hi:E)|rev (a:E)
 | call (f:String) (as:As)|callC (f:String) (as:As)|callV (i:Nat) (es:Es)
 | bi (b:Bi) (es:Es)|mk (k:Mk) (l:L)|mkD (k:Mk) (l:L) (d:E)
 | meth (m:Mt) (o:E) (es:Es)|ext (o:E) (l:L)|extS (o e:E)|join (o e:E)|mks (k:Mk) (e:E)|mkDs (k:Mk) (e d:E)
inductive Es where
 | nil|cons (e:E) (es:Es)
inductive As where
 | nil|ex (e:E) (as:As)|lam (id:String) (caps:List Nat) (as:As)|fn (f:String) (as:As)
inductive I where
 | seq (e:E)|rng1 (a:E)|rng2 (a b:E)|rng3 (a b:E) (c:Int)|enum (it:I)|zip (a b:I)|items (e:E)
inductive L where
 | comp (tg:Tg) (it:I) (e:E) (caps:List (Option Nat))|compIf (tg:Tg) (it:I) (c e:E) (caps:List (Option Nat))|disp (es:Es)|seq (e:E)|itm (e:E)
end
mutual
inductive S where
 | asg (tg:Tg) (e:E)|setIx (o i e:E)|aug (i:Nat) (e:E)|ex (e:E)|ret (e:E)|retN
 | ite (c:E) (a b:Ss)|whl (c:E) (b:Ss)|for_ (tg:Tg) (it:I) (b:Ss)|pass|cont|brk|raise|und (i:Nat)
inductive Ss where
 | nil|cons (s:S) (ss:Ss)
end
noncomputable abbrev Env:=List (Option D)
noncomputable def ab8 (o:O):M D:=fun s=>.ok (.ref s.length) (s++[o])
noncomputable def pur (d:D):M D:=fun s=>.ok d s
noncomputable def bad {α:Type}:M α:=fun _=>.bad
noncomputable def mulOk (a b:Int):Bool:=decide (a.natAbs<2^64)||decide (b.natAbs<2^64)||(decide (a.natAbs<BIG)&&decide (b.natAbs<BIG))
noncomputable def rep:Nat->List Nat->List Nat
 | 0,_=>[]
 | n+1,a=>a++rep n a
noncomputable def aF9:Nat->List D->List D
 | 0,_=>[]
 | n+1,a=>a++aF9 n a
noncomputable def qo:BOp->D->D->M D
 | .add,.int a,.int b=>pur (.int (a+b))
 | .add,.str a,.str b=>if a.length+b.length<=LIM then pur (.str (a++b))else bad
 | .add,.tup a,.tup b=>if a.length+b.length<=LIM then pur (.tup (a++b))else bad
 | .add,.ref a,.ref b=>fun s=>match s[a]?,s[b]? with
  | some (.lst l),some (.lst m)=>if l.length+m.length<=LIM then ab8 (.lst (l++m)) s else .bad
  | _,_=>.bad
 | .sub,.int a,.int b=>pur (.int (a - b))
 | .mul,.int a,.int b=>if mulOk a b then pur (.int (a*b))else bad
 | .mul,.str a,.int n=>if 0<=n/\n<=1000000/\a.length*n.toNat<=LIM then pur (.str (rep n.toNat a))else bad
 | .mul,.tup a,.int n=>if 0<=n/\n<=1000000/\a.length*n.toNat<=LIM then pur (.tup (aF9 n.toNat a))else bad
 | .mul,.ref a,.int n=>fun s=>match s[a]? with
  | some (.lst l)=>if 0<=n/\n<=1000000/\l.length*n.toNat<=LIM then ab8 (.lst (aF9 n.toNat l)) s else .bad
  | _=>.bad
 | .fdiv,.int a,.int b=>if 0<b/\b<(DIVL:Int)then pur (.int (a / b))else bad
 | .mod,.int a,.int b=>if 0<b then pur (.int (a % b))else bad
 | .pow,.int a,.int b=>if 0<=b/\b<=1000000/\a.natAbs<2^64 then pur (.int (a^b.toNat))else bad
 | .shl,.int a,.int b=>if 0<=b/\b<=1000000/\a.natAbs<2^64 then pur (.int (a*2^b.toNat))else bad
 | .shr,.int a,.int b=>if 0<=b then pur (.int (a / 2^b.toNat))else bad
 | .band,.int a,.int b=>if 0<=a/\b=1 then pur (.int (a % 2))else bad
 | _,_,_=>bad
noncomputable def kd (s:Sto):D->Nat
 | .non=>0|.bl _=>1|.int _=>1|.str _=>2|.tup _=>3
 | .ref r=>match s[r]? with|some (.lst _)=>4|_=>9
 | _=>9
noncomputable def aw4 (a b:Nat):Bool:=a==9||b==9||a==b
noncomputable def b2i (b:Bool):Int:=if b then 1 else 0
noncomputable def aC5:D->D->Option Bool
 | .non,.non=>some true
 | .bl a,.bl b=>some (a==b)
 | .int a,.int b=>some (a==b)
 | .bl a,.int b=>some (b2i a==b)
 | .int a,.bl b=>some (a==b2i b)
 | .str a,.str b=>some (a==b)
 | _,_=>none
noncomputable def ad4 (s:Sto)(a b:D):Option Bool:=match aC5 a b with
 | some z=>some z
 | none=>if aw4 (kd s a) (kd s b)then none else some false
noncomputable def eqL (f:D->D->Option Bool):List D->List D->Option Bool
 | [],[]=>some true
 | [],_::_=>some false
 | _::_,[]=>some false
 | a::l,b::m=>match f a b,eqL f l m with
  | some x,some y=>some (x&&y)
  | _,_=>none
noncomputable def eqv (s:Sto):Nat->D->D->Option Bool
 | 0,a,b=>ad4 s a b
 | n+1,a,b=>match a,b with
  | .tup l,.tup m=>eqL (eqv s n) l m
  | .ref x,.ref y=>match s[x]?,s[y]? with
   | some (.lst l),some (.lst m)=>if l.length=m.length then eqL (eqv s n) l m else some false
   | _,_=>none
  | a,b=>ad4 s a b
noncomputable def DEEP:Nat:=30
noncomputable def eqM (a b:D):M D:=fun s=>match eqv s DEEP a b with
 | some r=>.ok (.bl r) s
 | none=>.bad
noncomputable def inL (s:Sto)(x:D):List D->Option Bool
 | []=>some false
 | y::l=>match eqv s DEEP y x,inL s x l with
  | some a,some b=>some (a||b)
  | _,_=>none
noncomputable def look (k:D):List (D×D)->Option D
 | []=>none
 | (a,v)::l=>if a=k then some v else look k l
noncomputable def inM (a b:D):M Bool:=fun s=>match b with
 | .tup l=>match inL s a l with|some r=>.ok r s|none=>.bad
 | .ref r=>match s[r]? with
  | some (.lst l)=>match inL s a l with|some r=>.ok r s|none=>.bad
  | some (.dic l)=>if a.key then .ok (look a l).isSome s else .bad
  | some (.dit l)=>if a.keyT then .ok (look a l).isSome s else .bad
  | _=>.bad
 | .str y=>match a with|.str [c]=>.ok (decide (c∈y)) s|_=>.bad
 | _=>.bad
noncomputable def qB:COp->D->D->M D
 | .eq,a,b=>eqM a b
 | .ne,a,b=>fun s=>match eqv s DEEP a b with|some r=>.ok (.bl (!r)) s|none=>.bad
 | .lt,.int a,.int b=>pur (.bl (decide (a<b)))
 | .le,.int a,.int b=>pur (.bl (decide (a<=b)))
 | .gt,.int a,.int b=>pur (.bl (decide (b<a)))
 | .ge,.int a,.int b=>pur (.bl (decide (b<=a)))
 | _,_,_=>bad
noncomputable def ixn (n:Nat)(i:Int):Option Nat:=if 0<=i then(if i<n then some i.toNat else none)else if -(n:Int)<=i then some (i+n).toNat else none
noncomputable def sbd (n:Nat)(i:Int):Nat:=if 0<=i then min i.toNat n else(i+n).toNat
noncomputable def loB (n:Nat):Option Int->Nat
 | none=>0
 | some i=>sbd n i
noncomputable def hiB (n:Nat):Option Int->Nat
 | none=>n
 | some i=>sbd n i
noncomputable def bG9 {α:Type}(l:List α)(lo hi:Option Int):List α:=(l.drop (loB l.length lo)).take (hiB l.length hi - loB l.length lo)
noncomputable def ixM (a b:D):M D:=fun s=>match a,b with
 | .tup l,.int i=>match(ixn l.length i).bind fun j=>l[j]? with|some d=>.ok d s|none=>.bad
 | .str l,.int i=>match(ixn l.length i).bind fun j=>l[j]? with|some c=>.ok (.str [c]) s|none=>.bad
 | .ref r,b=>match s[r]? with
  | some (.lst l)=>match b with
   | .int i=>match(ixn l.length i).bind fun j=>l[j]? with|some d=>.ok d s|none=>.bad
   | _=>.bad
  | some (.ro l)=>match b with
   | .int i=>match(ixn l.length i).bind fun j=>l[j]? with|some d=>.ok d s|none=>.bad
   | _=>.bad
  | some (.dic l)=>if b.key then match look b l with|some d=>.ok d s|none=>.bad else .bad
  | some (.dit l)=>if b.keyT then match look b l with|some d=>.ok d s|none=>.bad else .bad
  | _=>.bad
 | _,_=>.bad
noncomputable def slM (a:D)(lo hi:Option Int):M D:=fun s=>match a with
 | .tup l=>.ok (.tup (bG9 l lo hi)) s
 | .str l=>.ok (.str (bG9 l lo hi)) s
 | .ref r=>match s[r]? with
  | some (.lst l)=>ab8 (.lst (bG9 l lo hi)) s
  | _=>.bad
 | _=>.bad
noncomputable def bn8 (a:D):M D:=fun s=>match a with
 | .str l=>.ok (.str l.reverse) s
 | .ref r=>match s[r]? with
  | some (.lst l)=>ab8 (.lst l.reverse) s
  | _=>.bad
 | _=>.bad
noncomputable def aj8:List D->Option (List Bool)
 | []=>some []
 | .bl b::l=>(aj8 l).map (b::·)
 | _=>none
noncomputable def qj:List D->Option (List Int)
 | []=>some []
 | .int i::l=>(qj l).map (i::·)
 | _=>none
noncomputable def aZ6:List D->Option (List (List Nat))
 | []=>some []
 | .str i::l=>(aZ6 l).map (i::·)
 | _=>none
noncomputable def bq5 (d:D):M D:=fun s=>match d with
 | .tup l=>.ok (.int l.length) s
 | .str l=>.ok (.int l.length) s
 | .ref r=>match s[r]? with
  | some (.lst l)=>.ok (.int l.length) s
  | some (.ro l)=>.ok (.int l.length) s
  | _=>.bad
 | _=>.bad
noncomputable def isK (k:Nat)(d:D):M D:=fun s=>match d with
 | .non=>.ok (.bl false) s
 | .bl _=>.ok (.bl (k==1||k==2)) s
 | .int _=>.ok (.bl (k==1)) s
 | .str _=>.ok (.bl (k==3)) s
 | .tup _=>.ok (.bl (k==4)) s
 | .ref r=>match s[r]? with
  | some (.lst _)=>.ok (.bl (k==5)) s
  | _=>.bad
 | _=>.bad
noncomputable def bi1 (f:D->M D):List D->M D
 | [d]=>f d
 | _=>bad
noncomputable def bi:Bi->List D->M D
 | .len,l=>bi1 bq5 l
 | .abs,l=>fun s=>match qj l with|some [i]=>.ok (.int (if i<0 then -i else i)) s|_=>.bad
 | .int,l=>fun s=>match aj8 l with|some [b]=>.ok (.int (if b then 1 else 0)) s|_=>.bad
 | .min2,l=>fun s=>match qj l with|some [a,b]=>.ok (.int (if b<a then b else a)) s|_=>.bad
 | .max2,l=>fun s=>match qj l with|some [a,b]=>.ok (.int (if b > a then b else a)) s|_=>.bad
 | .max3,l=>fun s=>match qj l with|some [a,b,c]=>.ok (.int (max (max a b) c)) s|_=>.bad
 | .isInt,l=>bi1 (isK 1) l
 | .isBool,l=>bi1 (isK 2) l
 | .isStr,l=>bi1 (isK 3) l
 | .isTup,l=>bi1 (isK 4) l
 | .isList,l=>bi1 (isK 5) l
 | _,_=>bad
noncomputable def minI:List Int->Option Int
 | []=>none
 | a::l=>some (l.foldl min a)
noncomputable def bP1:List Int->Option Int
 | []=>none
 | a::l=>some (l.foldl max a)
noncomputable def ins (a:Int):List Int->List Int
 | []=>[a]
 | b::l=>if a<=b then a::b::l else b::ins a l
noncomputable def bv7:List Int->List Int
 | []=>[]
 | a::l=>ins a (bv7 l)
noncomputable def bQ9 (is:List Int):Bool:=is.all (fun i=>decide (-1000000000<=i/\i<=1000000000))&&decide (is.length<=1000000)
noncomputable def mk:Mk->List D->M D
 | .tuple,l=>fun s=>.ok (.tup l) s
 | .list,l=>ab8 (.lst l)
 | .all,l=>fun s=>match aj8 l with|some bs=>.ok (.bl (bs.all id)) s|none=>.bad
 | .any,l=>fun s=>match aj8 l with|some bs=>.ok (.bl (bs.any id)) s|none=>.bad
 | .sum,l=>fun s=>match qj l with|some is=>if bQ9 is then .ok (.int is.sum) s else .bad|none=>.bad
 | .min,l=>fun s=>match(qj l).bind minI with|some m=>.ok (.int m) s|none=>.bad
 | .max,l=>fun s=>match(qj l).bind bP1 with|some m=>.ok (.int m) s|none=>.bad
 | .sorted,l=>fun s=>match qj l with|some is=>ab8 (.lst ((bv7 is).map D.int)) s|none=>.bad
 | .lenset,l=>bad
noncomputable def mkD (k:Mk)(l:List D)(d:D):M D:=fun s=>match k with
 | .min=>match qj l with|some is=>(match minI is with|some m=>.ok (.int m) s|none=>.ok d s)|none=>.bad
 | .max=>match qj l with|some is=>(match bP1 is with|some m=>.ok (.int m) s|none=>.ok d s)|none=>.bad
 | _=>.bad
noncomputable def aq6 (k v:D)(l:List (D×D)):List (D×D):=if(look k l).isSome then l.map (fun p=>if p.1=k then(p.1,v)else p)else l++[(k,v)]
noncomputable def setIx (o i v:D):Sto->R Unit:=fun s=>match o with
 | .ref r=>match s[r]? with
  | some (.lst l)=>match i with
   | .int i=>match ixn l.length i with|some j=>.ok () (s.set r (.lst (l.set j v)))|none=>.bad
   | _=>.bad
  | some (.dic l)=>if i.key&&decide (l.length<LIM)then .ok () (s.set r (.dic (aq6 i v l)))else .bad
  | some (.dit l)=>if i.keyT&&decide (l.length<LIM)then .ok () (s.set r (.dit (aq6 i v l)))else .bad
  | _=>.bad
 | _=>.bad
noncomputable def bH5 (o k e:D):M D:=fun s=>match o with
 | .ref r=>match s[r]? with
  | some (.dit l)=>if k.keyT then .ok ((look k l).getD e) s else .bad
  | _=>.bad
 | _=>.bad
noncomputable def idx (s:Sto)(x:D):Nat->List D->Option Nat
 | _,[]=>none
 | n,y::l=>match eqv s DEEP y x with
  | some true=>some n
  | some false=>idx s x (n+1) l
  | none=>none
noncomputable def meth:Mt->D->List D->M D
 | .append,.ref r,[d]=>fun s=>match s[r]? with
  | some (.lst l)=>if l.length<LIM then .ok .non (s.set r (.lst (l++[d])))else .bad
  | _=>.bad
 | .pop,.ref r,[]=>fun s=>match s[r]? with
  | some (.lst l)=>match l.getLast? with|some d=>.ok d (s.set r (.lst l.dropLast))|none=>.bad
  | _=>.bad
 | .reverse,.ref r,[]=>fun s=>match s[r]? with
  | some (.lst l)=>.ok .non (s.set r (.lst l.reverse))
  | _=>.bad
 | .clear,.ref r,[]=>fun s=>match s[r]? with
  | some (.lst l)=>.ok .non (s.set r (.lst []))
  | _=>.bad
 | .index,.ref r,[d]=>fun s=>match s[r]? with
  | some (.lst l)=>match inL s d l,idx s d 0 l with|some true,some n=>.ok (.int n) s|_,_=>.bad
  | _=>.bad
 | _,_,_=>bad
noncomputable def by0 (o:D)(l:List D):M D:=fun s=>match o with
 | .ref r=>match s[r]? with
  | some (.lst m)=>if m.length+l.length<=LIM then .ok .non (s.set r (.lst (m++l)))else .bad
  | _=>.bad
 | _=>.bad
noncomputable def bg8 (x y:D):M D:=fun s=>match x with
 | .str []=>match y with
  | .ref r=>match s[r]? with
   | some (.lst l)=>match aZ6 l with
    | some ss=>if ss.flatten.length<=LIM then .ok (.str ss.flatten) s else .bad
    | none=>.bad
   | _=>.bad
  | _=>.bad
 | _=>.bad
noncomputable def extS (o d:D):M D:=fun s=>match d with
 | .ref k=>match s[k]? with
  | some (.lst l)=>by0 o l s
  | _=>.bad
 | _=>.bad
structure Fns where
 call:String->List D->M D
 lam:String->List D->List D->M D
 con:String->Option D
noncomputable def aA7 (ρ:Env)(i:Nat):M D:=fun s=>match ρ[i]? with|some (some d)=>.ok d s|_=>.bad
noncomputable def ad0 (ρ:Env):List Nat->Option (List D)
 | []=>some []
 | i::is=>match ρ[i]?,ad0 ρ is with|some (some d),some l=>some (d::l)|_,_=>none
noncomputable def qD (ρ:Env)(caps:List (Option Nat)):Env:=caps.map fun o=>match o with|none=>none|some j=>(ρ[j]?).join
noncomputable def ax0 (ρ:Env)(i:Nat)(d:D):Option Env:=if i < ρ.length then some (ρ.set i (some d))else none
noncomputable def ad1 (ρ:Env)(i:Nat):Option Env:=if i < ρ.length then some (ρ.set i none)else none
noncomputable def ai7 (ρ:Env):List Nat->List D->Option Env
 | [],[]=>some ρ
 | i::is,d::l=>(ax0 ρ i d).bind fun ρ=>ai7 ρ is l
 | _,_=>none
noncomputable def ac0 (ρ:Env):Tg->D->Option Env
 | .one i,d=>ax0 ρ i d
 | .tup is,.tup l=>ai7 ρ is l
 | _,_=>none
structure Sq where
 its:List D
 src:List Nat
noncomputable def aF8 (d:D):M Sq:=fun s=>match d with
 | .tup l=>.ok ⟨l,[]⟩ s
 | .str l=>.ok ⟨l.map fun c=>.str [c],[]⟩ s
 | .ref r=>match s[r]? with
  | some (.lst l)=>.ok ⟨l,[r]⟩ s
  | some (.ro l)=>.ok ⟨l,[]⟩ s
  | _=>.bad
 | _=>.bad
noncomputable def aC8 (d:D):M Sq:=fun s=>match d with
 | .tup l=>.ok ⟨l,[]⟩ s
 | .str l=>.ok ⟨l.map fun c=>.str [c],[]⟩ s
 | .ref r=>match s[r]? with
  | some (.lst l)=>.ok ⟨l,[r]⟩ s
  | some (.ro l)=>.ok ⟨l,[]⟩ s
  | _=>.bad
 | _=>.bad
noncomputable def aQ7 (d:D):M Sq:=fun s=>match d with
 | .tup l=>.ok ⟨l,[]⟩ s
 | .ref r=>match s[r]? with
  | some (.lst l)=>.ok ⟨l,[r]⟩ s
  | some (.ro l)=>.ok ⟨l,[]⟩ s
  | _=>.bad
 | _=>.bad
noncomputable def bS0 (p:D×D):D:=match p.1 with
 | .tup l=>.tup (l++[p.2])
 | _=>.non
noncomputable def bM0 (d:D):Sto->R (List D):=fun s=>match d with
 | .ref r=>match s[r]? with
  | some (.dit l)=>if l.length<=LIM then .ok (l.map bS0) s else .bad
  | _=>.bad
 | _=>.bad
noncomputable def bb2 (d:D):Sto->R (List D):=fun s=>match d with
 | .tup l=>.ok l s
 | .str l=>.ok (l.map fun c=>.str [c]) s
 | .ref r=>match s[r]? with
  | some (.lst l)=>.ok l s
  | some (.ro l)=>.ok l s
  | _=>.bad
 | _=>.bad
noncomputable def bq6 (d:D):Sto->R (List D):=fun s=>match d with
 | .ref r=>match s[r]? with
  | some (.lst l)=>.ok l s
  | _=>.bad
 | _=>.bad
noncomputable def W62:Int:=4611686018427387904
noncomputable def z6 (a b:Int):List D:=(av (b - a).toNat).map fun(k:Nat)=>.int (a+k)
noncomputable def bitsN (i:Int):Nat:=if i=0 then 0 else i.natAbs.log2+1
noncomputable def aG2 (x:D):M D:=fun s=>match x with|.int i=>.ok (.int (bitsN i:Nat)) s|_=>.bad
noncomputable def aK9 (x:D):M D:=fun s=>match x with|.int i=>if 0<=i/\i<=1000000 then ab8 (.lst (z6 0 i)) s else .bad|_=>.bad
noncomputable def bQ7 (a b c:Int):List D:=if 0<c then(av ((b - a+c - 1) / c).toNat).map fun(k:Nat)=>.int (a+c*k)else(av ((a - b+(-c) - 1) / (-c)).toNat).map fun(k:Nat)=>.int (a+c*k)
noncomputable def be8 (n:Nat):List D->List D
 | []=>[]
 | d::l=>.tup [.int n,d]::be8 (n+1) l
noncomputable def bK6:List D->List D->List D
 | a::l,b::m=>.tup [a,b]::bK6 l m
 | _,_=>[]
noncomputable def chk (s0 s:Sto)(src:List Nat):Bool:=src.all fun r=>decide (s[r]?=s0[r]?)
noncomputable def tru {α:Type}(r:R D)(f:Bool->Sto->R α):R α:=r.bind fun d s=>match d with|.bl b=>f b s|_=>.bad
@[simp] theorem tru_bl {α:Type} (b:Bool) (s:Sto) (f:Bool->Sto->R α):tru (.ok (.bl b) s) f=f b s:=rfl
noncomputable def ac4 (ok:Sto->Bool)(g:D->Env->Sto->R (Option D×Env)):List D->Env->Sto->R (List D)
 | [],_,s=>if ok s then .ok [] s else .bad
 | d::l,ρ,s=>if ok s then(g d ρ s).bind fun p s=>(ac4 ok g l p.2 s).bind fun r s=>.ok (match p.1 with|some v=>v::r|none=>r) s else .bad
mutual
noncomputable def ev (F:Fns):E->Env->Sto->R D
 | .var i,ρ,s=>aA7 ρ i s
 | .cst c,_,s=>.ok c.d s
 | .glob x,_,s=>match F.con x with|some d=>.ok d s|none=>.bad
 | .bin op a b,ρ,s=>(ev F a ρ s).bind fun x s=>(ev F b ρ s).bind fun y s=>qo op x y s
 | .neg a,ρ,s=>(ev F a ρ s).bind fun x s=>match x with|.int i=>.ok (.int (-i)) s|_=>.bad
 | .not a,ρ,s=>tru (ev F a ρ s) fun b s=>.ok (.bl (!b)) s
 | .cmp op a b,ρ,s=>(ev F a ρ s).bind fun x s=>(ev F b ρ s).bind fun y s=>qB op x y s
 | .chain o p a b c,ρ,s=>(ev F a ρ s).bind fun x s=>(ev F b ρ s).bind fun y s=>tru (qB o x y s) fun k s=>if k then(ev F c ρ s).bind fun z s=>qB p y z s else .ok (.bl false) s
 | .isN a,ρ,s=>(ev F a ρ s).bind fun x s=>.ok (.bl (decide (x=.non))) s
 | .notN a,ρ,s=>(ev F a ρ s).bind fun x s=>.ok (.bl (!decide (x=.non))) s
 | .isB a b,ρ,s=>(ev F a ρ s).bind fun x s=>match x with|.bl c=>.ok (.bl (c==b)) s|_=>.bad
 | .notB a b,ρ,s=>(ev F a ρ s).bind fun x s=>match x with|.bl c=>.ok (.bl (!(c==b))) s|_=>.bad
 | .and a b,ρ,s=>tru (ev F a ρ s) fun c s=>if c then tru (ev F b ρ s) fun c s=>.ok (.bl c) s else .ok (.bl false) s
 | .or a b,ρ,s=>tru (ev F a ρ s) fun c s=>if c then .ok (.bl true) s else tru (ev F b ρ s) fun c s=>.ok (.bl c) s
 | .ite c a b,ρ,s=>tru (ev F c ρ s) fun k s=>if k then ev F a ρ s else ev F b ρ s
 | .tup es,ρ,s=>(evs F es ρ s).bind fun l s=>.ok (.tup l) s
 | .lst es,ρ,s=>(evs F es ρ s).bind fun l s=>ab8 (.lst l) s
 | .dic .nil .nil,ρ,s=>ab8 (.dic []) s
 | .dic (.cons k .nil) (.cons v .nil),ρ,s=>(ev F k ρ (s++[.dic []])).bind fun kd s1=>(ev F v ρ s1).bind fun vd s2=>if kd.key=true/\s2[s.length]?=some (.dic [])then .ok (.ref s.length) (s2.set s.length (.dic [(kd,vd)]))else .bad
 | .dic _ _,ρ,s=>.bad
 | .dicT,_,s=>ab8 (.dit []) s
 | .get2 o k d,ρ,s=>(ev F o ρ s).bind fun x s=>(ev F k ρ s).bind fun y s=>(ev F d ρ s).bind fun z s=>bH5 x y z s
 | .bitl a,ρ,s=>(ev F a ρ s).bind fun x s=>aG2 x s
 | .lrng a,ρ,s=>(ev F a ρ s).bind fun x s=>aK9 x s
 | .ix a b,ρ,s=>(ev F a ρ s).bind fun x s=>(ev F b ρ s).bind fun y s=>ixM x y s
 | .slL a lo,ρ,s=>(ev F a ρ s).bind fun x s=>(ev F lo ρ s).bind fun y s=>match y with|.int i=>slM x (some i) none s|_=>.bad
 | .slU a hi,ρ,s=>(ev F a ρ s).bind fun x s=>(ev F hi ρ s).bind fun y s=>match y with|.int i=>slM x none (some i) s|_=>.bad
 | .slLU a lo hi,ρ,s=>(ev F a ρ s).bind fun x s=>(ev F lo ρ s).bind fun y s=>match y with|.int i=>(ev F hi ρ s).bind (fun z s=>match z with|.int j=>slM x (some i) (some j) s|_=>.bad)|_=>.bad
 | .rev a,ρ,s=>(ev F a ρ s).bind fun x s=>bn8 x s
 | .call f as,ρ,s=>(ai4 F as ρ s).bind fun l s=>F.call f l s
 | .callC f as,ρ,s=>(ai4 F as ρ s).bind fun l s=>(F.call f l s).bind fun d s'=>if(d.ncl&&s'.all O.ncl)=true then .ok d s' else .bad
 | .callV i es,ρ,s=>(evs F es ρ s).bind fun l s=>match ρ[i]? with
  | some (some (.fn f))=>F.call f l s
  | some (some (.clo id cs))=>F.lam id cs l s
  | _=>.bad
 | .bi b es,ρ,s=>(evs F es ρ s).bind fun l s=>bi b l s
 | .mk k it,ρ,s=>(evL F it ρ s).bind fun q s=>mk k q s
 | .mkD k it d,ρ,s=>(evL F it ρ s).bind fun q s=>(ev F d ρ s).bind fun d s=>mkD k q d s
 | .meth m o es,ρ,s=>(ev F o ρ s).bind fun x s=>(evs F es ρ s).bind fun l s=>meth m x l s
 | .ext o it,ρ,s=>(ev F o ρ s).bind fun x s=>(evL F it ρ s).bind fun q s=>by0 x q s
 | .extS o e,ρ,s=>(ev F o ρ s).bind fun x s=>(ev F e ρ s).bind fun y s=>extS x y s
 | .join o e,ρ,s=>(ev F o ρ s).bind fun x s=>(ev F e ρ s).bind fun y s=>bg8 x y s
 | .mks k e,ρ,s=>(ev F e ρ s).bind fun x s=>(bq6 x s).bind fun q s=>mk k q s
 | .mkDs k e d,ρ,s=>(ev F e ρ s).bind fun x s=>(ev F d ρ s).bind fun z s=>(bq6 x s).bind fun q s=>mkD k q z s
noncomputable def evs (F:Fns):Es->Env->Sto->R (List D)
 | .nil,_,s=>.ok [] s
 | .cons e es,ρ,s=>(ev F e ρ s).bind fun d s=>(evs F es ρ s).bind fun l s=>.ok (d::l) s
noncomputable def ai4 (F:Fns):As->Env->Sto->R (List D)
 | .nil,_,s=>.ok [] s
 | .ex e as,ρ,s=>(ev F e ρ s).bind fun d s=>(ai4 F as ρ s).bind fun l s=>.ok (d::l) s
 | .lam id caps as,ρ,s=>match ad0 ρ caps with
  | some cs=>(ai4 F as ρ s).bind fun l s=>.ok (.clo id cs::l) s
  | none=>.bad
 | .fn f as,ρ,s=>(ai4 F as ρ s).bind fun l s=>.ok (.fn f::l) s
noncomputable def evI (F:Fns):I->Env->Sto->R Sq
 | .seq e,ρ,s=>(ev F e ρ s).bind fun d s=>aF8 d s
 | .rng1 a,ρ,s=>(ev F a ρ s).bind fun x s=>match x with|.int i=>if -W62<=i/\i<W62 then .ok ⟨z6 0 i,[]⟩ s else .bad|_=>.bad
 | .rng2 a b,ρ,s=>(ev F a ρ s).bind fun x s=>(ev F b ρ s).bind fun y s=>match x,y with|.int i,.int j=>if(-W62<=i/\i<W62)/\-W62<=j/\j<W62 then .ok ⟨z6 i j,[]⟩ s else .bad|_,_=>.bad
 | .rng3 a b c,ρ,s=>(ev F a ρ s).bind fun x s=>(ev F b ρ s).bind fun y s=>match x,y with|.int i,.int j=>if c=2/\(0<=i/\i<1048576)/\0<=j/\j<1048576 then .ok ⟨bQ7 i j c,[]⟩ s else .bad|_,_=>.bad
 | .enum (.seq e),ρ,s=>(ev F e ρ s).bind fun d s=>(aQ7 d s).bind fun q s=>.ok ⟨be8 0 q.its,q.src⟩ s
 | .zip (.seq a) (.seq b),ρ,s=>(ev F a ρ s).bind fun x s=>(ev F b ρ s).bind fun y s=>(aC8 x s).bind fun p s=>(aC8 y s).bind fun q s=>.ok ⟨bK6 p.its q.its,p.src++q.src⟩ s
 | .enum _,_,_=>.bad
 | .zip _ _,_,_=>.bad
 | .items e,ρ,s=>.bad
noncomputable def evL (F:Fns):L->Env->Sto->R (List D)
 | .comp tg it e caps,ρ,s=>(evI F it ρ s).bind fun q s0=>if q.its.length<=LIM then ac4 (fun s=>chk s0 s q.src) (fun d ρ s=>match ac0 ρ tg d with
   | some ρ=>(ev F e ρ s).bind fun v s=>.ok (some v,ρ) s
   | none=>.bad) q.its (qD ρ caps) s0 else .bad
 | .compIf tg it c e caps,ρ,s=>(evI F it ρ s).bind fun q s0=>if q.its.length<=LIM then ac4 (fun s=>chk s0 s q.src) (fun d ρ s=>match ac0 ρ tg d with
   | some ρ=>tru (ev F c ρ s) fun k s=>if k then(ev F e ρ s).bind fun v s=>.ok (some v,ρ) s else .ok (none,ρ) s
   | none=>.bad) q.its (qD ρ caps) s0 else .bad
 | .disp es,ρ,s=>evs F es ρ s
 | .seq e,ρ,s=>(ev F e ρ s).bind fun d s=>bb2 d s
 | .itm e,ρ,s=>(ev F e ρ s).bind fun d s=>bM0 d s
end
inductive Ct where
 | next (ρ:Env)|ret (d:D)|cont (ρ:Env)|brk (ρ:Env)
noncomputable def aG0 (ok:Sto->Bool)(g:D->Env->Sto->R Ct):List D->Env->Sto->R Ct
 | [],ρ,s=>if ok s then .ok (.next ρ) s else .bad
 | d::l,ρ,s=>if ok s then(g d ρ s).bind fun c s=>match c with
   | .next ρ=>aG0 ok g l ρ s
   | .cont ρ=>aG0 ok g l ρ s
   | .brk ρ=>.ok (.next ρ) s
   | .ret d=>.ok (.ret d) s
  else .bad
noncomputable def qK (c:Env->Sto->R D)(g:Env->Sto->R Ct):Nat->Env->Sto->R Ct
 | 0,_,_=>.bad
 | n+1,ρ,s=>tru (c ρ s) fun b s=>if b then(g ρ s).bind fun c' s=>match c' with
   | .next ρ=>qK c g n ρ s
   | .cont ρ=>qK c g n ρ s
   | .brk ρ=>.ok (.next ρ) s
   | .ret d=>.ok (.ret d) s
  else .ok (.next ρ) s
open Classical in
noncomputable def whl (c:Env->Sto->R D)(g:Env->Sto->R Ct)(ρ:Env)(s:Sto):R Ct :=
 if h:∃ n,qK c g n ρ s≠.bad then qK c g h.choose ρ s else .bad
mutual
noncomputable def ex (F:Fns):S->Env->Sto->R Ct
 | .asg tg e,ρ,s=>(ev F e ρ s).bind fun d s=>match ac0 ρ tg d with|some ρ=>.ok (.next ρ) s|none=>.bad
 | .setIx o i e,ρ,s=>(ev F e ρ s).bind fun d s=>(ev F o ρ s).bind fun x s=>(ev F i ρ s).bind fun y s=>(setIx x y d s).bind fun _ s=>.ok (.next ρ) s
 | .aug i e,ρ,s=>(aA7 ρ i s).bind fun x s=>(ev F e ρ s).bind fun y s=>match x,y with
  | .int a,.int b=>match ax0 ρ i (.int (a+b))with|some ρ=>.ok (.next ρ) s|none=>.bad
  | _,_=>.bad
 | .ex e,ρ,s=>(ev F e ρ s).bind fun _ s=>.ok (.next ρ) s
 | .ret e,ρ,s=>(ev F e ρ s).bind fun d s=>.ok (.ret d) s
 | .retN,_,s=>.ok (.ret .non) s
 | .ite c a b,ρ,s=>tru (ev F c ρ s) fun k s=>if k then exs F a ρ s else exs F b ρ s
 | .whl c b,ρ,s=>whl (ev F c) (exs F b) ρ s
 | .for_ tg it b,ρ,s=>(evI F it ρ s).bind fun q s0=>aG0 (fun s=>chk s0 s q.src) (fun d ρ s=>match ac0 ρ tg d with
   | some ρ=>exs F b ρ s
   | none=>.bad) q.its ρ s0
 | .pass,ρ,s=>.ok (.next ρ) s
 | .cont,ρ,s=>.ok (.cont ρ) s
 | .brk,ρ,s=>.ok (.brk ρ) s
 | .raise,_,_=>.bad
 | .und i,ρ,s=>match ad1 ρ i with|some ρ=>.ok (.next ρ) s|none=>.bad
noncomputable def exs (F:Fns):Ss->Env->Sto->R Ct
 | .nil,ρ,s=>.ok (.next ρ) s
 | .cons st ss,ρ,s=>(ex F st ρ s).bind fun c s=>match c with|.next ρ=>exs F ss ρ s|c=>.ok c s
end
structure Df where
 name:String
 ps:Nat
 vs:Nat
 body:Ss
structure Lm where
 id:String
 ps:Nat
 cs:Nat
 body:E
structure Pr where
 df:String->Option Df
 lm:String->Option Lm
 con:String->Option D
noncomputable def ao1 (st st':Sto):Bool:=(av st.length).all fun i=>decide (st'[i]?=st[i]?)||(match st'[i]? with|some o=>o.bnd st.length|none=>false)
noncomputable def zH (st:Sto)(d:D)(st':Sto):R D :=
 if ao1 st st' then
  match d with
  | .ref r=>if r<st.length then .ok d (st'.take st.length)else match st'[r]? with
   | some o=>if o.bnd st.length then .ok (.ref st.length) (st'.take st.length++[o])else .ok d st'
   | none=>.bad
  | d=>if d.bnd st.length then .ok d (st'.take st.length)else .ok d st'
 else .ok d st'
noncomputable def aa1 (P:Pr):Nat->Fns
 | 0=>⟨fun _ _ _=>.bad,fun _ _ _ _=>.bad,P.con⟩
 | n+1=>⟨fun f l s=>match P.df f with
   | some d=>if l.length=d.ps then(exs (aa1 P n) d.body (l.map some++ax d.vs none) s).bind fun c s'=>match c with
     | .ret v=>zH s v s'
     | .next _=>zH s .non s'
     | _=>.bad else .bad
   | none=>.bad,
  fun id cs l s=>match P.lm id with
   | some d=>if l.length=d.ps/\cs.length=d.cs/\(D.nclL l&&D.nclL cs&&s.all O.ncl)=true then(ev (aa1 P n) d.body (l.map some++cs.map some) s).bind fun v s'=>zH s v s' else .bad
   | none=>.bad,P.con⟩
def KP (s s':Sto):Prop:=∀(i:Nat) (o:O),s[i]?=some o->∃ o',s'[i]?=some o'/\o'.kd=o.kd
theorem KP.refl (s:Sto):KP s s:=fun i o h=>⟨o,h,rfl⟩
theorem KP.trans {a b c:Sto}(h:KP a b)(g:KP b c):KP a c:=fun i o e=>by
 obtain⟨o1,e1,k1⟩:=h i o e
 obtain⟨y,e2,k2⟩:=g i o1 e1
 exact⟨y,e2,k2.trans k1⟩
theorem KP.app (s t:Sto):KP s (s++t):=fun i o e=>⟨o,by rw[aH (ae.mp e).1];exact e,rfl⟩
theorem KP.set {s:Sto}{r:Nat}{o y:O}(h:s[r]?=some y)(k:o.kd=y.kd):KP s (s.set r o):=fun i u e=>by
 by_cases z:r=i
 ·subst z
  rw[h]at e;cases e
  exact⟨o,aU (ae.mp h).1,k⟩
 ·exact⟨u,by rw[bj z];exact e,rfl⟩
def KR {α:Type}(s:Sto)(r:R α):Prop:=∀ a s',r=.ok a s'->KP s s'
theorem KR.bad {α:Type}{s:Sto}:KR s (.bad:R α):=fun _ _ h=>by cases h
theorem KR.ok {α:Type}{s:Sto}{a:α}:KR s (.ok a s):=fun _ _ h=>by cases h;exact KP.refl _
theorem KR.bind {α β:Type}{s:Sto}{r:R α}{f:α->Sto->R β}(h:KR s r)(g:∀ a s1,KR s1 (f a s1)):KR s (r.bind f):=fun b s' e=>by
 obtain⟨a,s1,e1,e2⟩:=R.bind_inv e
 exact(h a s1 e1).trans (g a s1 b s' e2)
theorem KR.tru {α:Type}{s:Sto}{r:R D}{f:Bool->Sto->R α}(h:KR s r)(g:∀ a s1,KR s1 (f a s1)):KR s (tru r f):=KR.bind h fun a s1=>by
 cases a with
 | bl b=>exact g b s1
 | _=>exact KR.bad
theorem KR.if {α:Type}{s:Sto}{c:Prop}[Decidable c]{a b:R α}(h:KR s a)(g:KR s b):KR s (if c then a else b):=by split;exact h;exact g
theorem KR.al {s:Sto}{o:O}:KR s (ab8 o s):=fun _ _ h=>by cases h;exact KP.app _ _
theorem KR.pu {s:Sto}{d:D}:KR s (pur d s):=fun _ _ h=>by cases h;exact KP.refl _
theorem KR.bd {s:Sto}:KR s ((DV.bad:M D) s):=fun _ _ h=>by cases h
theorem KR.im {s:Sto}{c:Prop}{_:Decidable c}{d:D}:KR s ((if c then pur d else DV.bad:M D) s):=by split;exact KR.pu;exact KR.bd
theorem KR.ia {s:Sto}{c:Prop}{_:Decidable c}{o:O}:KR s (if c then ab8 o s else .bad):=KR.if KR.al KR.bd
theorem aT6 (op:BOp)(x y:D)(s:Sto):KR s (qo op x y s):=by
 cases op with
 | add=>cases x with
  | int a=>cases y with
   | int b=>exact KR.pu
   | _=>exact KR.bd
  | str a=>cases y with
   | str b=>exact KR.im
   | _=>exact KR.bd
  | tup a=>cases y with
   | tup b=>exact KR.im
   | _=>exact KR.bd
  | ref a=>cases y with
   | ref b =>
    show KR s (match s[a]?,s[b]? with|some (.lst l),some (.lst m)=>if l.length+m.length<=LIM then ab8 (.lst (l++m)) s else .bad|_,_=>.bad)
    split
    ·exact KR.ia
    ·exact KR.bd
   | _=>exact KR.bd
  | _=>exact KR.bd
 | sub=>cases x with
  | int a=>cases y with
   | int b=>exact KR.pu
   | _=>exact KR.bd
  | _=>exact KR.bd
 | mul=>cases x with
  | int a=>cases y with
   | int b=>exact KR.im
   | _=>exact KR.bd
  | str a=>cases y with
   | int b=>exact KR.im
   | _=>exact KR.bd
  | tup a=>cases y with
   | int b=>exact KR.im
   | _=>exact KR.bd
  | ref a=>cases y with
   | int n =>
    show KR s (match s[a]? with|some (.lst l)=>if 0<=n/\n<=1000000/\l.length*n.toNat<=LIM then ab8 (.lst (aF9 n.toNat l)) s else .bad|_=>.bad)
    split
    ·exact KR.ia
    ·exact KR.bd
   | _=>exact KR.bd
  | _=>exact KR.bd
 | fdiv=>cases x with
  | int a=>cases y with
   | int b=>exact KR.im
   | _=>exact KR.bd
  | _=>exact KR.bd
 | mod=>cases x with
  | int a=>cases y with
   | int b=>exact KR.im
   | _=>exact KR.bd
  | _=>exact KR.bd
 | pow=>cases x with
  | int a=>cases y with
   | int b=>exact KR.im
   | _=>exact KR.bd
  | _=>exact KR.bd
 | shl=>cases x with
  | int a=>cases y with
   | int b=>exact KR.im
   | _=>exact KR.bd
  | _=>exact KR.bd
 | shr=>cases x with
  | int a=>cases y with
   | int b=>exact KR.im
   | _=>exact KR.bd
  | _=>exact KR.bd
 | band=>cases x with
  | int a=>cases y with
   | int b=>exact KR.im
   | _=>exact KR.bd
  | _=>exact KR.bd
 | _=>exact KR.bd
theorem aP0 (op:COp)(x y:D)(s:Sto):KR s (qB op x y s):=by
 have z:∀ a b:D,KR s (inM a b s):=fun a b=>by
  intro r s' h
  unfold inM at h
  split at h
  ·split at h<;>cases h;exact KP.refl _
  ·split at h
   ·split at h<;>cases h;exact KP.refl _
   ·split at h<;>cases h;exact KP.refl _
   ·split at h<;>cases h;exact KP.refl _
   ·cases h
  ·split at h<;>cases h;exact KP.refl _
  ·cases h
 cases op with
 | isin=>intro a s' h;exact absurd h (by nofun)
 | notin=>intro a s' h;exact absurd h (by nofun)
 | eq=>intro a s' h;change eqM x y s=_ at h;unfold eqM at h;split at h<;>cases h;exact KP.refl _
 | ne =>
  intro a s' h
  change(match eqv s DEEP x y with|some r=>R.ok (D.bl (!r)) s|none=>.bad)=_ at h
  split at h<;>cases h;exact KP.refl _
 | _ =>
  intro a s' h
  cases x with
  | int i=>(cases y with
   | int j=>cases h;exact KP.refl _
   | _=>cases h)
  | _=>cases h
theorem bH1 (x y:D)(s:Sto):KR s (ixM x y s):=by
 intro a s' h
 unfold ixM at h
 repeat' split at h
 all_goals first|(cases h;exact KP.refl _;done)|(cases h;done)
theorem bk4 (x:D)(lo hi:Option Int)(s:Sto):KR s (slM x lo hi s):=by
 intro a s' h
 unfold slM at h
 repeat' split at h
 all_goals first|(cases h;exact KP.refl _;done)|(cases h;exact KP.app _ _;done)|(cases h;done)
theorem bf7 (x:D)(s:Sto):KR s (bb2 x s):=by
 intro a s' h
 unfold bb2 at h
 repeat' split at h
 all_goals first|(cases h;exact KP.refl _;done)|(cases h;done)
theorem aM8 (x:D)(s:Sto):KR s (bq6 x s):=by
 intro a s' h
 unfold bq6 at h
 repeat' split at h
 all_goals first|(cases h;exact KP.refl _;done)|(cases h;done)
theorem bg2 (x:D)(s:Sto):KR s (aF8 x s):=by
 intro a s' h
 unfold aF8 at h
 repeat' split at h
 all_goals first|(cases h;exact KP.refl _;done)|(cases h;done)
theorem aC2 (x:D)(s:Sto):KR s (aC8 x s):=by
 intro a s' h
 unfold aC8 at h
 repeat' split at h
 all_goals first|(cases h;exact KP.refl _;done)|(cases h;done)
theorem aS8 (x:D)(s:Sto):KR s (aQ7 x s):=by
 intro a s' h
 unfold aQ7 at h
 repeat' split at h
 all_goals first|(cases h;exact KP.refl _;done)|(cases h;done)
theorem bl9 (x y:D)(s:Sto):KR s (bg8 x y s):=by
 intro a s' h
 unfold bg8 at h
 repeat' split at h
 all_goals first|(cases h;exact KP.refl _;done)|(cases h;done)
theorem bJ5 (b:Bi)(l:List D)(s:Sto):KR s (bi b l s):=by
 have k1:∀ f:D->M D,(∀ d,KR s (f d s))->KR s (bi1 f l s):=fun f z=>by
  cases l with
  | nil=>exact KR.bad
  | cons d t=>(cases t with
   | nil=>exact z d
   | cons _ _=>exact KR.bad)
 have k2:∀ k d,KR s (isK k d s):=fun k d=>by
  intro a s' h
  unfold isK at h
  repeat' split at h
  all_goals first|(cases h;exact KP.refl _;done)|(cases h;done)
 have y:∀ d,KR s (bq5 d s):=fun d=>by
  intro a s' h
  unfold bq5 at h
  repeat' split at h
  all_goals first|(cases h;exact KP.refl _;done)|(cases h;done)
 cases b with
 | len=>exact k1 _ y
 | isInt=>exact k1 _ (k2 1)
 | isBool=>exact k1 _ (k2 2)
 | isStr=>exact k1 _ (k2 3)
 | isTup=>exact k1 _ (k2 4)
 | isList=>exact k1 _ (k2 5)
 | _ =>
  intro a s' h
  unfold bi at h
  first|(cases h;done)|(simp only at h;split at h<;>first|(cases h;exact KP.refl _;done)|(cases h;done))
theorem bC1 (k:Mk)(l:List D)(s:Sto):KR s (mk k l s):=by
 cases k with
 | tuple=>exact KR.ok
 | list=>exact KR.al
 | lenset=>exact KR.bad
 | _ =>
  intro a s' h
  unfold mk at h
  simp only at h
  repeat' split at h
  all_goals first|(cases h;exact KP.refl _;done)|(cases h;exact KP.app _ _;done)|(cases h;done)
theorem aZ0 (k:Mk)(l:List D)(d:D)(s:Sto):KR s (mkD k l d s):=by
 intro a s' h
 unfold mkD at h
 repeat' split at h
 all_goals first|(cases h;exact KP.refl _;done)|(cases h;done)
theorem bk5 (m:Mt)(o:D)(l:List D)(s:Sto):KR s (meth m o l s):=by
 intro a s' h
 unfold meth at h
 repeat' split at h
 all_goals first|(cases h;done)|(cases h;exact KP.refl _;done)|(rename_i e _;cases h;exact KP.set e rfl;done)|(rename_i e _ _ _;cases h;exact KP.set e rfl;done)|(rename_i e;cases h;exact KP.set e rfl;done)|(rename_i e _ _;cases h;exact KP.set e rfl;done)
theorem aH1 (o:D)(l:List D)(s:Sto):KR s (by0 o l s):=by
 intro a s' h
 unfold by0 at h
 repeat' split at h
 all_goals first|(cases h;done)|(rename_i e _;cases h;exact KP.set e rfl;done)
theorem aU7 (o i v:D)(s:Sto):KR s (setIx o i v s):=by
 intro a s' h
 unfold setIx at h
 cases o with
 | ref r =>
  simp only at h
  cases e:s[r]? with
  | none=>rw[e]at h;cases h
  | some ob =>
   rw[e]at h
   cases ob with
   | lst l =>
    cases i with
    | int k=>simp only at h;split at h<;>cases h;exact KP.set e rfl
    | _=>cases h
   | dic l=>simp only at h;split at h<;>cases h;exact KP.set e rfl
   | dit l=>simp only at h;split at h<;>cases h;exact KP.set e rfl
   | _=>cases h
 | _=>cases h
theorem bj0 (o k e:D)(s:Sto):KR s (bH5 o k e s):=by
 intro a s' h
 unfold bH5 at h
 repeat' split at h
 all_goals first|(cases h;exact KP.refl _;done)|(cases h;done)
theorem bd8 (d:D)(s:Sto):KR s (bM0 d s):=by
 intro a s' h
 unfold bM0 at h
 repeat' split at h
 all_goals first|(cases h;exact KP.refl _;done)|(cases h;done)
structure FK (F:Fns):Prop where
 call:∀ f l s,KR s (F.call f l s)
 lam:∀ id cs l s,KR s (F.lam id cs l s)
theorem am6 {ok:Sto->Bool}{g:D->Env->Sto->R (Option D×Env)}(h:∀ d ρ s,KR s (g d ρ s)):∀(l:List D) (ρ:Env) (s:Sto),KR s (ac4 ok g l ρ s)
 | [],ρ,s=>KR.if KR.ok KR.bad
 | d::l,ρ,s=>KR.if (KR.bind (h d ρ s) fun p s1=>KR.bind (am6 h l p.2 s1) fun r s2=>KR.ok) KR.bad
section
variable {F:Fns} (hF:FK F)
theorem aH7 (ρ:Env)(i:Nat)(s:Sto):KR s (aA7 ρ i s):=by
 intro a s' h
 unfold aA7 at h
 split at h<;>cases h;exact KP.refl _
include hF
mutual
theorem ze:∀(e:E) (ρ:Env) (s:Sto),KR s (ev F e ρ s)
 | .var i,ρ,s=>aH7 ρ i s
 | .cst c,ρ,s=>KR.ok
 | .glob x,ρ,s=>by
  intro a s' h
  change(match F.con x with|some d=>R.ok d s|none=>.bad)=_ at h
  split at h<;>cases h;exact KP.refl _
 | .bin op a b,ρ,s=>KR.bind (ze a ρ s) fun x s=>KR.bind (ze b ρ s) fun y s=>aT6 op x y s
 | .neg a,ρ,s=>KR.bind (ze a ρ s) fun x s=>by
  cases x with
  | int i=>exact KR.ok
  | _=>exact KR.bad
 | .not a,ρ,s=>KR.tru (ze a ρ s) fun b s=>KR.ok
 | .cmp op a b,ρ,s=>KR.bind (ze a ρ s) fun x s=>KR.bind (ze b ρ s) fun y s=>aP0 op x y s
 | .chain o p a b c,ρ,s=>KR.bind (ze a ρ s) fun x s=>KR.bind (ze b ρ s) fun y s=>KR.tru (aP0 o x y s) fun k s=>KR.if (KR.bind (ze c ρ s) fun z s=>aP0 p y z s) KR.ok
 | .isN a,ρ,s=>KR.bind (ze a ρ s) fun x s=>KR.ok
 | .notN a,ρ,s=>KR.bind (ze a ρ s) fun x s=>KR.ok
 | .isB a b,ρ,s=>KR.bind (ze a ρ s) fun x s=>by
  cases x with
  | bl i=>exact KR.ok
  | _=>exact KR.bad
 | .notB a b,ρ,s=>KR.bind (ze a ρ s) fun x s=>by
  cases x with
  | bl i=>exact KR.ok
  | _=>exact KR.bad
 | .and a b,ρ,s=>KR.tru (ze a ρ s) fun c s=>KR.if (KR.tru (ze b ρ s) fun c s=>KR.ok) KR.ok
 | .or a b,ρ,s=>KR.tru (ze a ρ s) fun c s=>KR.if KR.ok (KR.tru (ze b ρ s) fun c s=>KR.ok)
 | .ite c a b,ρ,s=>KR.tru (ze c ρ s) fun k s=>KR.if (ze a ρ s) (ze b ρ s)
 | .tup es,ρ,s=>KR.bind (ae0 es ρ s) fun l s=>KR.ok
 | .lst es,ρ,s=>KR.bind (ae0 es ρ s) fun l s=>KR.al
 | .dic .nil .nil,ρ,s=>KR.al
 | .dic (.cons k .nil) (.cons v .nil),ρ,s=>by
  intro a s' h
  obtain⟨kd,s1,e1,h⟩:=R.bind_inv (show(ev F k ρ (s++[.dic []])).bind _=_ from h)
  obtain⟨C,s2,e2,h⟩:=R.bind_inv h
  split at h
  case isFalse=>cases h
  rename_i hc
  cases h
  exact((KP.app _ _).trans ((ze k ρ _ _ _ e1).trans (ze v ρ _ _ _ e2))).trans (KP.set hc.2 rfl)
 | .dic .nil (.cons _ _),ρ,s=>KR.bad
 | .dic (.cons _ .nil) .nil,ρ,s=>KR.bad
 | .dic (.cons _ .nil) (.cons _ (.cons _ _)),ρ,s=>KR.bad
 | .dic (.cons _ (.cons _ _)) _,ρ,s=>KR.bad
 | .dicT,ρ,s=>KR.al
 | .bitl a,ρ,s=>KR.bind (ze a ρ s) fun x s=>by
  intro a s' h
  unfold aG2 at h
  repeat' split at h
  all_goals first|(cases h;exact KP.refl _;done)|(cases h;done)
 | .lrng a,ρ,s=>KR.bind (ze a ρ s) fun x s=>by
  intro a s' h
  unfold aK9 at h
  repeat' split at h
  all_goals first|(cases h;exact KP.app _ _;done)|(cases h;done)
 | .get2 o k d,ρ,s=>KR.bind (ze o ρ s) fun x s=>KR.bind (ze k ρ s) fun y s=>KR.bind (ze d ρ s) fun z s=>bj0 x y z s
 | .ix a b,ρ,s=>KR.bind (ze a ρ s) fun x s=>KR.bind (ze b ρ s) fun y s=>bH1 x y s
 | .slL a lo,ρ,s=>KR.bind (ze a ρ s) fun x s=>KR.bind (ze lo ρ s) fun y s=>by
  cases y with
  | int i=>exact bk4 _ _ _ _
  | _=>exact KR.bad
 | .slU a hi,ρ,s=>KR.bind (ze a ρ s) fun x s=>KR.bind (ze hi ρ s) fun y s=>by
  cases y with
  | int i=>exact bk4 _ _ _ _
  | _=>exact KR.bad
 | .slLU a lo hi,ρ,s=>KR.bind (ze a ρ s) fun x s=>KR.bind (ze lo ρ s) fun y s=>by
  cases y with
  | int i =>
   refine KR.bind (ze hi ρ s) fun z s=>?_
   cases z with
   | int j=>exact bk4 _ _ _ _
   | _=>exact KR.bad
  | _=>exact KR.bad
 | .rev a,ρ,s=>KR.bind (ze a ρ s) fun x s=>by
  cases x with
  | str l=>exact KR.ok
  | ref r =>
   intro a s' h
   unfold bn8 at h
   repeat' split at h
   all_goals first|(cases h;exact KP.refl _;done)|(cases h;exact KP.app _ _;done)|(cases h;done)
  | _=>exact KR.bad
 | .call f as,ρ,s=>KR.bind (ah7 as ρ s) fun l s=>hF.call f l s
 | .callC f as,ρ,s=>KR.bind (ah7 as ρ s) fun l s=>KR.bind (hF.call f l s) fun d s'=>KR.if KR.ok KR.bad
 | .callV i es,ρ,s=>KR.bind (ae0 es ρ s) fun l s=>by
  intro a s' h
  split at h
  ·exact hF.call _ _ _ _ _ h
  ·exact hF.lam _ _ _ _ _ _ h
  ·cases h
 | .bi b es,ρ,s=>KR.bind (ae0 es ρ s) fun l s=>bJ5 b l s
 | .mk k it,ρ,s=>KR.bind (aN2 it ρ s) fun q s=>bC1 k q s
 | .mkD k it d,ρ,s=>KR.bind (aN2 it ρ s) fun q s=>KR.bind (ze d ρ s) fun d s=>aZ0 k q d s
 | .meth m o es,ρ,s=>KR.bind (ze o ρ s) fun x s=>KR.bind (ae0 es ρ s) fun l s=>bk5 m x l s
 | .ext o it,ρ,s=>KR.bind (ze o ρ s) fun x s=>KR.bind (aN2 it ρ s) fun q s=>aH1 x q s
 | .extS o e,ρ,s=>KR.bind (ze o ρ s) fun x s=>KR.bind (ze e ρ s) fun y s=>by
  intro a s' h
  unfold extS at h
  repeat' split at h
  all_goals first|(cases h;done)|exact aH1 _ _ _ _ _ h
 | .join o e,ρ,s=>KR.bind (ze o ρ s) fun x s=>KR.bind (ze e ρ s) fun y s=>bl9 x y s
 | .mks k e,ρ,s=>KR.bind (ze e ρ s) fun x s=>KR.bind (aM8 x s) fun q s=>bC1 k q s
 | .mkDs k e d,ρ,s=>KR.bind (ze e ρ s) fun x s=>KR.bind (ze d ρ s) fun z s=>KR.bind (aM8 x s) fun q s=>aZ0 k q z s
theorem ae0:∀(es:Es) (ρ:Env) (s:Sto),KR s (evs F es ρ s)
 | .nil,ρ,s=>KR.ok
 | .cons e es,ρ,s=>KR.bind (ze e ρ s) fun d s=>KR.bind (ae0 es ρ s) fun l s=>KR.ok
theorem ah7:∀(y:As) (ρ:Env) (s:Sto),KR s (ai4 F y ρ s)
 | .nil,ρ,s=>KR.ok
 | .ex e y,ρ,s=>KR.bind (ze e ρ s) fun d s=>KR.bind (ah7 y ρ s) fun l s=>KR.ok
 | .lam id caps y,ρ,s=>by
  intro a s' h
  change(match ad0 ρ caps with|some cs=>(ai4 F y ρ s).bind fun l s=>R.ok (D.clo id cs::l) s|none=>.bad)=_ at h
  split at h
  ·exact KR.bind (ah7 y ρ s) (fun l s=>KR.ok) _ _ h
  ·cases h
 | .fn f y,ρ,s=>KR.bind (ah7 y ρ s) fun l s=>KR.ok
theorem aK4:∀(it:I) (ρ:Env) (s:Sto),KR s (evI F it ρ s)
 | .seq e,ρ,s=>KR.bind (ze e ρ s) fun d s=>bg2 d s
 | .rng1 a,ρ,s=>KR.bind (ze a ρ s) fun x s=>by
  cases x with
  | int i=>exact KR.if KR.ok KR.bad
  | _=>exact KR.bad
 | .rng2 a b,ρ,s=>KR.bind (ze a ρ s) fun x s=>KR.bind (ze b ρ s) fun y s=>by
  cases x with
  | int i=>(cases y with
   | int j=>exact KR.if KR.ok KR.bad
   | _=>exact KR.bad)
  | _=>exact KR.bad
 | .rng3 a b c,ρ,s=>KR.bind (ze a ρ s) fun x s=>KR.bind (ze b ρ s) fun y s=>by
  cases x with
  | int i=>(cases y with
   | int j=>exact KR.if KR.ok KR.bad
   | _=>exact KR.bad)
  | _=>exact KR.bad
 | .enum (.seq e),ρ,s=>KR.bind (ze e ρ s) fun d s=>KR.bind (aS8 d s) fun q s=>KR.ok
 | .zip (.seq a) (.seq b),ρ,s=>KR.bind (ze a ρ s) fun x s=>KR.bind (ze b ρ s) fun y s=>KR.bind (aC2 x s) fun p s=>KR.bind (aC2 y s) fun q s=>KR.ok
 | .enum (.rng1 _),ρ,s=>KR.bad
 | .enum (.rng2 _ _),ρ,s=>KR.bad
 | .enum (.rng3 _ _ _),ρ,s=>KR.bad
 | .enum (.enum _),ρ,s=>KR.bad
 | .enum (.zip _ _),ρ,s=>KR.bad
 | .enum (.items _),ρ,s=>KR.bad
 | .zip (.rng1 _) _,ρ,s=>KR.bad
 | .zip (.rng2 _ _) _,ρ,s=>KR.bad
 | .zip (.rng3 _ _ _) _,ρ,s=>KR.bad
 | .zip (.enum _) _,ρ,s=>KR.bad
 | .zip (.zip _ _) _,ρ,s=>KR.bad
 | .zip (.items _) _,ρ,s=>KR.bad
 | .zip (.seq _) (.rng1 _),ρ,s=>KR.bad
 | .zip (.seq _) (.rng2 _ _),ρ,s=>KR.bad
 | .zip (.seq _) (.rng3 _ _ _),ρ,s=>KR.bad
 | .zip (.seq _) (.enum _),ρ,s=>KR.bad
 | .zip (.seq _) (.zip _ _),ρ,s=>KR.bad
 | .zip (.seq _) (.items _),ρ,s=>KR.bad
 | .items e,ρ,s=>KR.bad
theorem aN2:∀(it:L) (ρ:Env) (s:Sto),KR s (evL F it ρ s)
 | .comp tg it e caps,ρ,s=>KR.bind (aK4 it ρ s) fun q s0=>KR.if (am6 (fun d ρ s=>by
   intro a s' h
   split at h
   ·exact KR.bind (ze e _ s) (fun v s=>KR.ok) _ _ h
   ·cases h) _ _ _) KR.bad
 | .compIf tg it c e caps,ρ,s=>KR.bind (aK4 it ρ s) fun q s0=>KR.if (am6 (fun d ρ s=>by
   intro a s' h
   split at h
   ·exact KR.tru (ze c _ s) (fun k s=>KR.if (KR.bind (ze e _ s) fun v s=>KR.ok) KR.ok) _ _ h
   ·cases h) _ _ _) KR.bad
 | .disp es,ρ,s=>ae0 es ρ s
 | .seq e,ρ,s=>KR.bind (ze e ρ s) fun d s=>bf7 d s
 | .itm e,ρ,s=>KR.bind (ze e ρ s) fun d s=>bd8 d s
end
theorem av9 {ok:Sto->Bool}{g:D->Env->Sto->R Ct}(h:∀ d ρ s,KR s (g d ρ s)):∀(l:List D) (ρ:Env) (s:Sto),KR s (aG0 ok g l ρ s)
 | [],ρ,s=>KR.if KR.ok KR.bad
 | d::l,ρ,s=>KR.if (KR.bind (h d ρ s) fun c s=>by
   cases c with
   | next ρ=>exact av9 h l ρ s
   | cont ρ=>exact av9 h l ρ s
   | brk ρ=>exact KR.ok
   | ret d=>exact KR.ok) KR.bad
theorem av8 {c:Env->Sto->R D}{g:Env->Sto->R Ct}(hc:∀ ρ s,KR s (c ρ s))(h:∀ ρ s,KR s (g ρ s)):∀(n:Nat) (ρ:Env) (s:Sto),KR s (qK c g n ρ s)
 | 0,ρ,s=>KR.bad
 | n+1,ρ,s=>KR.tru (hc ρ s) fun b s=>KR.if (KR.bind (h ρ s) fun y s=>by
   cases y with
   | next ρ=>exact av8 hc h n ρ s
   | cont ρ=>exact av8 hc h n ρ s
   | brk ρ=>exact KR.ok
   | ret d=>exact KR.ok) KR.ok
mutual
theorem bH8:∀(st:S) (ρ:Env) (s:Sto),KR s (ex F st ρ s)
 | .asg tg e,ρ,s=>KR.bind (ze hF e ρ s) fun d s=>by
  intro a s' h
  split at h<;>cases h;exact KP.refl _
 | .setIx o i e,ρ,s=>KR.bind (ze hF e ρ s) fun d s=>KR.bind (ze hF o ρ s) fun x s=>KR.bind (ze hF i ρ s) fun y s=>KR.bind (aU7 x y d s) fun _ s=>KR.ok
 | .aug i e,ρ,s=>KR.bind (aH7 ρ i s) fun x s=>KR.bind (ze hF e ρ s) fun y s=>by
  intro a s' h
  repeat' split at h
  all_goals first|(cases h;exact KP.refl _;done)|(cases h;done)
 | .ex e,ρ,s=>KR.bind (ze hF e ρ s) fun d s=>KR.ok
 | .ret e,ρ,s=>KR.bind (ze hF e ρ s) fun d s=>KR.ok
 | .retN,ρ,s=>KR.ok
 | .ite c a b,ρ,s=>KR.tru (ze hF c ρ s) fun k s=>KR.if (al1 a ρ s) (al1 b ρ s)
 | .whl c b,ρ,s=>by
  intro r s' h
  change whl (ev F c) (exs F b) ρ s=_ at h
  unfold whl at h
  split at h
  ·exact av8 hF (fun ρ s=>ze hF c ρ s) (fun ρ s=>al1 b ρ s) _ ρ s _ _ h
  ·cases h
 | .for_ tg it b,ρ,s=>KR.bind (aK4 hF it ρ s) fun q s0=>av9 hF (fun d ρ s=>by
   intro a s' h
   split at h
   ·exact al1 b _ _ _ _ h
   ·cases h) _ _ _
 | .pass,ρ,s=>KR.ok
 | .cont,ρ,s=>KR.ok
 | .brk,ρ,s=>KR.ok
 | .raise,ρ,s=>KR.bad
 | .und i,ρ,s=>by
  intro a s' h
  change(match ad1 ρ i with|some ρ=>R.ok (Ct.next ρ) s|none=>.bad)=_ at h
  split at h<;>cases h;exact KP.refl _
theorem al1:∀(h:Ss) (ρ:Env) (s:Sto),KR s (exs F h ρ s)
 | .nil,ρ,s=>KR.ok
 | .cons st h,ρ,s=>KR.bind (bH8 st ρ s) fun c s=>by
  cases c with
  | next ρ=>exact al1 h ρ s
  | _=>exact KR.ok
end
end
theorem al6 {s st:Sto}{d:D}(h:KP s st):KR s (zH s d st):=by
 have tk:∀ t,KP s (st.take s.length++t):=fun t i o e=>by
  obtain⟨C,e',k⟩:=h i o e
  have hi:=(ae.mp e).1
  have z:=(ae.mp e').1
  refine⟨C,?_,k⟩
  rw[aH (by rw[dt];omega),gI,if_pos hi];exact e'
 have y:KP s (st.take s.length):=by have:=tk [];rwa [bh]at this
 intro a s' e
 unfold zH at e
 repeat' split at e
 all_goals first|(cases e;exact y;done)|(cases e;exact tk _;done)|(cases e;exact h;done)|(cases e;done)
theorem af5 (P:Pr):∀ n,FK (aa1 P n)
 | 0=>⟨fun _ _ _=>KR.bad,fun _ _ _ _=>KR.bad⟩
 | n+1=>by
  refine⟨fun f l s=>?_,fun id cs l s=>?_⟩
  ·intro a s' h
   unfold aa1 at h
   simp only at h
   split at h
   case h_2=>cases h
   split at h
   case isFalse=>cases h
   obtain⟨c,s1,e1,h⟩:=R.bind_inv h
   have k1:=al1 (af5 P n) _ _ _ _ _ e1
   cases c with
   | ret v=>exact al6 k1 _ _ h
   | next ρ=>exact al6 k1 _ _ h
   | _=>cases h
  ·intro a s' h
   unfold aa1 at h
   simp only at h
   split at h
   case h_2=>cases h
   split at h
   case isFalse=>cases h
   obtain⟨v,s1,e1,h⟩:=R.bind_inv h
   exact al6 (ze (af5 P n) _ _ _ _ _ e1) _ _ h
end DV
end
open DV renaming Sto->jk,D->jl,Env->jn,R->jo,ev->jp,LIM->js,aa1->jt,tru->jv,aq6->jw,rep->jx,Pr->jy,DEEP->jz,ac0->jB,Es->jC,O->jD,eqv->jE,Fns->jF,evs->jG,ad0->jH,kd->jI,eqL->jJ,Bi->jK,Tg->jL,Ct->jM,aF9->jN,chk->jO,look->jP,ab8->jQ,ixn->jR,qj->jT,z6->jU,As->jV,E->jW,minI->jX,ad4->jY,aw4->jZ,M->j0,aj8->j1,ax0->j2,ac4->j3,ai4->j4,Sq->j5,qD->j6,mk->j7,Lm->j8,Df->j9,ai7->ka,meth->ke,Mk->kg,Mt->kh,Ss->ki,aC5->kj,COp->km,pur->kn,bi1->ko,aG0->kq,bi->kr,BOp->kt,isK->ku,W62->kA,S->kB,evI->kC,exs->kD,ad1->kE,ao1->kF
open DV.D renaming bndL->jm,bnd->jq,hdI->ju,keyS->jA,nclL->jS,ncl->kx
open DV.O renaming bnd->jr,ncl->kz
noncomputable section
namespace L2
theorem fb {α:Type}{d:α}{s:jk}{p:Prop}(h:(DV.R.bad:jo α)=.ok d s):p:=nomatch h
open PySem PySem.Spec PyProof.Rows
structure LamI where
 qual:Str
 params:aV
 body:Expr
 scope:Scope
 ps:List Str
 fr:List Str
 nm:Option (Str×Pos)
def CloAt (H:Hp)(f:Addr)(J:LamI)(cap:List V)(clos:List (Str×Addr)):Prop:=match J.nm with
 | none=>ap2 H f J.qual J.params J.body J.scope J.fr cap clos
 | some p=>ah4 H f p.1 J.qual J.params [.Return (some J.body) p.2] J.scope J.fr cap clos
def ad3 (H:Hp)(f:Addr)(J:LamI)(clos:List (Str×Addr)):Prop:=match J.nm with
 | none=>∃ pm c' ctv,H f=some (am8 f (bC "<lambda>" J.qual J.params J.body J.scope clos pm (.ref c') ctv))/\H c'=some (qa c' J.qual)
 | some p=>∃ doc pm c' ctv,H f=some (am8 f (bT p.1 J.qual J.params [.Return (some J.body) p.2] J.scope clos .none .none doc pm none (.ref c') ctv))/\H c'=some (qa c' J.qual)
structure Gm where
 K:ab
 fa:String->Option Addr
 lg:String->LamI->Prop
 T:List (Addr×Str)
variable (Γ:Gm)
mutual
noncomputable def RV (φ:Nat->Addr)(H:Hp):jl->V->Prop
 | .non,v=>v=.non
 | .bl b,v=>v=.bl b
 | .int i,v=>v=.int i
 | .str x,v=>v=.str ⟨x.toArray⟩/\x.length<=js
 | .tup l,v=>∃ a xs,v=.ref a/\(SqT Γ.K H a xs/\(ju l=true->H a=some (.tup xs)))/\RVL φ H l xs
 | .ref n,v=>v=.ref (φ n)
 | .fn f,v=>∃ a,Γ.fa f=some a/\v=.ref a
 | .clo id cs,v=>∃ f cap J clos,v=.ref f/\Γ.lg id J/\CloAt H f J cap clos/\cap.length=J.fr.length/\RVL φ H cs cap
noncomputable def RVL (φ:Nat->Addr)(H:Hp):List jl->List V->Prop
 | [],xs=>xs=[]
 | d::l,xs=>∃ x r,xs=x::r/\RV φ H d x/\RVL φ H l r
end
noncomputable def bG0:HO->Bool
 | .tup _=>true
 | .frz _ _=>true
 | .ext _=>true
 | _=>false
def Kp (H H':Hp):Prop:=∀ b o,H b=some o->bG0 o=true->H' b=some o
theorem Kp.refl (H:Hp):Kp H H:=fun _ _ h _=>h
theorem Kp.trans {H y H2:Hp}(a:Kp H y)(b:Kp y H2):Kp H H2:=fun c o h f=>b c o (a c o h f) f
theorem Kp.new {H y:Hp}{p:Addr}{o:HO}(a:Kp H y)(h:y p=none):Kp H (upd y p o):=fun c u e f=>by
 have e1:=a c u e f
 rw[za (zm e1 h)];exact e1
theorem Kp.put {H y:Hp}{p:Addr}{o u:HO}(a:Kp H y)(h:y p=some u)(C:bG0 u=false):Kp H (upd y p o):=fun c v e f=>by
 have e1:=a c v e f
 rw[za (fun z=>by subst z;rw[h]at e1;cases e1;rw[C]at f;cases f)];exact e1
theorem Kp.sqT {K:ab}{H H':Hp}{a:Addr}{y:List V}(e:Kp H H')(h:SqT K H a y):SqT K H' a y:=by
 rcases h with(h|⟨o,h⟩)|h
 ·exact .inl (.inl (e _ _ h rfl))
 ·exact .inl (.inr ⟨o,e _ _ h rfl⟩)
 ·exact .inr h
theorem ap2.kp {H H':Hp}{f:Addr}{qual:Str}{params:aV}{body:Expr}{scope:Scope}{fr:List Str}{cap:List V}{y:List (Str×Addr)}(h:ap2 H f qual params body scope fr cap y)(e:Kp H H'):ap2 H' f qual params body scope fr cap y:=by
 obtain⟨Y,J,C,h1,G,h3,h4,h5,h6⟩:=h
 refine⟨Y,J,C,e _ _ h1 rfl,e _ _ G rfl,fun x c q=>?_,h4,h5,fun i x v a b=>?_⟩
 ·obtain⟨o,v,z,d⟩:=h3 x c q
  exact⟨o,v,e _ _ z rfl,d⟩
 ·obtain⟨c,o,u,z1,z2,z3⟩:=h6 i x v a b
  exact⟨c,o,u,z1,e _ _ z2 rfl,z3⟩
theorem ah4.kp {H H':Hp}{f:Addr}{name qual:Str}{params:aV}{body:List Stmt}{scope:Scope}{fr:List Str}{cap:List V}{y:List (Str×Addr)}(h:ah4 H f name qual params body scope fr cap y)(e:Kp H H'):ah4 H' f name qual params body scope fr cap y:=by
 obtain⟨G,pm,Y,C,h1,J,h3,h4,h5,h6⟩:=h
 refine⟨G,pm,Y,C,e _ _ h1 rfl,e _ _ J rfl,fun x c q=>?_,h4,h5,fun i x v a b=>?_⟩
 ·obtain⟨o,v,z,d⟩:=h3 x c q
  exact⟨o,v,e _ _ z rfl,d⟩
 ·obtain⟨c,o,u,z1,z2,z3⟩:=h6 i x v a b
  exact⟨c,o,u,z1,e _ _ z2 rfl,z3⟩
theorem CloAt.kp {H H':Hp}{f:Addr}{J:LamI}{cap:List V}{y:List (Str×Addr)}(h:CloAt H f J cap y)(e:Kp H H'):CloAt H' f J cap y:=by
 unfold CloAt at h ⊢
 cases q:J.nm with
 | none=>rw[q]at h;exact ap2.kp h e
 | some p=>rw[q]at h;exact ah4.kp h e
theorem ad3.kp {H H':Hp}{f:Addr}{J:LamI}{y:List (Str×Addr)}(h:ad3 H f J y)(e:Kp H H'):ad3 H' f J y:=by
 unfold ad3 at h ⊢
 cases q:J.nm with
 | none =>
  rw[q]at h
  obtain⟨pm,Y,z,G,C⟩:=h
  exact⟨pm,Y,z,e _ _ G rfl,e _ _ C rfl⟩
 | some p =>
  rw[q]at h
  obtain⟨a0,pm,Y,z,G,C⟩:=h
  exact⟨a0,pm,Y,z,e _ _ G rfl,e _ _ C rfl⟩
theorem CloAt.fn {K:ab}{H:Hp}{f:Addr}{J:LamI}{cap:List V}{y:List (Str×Addr)}(h:CloAt H f J cap y):bn1 K H f:=by
 unfold CloAt at h
 cases q:J.nm with
 | none=>rw[q]at h;obtain⟨Y,G,C,z,_⟩:=h;exact .inl ⟨_,z⟩
 | some p=>rw[q]at h;exact ah4.fn h
structure Gw (φ:Nat->Addr)(n:Nat)(H:Hp)(φ':Nat->Addr)(H':Hp):Prop where
 map:∀ i,i<n->φ' i=φ i
 kp:Kp H H'
variable {Γ:Gm}
mutual
theorem RV.monoW {φ φ':Nat->Addr}{n:Nat}{H H':Hp}(g:Gw φ n H φ' H'):∀(d:jl) (v:V),d.bnd n=true->RV Γ φ H d v->RV Γ φ' H' d v
 | .non,_,_,h=>by unfold RV at h ⊢;exact h
 | .bl _,_,_,h=>by unfold RV at h ⊢;exact h
 | .int _,_,_,h=>by unfold RV at h ⊢;exact h
 | .str _,_,_,h=>by unfold RV at h ⊢;exact h
 | .tup l,_,b,h=>by
  unfold RV at h ⊢
  unfold jq at b
  obtain⟨a,C,e,q,r⟩:=h
  exact⟨a,C,e,⟨g.kp.sqT q.1,fun z=>g.kp _ _ (q.2 z) rfl⟩,RVL.monoW g l C b r⟩
 | .ref k,_,b,h=>by
  unfold RV at h ⊢
  unfold jq at b
  rw[g.map k (of_decide_eq_true b)];exact h
 | .fn _,_,_,h=>by unfold RV at h ⊢;exact h
 | .clo id cs,_,b,h=>by
  unfold RV at h ⊢
  unfold jq at b
  obtain⟨f,cap,J,y,e,h1,G,h3,Y⟩:=h
  exact⟨f,cap,J,y,e,h1,G.kp g.kp,h3,RVL.monoW g cs cap b Y⟩
theorem RVL.monoW {φ φ':Nat->Addr}{n:Nat}{H H':Hp}(g:Gw φ n H φ' H'):∀(l:List jl) (y:List V),jm n l=true->RVL Γ φ H l y->RVL Γ φ' H' l y
 | [],_,_,h=>by unfold RVL at h ⊢;exact h
 | d::l,_,b,h=>by
  unfold RVL at h ⊢
  unfold jm at b
  rw[ag]at b
  obtain⟨x,r,e,q,t⟩:=h
  exact⟨x,r,e,RV.monoW g d x b.1 q,RVL.monoW g l r b.2 t⟩
end
mutual
theorem zo {n m:Nat}(h:n<=m):∀ d:jl,d.bnd n=true->d.bnd m=true
 | .non,_=>rfl
 | .bl _,_=>rfl
 | .int _,_=>rfl
 | .str _,_=>rfl
 | .tup l,b=>by unfold jq at b ⊢;exact aa3 h l b
 | .ref k,b=>by unfold jq at b ⊢;exact decide_eq_true (ah (of_decide_eq_true b) h)
 | .fn _,_=>rfl
 | .clo _ l,b=>by unfold jq at b ⊢;exact aa3 h l b
theorem aa3 {n m:Nat}(h:n<=m):∀ l:List jl,jm n l=true->jm m l=true
 | [],_=>rfl
 | d::l,b=>by
  unfold jm at b ⊢
  rw[ag]at b ⊢
  exact⟨zo h d b.1,aa3 h l b.2⟩
end
theorem aa4 {n:Nat}:∀ {l:List jl},jm n l=true↔∀ d∈l,d.bnd n=true
 | []=>by unfold jm;simp
 | d::l=>by
  unfold jm
  rw[ag,aa4 (l:=l)]
  simp
theorem zI {n:Nat}{l m:List jl}(h:jm n l=true)(h':jm n m=true):jm n (l++m)=true :=
 aa4.mpr fun d hd=>(cq.mp hd).elim (aa4.mp h d) (aa4.mp h' d)
theorem aV6 {n:Nat}{l m:List jl}(h:jm n l=true)(s:∀ d∈m,d∈l):jm n m=true:=aa4.mpr fun d hd=>aa4.mp h d (s d hd)
theorem ag0 {n:Nat}{l:List jl}{i:Nat}{d:jl}(h:jm n l=true)(e:l[i]?=some d):d.bnd n=true:=aa4.mp h d (aX e)
section
variable {φ:Nat->Addr} {H:Hp}
theorem RVL.nil:RVL Γ φ H [] []:=by unfold RVL;rfl
theorem RVL.cons {d:jl}{l:List jl}{x:V}{h:List V}(a:RV Γ φ H d x)(b:RVL Γ φ H l h):RVL Γ φ H (d::l) (x::h):=by unfold RVL;exact⟨x,h,rfl,a,b⟩
theorem RVL.unnil {y:List V}(h:RVL Γ φ H [] y):y=[]:=by unfold RVL at h;exact h
theorem RVL.uncons {d:jl}{l:List jl}{y:List V}(h:RVL Γ φ H (d::l) y):∃ x r,y=x::r/\RV Γ φ H d x/\RVL Γ φ H l r:=by unfold RVL at h;exact h
theorem RVL.length:∀ {l:List jl} {y:List V},RVL Γ φ H l y->y.length=l.length
 | [],_,h=>by rw[h.unnil];rfl
 | d::l,_,h=>by
  obtain⟨x,r,rfl,_,t⟩:=h.uncons
  rw[aQ,aQ,RVL.length t]
theorem RVL.get:∀ {l:List jl} {z:List V} {i:Nat} {d:jl},RVL Γ φ H l z->l[i]?=some d->∃ x,z[i]?=some x/\RV Γ φ H d x
 | [],_,_,_,_,e=>by simp at e
 | d::l,_,0,d',h,e=>by
  obtain⟨x,r,rfl,q,t⟩:=h.uncons
  have e':d=d':=by simpa using e
  subst e'
  exact⟨x,rfl,q⟩
 | d::l,_,i+1,_,h,e=>by
  obtain⟨x,r,rfl,q,t⟩:=h.uncons
  obtain⟨y,e1,e2⟩:=RVL.get (i:=i) t (by simpa using e)
  exact⟨y,by simpa using e1,e2⟩
theorem RVL.append:∀ {l m:List jl} {y ys:List V},RVL Γ φ H l y->RVL Γ φ H m ys->RVL Γ φ H (l++m) (y++ys)
 | [],_,_,_,h,h'=>by rw[h.unnil];exact h'
 | d::l,_,_,_,h,h'=>by
  obtain⟨x,r,rfl,q,t⟩:=h.uncons
  exact .cons q (RVL.append t h')
theorem RVL.drop:∀ {l:List jl} {y:List V} (n:Nat),RVL Γ φ H l y->RVL Γ φ H (l.drop n) (y.drop n)
 | _,_,0,h=>h
 | [],_,n+1,h=>by rw[h.unnil];exact .nil
 | d::l,_,n+1,h=>by
  obtain⟨x,r,rfl,q,t⟩:=h.uncons
  exact RVL.drop n t
theorem RVL.take:∀ {l:List jl} {y:List V} (n:Nat),RVL Γ φ H l y->RVL Γ φ H (l.take n) (y.take n)
 | _,_,0,h=>.nil
 | [],_,n+1,h=>by rw[h.unnil];exact .nil
 | d::l,_,n+1,h=>by
  obtain⟨x,r,rfl,q,t⟩:=h.uncons
  exact .cons q (RVL.take n t)
theorem RVL.set:∀ {l:List jl} {y:List V} {d:jl} {x:V} (i:Nat),RVL Γ φ H l y->RV Γ φ H d x->RVL Γ φ H (l.set i d) (y.set i x)
 | [],_,_,_,_,h,_=>by rw[h.unnil];exact .nil
 | d::l,_,_,_,0,h,q=>by
  obtain⟨x,r,rfl,_,t⟩:=h.uncons
  exact .cons q t
 | d::l,_,_,_,i+1,h,q=>by
  obtain⟨x,r,rfl,z,t⟩:=h.uncons
  exact .cons z (RVL.set i t q)
theorem RVL.reverse:∀ {l:List jl} {y:List V},RVL Γ φ H l y->RVL Γ φ H l.reverse y.reverse
 | [],_,h=>by rw[h.unnil];exact .nil
 | d::l,_,h=>by
  obtain⟨x,r,rfl,q,t⟩:=h.uncons
  rw[c7,c7]
  exact(RVL.reverse t).append (.cons q .nil)
theorem RV.intE {i:Int}{v:V}(h:RV Γ φ H (.int i) v):v=.int i:=by unfold RV at h;exact h
theorem RV.blE {i:Bool}{v:V}(h:RV Γ φ H (.bl i) v):v=.bl i:=by unfold RV at h;exact h
theorem RV.nonE {v:V}(h:RV Γ φ H .non v):v=.non:=by unfold RV at h;exact h
theorem RV.strE {x:List Nat}{v:V}(h:RV Γ φ H (.str x) v):v=.str ⟨x.toArray⟩:=by unfold RV at h;exact h.1
theorem RV.strL {x:List Nat}{v:V}(h:RV Γ φ H (.str x) v):x.length<=js:=by unfold RV at h;exact h.2
theorem RV.tupE {l:List jl}{v:V}(h:RV Γ φ H (.tup l) v):∃ a y,v=.ref a/\SqT Γ.K H a y/\RVL Γ φ H l y:=by unfold RV at h;obtain⟨a,y,e,q,r⟩:=h;exact⟨a,y,e,q.1,r⟩
theorem RV.tupZ {l:List jl}{v:V}(h:RV Γ φ H (.tup l) v):∃ a y,(v=.ref a/\(ju l=true->H a=some (.tup y)))/\SqT Γ.K H a y/\RVL Γ φ H l y:=by unfold RV at h;obtain⟨a,y,e,q,r⟩:=h;exact⟨a,y,⟨e,q.2⟩,q.1,r⟩
theorem RVL.tonil {l:List jl}(h:RVL Γ φ H l []):l=[]:=c4.mp h.length.symm
theorem RV.tupK {l:List jl}{v:V}(h:RV Γ φ H (.tup l) v)(z:ju l=true):∃ a y,v=.ref a/\H a=some (.tup y)/\RVL Γ φ H l y:=by unfold RV at h;obtain⟨a,y,e,q,r⟩:=h;exact⟨a,y,e,q.2 z,r⟩
theorem RV.refE {n:Nat}{v:V}(h:RV Γ φ H (.ref n) v):v=.ref (φ n):=by unfold RV at h;exact h
theorem RV.intI {i:Int}:RV Γ φ H (.int i) (.int i):=by unfold RV;rfl
theorem RV.blI {i:Bool}:RV Γ φ H (.bl i) (.bl i):=by unfold RV;rfl
theorem RV.nonI:RV Γ φ H .non .non:=by unfold RV;rfl
theorem RV.strI {x:List Nat}(h:x.length<=js):RV Γ φ H (.str x) (.str ⟨x.toArray⟩):=by unfold RV;exact⟨rfl,h⟩
theorem RV.tupI {l:List jl}{a:Addr}{y:List V}(h:H a=some (.tup y))(q:RVL Γ φ H l y):RV Γ φ H (.tup l) (.ref a):=by unfold RV;exact⟨a,y,rfl,⟨SqT.of h,fun _=>h⟩,q⟩
theorem RV.tupC {l:List jl}{a:Addr}{y:List V}(h:SqT Γ.K H a y)(z:ju l=true->H a=some (.tup y))(q:RVL Γ φ H l y):RV Γ φ H (.tup l) (.ref a):=by unfold RV;exact⟨a,y,rfl,⟨h,z⟩,q⟩
theorem RV.refI {n:Nat}:RV Γ φ H (.ref n) (.ref (φ n)):=by unfold RV;rfl
end
theorem bg7 {n:Nat}{l:List jl}(h:ju (jN n l)=true):ju l=true:=by
 cases n with
 | zero=>cases h
 | succ n =>
  cases l with
  | nil => 
   have:∀ k,jN k ([]:List jl)=[]:=fun k=>by
    induction k with
    | zero=>rfl
    | succ k ih=>show[]++jN k []=[];rw[ih];rfl
   rw[this]at h;cases h
  | cons a l =>
   have e:jN (n+1) (a::l)=a::(l++jN n (a::l)):=rfl
   rw[e]at h
   cases a with
   | int _=>rfl
   | _=>cases h
def SqF (K:ab)(H:Hp)(a:Addr)(xs:List V):Prop:=SqL K H a xs/\∀ H',Kp H H'->SqL K H' a xs
noncomputable def ax1:jl->Option Key
 | .int i=>some (.inl i)
 | .str x=>some (.inr ⟨x.toArray⟩)
 | _=>none
noncomputable def qg:List jl->Option (List Key)
 | []=>some []
 | d::l=>match ax1 d,qg l with
  | some k,some r=>some (k::r)
  | _,_=>none
noncomputable def bC8:jl->Option (List Key)
 | .tup l=>if(ju l&&(l.all jA&&decide (l.length<=1000)))=true then qg l else none
 | _=>none
noncomputable def RVD {κ:Type}(kf:jl->Option κ)(Γ:Gm)(φ:Nat->Addr)(H:Hp):List (jl×jl)->List (κ×V)->Prop
 | [],kvs=>kvs=[]
 | (d,e)::l,kvs=>∃ k v r,kvs=(k,v)::r/\kf d=some k/\RV Γ φ H e v/\RVD kf Γ φ H l r
variable (Γ)
noncomputable def RO (φ:Nat->Addr)(H:Hp)(a:Addr):jD->Prop
 | .lst l=>∃ xs,H a=some (.lst xs)/\RVL Γ φ H l xs
 | .ro l=>∃ xs,SqF Γ.K H a xs/\RVL Γ φ H l xs
 | .dic l=>∃ kvs,H a=some (.dK kvs)/\RVD ax1 Γ φ H l kvs
 | .dit l=>∃ kvs,H a=some (.dT kvs)/\RVD bC8 Γ φ H l kvs
 | .ins _ _=>False
noncomputable abbrev okd:jD->Nat:=DV.O.kd
noncomputable def isMut:jD->Bool
 | .ro _=>false
 | _=>true
structure Rp (φ:Nat->Addr)(H:Hp)(s:jk):Prop where
 inj:∀(i j:Nat) (o o':jD),s[i]?=some o->s[j]?=some o'->isMut o=true->isMut o'=true->φ i=φ j->i=j
 obj:∀(i:Nat) (o:jD),s[i]?=some o->RO Γ φ H (φ i) o
 wf:∀(i:Nat) (o:jD),s[i]?=some o->o.bnd s.length=true
 tab:TabsH Γ.T H
structure RE (φ:Nat->Addr)(H:Hp)(n:Nat)(ρ:jn)(σ:St):Prop where
 len:ρ.length=σ.length
 val:∀(i:Nat) (d:jl),ρ[i]?=some (some d)->d.bnd n=true/\∃ v,σ[i]?=some (some v)/\RV Γ φ H d v
structure Gr (φ:Nat->Addr)(s:jk)(H:Hp)(φ':Nat->Addr)(s':jk)(H':Hp):Prop where
 w:Gw φ s.length H φ' H'
 le:s.length<=s'.length
 new:∀ i:Nat,s.length<=i->i<s'.length->H (φ' i)=none
 kd:∀(i:Nat) (o o':jD),s[i]?=some o->s'[i]?=some o'->okd o'=okd o
 st:∀ b,H b≠none->H' b≠none
 fr:∀ b o,H b=some o->(∀ ps,o≠.tbl ps)->(∀(i:Nat) (ob:jD),s[i]?=some ob->isMut ob=true->φ i≠b)->H' b=some o
variable {Γ}
theorem bm0 {o y:jD}(h:okd y=okd o)(m:isMut y=true):isMut o=true:=by
 cases o with
 | ro _=>cases y with
  | ro _=>cases m
  | _=>cases h
 | _=>rfl
theorem Gr.mu {φ φ':Nat->Addr}{s s':jk}{H H':Hp}(g:Gr φ s H φ' s' H')(i:Nat)(o h:jD)(e:s[i]?=some o)(e':s'[i]?=some h)(m:isMut h=true):isMut o=true:=bm0 (g.kd i o h e e') m
theorem Gr.refl (φ:Nat->Addr)(s:jk)(H:Hp):Gr φ s H φ s H:=⟨⟨fun _ _=>rfl,Kp.refl H⟩,ai _,fun i z y=>absurd y (by omega),fun i o C e e'=>by rw[e]at e';cases e';rfl,fun _ h=>h,fun _ _ h _ _=>h⟩
theorem Gr.trans {φ φ1 φ2:Nat->Addr}{s s1 s2:jk}{H C H2:Hp}(a:Gr φ s H φ1 s1 C)(b:Gr φ1 s1 C φ2 s2 H2)(_h:s.length<=s1.length):Gr φ s H φ2 s2 H2:=by
 refine⟨⟨fun i hi=>(b.w.map i (ah hi a.le)).trans (a.w.map i hi),a.w.kp.trans b.w.kp⟩,am a.le b.le,fun i h1 Y=>?_,fun i o o' e e'=>?_,fun c h=>b.st c (a.st c h),fun c o h G ne=>?_⟩
 ·by_cases hi:i<s1.length
  ·rw[b.w.map i hi];exact a.new i h1 hi
  ·have e:=b.new i (by omega) Y
   cases q:H (φ2 i)with
   | none=>rfl
   | some o=>exact absurd e (a.st _ (by rw[q];simp))
 ·have hl:i<s1.length:=ah (ae.mp e).1 a.le
  obtain⟨o1,e1⟩:∃ o1,s1[i]?=some o1:=⟨s1[i],aj hl⟩
  exact(b.kd i o1 o' e1 e').trans (a.kd i o o1 e e1)
 ·refine b.fr c o (a.fr c o h G ne) G fun i ob e m z=>?_
  by_cases hi:i<s.length
  ·obtain⟨y,J⟩:∃ y,s[i]?=some y:=⟨s[i],aj hi⟩
   exact ne i y J (a.mu i y ob J e m) (by rw[<-a.w.map i hi];exact z)
  ·have:=a.new i (by omega) (ae.mp e).1
   rw[z,h]at this;cases this
theorem RV.mono {φ φ':Nat->Addr}{s s':jk}{H H':Hp}(g:Gr φ s H φ' s' H')(d:jl)(v:V)(b:d.bnd s.length=true)(h:RV Γ φ H d v):RV Γ φ' H' d v:=RV.monoW g.w d v b h
theorem RVL.mono {φ φ':Nat->Addr}{s s':jk}{H H':Hp}(g:Gr φ s H φ' s' H')(d:List jl)(v:List V)(b:jm s.length d=true)(h:RVL Γ φ H d v):RVL Γ φ' H' d v:=RVL.monoW g.w d v b h
theorem RE.mono {φ φ':Nat->Addr}{s s':jk}{H H':Hp}{ρ:jn}{σ:St}(h:RE Γ φ H s.length ρ σ)(g:Gr φ s H φ' s' H')(hn:s.length<=s'.length):RE Γ φ' H' s'.length ρ σ :=
 ⟨h.len,fun i d e=>by
  obtain⟨b,v,e1,e2⟩:=h.val i d e
  exact⟨zo hn d b,v,e1,RV.mono g d v b e2⟩⟩
def ac6 (Γ:Gm)(φ:Nat->Addr)(s:jk)(H:Hp)(d:jl)(s':jk)(Q:VK):Prop :=
 ∀ v φ' H',Gr φ s H φ' s' H'->s.length<=s'.length->d.bnd s'.length=true->RV Γ φ' H' d v->Rp Γ φ' H' s'->Q v H'
theorem ac6.trans {φ φ1:Nat->Addr}{s s1 s':jk}{H y:Hp}{d:jl}{Q:VK}(h:ac6 Γ φ s H d s' Q)(g:Gr φ s H φ1 s1 y)(l:s.length<=s1.length):ac6 Γ φ1 s1 y d s' Q :=
 fun v φ' H' g' z b r p=>h v φ' H' (g.trans g' l) (am l z) b r p
theorem ac6.here {φ:Nat->Addr}{s:jk}{H:Hp}{d:jl}{Q:VK}{v:V}(h:ac6 Γ φ s H d s Q)(p:Rp Γ φ H s)(b:d.bnd s.length=true)(r:RV Γ φ H d v):Q v H :=
 h v φ H (Gr.refl φ s H) (ai _) b r p
theorem RVD.monoW {κ:Type}{z:jl->Option κ}{φ φ':Nat->Addr}{n:Nat}{H H':Hp}(g:Gw φ n H φ' H'):∀(l:List (jl×jl)) (y:List (κ×V)),jm n (l.map (·.2))=true->RVD z Γ φ H l y->RVD z Γ φ' H' l y
 | [],_,_,h=>h
 | (d,e)::l,_,b,h=>by
  obtain⟨k,v,r,e1,e2,G,C⟩:=h
  rw[aL]at b
  unfold jm at b
  rw[ag]at b
  exact⟨k,v,r,e1,e2,RV.monoW g e v b.1 G,RVD.monoW g l r b.2 C⟩
theorem RO.mono {φ φ':Nat->Addr}{n:Nat}{H H':Hp}{a:Addr}{o:jD}(h:RO Γ φ H a o)(g:Gw φ n H φ' H')(b:o.bnd n=true)(hl:isMut o=true->∀ u,H a=some u->H' a=some u):RO Γ φ' H' a o:=by
 cases o with
 | lst l =>
  unfold jr at b
  obtain⟨z,e,r⟩:=h
  exact⟨z,hl rfl _ e,RVL.monoW g l z b r⟩
 | ro l =>
  unfold jr at b
  obtain⟨z,e,r⟩:=h
  exact⟨z,⟨e.2 _ g.kp,fun H2 k=>e.2 _ (g.kp.trans k)⟩,RVL.monoW g l z b r⟩
 | dic l =>
  unfold jr at b
  rw[ag]at b
  obtain⟨y,e,r⟩:=h
  exact⟨y,hl rfl _ e,RVD.monoW g l y b.2 r⟩
 | dit l =>
  unfold jr at b
  rw[ag]at b
  obtain⟨y,e,r⟩:=h
  exact⟨y,hl rfl _ e,RVD.monoW g l y b.2 r⟩
 | ins _ _=>exact h.elim
theorem RO.there {φ:Nat->Addr}{H:Hp}{a:Addr}{o:jD}(h:RO Γ φ H a o)(m:isMut o=true):∃ u,H a=some u/\bG0 u=false/\∀ ps,u≠.tbl ps:=by
 cases o with
 | lst l=>obtain⟨y,e,_⟩:=h;exact⟨_,e,rfl,by nofun⟩
 | ro l=>cases m
 | dic l=>obtain⟨y,e,_⟩:=h;exact⟨_,e,rfl,by nofun⟩
 | dit l=>obtain⟨y,e,_⟩:=h;exact⟨_,e,rfl,by nofun⟩
 | ins _ _=>exact h.elim
theorem Rp.addr {φ:Nat->Addr}{H:Hp}{s:jk}(p:Rp Γ φ H s){i:Nat}{l:List jl}(e:s[i]?=some (.lst l)):∃ h,H (φ i)=some (.lst h)/\RVL Γ φ H l h:=p.obj i _ e
theorem zV {n m:Nat}(h:n<=m)(o:jD)(b:o.bnd n=true):o.bnd m=true:=by
 cases o with
 | lst l=>unfold jr at b ⊢;exact aa3 h l b
 | ro l=>unfold jr at b ⊢;exact aa3 h l b
 | dic l =>
  unfold jr at b ⊢
  rw[ag]at b ⊢
  exact⟨aa3 h _ b.1,aa3 h _ b.2⟩
 | dit l =>
  unfold jr at b ⊢
  rw[ag]at b ⊢
  exact⟨aa3 h _ b.1,aa3 h _ b.2⟩
 | ins c l=>unfold jr at b ⊢;exact aa3 h _ b
theorem TabsH.keepF {T:List (Addr×Str)}{H H':Hp}(h:TabsH T H)(k:∀ b o,(bG0 o=true\/∃ ps,o=.tbl ps)->H b=some o->H' b=some o):TabsH T H':=fun y hy=>by
 obtain⟨ps,e,t,c⟩:=h y hy
 refine⟨ps,k _ _ (.inr ⟨_,rfl⟩) e,t,fun pos C q=>?_⟩
 obtain⟨z,e1,e2⟩:=c pos C q
 exact⟨z,e1,k _ _ (.inl rfl) e2⟩
theorem Rp.new {φ:Nat->Addr}{H:Hp}{s:jk}{p:Addr}{u:HO}{o:jD}(r:Rp Γ φ H s)(z:H p=none)(hb:o.bnd s.length=true)
  (ho:∀ φ' H',Gw φ s.length H φ' H'->H' p=some u->RO Γ φ' H' p o):Gr φ s H (fun i=>if i=s.length then p else φ i) (s++[o]) (upd H p u)/\Rp Γ (fun i=>if i=s.length then p else φ i) (upd H p u) (s++[o]):=by
 have g:Gw φ s.length H (fun i=>if i=s.length then p else φ i) (upd H p u):=⟨fun i hi=>if_neg (aq hi),(Kp.refl H).new z⟩
 have key:∀ i y,(s++[o])[i]?=some y->(i<s.length/\s[i]?=some y)\/(i=s.length/\y=o):=fun i y e=>by
  rcases eA i s.length with h|h|h
  ·rw[aH h]at e;exact .inl ⟨h,e⟩
  ·subst h;simp at e;exact .inr ⟨rfl,e.symm⟩
  ·rw[bL (by simp;omega)]at e;cases e
 refine⟨⟨g,by simp,fun i h1 h2=>?_,fun i o1 o2 e1 e2=>?_,fun b hb=>?_,fun b ob hb _ _=>by rw[za (zm hb z)];exact hb⟩,fun i j Y J G ej mi mj e=>?_,fun i y e=>?_,fun i y e=>?_,r.tab.new z⟩
 ·rw[aR,cB]at h2
  rw[if_pos (by omega)];exact z
 ·rcases key i o2 e2 with⟨_,e⟩|⟨hi,_⟩
  ·rw[e1]at e;cases e;rfl
  ·have:=(ae.mp e1).1;omega
 ·unfold upd;split
  ·simp
  ·exact hb
 ·rcases key i Y G with⟨hi,G⟩|⟨hi,rfl⟩<;>rcases key j J ej with⟨hj,ej⟩|⟨hj,ej'⟩
  ·rw[if_neg (aq hi),if_neg (aq hj)]at e
   exact r.inj i j Y J G ej mi mj e
  ·rw[if_neg (aq hi),if_pos hj]at e
   obtain⟨u,C,_,_⟩:=(r.obj i Y G).there mi
   rw[e,z]at C;cases C
  ·rw[if_neg (aq hj),if_pos hi]at e
   obtain⟨u,C,_,_⟩:=(r.obj j J ej).there mj
   rw[<-e,z]at C;cases C
  ·rw[hi,hj]
 ·rcases key i y e with⟨hi,e⟩|⟨hi,rfl⟩
  ·show RO Γ _ _ (if i=s.length then p else φ i) y
   rw[if_neg (aq hi)]
   exact(r.obj i y e).mono g (r.wf i y e) fun _ v hv=>by rw[za (zm hv z)];exact hv
  ·show RO Γ _ _ (if i=s.length then p else φ i) y
   rw[if_pos hi]
   exact ho _ _ g zb
 ·rw[aR,cB]
  rcases key i y e with⟨hi,e⟩|⟨hi,rfl⟩
  ·exact zV (cG _) _ (r.wf i y e)
  ·exact zV (cG _) _ hb
theorem Rp.set {φ:Nat->Addr}{H:Hp}{s:jk}{k:Nat}{u:HO}{o C:jD}(r:Rp Γ φ H s)(hk:s[k]?=some C)(Y:isMut C=true)(hb:o.bnd s.length=true)
  (ho:∀ H',Gw φ s.length H φ H'->H' (φ k)=some u->RO Γ φ H' (φ k) o) (a0:okd o=okd C:=by rfl):Gr φ s H φ (s.set k o) (upd H (φ k) u)/\Rp Γ φ (upd H (φ k) u) (s.set k o):=by
 obtain⟨v0,J,f0,a1⟩:=(r.obj k C hk).there Y
 have a2:k<s.length:=(ae.mp hk).1
 have g:Gw φ s.length H φ (upd H (φ k) u):=⟨fun _ _=>rfl,(Kp.refl H).put J f0⟩
 have key:∀ i y,(s.set k o)[i]?=some y->(i≠k/\s[i]?=some y)\/(i=k/\y=o):=fun i y e=>by
  by_cases h:i=k
  ·subst h;rw[aU a2]at e;exact .inr ⟨rfl,(ay e).symm⟩
  ·rw[bj (bE h)]at e;exact .inl ⟨h,e⟩
 have mm:∀ i y,(s.set k o)[i]?=some y->isMut y=true->∃ G,s[i]?=some G/\isMut G=true:=fun i y e m=>by
  rcases key i y e with⟨_,e⟩|⟨h,_⟩
  ·exact⟨y,e,m⟩
  ·exact⟨C,by rw[h];exact hk,Y⟩
 refine⟨⟨g,by simp,fun i h1 h2=>by rw[br]at h2;omega,fun i o1 o2 e1 e2=>?_,fun b hb=>?_,fun b ob hb nt ne=>by rw[za (bE (ne k C hk Y))];exact hb⟩,fun i j oi oj ei ej mi mj e=>?_,fun i y e=>?_,fun i y e=>?_,r.tab.keepF fun b v hv q=>?_⟩
 ·rcases key i o2 e2 with⟨_,e⟩|⟨h,rfl⟩
  ·rw[e1]at e;cases e;rfl
  ·subst h;rw[hk]at e1;cases e1;exact a0
 ·unfold upd;split
  ·simp
  ·exact hb
 ·obtain⟨o1,e1,m1⟩:=mm i oi ei mi
  obtain⟨o2,e2,m2⟩:=mm j oj ej mj
  exact r.inj i j o1 o2 e1 e2 m1 m2 e
 ·rcases key i y e with⟨h,e⟩|⟨h,rfl⟩
  ·refine(r.obj i y e).mono g (r.wf i y e) fun m v hv=>?_
   rw[za fun z=>h (r.inj i k y C e hk m Y z)];exact hv
  ·subst h
   exact ho _ g zb
 ·rw[br]
  rcases key i y e with⟨_,e⟩|⟨_,rfl⟩
  ·exact r.wf i y e
  ·exact hb
 ·rw[za fun z=>by
   subst z;rw[J]at q;cases q
   rcases hv with h|⟨ps,h⟩
   ·rw[f0]at h;cases h
   ·exact a1 _ h]
  exact q
theorem Rp.same {φ:Nat->Addr}{H H':Hp}{s:jk}(r:Rp Γ φ H s)(e:ae1 H H'):Gr φ s H φ s H'/\Rp Γ φ H' s:=by
 have g:Gw φ s.length H φ H':=⟨fun _ _=>rfl,fun b o h _=>e b o h⟩
 exact⟨⟨g,ai _,fun i C y=>absurd y (by omega),fun i o G e e'=>by rw[e]at e';cases e';rfl,fun b hb=>by
  cases q:H b with
  | none=>exact absurd q hb
  | some o=>rw[e b o q];simp,fun b o h _ _=>e b o h⟩,r.inj,fun i o h=>(r.obj i o h).mono g (r.wf i o h) fun _ u z=>e _ u z,r.wf,r.tab.same e⟩
section
variable {φ:Nat->Addr} {H:Hp} {s:jk} {Q:VK}
theorem ac6.alloc {l:List jl}{y:List V}(h:ac6 Γ φ s H (.ref s.length) (s++[.lst l]) Q)(r:Rp Γ φ H s)(hl:RVL Γ φ H l y)(hb:jm s.length l=true){p:Addr}(C:H p=none):Q (.ref p) (upd H p (.lst y)):=by
 obtain⟨g,z⟩:=r.new (o:=.lst l) (u:=.lst y) C hb fun φ' H' g e=>⟨y,e,RVL.monoW g l y hb hl⟩
 have:=h (.ref p) _ _ g (by simp) (by unfold jq;simp) (by unfold RV;simp) z
 exact this
theorem ac6.tup {l:List jl}{y:List V}(h:ac6 Γ φ s H (.tup l) s Q)(r:Rp Γ φ H s)(hl:RVL Γ φ H l y)(hb:jm s.length l=true){p:Addr}(C:H p=none):Q (.ref p) (upd H p (.tup y)):=by
 obtain⟨g,z⟩:=r.same (H':=upd H p (.tup y)) ((ae1.refl H).new C)
 exact h _ _ _ g (ai _) (by unfold jq;exact hb) (RV.tupI zb (RVL.mono g l y hb hl)) z
theorem ac6.put {k:Nat}{l l0:List jl}{y:List V}{d:jl}{v:V}(h:ac6 Γ φ s H d (s.set k (.lst l)) Q)(r:Rp Γ φ H s)(hk:s[k]?=some (.lst l0))(hl:RVL Γ φ H l y)(hb:jm s.length l=true)
  (hd:d.bnd s.length=true) (C:RV Γ φ H d v):Q v (upd H (φ k) (.lst y)):=by
 obtain⟨g,z⟩:=r.set (o:=.lst l) (u:=.lst y) hk rfl hb fun H' g e=>⟨y,e,RVL.monoW g l y hb hl⟩
 exact h _ _ _ g (by simp) (by rw[br];exact hd) (RV.mono g d v hd C) z
end
variable {Γ:Gm}
theorem keyOf_inj {a b:jl}{k:Key}(ha:ax1 a=some k)(hb:ax1 b=some k):a=b:=by
 cases a with
 | int i =>
  cases ha
  cases b with
  | int j=>cases hb;rfl
  | str y=>cases hb
  | _=>cases hb
 | str x =>
  cases ha
  cases b with
  | int j=>cases hb
  | str y =>
   have h:=ay hb
   injection h with h
   injection h with h
   have z:y=x:=by simpa using h
   rw[z]
  | _=>cases hb
 | _=>cases ha
theorem ao8 {d:jl}(h:d.key=true):∃ k,ax1 d=some k:=by
 cases d with
 | int i=>exact⟨_,rfl⟩
 | str x=>exact⟨_,rfl⟩
 | _=>cases h
theorem aA3 {φ:Nat->Addr}{H:Hp}{d:jl}{k:Key}{v:V}(h:ax1 d=some k)(r:RV Γ φ H d v):v=kV k:=by
 cases d with
 | int i=>cases h;exact r.intE
 | str x=>cases h;exact r.strE
 | _=>cases h
def bx3 {κ:Type}(kf:jl->Option κ):Prop:=∀ {a b:jl} {k:κ},kf a=some k->kf b=some k->a=b
theorem al3:∀ {a b:List jl} {k:List Key},qg a=some k->qg b=some k->a=b
 | [],[],k,_,_=>rfl
 | [],y::b,k,ha,hb=>by
  cases ha
  unfold qg at hb
  split at hb<;>cases hb
 | x::a,[],k,ha,hb=>by
  cases hb
  unfold qg at ha
  split at ha<;>cases ha
 | x::a,y::b,k,ha,hb=>by
  unfold qg at ha hb
  split at ha
  ·rename_i k1 r1 e1 e2
   cases ha
   split at hb
   ·rename_i k2 C z h
    cases hb
    rw[keyOf_inj e1 z,al3 e2 h]
   ·cases hb
  ·cases ha
theorem an0 {d:jl}{k:List Key}(h:bC8 d=some k):∃ l,d=.tup l/\(ju l=true/\l.all jA=true/\l.length<=1000)/\qg l=some k:=by
 cases d with
 | tup l =>
  have h:(if(ju l&&(l.all jA&&decide (l.length<=1000)))=true then qg l else none)=some k:=h
  by_cases z:(ju l&&(l.all jA&&decide (l.length<=1000)))=true
  ·rw[if_pos z]at h;rw[ag,ag]at z;exact⟨l,rfl,⟨z.1,z.2.1,of_decide_eq_true z.2.2⟩,h⟩
  ·rw[if_neg z]at h;cases h
 | _=>cases h
theorem keyT_inj:bx3 bC8:=fun ha hb=>by
 obtain⟨l,rfl,_,h⟩:=an0 ha
 obtain⟨m,rfl,_,y⟩:=an0 hb
 rw[al3 h y]
theorem aO9 {d:jl}(h:d.keyS=true):∃ k,ax1 d=some k:=by
 cases d with
 | int i=>exact⟨_,rfl⟩
 | str x=>exact⟨_,rfl⟩
 | _=>cases h
theorem ag6:∀ {l:List jl},l.all jA=true->∃ k,qg l=some k
 | [],_=>⟨[],rfl⟩
 | d::l,h=>by
  rw[dA,ag]at h
  obtain⟨k,hk⟩:=aO9 h.1
  obtain⟨r,y⟩:=ag6 h.2
  exact⟨k::r,by unfold qg;rw[hk,y]⟩
theorem as7 {d:jl}(h:d.keyT=true):∃ k,bC8 d=some k:=by
 cases d with
 | tup l =>
  have h:(ju l&&(l.all jA&&decide (l.length<=1000)))=true:=h
  have h':=h
  rw[ag,ag]at h'
  obtain⟨k,hk⟩:=ag6 h'.2.1
  exact⟨k,by show(if(ju l&&(l.all jA&&decide (l.length<=1000)))=true then qg l else none)=some k;rw[if_pos h];exact hk⟩
 | _=>cases h
theorem aM2 {φ:Nat->Addr}{H:Hp}:∀ {l:List jl} {k:List Key} {y:List V},qg l=some k->RVL Γ φ H l y->y=k.map kV
 | [],k,y,h,r=>by cases h;exact r.unnil
 | d::l,k,y,h,r=>by
  unfold qg at h
  split at h
  ·rename_i k1 r1 e1 e2
   cases h
   obtain⟨x,ys,rfl,C,z⟩:=r.uncons
   rw[aA3 e1 C,aM2 e2 z,aL]
  ·cases h
theorem aG5 {φ:Nat->Addr}{H:Hp}{d:jl}{k:List Key}{v:V}(h:bC8 d=some k)(r:RV Γ φ H d v):∃ b,v=.ref b/\H b=some (.tup (k.map kV)):=by
 obtain⟨l,rfl,z,hk⟩:=an0 h
 obtain⟨a,G,e,y,C⟩:=r.tupK z.1
 rw[aM2 hk C]at y
 exact⟨a,e,y⟩
section
variable {κ:Type} [DecidableEq κ] {kf:jl->Option κ}
theorem RVD.val {φ:Nat->Addr}{H:Hp}{d:jl}{k:κ}(G:bx3 kf)(hk:kf d=some k):∀ {l:List (jl×jl)} {y:List (κ×V)},RVD kf Γ φ H l y->(jP d l=none/\ay6 y k=none)\/∃ e v,jP d l=some e/\ay6 y k=some v/\RV Γ φ H e v/\e∈l.map (·.2)
 | [],y,h=>by
  have h:y=[]:=h
  subst h
  exact .inl ⟨rfl,rfl⟩
 | (a,e)::l,y,h=>by
  obtain⟨C,v,r,rfl,e2,e3,e4⟩:=h
  by_cases z:a=d
  ·subst z
   rw[hk]at e2;cases e2
   exact .inr ⟨e,v,by unfold jP;rw[if_pos rfl],ag1 rfl,e3,by simp⟩
  ·have Y:¬ C=k:=fun q=>z (G e2 (by rw[q];exact hk))
   have e5:jP d ((a,e)::l)=jP d l:=by
    conv=>lhs;unfold jP
    rw[if_neg z]
   rw[e5,af8 (show ¬(C,v).1=k from Y)]
   rcases RVD.val G hk e4 with q|⟨e',v',J,q2,q3,q4⟩
   ·exact .inl q
   ·exact .inr ⟨e',v',J,q2,q3,by simp at q4 ⊢;exact .inr q4⟩
theorem RVD.repl {φ:Nat->Addr}{H:Hp}{d e:jl}{k:κ}{v:V}(J:bx3 kf)(hk:kf d=some k)(C:RV Γ φ H e v):∀ {l:List (jl×jl)} {y:List (κ×V)},RVD kf Γ φ H l y->RVD kf Γ φ H (l.map fun p=>if p.1=d then(p.1,e)else p) (y.map fun G=>if G.1=k then(G.1,v)else G)
 | [],y,h=>by
  have h:y=[]:=h
  subst h;exact(rfl:([]:List (κ×V))=[])
 | (a,e0)::l,y,h=>by
  obtain⟨k',v0,r,rfl,e2,e3,Y⟩:=h
  rw[aL,aL]
  by_cases z:a=d
  ·subst z
   rw[hk]at e2;cases e2
   rw[if_pos rfl,if_pos rfl]
   exact⟨k,v,_,rfl,hk,C,RVD.repl J hk C Y⟩
  ·have zk:¬ k'=k:=fun q=>z (J e2 (by rw[q];exact hk))
   rw[if_neg z,if_neg zk]
   exact⟨k',v0,_,rfl,e2,e3,RVD.repl J hk C Y⟩
theorem RVD.snoc {φ:Nat->Addr}{H:Hp}{d e:jl}{k:κ}{v:V}(Y:bx3 kf)(hk:kf d=some k)(z:RV Γ φ H e v):∀ {l:List (jl×jl)} {y:List (κ×V)},RVD kf Γ φ H l y->RVD kf Γ φ H (l++[(d,e)]) (y++[(k,v)])
 | [],y,h=>by
  have h:y=[]:=h
  subst h;exact⟨k,v,[],rfl,hk,z,rfl⟩
 | (a,e0)::l,y,h=>by
  obtain⟨C,v0,r,rfl,e2,J,G⟩:=h
  exact⟨C,v0,_,rfl,e2,J,RVD.snoc Y hk z G⟩
theorem RVD.put {φ:Nat->Addr}{H:Hp}{d e:jl}{k:κ}{v:V}{l:List (jl×jl)}{y:List (κ×V)}(C:bx3 kf)(hk:kf d=some k)(G:RV Γ φ H e v)(h:RVD kf Γ φ H l y):RVD kf Γ φ H (jw d e l) (ak2 y k v):=by
 unfold jw ak2
 rw[an7]
 rcases h.val C hk with⟨z,q2⟩|⟨e',v',z,q2,_⟩
 ·rw[z,q2];exact h.snoc C hk G
 ·rw[z,q2];exact h.repl C hk G
theorem RVD.get {φ:Nat->Addr}{H:Hp}:∀ {l:List (jl×jl)} {y:List (κ×V)} {i:Nat} {d e:jl},RVD kf Γ φ H l y->l[i]?=some (d,e)->∃ k v,y[i]?=some (k,v)/\kf d=some k/\RV Γ φ H e v
 | [],_,_,_,_,_,h=>by cases h
 | (a,b)::l,y,0,d,e,h,q=>by
  obtain⟨k,v,r,rfl,e2,z,C⟩:=h
  cases q
  exact⟨k,v,rfl,e2,z⟩
 | (a,b)::l,y,i+1,d,e,h,q=>by
  obtain⟨k,v,r,rfl,e2,z,C⟩:=h
  exact RVD.get (i:=i) C (show l[i]?=some (d,e)from q)
theorem RVD.keys {φ:Nat->Addr}{H:Hp}:∀ {l:List (jl×jl)} {y:List (κ×V)},RVD kf Γ φ H l y->∀ kv∈y,∃ d,kf d=some kv.1
 | [],y,h,kv,hk=>by
  have h:y=[]:=h
  subst h;cases hk
 | (a,b)::l,y,h,kv,hk=>by
  obtain⟨k,v,r,rfl,e2,G,C⟩:=h
  rcases aC.mp hk with z|z
  ·subst z;exact⟨a,e2⟩
  ·exact RVD.keys C kv z
theorem RVD.length {φ:Nat->Addr}{H:Hp}:∀ {l:List (jl×jl)} {y:List (κ×V)},RVD kf Γ φ H l y->y.length=l.length
 | [],y,h=>by
  have h:y=[]:=h
  subst h;rfl
 | (a,e)::l,y,h=>by
  obtain⟨C,v,r,rfl,e2,G,z⟩:=h
  rw[aQ,aQ,RVD.length z]
end
theorem ay2 {n:Nat}{d e:jl}{l:List (jl×jl)}(h:(DV.O.dic l).bnd n=true)(hd:d.bnd n=true)(C:e.bnd n=true):(DV.O.dic (jw d e l)).bnd n=true:=by
 unfold jr at h ⊢
 rw[ag]at h ⊢
 obtain⟨J,G⟩:=h
 have g1:=aa4.mp J
 have z:=aa4.mp G
 unfold jw
 refine⟨aa4.mpr fun x hx=>?_,aa4.mpr fun x hx=>?_⟩
 ·obtain⟨p,y,rfl⟩:=aO.mp hx
  split at y
  ·obtain⟨q,hq,rfl⟩:=aO.mp y
   split
   ·exact g1 _ (a7 (f:=(·.1)) hq)
   ·exact g1 _ (a7 (f:=(·.1)) hq)
  ·rcases cq.mp y with q|q
   ·exact g1 _ (a7 (f:=(·.1)) q)
   ·rw[cj.mp q];exact hd
 ·obtain⟨p,y,rfl⟩:=aO.mp hx
  split at y
  ·obtain⟨q,hq,rfl⟩:=aO.mp y
   split
   ·exact C
   ·exact z _ (a7 (f:=(·.2)) hq)
  ·rcases cq.mp y with q|q
   ·exact z _ (a7 (f:=(·.2)) q)
   ·rw[cj.mp q];exact C
theorem aR8 {n:Nat}{d e:jl}{l:List (jl×jl)}(h:(DV.O.dit l).bnd n=true)(hd:d.bnd n=true)(y:e.bnd n=true):(DV.O.dit (jw d e l)).bnd n=true:=ay2 h hd y
theorem ay4 {f:jl->jl->Option Bool}{a b:jl}{l m:List jl}{z:Bool}(h:jJ f (a::l) (b::m)=some z):∃ x y,f a b=some x/\jJ f l m=some y/\z=(x&&y):=by
 unfold jJ at h
 cases e1:f a b with
 | none=>rw[e1]at h;cases h
 | some x =>
  cases e2:jJ f l m with
  | none=>rw[e1,e2]at h;cases h
  | some y=>rw[e1,e2]at h;exact⟨x,y,rfl,rfl,(ay h).symm⟩
theorem aM9 {f:jl->jl->Option Bool}:∀ {l m:List jl} {z:Bool},jJ f l m=some z->∃ e:Nat->Bool,(∀ j d d',l[j]?=some d->m[j]?=some d'->f d d'=some (e j))/\((l.length==m.length)&&(av (min l.length m.length)).all e)=z
 | [],[],z,h=>by
  unfold jJ at h
  cases h
  exact⟨fun _=>true,fun j d d' h=>by simp at h,by simp⟩
 | [],b::m,z,h=>by
  unfold jJ at h
  cases h
  exact⟨fun _=>true,fun j d d' h=>by simp at h,by simp⟩
 | a::l,[],z,h=>by
  unfold jJ at h
  cases h
  exact⟨fun _=>true,fun j d d' J G=>by simp at G,by simp⟩
 | a::l,b::m,z,h=>by
  obtain⟨x,y,e1,e2,Y⟩:=ay4 h
  obtain⟨e,J,G⟩:=aM9 e2
  refine⟨fun j=>match j with|0=>x|j+1=>e j,fun j d d' g1 C=>?_,?_⟩
  ·cases j with
   | zero=>simp at g1 C;subst g1;subst C;exact e1
   | succ j=>exact J j d d' (by simpa using g1) (by simpa using C)
  ·rw[aQ,aQ,show min (l.length+1) (m.length+1)=min l.length m.length+1 by omega,List.range_succ_eq_map,dA,List.all_map,Y,<-G]
   have:((l.length+1==m.length+1)=(l.length==m.length)):=by
    by_cases q:l.length=m.length
    ·simp[q]
    ·have:¬ l.length+1=m.length+1:=by omega
     simp[q]
   rw[this]
   show((l.length==m.length)&&(x&&(av _).all e))=_
   cases x<;>cases(l.length==m.length)<;>simp
section
variable {X:Cx} {pins:List (Addr×Obj)} {σ:St} {H:Hp} {sh:ac} {φ:Nat->Addr} {s:jk}
theorem ag7 (I:Inv X pins σ H sh){a:Addr}{y ys:List V}(h:H a=some (.lst y))(h':SqT X.K H a ys):False:=by
 rcases h' with(z|⟨o,z⟩)|⟨o,its,n,hk,_⟩
 ·rw[h]at z;cases z
 ·rw[h]at z;cases z
 ·have:=(I.bs a o (I.mod.kin a o hk)).2
  rw[h]at this;cases this
theorem rv_two (I:Inv X pins σ H sh)(hK:X.K=Γ.K)(R:Rp Γ φ H s){a b:jl}{x:V}(G:RV Γ φ H a x)(y:RV Γ φ H b x)(n1:jI s a≠9)(z:jI s b≠9):a=b\/∃ l m p J,a=.tup l/\b=.tup m/\x=.ref p/\RVL Γ φ H l J/\RVL Γ φ H m J:=by
 have C:∀ {r:Nat},jI s (.ref r)≠9->∃ l,s[r]?=some (.lst l):=fun {r} h=>by
  have h:(match s[r]? with|some (DV.O.lst l)=>4|_=>9:Nat)≠9:=h
  cases hs:s[r]? with
  | none=>rw[hs]at h;exact absurd rfl h
  | some o =>
   rw[hs]at h
   cases o with
   | lst l=>exact⟨l,rfl⟩
   | _=>exact absurd rfl h
 cases a with
 | non=>have e:=G.nonE;subst e;cases b with
  | non=>exact .inl rfl
  | bl _=>cases y.blE
  | int _=>cases y.intE
  | str _=>cases y.strE
  | tup _=>obtain⟨_,_,e,_⟩:=y.tupE;cases e
  | ref _=>cases y.refE
  | fn _=>exact absurd rfl z
  | clo _ _=>exact absurd rfl z
 | bl p=>have e:=G.blE;subst e;cases b with
  | non=>cases y.nonE
  | bl _=>cases y.blE;exact .inl rfl
  | int _=>cases y.intE
  | str _=>cases y.strE
  | tup _=>obtain⟨_,_,e,_⟩:=y.tupE;cases e
  | ref _=>cases y.refE
  | fn _=>exact absurd rfl z
  | clo _ _=>exact absurd rfl z
 | int p=>have e:=G.intE;subst e;cases b with
  | non=>cases y.nonE
  | bl _=>cases y.blE
  | int _=>cases y.intE;exact .inl rfl
  | str _=>cases y.strE
  | tup _=>obtain⟨_,_,e,_⟩:=y.tupE;cases e
  | ref _=>cases y.refE
  | fn _=>exact absurd rfl z
  | clo _ _=>exact absurd rfl z
 | str p=>have e:=G.strE;subst e;cases b with
  | non=>cases y.nonE
  | bl _=>cases y.blE
  | int _=>cases y.intE
  | str q =>
   have e':p.toArray=q.toArray:=Str.mk.inj (V.str.inj y.strE)
   have a0:p=q:=by simpa using congrArg gN e'
   subst a0;exact .inl rfl
  | tup _=>obtain⟨_,_,e,_⟩:=y.tupE;cases e
  | ref _=>cases y.refE
  | fn _=>exact absurd rfl z
  | clo _ _=>exact absurd rfl z
 | tup l =>
  obtain⟨p,J,e,Y,d1⟩:=G.tupE;subst e;cases b with
  | non=>cases y.nonE
  | bl _=>cases y.blE
  | int _=>cases y.intE
  | str _=>cases y.strE
  | tup m =>
   obtain⟨p',ys,e,q2,d2⟩:=y.tupE
   cases e
   rw[<-hK]at Y q2
   rw[I.tuple_inj q2 Y]at d2
   exact .inr ⟨l,m,p,J,rfl,rfl,rfl,d1,d2⟩
  | ref r =>
   cases y.refE
   obtain⟨m,hm⟩:=C z
   obtain⟨ys,hy,_⟩:=R.addr hm
   rw[<-hK]at Y
   exact(ag7 I hy Y).elim
  | fn _=>exact absurd rfl z
  | clo _ _=>exact absurd rfl z
 | ref r =>
  have e:=G.refE;subst e
  obtain⟨l,hl⟩:=C n1
  obtain⟨J,hx,_⟩:=R.addr hl
  cases b with
  | non=>cases y.nonE
  | bl _=>cases y.blE
  | int _=>cases y.intE
  | str _=>cases y.strE
  | tup m =>
   obtain⟨p',ys,e,q2,d2⟩:=y.tupE
   cases e
   rw[<-hK]at q2
   exact(ag7 I hx q2).elim
  | ref r' =>
   obtain⟨m,hm⟩:=C z
   have e:φ r=φ r':=V.ref.inj y.refE
   rw[R.inj r r' _ _ hl hm rfl rfl e]
   exact .inl rfl
  | fn _=>exact absurd rfl z
  | clo _ _=>exact absurd rfl z
 | fn _=>exact absurd rfl n1
 | clo _ _=>exact absurd rfl n1
theorem qz {a b:jl}{z:Bool}(h:jY s a b=some z):kj a b=some z\/(kj a b=none/\jZ (jI s a) (jI s b)=false/\z=false):=by
 unfold jY at h
 cases e:kj a b with
 | some w=>rw[e]at h;exact .inl h
 | none =>
  rw[e]at h
  cases q:jZ (jI s a) (jI s b)with
  | true=>rw[q]at h;cases h
  | false=>rw[q]at h;exact .inr ⟨rfl,rfl,(ay h).symm⟩
theorem aS4 {a b:jl}{z:Bool}(h:kj a b=some z):jI s a≠9/\jI s b≠9:=by
 cases a<;>cases b<;>first|(cases h;done)|(constructor<;>(intro z;cases z))
theorem ar2 {a b:jl}{z:Bool}(h:jY s a b=some z):jI s a≠9/\jI s b≠9:=by
 rcases qz h with h|⟨_,h,_⟩
 ·exact aS4 h
 ·unfold jZ at h
  simp only[dF,beq_eq_false_iff_ne]at h
  exact⟨h.1.1,h.1.2⟩
theorem au7 {a:jl}{z:Bool}(h:jY s a a=some z):z=true:=by
 rcases qz h with h|⟨_,h,_⟩
 ·cases a<;>cases h<;>first|rfl|exact beq_self_eq_true _
 ·unfold jZ at h;simp at h
theorem az9 (I:Inv X pins σ H sh)(hK:X.K=Γ.K)(R:Rp Γ φ H s):∀(n:Nat) (a b:jl) (x:V) (z:Bool),jE s n a b=some z->RV Γ φ H a x->RV Γ φ H b x->z=true:=by
 have G:∀(a b:jl) (x:V) (z:Bool),jY s a b=some z->RV Γ φ H a x->RV Γ φ H b x->z=true:=by
  intro a b x z h C y
  rcases rv_two I hK R C y (ar2 h).1 (ar2 h).2 with e|⟨l,m,_,_,rfl,rfl,_⟩
  ·subst e;exact au7 h
  ·rcases qz h with h|⟨_,h,_⟩
   ·cases h
   ·unfold jZ at h;simp[jI]at h
 intro n
 induction n with
 | zero=>intro a b x z h;unfold jE at h;exact G a b x z h
 | succ n ih =>
  have Y:∀(l m:List jl) (J:List V) (z:Bool),jJ (jE s n) l m=some z->RVL Γ φ H l J->RVL Γ φ H m J->z=true:=by
   intro l
   induction l with
   | nil =>
    intro m J z h C y
    cases m with
    | nil=>unfold jJ at h;exact(ay h).symm
    | cons b m=>obtain⟨x,r,e,_⟩:=y.uncons;rw[C.unnil]at e;cases e
   | cons a l ihl =>
    intro m J z h C y
    cases m with
    | nil=>obtain⟨x,r,e,_⟩:=C.uncons;rw[y.unnil]at e;cases e
    | cons b m =>
     obtain⟨p,q,e1,e2,ez⟩:=ay4 h
     obtain⟨v,r,rfl,g1,g2⟩:=C.uncons
     obtain⟨v',r',e,g3,g4⟩:=y.uncons
     cases e
     rw[ez,ih a b v p e1 g1 g3,ihl m r q e2 g2 g4];rfl
  intro a b x z h C y
  unfold jE at h
  split at h
  ·rename_i l m
   obtain⟨a,J,rfl,q1,d1⟩:=C.tupE
   obtain⟨b,ys,e,q2,d2⟩:=y.tupE
   cases e
   rw[<-hK]at q1 q2
   rw[I.tuple_inj q2 q1]at d2
   exact Y l m J z h d1 d2
  ·rename_i p q
   split at h
   ·rename_i l m hl hm
    obtain⟨J,e1,d1⟩:=R.addr hl
    obtain⟨ys,e2,d2⟩:=R.addr hm
    have e:=C.refE.symm.trans y.refE
    have e':φ p=φ q:=V.ref.inj e
    rw[e',e2]at e1
    have e3:ys=J:=by injection (ay e1)
    subst e3
    split at h
    ·exact Y l m ys z h d1 d2
    ·rename_i a0;exact absurd (d1.length.symm.trans d2.length) a0
   ·cases h
  ·exact G a b x z h C y
end
variable {Γ:Gm}
inductive Vw (sh:ac):Nat->Value->Prop where
 | non:Vw sh 0 .none
 | bl (b:Bool):Vw sh 1 (.bool b)
 | int (i:Int) (t:Tok):Vw sh 1 (.int i t)
 | str (x:Str) (t:Tok):Vw sh 2 (.str x t)
 | tup {l:Addr} {items:Array Value} (h:sh.heap.IsTuple l items):Vw sh 3 (.ref l)
 | lst {l:Addr} {items:Array Value} (h:sh.heap.IsList l items):Vw sh 4 (.ref l)
theorem Vw.eq {A:aP}{sh:ac}{k C:Nat}{u v:Value}(a:Vw sh k u)(b:Vw sh C v)(z:k≠C)(y:A.units<cLine):gJ A sh u v false:=by
 cases a with
 | non=>cases b with
  | non=>exact absurd rfl z
  | bl b=>exact SeqAt.EqAt.none_bool b
  | int i t=>exact SeqAt.EqAt.none_int i t
  | str x t=>exact SeqAt.EqAt.none_str x t
  | tup h=>exact SeqAt.EqAt.none_tuple h y
  | lst h=>exact SeqAt.EqAt.none_list h y
 | bl a=>cases b with
  | non=>exact SeqAt.EqAt.bool_none a
  | bl b=>exact absurd rfl z
  | int i t=>exact absurd rfl z
  | str x t=>exact SeqAt.EqAt.bool_str a x t
  | tup h=>exact SeqAt.EqAt.bool_tuple a h y
  | lst h=>exact SeqAt.EqAt.bool_list a h y
 | int a q=>cases b with
  | non=>exact SeqAt.EqAt.int_none a q
  | bl b=>exact absurd rfl z
  | int i t=>exact absurd rfl z
  | str x t=>exact gv a q x t
  | tup h=>exact SeqAt.EqAt.int_tuple a q h y
  | lst h=>exact SeqAt.EqAt.int_list a q h y
 | str a q=>cases b with
  | non=>exact SeqAt.EqAt.str_none a q
  | bl b=>exact SeqAt.EqAt.str_bool a q b
  | int i t=>exact gx a q i t
  | str x t=>exact absurd rfl z
  | tup h=>exact SeqAt.EqAt.str_tuple a q h y
  | lst h=>exact SeqAt.EqAt.str_list a q h y
 | tup g=>cases b with
  | non=>exact SeqAt.EqAt.tuple_none g y
  | bl b=>exact SeqAt.EqAt.tuple_bool b g y
  | int i t=>exact SeqAt.EqAt.tuple_int i t g y
  | str x t=>exact SeqAt.EqAt.tuple_str x t g y
  | tup h=>exact absurd rfl z
  | lst h=>exact SeqAt.EqAt.tuple_list g h y
 | lst g=>cases b with
  | non=>exact SeqAt.EqAt.list_none g y
  | bl b=>exact SeqAt.EqAt.list_bool b g y
  | int i t=>exact SeqAt.EqAt.list_int i t g y
  | str x t=>exact SeqAt.EqAt.list_str x t g y
  | tup h=>exact SeqAt.EqAt.list_tuple g h y
  | lst h=>exact absurd rfl z
theorem Vw.rc {A:aP}{sh:ac}{k C:Nat}{u v:Value}(a:Vw sh k u)(b:Vw sh C v)(z:k≠C)(y:A.units<cLine):jj A sh u v false:=by
 cases a with
 | non=>cases b with
  | non=>exact absurd rfl z
  | bl b=>exact SeqAt.RcAt.none_bool b
  | int i t=>exact SeqAt.RcAt.none_int i t
  | str x t=>exact SeqAt.RcAt.none_str x t
  | tup h=>exact SeqAt.RcAt.none_tuple h y
  | lst h=>exact SeqAt.RcAt.none_list h y
 | bl a=>cases b with
  | non=>exact SeqAt.RcAt.bool_none a
  | bl b=>exact absurd rfl z
  | int i t=>exact absurd rfl z
  | str x t=>exact SeqAt.RcAt.bool_str a x t
  | tup h=>exact SeqAt.RcAt.bool_tuple a h y
  | lst h=>exact SeqAt.RcAt.bool_list a h y
 | int a q=>cases b with
  | non=>exact SeqAt.RcAt.int_none a q
  | bl b=>exact absurd rfl z
  | int i t=>exact absurd rfl z
  | str x t=>exact SeqAt.RcAt.int_str a q x t
  | tup h=>exact SeqAt.RcAt.int_tuple a q h y
  | lst h=>exact SeqAt.RcAt.int_list a q h y
 | str a q=>cases b with
  | non=>exact SeqAt.RcAt.str_none a q
  | bl b=>exact SeqAt.RcAt.str_bool a q b
  | int i t=>exact SeqAt.RcAt.str_int a q i t
  | str x t=>exact absurd rfl z
  | tup h=>exact SeqAt.RcAt.str_tuple a q h y
  | lst h=>exact SeqAt.RcAt.str_list a q h y
 | tup g=>cases b with
  | non=>exact SeqAt.RcAt.tuple_none g y
  | bl b=>exact SeqAt.RcAt.tuple_bool b g y
  | int i t=>exact SeqAt.RcAt.tuple_int i t g y
  | str x t=>exact SeqAt.RcAt.tuple_str x t g y
  | tup h=>exact absurd rfl z
  | lst h=>exact SeqAt.RcAt.tuple_list g h y
 | lst g=>cases b with
  | non=>exact SeqAt.RcAt.list_none g y
  | bl b=>exact SeqAt.RcAt.list_bool b g y
  | int i t=>exact SeqAt.RcAt.list_int i t g y
  | str x t=>exact SeqAt.RcAt.list_str x t g y
  | tup h=>exact SeqAt.RcAt.list_tuple g h y
  | lst h=>exact absurd rfl z
theorem Vw.ne {A:aP}{sh:ac}{k C:Nat}{u v:Value}(a:Vw sh k u)(b:Vw sh C v)(z:k≠C)(y:A.units<cLine):i4 A sh u v true:=by
 cases a with
 | non=>cases b with
  | non=>exact absurd rfl z
  | bl b=>exact SeqAt.RcNeAt.none_bool b
  | int i t=>exact SeqAt.RcNeAt.none_int i t
  | str x t=>exact SeqAt.RcNeAt.none_str x t
  | tup h=>exact SeqAt.RcNeAt.none_tuple h y
  | lst h=>exact SeqAt.RcNeAt.none_list h y
 | bl a=>cases b with
  | non=>exact SeqAt.RcNeAt.bool_none a
  | bl b=>exact absurd rfl z
  | int i t=>exact absurd rfl z
  | str x t=>exact SeqAt.RcNeAt.bool_str a x t
  | tup h=>exact SeqAt.RcNeAt.bool_tuple a h y
  | lst h=>exact SeqAt.RcNeAt.bool_list a h y
 | int a q=>cases b with
  | non=>exact SeqAt.RcNeAt.int_none a q
  | bl b=>exact absurd rfl z
  | int i t=>exact absurd rfl z
  | str x t=>exact SeqAt.RcNeAt.int_str a q x t
  | tup h=>exact SeqAt.RcNeAt.int_tuple a q h y
  | lst h=>exact SeqAt.RcNeAt.int_list a q h y
 | str a q=>cases b with
  | non=>exact SeqAt.RcNeAt.str_none a q
  | bl b=>exact SeqAt.RcNeAt.str_bool a q b
  | int i t=>exact SeqAt.RcNeAt.str_int a q i t
  | str x t=>exact absurd rfl z
  | tup h=>exact SeqAt.RcNeAt.str_tuple a q h y
  | lst h=>exact SeqAt.RcNeAt.str_list a q h y
 | tup g=>cases b with
  | non=>exact SeqAt.RcNeAt.tuple_none g y
  | bl b=>exact SeqAt.RcNeAt.tuple_bool b g y
  | int i t=>exact SeqAt.RcNeAt.tuple_int i t g y
  | str x t=>exact SeqAt.RcNeAt.tuple_str x t g y
  | tup h=>exact absurd rfl z
  | lst h=>exact SeqAt.RcNeAt.tuple_list g h y
 | lst g=>cases b with
  | non=>exact SeqAt.RcNeAt.list_none g y
  | bl b=>exact SeqAt.RcNeAt.list_bool b g y
  | int i t=>exact SeqAt.RcNeAt.list_int i t g y
  | str x t=>exact SeqAt.RcNeAt.list_str x t g y
  | tup h=>exact SeqAt.RcNeAt.list_tuple g h y
  | lst h=>exact absurd rfl z
theorem bs5 (a b:List Nat):((⟨a.toArray⟩:Str)==⟨b.toArray⟩)=(a==b):=by
 by_cases e:a=b
 ·subst e;simp
 ·have:(⟨a.toArray⟩:Str)≠⟨b.toArray⟩:=fun q=>e (by simpa using congrArg (fun z=>z.cps.toList) q)
  rw[beq_eq_false_iff_ne.mpr this,beq_eq_false_iff_ne.mpr e]
structure Cmp (A:aP)(sh:ac)(u v:Value)(z:Bool):Prop where
 rc:jj A sh u v z
 ne:i4 A sh u v (!z)
section
variable {X:Cx} {pins:List (Addr×Obj)} {σ:St} {H:Hp} {sh:ac} {φ:Nat->Addr} {s:jk}
theorem bs4 (I:Inv X pins σ H sh)(C:X.K=Γ.K)(R:Rp Γ φ H s){d:jl}{x:V}{u:Value}(h:RV Γ φ H d x)(r:RelV x u)(hk:jI s d≠9):Vw sh (jI s d) u:=by
 cases d with
 | non=>have e:=h.nonE;subst e;cases r;exact .non
 | bl b=>have e:=h.blE;subst e;cases r;exact .bl b
 | int i=>have e:=h.intE;subst e;obtain⟨t,rfl⟩:=r;exact .int i t
 | str y=>have e:=h.strE;subst e;obtain⟨t,rfl⟩:=r;exact .str _ t
 | tup l =>
  obtain⟨a,z,e,q,_⟩:=h.tupE
  subst e;cases r
  rw[<-C]at q
  obtain⟨its,_,t,_⟩:=I.tuple q
  exact .tup t
 | ref n =>
  have e:=h.refE;subst e;cases r
  have hk:(match s[n]? with|some (DV.O.lst l)=>4|_=>9:Nat)≠9:=hk
  show Vw sh (match s[n]? with|some (DV.O.lst l)=>4|_=>9:Nat) _
  cases hs:s[n]? with
  | none=>rw[hs]at hk;exact absurd rfl hk
  | some o =>
   rw[hs]at hk
   cases o with
   | lst l =>
    obtain⟨z,e,_⟩:=R.addr hs
    obtain⟨its,_,t,_⟩:=I.list (SqL.of e)
    exact .lst t.isList
   | _=>exact absurd rfl hk
 | fn _=>exact absurd rfl hk
 | clo _ _=>exact absurd rfl hk
theorem as3 (I:Inv X pins σ H sh)(hK:X.K=Γ.K)(R:Rp Γ φ H s){a b:jl}{x y:V}{u v:Value}{A:aP}{z:Bool}(h:jY s a b=some z)(G:RV Γ φ H a x)(C:RV Γ φ H b y)(r1:RelV x u)(J:RelV y v)(hu:A.units<cLine) :
  gJ A sh u v z/\Cmp A sh u v z:=by
 rcases qz h with h|⟨_,hn,hz⟩
 ·cases a<;>cases b<;>try cases h
  ·cases G.nonE;cases C.nonE;cases r1;cases J
   exact⟨fC _,SeqAt.RcAt.none_none,SeqAt.RcNeAt.none_none⟩
  ·cases G.blE;cases C.blE;cases r1;cases J
   exact⟨SeqAt.EqAt.bool_bool _ _,SeqAt.RcAt.bool_bool _ _,SeqAt.RcNeAt.bool_bool _ _⟩
  ·cases G.blE;cases C.intE;cases r1;obtain⟨t',rfl⟩:=J
   exact⟨SeqAt.EqAt.bool_int _ _ _,SeqAt.RcAt.bool_int _ _ _,SeqAt.RcNeAt.bool_int _ _ _⟩
  ·cases G.intE;cases C.blE;obtain⟨t,rfl⟩:=r1;cases J
   exact⟨SeqAt.EqAt.int_bool _ _ _,SeqAt.RcAt.int_bool _ _ _,SeqAt.RcNeAt.int_bool _ _ _⟩
  ·cases G.intE;cases C.intE;obtain⟨t,rfl⟩:=r1;obtain⟨t',rfl⟩:=J
   exact⟨SeqAt.EqAt.int_int _ _ _ _,SeqAt.RcAt.int_int _ _ _ _,SeqAt.RcNeAt.int_int _ _ _ _⟩
  ·cases G.strE;cases C.strE;obtain⟨t,rfl⟩:=r1;obtain⟨t',rfl⟩:=J
   rw[<-bs5]
   exact⟨SeqAt.EqAt.str_str _ _ _ _,SeqAt.RcAt.str_str _ _ _ _,SeqAt.RcNeAt.str_str _ _ _ _⟩
 ·subst hz
  unfold jZ at hn
  simp only[dF,beq_eq_false_iff_ne]at hn
  have Y:=bs4 I hK R G r1 hn.1.1
  have w2:=bs4 I hK R C J hn.1.2
  exact⟨Y.eq w2 hn.2 hu,Y.rc w2 hn.2 hu,Y.ne w2 hn.2 hu⟩
theorem aZ5 (I:Inv X pins σ H sh)(hK:X.K=Γ.K)(R:Rp Γ φ H s):∀(n:Nat) (a b:jl) (x y:V) (u v:Value) (A:aP) (z:Bool),jE s n a b=some z->RV Γ φ H a x->RV Γ φ H b y->RelV x u->RelV y v->Room n A ->
  gJ A sh u v z/\Cmp A sh u v z:=by
 intro n
 induction n with
 | zero=>intro a b x y u v A z h h1 h2 r1 r2 G;unfold jE at h;exact as3 I hK R h h1 h2 r1 r2 G.units0
 | succ n ih =>
  have C:∀ {l m:List jl} {xs ys:List V} {its its':List Value} {A:aP} {e:Nat->Bool},RVL Γ φ H l xs->RVL Γ φ H m ys->Vals xs its->Vals ys its'->Room n A->(∀ j d d',l[j]?=some d->m[j]?=some d'->jE s n d d'=some (e j)) ->
    ∀ j (h1:j<its.toArray.size) (h2:j<its'.toArray.size),gJ A sh its.toArray[j] its'.toArray[j] (e j):=by
   intro l m xs ys its its' A e d1 d2 v1 v2 G he j h1 h2
   have l1:=v1.length
   have l2:=v2.length
   have e1:=d1.length
   have e2:=d2.length
   have a2:j<its.length:=by simpa using h1
   have a4:j<its'.length:=by simpa using h2
   have hj:j<l.length:=by omega
   have a1:j<m.length:=by omega
   obtain⟨x,ex,dx⟩:=d1.get (aj hj)
   obtain⟨y,ey,dy⟩:=d2.get (aj a1)
   obtain⟨u,eu,ru⟩:=v1.get ex
   obtain⟨w,ew,a3⟩:=v2.get ey
   have g1:its.toArray[j]=u:=by
    have:=aj a2
    rw[eu]at this
    simpa using(ay this).symm
   have g2:its'.toArray[j]=w:=by
    have:=aj a4
    rw[ew]at this
    simpa using(ay this).symm
   rw[g1,g2]
   exact(ih _ _ x y u w A (e j) (he j _ _ (aj hj) (aj a1)) dx dy ru a3 G).1
  intro a b x y u v A z h h1 h2 r1 r2 G
  have hz:=h
  unfold jE at h
  split at h
  ·rename_i l m
   obtain⟨p,xs,ex,q1,d1⟩:=id h1.tupE
   obtain⟨q,ys,ey,q2,d2⟩:=id h2.tupE
   subst ex;subst ey
   cases r1;cases r2
   rw[<-hK]at q1 q2
   obtain⟨its,v1,t1,_⟩:=I.tuple q1
   obtain⟨its',v2,t2,_⟩:=I.tuple q2
   obtain⟨e,he,Y⟩:=aM9 h
   have l1:=v1.length
   have l2:=v2.length
   have e1:=d1.length
   have e2:=d2.length
   have sz:((av (min its.toArray.size its'.toArray.size)).all e&&its.toArray.size==its'.toArray.size)=z:=by
    rw[<-Y,Bool.and_comm,show its.toArray.size=l.length by simp;omega,show its'.toArray.size=m.length by simp;omega]
   have key:=SeqAt.RcAt.tuples (A:=A) (s:=sh) (e:=e) t1 t2 G.units0 (C d1 d2 v1 v2 G.in1 he)
   have J:=SeqAt.RcNeAt.tuples (A:=A) (s:=sh) (e:=e) t1 t2 G.units0 (C d1 d2 v1 v2 G.in1 he)
   rw[sz]at key J
   refine⟨?_,key,J⟩
   by_cases hab:p=q
   ·subst hab
    rw[az9 I hK R _ _ _ _ _ hz h1 h2]
    exact fC _
   ·exact gK hab key
  ·rename_i p q
   split at h
   ·rename_i l m hl hm
    obtain⟨xs,e1,d1⟩:=R.addr hl
    obtain⟨ys,e2,d2⟩:=R.addr hm
    have ex:=h1.refE
    have ey:=h2.refE
    subst ex;subst ey
    cases r1;cases r2
    obtain⟨its,v1,t1,_⟩:=I.list (SqL.of e1)
    obtain⟨its',v2,t2,_⟩:=I.list (SqL.of e2)
    have l1:=v1.length
    have l2:=v2.length
    have c1:=d1.length
    have c2:=d2.length
    have fin:Cmp A sh (.ref (φ p)) (.ref (φ q)) z:=by
     split at h
     ·rename_i a0
      obtain⟨e,he,Y⟩:=aM9 h
      have sz:(av its.toArray.size).all e=z:=by
       rw[<-Y,show its.toArray.size=l.length by simp;omega,a0]
       simp
      have key:=SeqAt.RcAt.lists (A:=A) (s:=sh) (e:=e) t1.isList t2.isList (by simp;omega) G.units0 (C d1 d2 v1 v2 G.in1 he)
      have J:=SeqAt.RcNeAt.lists (A:=A) (s:=sh) (e:=e) t1.isList t2.isList (by simp;omega) G.units0 (C d1 d2 v1 v2 G.in1 he)
      rw[sz]at key J
      exact⟨key,J⟩
     ·rename_i a0
      cases h
      have hs:(its.toArray.size != its'.toArray.size)=true:=by simp;omega
      exact⟨SeqAt.RcAt.lists_lengths t1.isList t2.isList hs G.units0,SeqAt.RcNeAt.lists_lengths t1.isList t2.isList hs G.units0⟩
    refine⟨?_,fin⟩
    by_cases hab:φ p=φ q
    ·rw[az9 I hK R _ _ _ _ _ hz RV.refI (by rw[hab];exact RV.refI),hab]
     exact fC _
    ·exact gK hab fin.rc
   ·cases h
  ·exact as3 I hK R h h1 h2 r1 r2 G.units0
end
variable {Γ:Gm} {X:Cx}
noncomputable def bI7:kt->Operator
 | .add=>.Add|.sub=>.Sub|.mul=>.Mult|.fdiv=>.FloorDiv|.mod=>.Mod|.pow=>.Pow|.shl=>.LShift|.shr=>.RShift|.band=>.BitAnd|.bor=>.BitOr
noncomputable def bo8:km->CmpOp
 | .eq=>.Eq|.ne=>.NotEq|.lt=>.Lt|.le=>.LtE|.gt=>.Gt|.ge=>.GtE|.isin=>.In|.notin=>.NotIn
def rOp (Γ:Gm)(f:jl->jl->jk->jo jl):R2:=fun x y H Q=>∃ φ s a b d s',Rp Γ φ H s/\RV Γ φ H a x/\RV Γ φ H b y/\a.bnd s.length=true/\b.bnd s.length=true/\f a b s=.ok d s'/\ac6 Γ φ s H d s' Q
theorem zJ {d e:jl}{s t:jk}(h:kn d s=.ok e t):d=e/\s=t:=by
 unfold kn at h
 cases h
 exact⟨rfl,rfl⟩
theorem zP {o:jD}{e:jl}{s t:jk}(h:jQ o s=.ok e t):e=.ref s.length/\t=s++[o]:=by
 unfold jQ at h
 cases h
 exact⟨rfl,rfl⟩
theorem bq3 (a b:List Nat):(⟨a.toArray⟩:Str)++⟨b.toArray⟩=⟨(a++b).toArray⟩:=by
 show Str.append _ _=_
 unfold Str.append
 simp
theorem qf:js<=aA:=by rw[cY];decide
theorem bp8:OpR X (bI .Mult) (rI (fun i j=>DV.mulOk i j=true) fun i j=>.int (i*j)):=opI fun i j _ _ _ _ _ hc q=>mul_int q (by
 unfold DV.mulOk at hc
 simp only[bF,ag,decide_eq_true_eq]at hc
 rcases hc with(h|h)|⟨y,z⟩
 ·exact bF3.ok (.inl (by omega))
 ·exact bF3.ok (.inr (by omega))
 ·unfold DV.BIG at y z
  exact IntMulOk.of_le (m:=60000) (n:=60000) (intBits_le_iff.mpr y) (intBits_le_iff.mpr z) (by decide))
theorem aA8 (l:List Nat):∀(n:Nat) (h:Array Nat),(ax n l.toArray).foldl (·++·) h=h++(jx n l).toArray
 | 0,h=>by simp[jx]
 | n+1,h=>by
  rw[bu,cu,aA8 l n]
  simp[jx,gy]
theorem bk6 (l:List Nat):jx 1 l=l:=by simp[jx]
theorem aP9:∀ n,jx n []=[]
 | 0=>rfl
 | n+1=>by simp[jx,aP9 n]
theorem rep_len (l:List Nat):∀ n,(jx n l).length=l.length*n
 | 0=>by simp[jx]
 | n+1=>by simp[jx,rep_len l n,fZ];omega
theorem bm6:OpR X (bI .Mult) (fun x y H Q=>∃(l:List Nat) (n:Int),x=.str ⟨l.toArray⟩/\y=.int n/\(0<=n/\n<=1000000/\l.length*n.toNat<=js)/\Q (.str ⟨(jx n.toNat l).toArray⟩) H):=by
 intro G s σ H x y v u Q I rx ry h
 obtain⟨l,n,rfl,rfl,⟨h0,h1,J⟩,q⟩:=h
 obtain⟨t,rfl⟩:=rx
 obtain⟨t',rfl⟩:=ry
 have z:(⟨l.toArray⟩:Str).length=l.length:=by show l.toArray.size=_;simp
 have hL:=qf
 have Y:=ah5
 refine SB.mul ⟨?_,fun hn _=>?_,fun hn _=>?_⟩ fun t2 k=>?_
 ·rw[decide_eq_false (by omega),decide_eq_false (by omega)];rfl
 ·rw[z]
  have C:1<=n:=by omega
  intro a0
  have h3:(l.length:Int)*n<=1000000:=by
   have:((l.length*n.toNat:Nat):Int)<=(js:Nat):=Int.ofNat_le.mpr J
   rw[ii,dL h0]at this
   have e:((js:Nat):Int)=1000000:=by unfold js;rfl
   omega
  have h4:(l.length:Int)<=1000000:=by
   have:(l.length:Int)*1<=(l.length:Int)*n:=dG C (by omega)
   omega
  have h5:(1000000:Int)<=(2^63 - 1) / n:=by
   rw[Int.le_ediv_iff_mul_le (by omega)]
   have:(1000000:Int)*n<=1000000*1000000:=dG h1 (by omega)
   omega
  omega
 ·rw[z]
  unfold iP
  exact decide_eq_false (by omega)
 ·have e:Txt.mul ⟨l.toArray⟩ n=⟨(jx n.toNat l).toArray⟩:=by
   unfold Txt.mul
   split
   ·have:n.toNat=0:=by omega
    rw[this];rfl
   ·split
    ·rename_i hc
     rw[bF]at hc
     rcases hc with hc|hc
     ·have:n=1:=by simpa using hc
      subst this
      show(⟨l.toArray⟩:Str)=⟨(jx 1 l).toArray⟩
      rw[bk6]
     ·have:l=[]:=by
       have:=eq_of_beq hc
       rw[z]at this
       exact c4.mp this
      subst this
      rw[aP9]
    ·show(⟨(ax n.toNat l.toArray).foldl (·++·) #[]⟩:Str)=_
     rw[aA8];simp
  rw[e]
  exact⟨.str _,H,I.tok _,⟨_,rfl⟩,q⟩
theorem ah6 {n:Nat}{l:List jl}(h:jm n l=true):∀ k,jm n (jN k l)=true
 | 0=>rfl
 | k+1=>zI h (ah6 h k)
theorem RVL.repD {φ:Nat->Addr}{H:Hp}{l:List jl}{y:List V}(h:RVL Γ φ H l y):∀ k,RVL Γ φ H (jN k l) (aj7 k y)
 | 0=>RVL.nil
 | k+1=>h.append (RVL.repD h k)
theorem aq3 {α:Type}(h:List α):∀ k,aj7 k h=(ax k h).flatten
 | 0=>rfl
 | k+1=>by rw[bu,cE,<-aq3 h k];rfl
theorem bz4 (hK:X.K=Γ.K)(op:kt):OpR X (bI (bI7 op)) (rOp Γ (DV.qo op)):=by
 intro G s σ H x y v u Q I Y ry h
 obtain⟨φ,st,a,b,d,a0,R,ha,hb,na,nb,C,q⟩:=h
 cases op with
 | add =>
  cases a with
  | int a =>
   cases b with
   | int b =>
    change(kn _) st=_ at C
    obtain⟨rfl,rfl⟩:=zJ C
    have ex:=ha.intE;have J:=hb.intE;subst ex;subst J
    exact bz5 G s σ H _ _ v u Q I Y ry ⟨_,_,rfl,rfl,q.here R rfl RV.intI⟩
   | _=>exact fb C
  | str a =>
   cases b with
   | str b =>
    change(if _ then _ else _:j0 jl) st=_ at C
    split at C
    ·rename_i hl
     obtain⟨rfl,rfl⟩:=zJ C
     have ex:=ha.strE;have J:=hb.strE;subst ex;subst J
     refine aF0 G s σ H _ _ v u Q I Y ry ⟨_,_,rfl,rfl,?_,?_⟩
     ·show a.toArray.size+b.toArray.size<=_
      simp only[ar]
      exact am hl qf
     ·rw[bq3];exact q.here R rfl (RV.strI (by rw[aR];exact hl))
    ·exact fb C
   | _=>exact fb C
  | tup a =>
   cases b with
   | tup b =>
    change(if _ then _ else _:j0 jl) st=_ at C
    split at C
    ·rename_i hl
     obtain⟨rfl,rfl⟩:=zJ C
     obtain⟨p,xs,⟨rfl,z1⟩,h1,d1⟩:=ha.tupZ
     obtain⟨p',ys,⟨rfl,z2⟩,h2,d2⟩:=hb.tupZ
     refine bi6 hK G s σ H _ _ v u Q I Y ry ⟨p,p',xs,ys,rfl,rfl,h1,h2,?_,fun t H' e ht hn=>?_⟩
     ·rw[d1.length,d2.length];exact am hl qf
     ·obtain⟨g,r'⟩:=R.same e
      unfold jq at na nb
      refine q _ _ _ g (ai _) (by unfold jq;exact zI na nb) (RV.tupC ht (fun z=>?_) ((RVL.mono g _ _ na d1).append (RVL.mono g _ _ nb d2))) r'
      rcases hn with hn|⟨rfl,rfl⟩|⟨rfl,rfl⟩
      ·exact hn
      ·rw[d2.tonil,bh]at z;rw[bh];exact e _ _ (z1 z)
      ·rw[d1.tonil]at z;exact e _ _ (z2 z)
    ·exact fb C
   | _=>exact fb C
  | ref a =>
   cases b with
   | ref b =>
    change(match st[a]?,st[b]? with|some (DV.O.lst l),some (DV.O.lst m)=>if l.length+m.length<=js then jQ (.lst (l++m)) st else .bad|_,_=>.bad:jo jl)=_ at C
    split at C
    ·rename_i l m h1 h2
     split at C
     ·rename_i hl
      obtain⟨rfl,rfl⟩:=zP C
      obtain⟨xs,e1,d1⟩:=R.addr h1
      obtain⟨ys,e2,d2⟩:=R.addr h2
      have ex:=ha.refE;have J:=hb.refE;subst ex;subst J
      have b1:=R.wf _ _ h1
      have b2:=R.wf _ _ h2
      unfold jr at b1 b2
      refine bs8 G s σ H _ _ v u Q I Y ry ⟨φ a,φ b,xs,ys,rfl,rfl,e1,e2,?_,fun p hp=>?_⟩
      ·rw[d1.length,d2.length];exact am hl qf
      ·exact q.alloc R (d1.append d2) (zI b1 b2) hp
     ·exact fb C
    ·exact fb C
   | _=>exact fb C
  | _=>exact fb C
 | sub =>
  cases a with
  | int a =>
   cases b with
   | int b =>
    change(kn _) st=_ at C
    obtain⟨rfl,rfl⟩:=zJ C
    have ex:=ha.intE;have J:=hb.intE;subst ex;subst J
    exact bu5 G s σ H _ _ v u Q I Y ry ⟨_,_,rfl,rfl,q.here R rfl RV.intI⟩
   | _=>exact fb C
  | _=>exact fb C
 | mul =>
  cases a with
  | int a =>
   cases b with
   | int b =>
    change(if _ then _ else _:j0 jl) st=_ at C
    split at C
    ·rename_i hc
     obtain⟨rfl,rfl⟩:=zJ C
     have ex:=ha.intE;have J:=hb.intE;subst ex;subst J
     exact bp8 G s σ H _ _ v u Q I Y ry ⟨_,_,rfl,rfl,hc,q.here R rfl RV.intI⟩
    ·exact fb C
   | _=>exact fb C
  | str a =>
   cases b with
   | int b =>
    change(if _ then _ else _:j0 jl) st=_ at C
    split at C
    ·rename_i hc
     obtain⟨rfl,rfl⟩:=zJ C
     have ex:=ha.strE;have J:=hb.intE;subst ex;subst J
     exact bm6 G s σ H _ _ v u Q I Y ry ⟨_,_,rfl,rfl,hc,q.here R rfl (RV.strI (by rw[rep_len];exact hc.2.2))⟩
    ·exact fb C
   | _=>exact fb C
  | tup a =>
   cases b with
   | int b =>
    change(if _ then _ else _:j0 jl) st=_ at C
    split at C
    ·rename_i hc
     obtain⟨rfl,rfl⟩:=zJ C
     obtain⟨p,xs,⟨rfl,z1⟩,h1,d1⟩:=ha.tupZ
     have J:=hb.intE;subst J
     refine bl3 hK G s σ H _ _ v u Q I Y ry ⟨p,xs,_,rfl,rfl,h1,⟨hc.1,hc.2.1,by rw[d1.length];exact hc.2.2⟩,fun t H' e ht hn=>?_⟩
     obtain⟨g,r'⟩:=R.same e
     unfold jq at na
     refine q _ _ _ g (ai _) (by unfold jq;exact ah6 na _) (RV.tupC ht (fun z=>?_) (RVL.repD (RVL.mono g _ _ na d1) _)) r'
     rcases hn with hn|⟨rfl,ex⟩
     ·exact hn
     ·rw[ex];exact e _ _ (z1 (bg7 z))
    ·exact fb C
   | _=>exact fb C
  | ref a =>
   cases b with
   | int b =>
    change(match st[a]? with|some (DV.O.lst l)=>if 0<=b/\b<=1000000/\l.length*b.toNat<=js then jQ (.lst (jN b.toNat l)) st else .bad|_=>.bad:jo jl)=_ at C
    split at C
    ·rename_i l h1
     split at C
     ·rename_i hc
      obtain⟨rfl,rfl⟩:=zP C
      obtain⟨xs,e1,d1⟩:=R.addr h1
      have ex:=ha.refE;have J:=hb.intE;subst ex;subst J
      have b1:=R.wf _ _ h1
      unfold jr at b1
      refine bx5 G s σ H _ _ v u Q I Y ry ⟨φ a,b,xs,rfl,rfl,e1,by omega,by omega,?_,fun p hp=>?_⟩
      ·rw[d1.length];exact am hc.2.2 qf
      ·rw[<-aq3];exact q.alloc R (RVL.repD d1 _) (ah6 b1 _) hp
     ·exact fb C
    ·exact fb C
   | _=>exact fb C
  | _=>exact fb C
 | fdiv =>
  cases a with
  | int a =>
   cases b with
   | int b =>
    change(if _ then _ else _:j0 jl) st=_ at C
    split at C
    ·rename_i hc
     obtain⟨rfl,rfl⟩:=zJ C
     have ex:=ha.intE;have J:=hb.intE;subst ex;subst J
     refine aS3 G s σ H _ _ v u Q I Y ry ⟨_,_,rfl,rfl,⟨hc.1,?_⟩,q.here R rfl RV.intI⟩
     have:=hc.2
     unfold DV.DIVL at this
     simpa using this
    ·exact fb C
   | _=>exact fb C
  | _=>exact fb C
 | mod =>
  cases a with
  | int a =>
   cases b with
   | int b =>
    change(if _ then _ else _:j0 jl) st=_ at C
    split at C
    ·rename_i hc
     obtain⟨rfl,rfl⟩:=zJ C
     have ex:=ha.intE;have J:=hb.intE;subst ex;subst J
     exact bz2 G s σ H _ _ v u Q I Y ry ⟨_,_,rfl,rfl,hc,q.here R rfl RV.intI⟩
    ·exact fb C
   | _=>exact fb C
  | _=>exact fb C
 | pow =>
  cases a with
  | int a =>
   cases b with
   | int b =>
    change(if _ then _ else _:j0 jl) st=_ at C
    split at C
    ·rename_i hc
     obtain⟨rfl,rfl⟩:=zJ C
     have ex:=ha.intE;have J:=hb.intE;subst ex;subst J
     exact by8 G s σ H _ _ v u Q I Y ry ⟨_,_,rfl,rfl,hc,q.here R rfl RV.intI⟩
    ·exact fb C
   | _=>exact fb C
  | _=>exact fb C
 | shl =>
  cases a with
  | int a =>
   cases b with
   | int b =>
    change(if _ then _ else _:j0 jl) st=_ at C
    split at C
    ·rename_i hc
     obtain⟨rfl,rfl⟩:=zJ C
     have ex:=ha.intE;have J:=hb.intE;subst ex;subst J
     exact bu3 G s σ H _ _ v u Q I Y ry ⟨_,_,rfl,rfl,hc,q.here R rfl RV.intI⟩
    ·exact fb C
   | _=>exact fb C
  | _=>exact fb C
 | shr =>
  cases a with
  | int a =>
   cases b with
   | int b =>
    change(if _ then _ else _:j0 jl) st=_ at C
    split at C
    ·rename_i hc
     obtain⟨rfl,rfl⟩:=zJ C
     have ex:=ha.intE;have J:=hb.intE;subst ex;subst J
     exact by1 G s σ H _ _ v u Q I Y ry ⟨_,_,rfl,rfl,hc,q.here R rfl RV.intI⟩
    ·exact fb C
   | _=>exact fb C
  | _=>exact fb C
 | band =>
  cases a with
  | int a =>
   cases b with
   | int b =>
    change(if _ then _ else _:j0 jl) st=_ at C
    split at C
    ·rename_i hc
     obtain⟨rfl,rfl⟩:=zJ C
     have ex:=ha.intE;have J:=hb.intE;subst ex;subst J
     exact bo0 G s σ H _ _ v u Q I Y ry ⟨_,_,rfl,rfl,hc,q.here R rfl RV.intI⟩
    ·exact fb C
   | _=>exact fb C
  | _=>exact fb C
 | bor=>exact fb C
variable {Γ:Gm} {X:Cx} {pins:List (Addr×Obj)} {σ:St} {H:Hp} {sh:ac} {φ:Nat->Addr} {s:jk}
variable {Γ:Gm} {X:Cx}
theorem aa0 {α β:Type}{r:jo α}{f:α->jk->jo β}{b:β}{t:jk}(h:r.bind f=.ok b t):∃ a s,r=.ok a s/\f a s=.ok b t:=DV.R.bind_inv h
theorem an6 {op:km}{a b d:jl}{st y:jk}(ho:op=.lt\/op=.le\/op=.gt\/op=.ge)(h:DV.qB op a b st=.ok d y):∃ i j,a=.int i/\b=.int j:=by
 rcases ho with rfl|rfl|rfl|rfl <;>
 (cases a with
 | int i =>
  (cases b with
  | int j=>exact⟨i,j,rfl,rfl⟩
  | _=>cases h)
 | _=>cases h)
theorem bs6 (hK:X.K=Γ.K)(hr:Room (jz+1) X.A)(op:km):OpR X (dq (bo8 op)) (rOp Γ (DV.qB op)):=by
 intro G s σ H x y v u Q I Y ry h
 obtain⟨φ,st,a,b,d,a0,R,ha,hb,na,nb,C,q⟩:=h
 cases op with
 | eq =>
  have C:DV.eqM a b st=.ok d a0:=C
  unfold DV.eqM at C
  cases e:jE st jz a b with
  | none=>rw[e]at C;cases C
  | some z =>
   rw[e]at C;cases C
   exact(aZ5 I hK R _ a b x y v u X.A z e ha hb Y ry (hr.mono (by omega))).2.rc X.prog X.w X.xe _ ⟨.bl z,H,I,rfl,q.here R rfl RV.blI⟩
 | ne =>
  have C:(match jE st jz a b with|some r=>.ok (.bl (!r)) st|none=>.bad:jo jl)=.ok d a0:=C
  cases e:jE st jz a b with
  | none=>rw[e]at C;cases C
  | some z =>
   rw[e]at C;cases C
   exact(aZ5 I hK R _ a b x y v u X.A z e ha hb Y ry (hr.mono (by omega))).2.ne X.prog X.w X.xe _ ⟨.bl (!z),H,I,rfl,q.here R rfl RV.blI⟩
 | lt =>
  obtain⟨i,j,rfl,rfl⟩:=an6 (.inl rfl) C
  cases C
  have ex:=ha.intE;have J:=hb.intE;subst ex;subst J
  exact bL8 G s σ H _ _ v u Q I Y ry ⟨_,_,rfl,rfl,q.here R rfl RV.blI⟩
 | le =>
  obtain⟨i,j,rfl,rfl⟩:=an6 (.inr (.inl rfl)) C
  cases C
  have ex:=ha.intE;have J:=hb.intE;subst ex;subst J
  exact bL1 G s σ H _ _ v u Q I Y ry ⟨_,_,rfl,rfl,q.here R rfl RV.blI⟩
 | gt =>
  obtain⟨i,j,rfl,rfl⟩:=an6 (.inr (.inr (.inl rfl))) C
  cases C
  have ex:=ha.intE;have J:=hb.intE;subst ex;subst J
  exact bK8 G s σ H _ _ v u Q I Y ry ⟨_,_,rfl,rfl,q.here R rfl RV.blI⟩
 | ge =>
  obtain⟨i,j,rfl,rfl⟩:=an6 (.inr (.inr (.inr rfl))) C
  cases C
  have ex:=ha.intE;have J:=hb.intE;subst ex;subst J
  exact bG5 G s σ H _ _ v u Q I Y ry ⟨_,_,rfl,rfl,q.here R rfl RV.blI⟩
 | isin=>cases C
 | notin=>cases C
theorem aH8 {φ:Nat->Addr}{H:Hp}{l:List jl}{y:List V}{i:Int}{d:jl}(h:RVL Γ φ H l y)(e:((jR l.length i).bind fun j=>l[j]?)=some d):∃ v,atI y i=some v/\RV Γ φ H d v:=by
 cases hj:jR l.length i with
 | none=>rw[hj]at e;cases e
 | some j =>
  rw[hj]at e
  obtain⟨v,e1,e2⟩:=h.get (show l[j]?=some d from e)
  refine⟨v,?_,e2⟩
  unfold atI
  have:ixN y.length i=some j:=by rw[h.length];exact hj
  rw[this];exact e1
theorem aw5 {l:List jl}{i:Int}{d:jl}(e:((jR l.length i).bind fun j=>l[j]?)=some d):d∈l:=by
 cases hj:jR l.length i with
 | none=>rw[hj]at e;cases e
 | some j=>rw[hj]at e;exact aX (show l[j]?=some d from e)
theorem bM1 (hK:X.K=Γ.K)(hu:X.A.units+1<cLine):IxR X (rOp Γ DV.ixM):=by
 intro G C J s σ H x y v u Q I rx ry h hs
 obtain⟨φ,st,a,b,d,a4,R,ha,hb,na,nb,z,q⟩:=h
 unfold DV.ixM at z
 cases a with
 | tup l =>
  cases b with
  | int i =>
   simp only at z
   split at z
   ·rename_i d' e
    cases z
    obtain⟨p,xs,rfl,h1,d1⟩:=ha.tupE
    have Y:=hb.intE;subst Y
    obtain⟨w,e1,e2⟩:=aH8 d1 e
    unfold jq at na
    exact bp6 hK G C J s σ H _ _ v u Q I rx ry ⟨p,xs,i,w,rfl,rfl,h1,e1,q.here R (aa4.mp na _ (aw5 e)) e2⟩ hs
   ·exact fb z
  | _=>exact fb z
 | str l =>
  cases b with
  | int i =>
   simp only at z
   split at z
   ·rename_i c e
    cases z
    have hl:=ha.strL
    have ex:=ha.strE;have Y:=hb.intE;subst ex;subst Y
    exact ix_str G C J s σ H _ _ v u Q I rx ry ⟨⟨l.toArray⟩,i,c,rfl,rfl,by show l.toArray.size<=_;rw[ar];exact am hl qf,e,q.here R rfl (RV.strI (by simp;decide))⟩ hs
   ·exact fb z
  | _=>exact fb z
 | ref r =>
  have ex:=ha.refE;subst ex
  simp only at z
  cases hsr:st[r]? with
  | none=>rw[hsr]at z;cases z
  | some o =>
   rw[hsr]at z
   cases o with
   | lst l =>
    cases b with
    | int i =>
     simp only at z
     split at z
     ·rename_i d' e
      cases z
      have Y:=hb.intE;subst Y
      obtain⟨xs,e1,d1⟩:=R.addr hsr
      obtain⟨w,e2,e3⟩:=aH8 d1 e
      have wf:=R.wf _ _ hsr
      unfold jr at wf
      exact ax7 hK G C J s σ H _ _ v u Q I rx ry ⟨φ r,xs,i,w,rfl,rfl,SqL.of e1,e2,q.here R (aa4.mp wf _ (aw5 e)) e3⟩ hs
     ·exact fb z
    | _=>exact fb z
   | ro l =>
    cases b with
    | int i =>
     simp only at z
     split at z
     ·rename_i d' e
      cases z
      have Y:=hb.intE;subst Y
      obtain⟨xs,e1,d1⟩:=R.obj _ _ hsr
      obtain⟨w,e2,e3⟩:=aH8 d1 e
      have wf:=R.wf _ _ hsr
      unfold jr at wf
      exact ax7 hK G C J s σ H _ _ v u Q I rx ry ⟨φ r,xs,i,w,rfl,rfl,e1.1,e2,q.here R (aa4.mp wf _ (aw5 e)) e3⟩ hs
     ·exact fb z
    | _=>exact fb z
   | dic l =>
    simp only at z
    split at z
    case isFalse=>exact fb z
    rename_i a0
    obtain⟨k,hk⟩:=ao8 a0
    obtain⟨a2,e1,d1⟩:=R.obj r _ hsr
    have Y:=aA3 hk hb;subst Y
    cases rx
    rcases d1.val keyOf_inj hk with⟨q1,_⟩|⟨e,v',q1,q2,q3,q4⟩
    ·rw[q1]at z;cases z
    ·rw[q1]at z
     cases z
     have wf:=R.wf _ _ hsr
     unfold jr at wf
     rw[ag]at wf
     have g:aQ3 H (φ r) (kV k) (some v'):=by rw[<-q2];exact aQ3.k e1
     exact iz (ai8 I g) d5.lookup (ar1 hu I g ry fun w' s' I' a1=>⟨v',H,I',a1,q.here R (aa4.mp wf.2 _ q4) q3⟩) hs
   | dit l =>
    simp only at z
    split at z
    case isFalse=>exact fb z
    rename_i a0
    obtain⟨k,hk⟩:=as7 a0
    obtain⟨a2,e1,d1⟩:=R.obj r _ hsr
    obtain⟨kb,Y,a3⟩:=aG5 hk hb;subst Y
    cases rx
    rcases d1.val keyT_inj hk with⟨q1,_⟩|⟨e,v',q1,q2,q3,q4⟩
    ·rw[q1]at z;cases z
    ·rw[q1]at z
     cases z
     have wf:=R.wf _ _ hsr
     unfold jr at wf
     rw[ag]at wf
     have g:aQ3 H (φ r) (.ref kb) (some v'):=by rw[<-q2];exact aQ3.t e1 a3
     exact iz (ai8 I g) d5.lookup (ar1 hu I g ry fun w' s' I' a1=>⟨v',H,I',a1,q.here R (aa4.mp wf.2 _ q4) q3⟩) hs
   | ins c l=>cases b<;>cases z
 | _=>cases b<;>cases z
variable {Γ:Gm} {X:Cx}
def rCl (Γ:Gm)(f:List jl->jk->jo jl):List V->Hp->VK->Prop:=fun xs H Q=>∃ φ s l d s',Rp Γ φ H s/\RVL Γ φ H l xs/\jm s.length l=true/\f l s=.ok d s'/\ac6 Γ φ s H d s' Q
theorem RVL.one {φ:Nat->Addr}{H:Hp}{d:jl}{y:List V}(h:RVL Γ φ H [d] y):∃ x,y=[x]/\RV Γ φ H d x:=by
 obtain⟨x,r,rfl,C,z⟩:=h.uncons
 rw[z.unnil];exact⟨x,rfl,C⟩
noncomputable def biN:jK->Option (String×Nat)
 | .len=>some ("len",1)|.abs=>some ("abs",1)|.min2=>some ("min",2)|.max2=>some ("max",2)|_=>none
theorem zW:∀ {l:List jl} {is:List Int},jT l=some is->l=is.map DV.D.int
 | [],is,h=>by unfold jT at h;cases h;rfl
 | d::l,is,h=>by
  cases d with
  | int i =>
   have h:(jT l).map (i::·)=some is:=h
   cases e:jT l with
   | none=>rw[e]at h;cases h
   | some m=>rw[e]at h;cases h;rw[zW e];rfl
  | _=>cases h
theorem aj0:∀ {l:List jl} {is:List Bool},j1 l=some is->l=is.map DV.D.bl
 | [],is,h=>by unfold j1 at h;cases h;rfl
 | d::l,is,h=>by
  cases d with
  | bl i =>
   have h:(j1 l).map (i::·)=some is:=h
   cases e:j1 l with
   | none=>rw[e]at h;cases h
   | some m=>rw[e]at h;cases h;rw[aj0 e];rfl
  | _=>cases h
theorem RVL.ints {φ:Nat->Addr}{H:Hp}:∀ {is:List Int} {y:List V},RVL Γ φ H (is.map DV.D.int) y->y=is.map V.int
 | [],_,h=>h.unnil
 | i::is,_,h=>by
  obtain⟨x,r,rfl,C,z⟩:=RVL.uncons h
  rw[C.intE,RVL.ints z];rfl
theorem RVL.bls {φ:Nat->Addr}{H:Hp}:∀ {is:List Bool} {y:List V},RVL Γ φ H (is.map DV.D.bl) y->y=is.map V.bl
 | [],_,h=>h.unnil
 | i::is,_,h=>by
  obtain⟨x,r,rfl,C,z⟩:=RVL.uncons h
  rw[C.blE,RVL.bls z];rfl
theorem aI0 {f:jl->j0 jl}{l:List jl}{s s':jk}{d:jl}(h:ko f l s=.ok d s'):∃ a,l=[a]/\f a s=.ok d s':=by
 match l,h with
 | [a],h=>exact⟨a,rfl,h⟩
 | [],h=>exact fb h
 | _::_::_,h=>exact fb h
theorem aT1 (J:X.K=Γ.K)(hc:X.calm=true){b:jK}{Y:String}{k:Nat}(hn:biN b=some (Y,k)):ab6 X (.builtin Y) (rCl Γ (kr b)):=by
 intro y s σ H xs us Q I r h
 obtain⟨φ,st,l,d,G,R,hl,nl,z,q⟩:=h
 cases b with
 | len =>
  cases hn
  have z:ko DV.bq5 l st=.ok d G:=z
  obtain⟨a,rfl,C⟩:=aI0 z
  clear z
  obtain⟨x,rfl,hx⟩:=hl.one
  unfold DV.bq5 at C
  cases a with
  | tup l =>
   cases C
   obtain⟨p,ys,rfl,h1,d1⟩:=hx.tupE
   refine aj3 J y s σ H _ us Q I r ⟨p,ys,rfl,.inr h1,?_⟩
   rw[d1.length];exact q.here R rfl RV.intI
  | str l =>
   cases C
   have hL:=hx.strL
   have e:=hx.strE;subst e
   refine ap6 y s σ H _ us Q I r ⟨_,rfl,by show l.toArray.size<=_;rw[ar];exact am hL qf,?_⟩
   show Q (.int ((l.toArray.size:Nat):Int)) H
   rw[ar]
   exact q.here R rfl RV.intI
  | ref n =>
   have e:=hx.refE;subst e
   simp only at C
   cases hs:st[n]? with
   | none=>rw[hs]at C;cases C
   | some o =>
    rw[hs]at C
    cases o with
    | lst l =>
     cases C
     obtain⟨ys,e1,d1⟩:=R.addr hs
     refine aj3 J y s σ H _ us Q I r ⟨φ n,ys,rfl,.inl (SqL.of e1),?_⟩
     rw[d1.length];exact q.here R rfl RV.intI
    | ro l =>
     cases C
     obtain⟨ys,e1,d1⟩:=R.obj _ _ hs
     refine aj3 J y s σ H _ us Q I r ⟨φ n,ys,rfl,.inl e1.1,?_⟩
     rw[d1.length];exact q.here R rfl RV.intI
    | dic l=>exact fb C
    | dit l=>exact fb C
    | ins c l=>exact fb C
  | _=>exact fb C
 | abs =>
  cases hn
  have z:(match jT l with|some [i]=>.ok (.int (if i<0 then -i else i)) st|_=>.bad:jo jl)=.ok d G:=z
  split at z
  ·rename_i i e
   cases z
   have:=zW e;subst this
   have:=RVL.ints hl;subst this
   exact aX2 y s σ H _ us Q I r ⟨i,rfl,q.here R rfl RV.intI⟩
  ·exact fb z
 | min2 =>
  cases hn
  have z:(match jT l with|some [a,b]=>.ok (.int (if b<a then b else a)) st|_=>.bad:jo jl)=.ok d G:=z
  split at z
  ·rename_i a b e
   cases z
   have:=zW e;subst this
   have:=RVL.ints hl;subst this
   exact aJ4 hc y s σ H _ us Q I r ⟨_,_,rfl,q.here R rfl RV.intI⟩
  ·exact fb z
 | max2 =>
  cases hn
  have z:(match jT l with|some [a,b]=>.ok (.int (if b > a then b else a)) st|_=>.bad:jo jl)=.ok d G:=z
  split at z
  ·rename_i a b e
   cases z
   have:=zW e;subst this
   have:=RVL.ints hl;subst this
   exact aH0 hc y s σ H _ us Q I r ⟨_,_,rfl,q.here R rfl RV.intI⟩
  ·exact fb z
 | _=>cases hn
theorem bD0:ab6 X (.type "int") (rCl Γ (kr .int)):=by
 intro y s σ H J us Q I r h
 obtain⟨φ,st,l,d,C,R,hl,G,z,q⟩:=h
 have z:(match j1 l with|some [b]=>.ok (.int (if b then 1 else 0)) st|_=>.bad:jo jl)=.ok d C:=z
 split at z
 ·rename_i b e
  cases z
  have:=aj0 e;subst this
  have:=RVL.bls hl;subst this
  exact aJ5 y s σ H _ us Q I r (.inr ⟨b,rfl,q.here R rfl RV.intI⟩)
 ·exact fb z
noncomputable def ak0:Nat->String
 | 1 => "int" | 2 => "bool" | 3 => "str" | 4 => "tuple" | _ => "list"
theorem bg4 {K:ab}(k:Nat)(hk:1<=k/\k<=5):bW K (.type "NoneType") (.type (ak0 k))=some false/\bW K (.type "bool") (.type (ak0 k))=some (k==1||k==2) /\
  bW K (.type "int") (.type (ak0 k))=some (k==1)/\bW K (.type "str") (.type (ak0 k))=some (k==3)/\bW K (.type "tuple") (.type (ak0 k))=some (k==4)/\bW K (.type "list") (.type (ak0 k))=some (k==5):=by
 obtain⟨y,z⟩:=hk
 rcases(by omega:k=1\/k=2\/k=3\/k=4\/k=5)with h|h|h|h|h<;>subst h<;>refine⟨?_,?_,?_,?_,?_,?_⟩<;>with_unfolding_all rfl
theorem aF5 {y:List (Addr×Obj)}{σ:St}{H:Hp}{s:ac}{A:aP}{E:Value->ac->Prop}{Q:Value->ac->Prop}{c:Value}{b:Bool}{a:Addr}{J:List V}(I:Inv X y σ H s)(G:SqT X.K H a J)(e:bW X.K (.type "tuple") c=some b)
  (h:∀ tk,Q (.bool b) { s with toks:=tk }):wpAny (model X.prog X.w) A (call (.builtin "isinstance") [.ref a,c]) Q E s:=by
 obtain⟨its,_,⟨o,g1,C,_⟩,_⟩:=I.tuple G
 exact bq gA I.kIn ⟨o,g1,C⟩ e (fun z=>nomatch z) h
theorem bC0 (hK:X.K=Γ.K){k:Nat}(hk:1<=k/\k<=5):ab6 X (.builtin "isinstance") (fun Y H Q=>∃ x,Y=[x,.ty (ak0 k)]/\rCl Γ (ko (ku k)) [x] H Q):=by
 intro C s σ H Y us Q I r h
 obtain⟨x,rfl,φ,st,l,d,z,R,hl,nl,G,q⟩:=h
 obtain⟨a,rfl,y⟩:=aI0 G
 clear G
 obtain⟨u,w',rfl,r1,r2⟩:=bm4 r
 cases r2
 obtain⟨x',e',hx⟩:=hl.one
 cases e'
 obtain⟨k0,k1,k2,k3,k4,k5⟩:=bg4 (K:=X.K) k hk
 unfold ku at y
 cases a with
 | non=>cases y;have e:=hx.nonE;subst e;exact qv I r1 .non k0 fun tk=>⟨.bl _,H,I.tok _,rfl,q.here R rfl RV.blI⟩
 | bl b=>cases y;have e:=hx.blE;subst e;exact qv I r1 (.bl b) k1 fun tk=>⟨.bl _,H,I.tok _,rfl,q.here R rfl RV.blI⟩
 | int b=>cases y;have e:=hx.intE;subst e;exact qv I r1 (.int b) k2 fun tk=>⟨.bl _,H,I.tok _,rfl,q.here R rfl RV.blI⟩
 | str b=>cases y;have e:=hx.strE;subst e;exact qv I r1 (.str _) k3 fun tk=>⟨.bl _,H,I.tok _,rfl,q.here R rfl RV.blI⟩
 | tup l =>
  cases y
  obtain⟨p,ys,rfl,J,d1⟩:=hx.tupE
  cases r1
  rw[<-hK]at J
  exact aF5 I J k4 fun tk=>⟨.bl _,H,I.tok _,rfl,q.here R rfl RV.blI⟩
 | ref n =>
  have e:=hx.refE;subst e
  have y:(match st[n]? with|some (.lst _)=>.ok (.bl (k==5)) st|_=>.bad:jo jl)=.ok d z:=y
  cases hs:st[n]? with
  | none=>rw[hs]at y;cases y
  | some o =>
   rw[hs]at y
   cases o with
   | lst l =>
    cases y
    obtain⟨ys,e1,d1⟩:=R.addr hs
    exact qv I r1 (.lst e1) k5 fun tk=>⟨.bl _,H,I.tok _,rfl,q.here R rfl RV.blI⟩
   | _=>exact fb y
 | _=>exact fb y
variable {X:Cx}
theorem bn6 {bs:List Bool}{its:List Value}(r:Vals (bs.map V.bl) its){i:Nat}{v:Value}(h:its[i]?=some v):∃ z,bs[i]?=some z/\v=Value.bool z:=by
 induction bs generalizing its i with
 | nil=>rw[cK]at r;cases r;simp at h
 | cons b bs ih =>
  rw[aL]at r
  cases r with
  | cons r1 r2 =>
   cases i with
   | zero =>
    cases r1
    have:_=v:=ay h
    exact⟨b,rfl,this.symm⟩
   | succ i=>exact ih r2 h
theorem aN3 {bs:List Bool}:(av bs.length).all (fun i=>bs.getD i false)=bs.all id:=by
 rw[fD,aM,aM]
 constructor
 ·intro h b hb
  obtain⟨i,hi,e⟩:=dE.mp hb
  have:=h i (bv.mpr hi)
  rw[aK,aj hi]at this
  rw[<-e];exact this
 ·intro h i hi
  have hi:=bv.mp hi
  rw[aK,aj hi]
  exact h _ (hV hi)
theorem aM3 {K:ab}(hc:X.calm=true)(hK:X.K=K):ab6 X (.builtin "all") (fun xs H Q=>∃(a:Addr) (bs:List Bool),xs=[.ref a]/\SqL K H a (bs.map V.bl)/\Q (.bl (bs.all id)) H):=by
 subst hK
 intro J s σ H xs us Q I r h
 obtain⟨a,bs,rfl,hS,q⟩:=h
 obtain⟨u,rfl,ru⟩:=af4 r
 cases ru
 obtain⟨its,Y,G,hz⟩:=I.list hS
 have hl:=Y.length
 rw[aI]at hl
 refine call_all_walk (cC G.isList ?_)
 have C:a<s.heap.objs.size:=by obtain⟨o,_,e,_⟩:=G;exact aw e
 have W:=iE (prog:=X.prog) (w:=X.w) (A:=X.A.in1) (I.ok.hd hc) s.heap.objs.size a (aq C) its.toArray
 refine⟨_,_,_,_,_,_,fun i=>bs.getD i false,rfl,W,⟨⟨_,aF _ rfl,rfl,rfl⟩,?_⟩,fun i v s' Q' E' y hQ=>?_,fun h' tk k=>?_⟩
 ·obtain⟨o,e,r⟩:=G.isList
  exact⟨o,af _ e,r⟩
 ·obtain⟨z,e1,e2⟩:=bn6 Y (i:=i) (v:=v) (by have y:its.toArray[i]?=some v:=y;rw[bK]at y;exact y)
  subst e2
  refine bH ?_
  have:bs.getD i false=z:=by rw[aK,e1];rfl
  rw[<-this];exact hQ
 ·have es:its.toArray.size=bs.length:=by rw[ar];omega
  rw[es,aN3]
  refine⟨.bl (bs.all id),H,I.kept (h':=h') (t':=tk) fun b o q=>k b o ?_ (af _ q),rfl,q⟩
  intro z
  have z':b=s.heap.objs.size:=by simpa using z
  exact absurd (aw q) (by rw[z'];exact bf _)
noncomputable def sgV (x:List Nat):List V:=x.map fun c=>.str ⟨#[c]⟩
theorem bj5 {vs:List V}{y:List Value}(hl:vs.length=y.length)(h:∀(i:Nat) (x:V) (u:Value),vs[i]?=some x->y[i]?=some u->RelV x u):Vals vs y:=by
 induction vs generalizing y with
 | nil=>cases y with
  | nil=>exact .nil
  | cons _ _=>cases hl
 | cons v vs ih=>cases y with
  | nil=>cases hl
  | cons a y=>exact .cons (h 0 v a rfl rfl) (ih (by simpa using hl) fun i x u e1 e2=>h (i+1) x u e1 e2)
theorem al0 {x:List Nat}{y:Array Value}(h:ItemsOf (SignAt ⟨x.toArray⟩) y x.length):Vals (sgV x) y.toList:=by
 have hl:(sgV x).length=y.toList.length:=by unfold sgV;rw[aI];simpa using h.1.symm
 refine bj5 hl fun i v u e1 e2=>?_
 obtain⟨c,t,z,C⟩:=h.2 i u (by rw[<-fL];exact e2)
 unfold sgV at e1
 rw[aG]at e1
 have z:x[i]?=some c:=by simpa using z
 rw[z]at e1
 cases e1
 exact⟨t,C⟩
theorem au1 (hc:X.calm=true):ab6 X (.type "tuple") (fun G H Q=>∃ x:List Nat,G=[.str ⟨x.toArray⟩]/\x.length<=js/\∀ l,H l=none->Q (.ref l) (upd H l (.tup (sgV x)))):=by
 intro y s σ H G us Q I r h
 obtain⟨x,rfl,hl,q⟩:=h
 obtain⟨u,rfl,J⟩:=af4 r
 obtain⟨t,rfl⟩:=J
 have hz:(sgV x).length<=aA:=by unfold sgV;rw[aI];exact am hl qf
 refine call_tuple_str (I.ok.hd hc) _ t (fun h' tk z kp hi=>?_) (by show x.toArray.size<=_;rw[ar];exact am hl qf)
 have hi:ItemsOf (SignAt ⟨x.toArray⟩) z x.length:=by simpa using hi
 have Y:=al0 hi
 have C:Inv X y σ H { s with heap:=h',toks:=tk }:=I.kept (t':=tk) kp
 have I2:Inv X y σ (upd H h'.objs.size (.tup (sgV x))) { s with heap:=h'.push { cls:=.type "tuple",data:=.seq z },toks:=tk } :=
  C.laid (t':=tk) (fun b o e=>af _ e) (ai _) (show ab4 X.prog X.w _ _ _ (.tup (sgV x))from⟨hz,z.toList,Y,iV _ _⟩)
 exact⟨.ref h'.objs.size,_,I2,rfl,q _ (C.hok.fresh (ai _))⟩
theorem aD0 (hc:X.calm=true):ab6 X (.type "list") (fun C H Q=>∃ x:List Nat,C=[.str ⟨x.toArray⟩]/\x.length<=js/\∀ l,H l=none->Q (.ref l) (upd H l (.lst (sgV x)))):=by
 intro z s σ H C us Q I r h
 obtain⟨x,rfl,hl,q⟩:=h
 obtain⟨u,rfl,J⟩:=af4 r
 obtain⟨t,rfl⟩:=J
 have hz:(sgV x).length<=aA:=by unfold sgV;rw[aI];exact am hl qf
 refine call_list_str (I.ok.hd hc) _ t (fun h' tk y G kp e hi=>?_) (by show x.toArray.size<=_;rw[ar];exact am hl qf)
 have hi:ItemsOf (SignAt ⟨x.toArray⟩) y x.length:=by simpa using hi
 have Y:=al0 hi
 exact⟨.ref s.heap.objs.size,_,I.laid (t':=tk) kp (ai _) (show ab4 X.prog X.w _ h' _ (.lst (sgV x))from⟨hz,y.toList,G,Y,e⟩),rfl,q _ (I.hok.fresh (ai _))⟩
section
variable {Γ:Gm} {φ φ':Nat->Addr} {H H' H1 H2 H3:Hp} {clos:List (Str×Addr)} {s s':jk}
theorem zG (hc:Cells clos H){a:Addr}{u:HO}(e:H a=some u)(h:∀ o,u≠.frz o (.own a)):isC clos a≠true:=fun z=>by
 obtain⟨o,v,q,_⟩:=hc.at z
 rw[e]at q;cases q;exact h o rfl
theorem SqT.dropC {K:ab}{a:Addr}{y:List V}(hc:Cells clos H)(h:SqT K H a y):SqT K (aa7 clos H) a y:=by
 rcases h with(h|⟨o,h⟩)|h
 ·exact .inl (.inl (by rw[aa7.ne (zG hc h (fun _ z=>by cases z))];exact h))
 ·exact .inl (.inr ⟨o,by rw[aa7.ne (zG hc h (fun _ z=>by cases z))];exact h⟩)
 ·exact .inr h
theorem SqL.dropC {K:ab}{a:Addr}{y:List V}(hc:Cells clos H)(h:SqL K H a y):SqL K (aa7 clos H) a y:=by
 rcases h with(h|⟨o,h⟩)|h
 ·exact .inl (.inl (by rw[aa7.ne (zG hc h (fun _ z=>by cases z))];exact h))
 ·exact .inl (.inr ⟨o,by rw[aa7.ne (zG hc h (fun _ z=>by cases z))];exact h⟩)
 ·exact .inr h
theorem SqF.dropC {K:ab}{a:Addr}{y:List V}(hc:Cells clos H)(h:SqF K H a y):SqF K (aa7 clos H) a y:=by
 refine⟨SqL.dropC hc h.1,fun H2 k=>?_⟩
 have hk:Kp H (fun b=>if isC clos b=true then H b else H2 b):=fun b o e f=>by
  by_cases z:isC clos b=true
  ·show(if isC clos b=true then H b else H2 b)=_;rw[if_pos z];exact e
  ·show(if isC clos b=true then H b else H2 b)=_
   rw[if_neg z]
   exact k b o (by rw[aa7.ne z];exact e) f
 have q:=h.2 _ hk
 have at_:∀ u,(if isC clos a=true then H a else H2 a)=some u->(∀ o,u≠.frz o (.own a))->H2 a=some u:=fun u e C=>by
  by_cases z:isC clos a=true
  ·rw[if_pos z]at e
   exact absurd z (zG hc e C)
  ·rw[if_neg z]at e;exact e
 rcases q with(q|⟨o,q⟩)|q
 ·exact .inl (.inl (at_ _ q (fun _ z=>by cases z)))
 ·exact .inl (.inr ⟨o,at_ _ q (fun _ z=>by cases z)⟩)
 ·exact .inr q
mutual
theorem RV.dropC (hc:Cells clos H):∀(d:jl) (v:V),d.ncl=true->RV Γ φ H d v->RV Γ φ (aa7 clos H) d v
 | .non,_,_,h=>by unfold RV at h ⊢;exact h
 | .bl _,_,_,h=>by unfold RV at h ⊢;exact h
 | .int _,_,_,h=>by unfold RV at h ⊢;exact h
 | .str _,_,_,h=>by unfold RV at h ⊢;exact h
 | .tup l,_,n,h=>by
  unfold RV at h ⊢
  unfold kx at n
  obtain⟨a,y,e,q,r⟩:=h
  exact⟨a,y,e,⟨SqT.dropC hc q.1,fun z=>by rw[aa7.ne (zG hc (q.2 z) (fun _ z=>by cases z))];exact q.2 z⟩,RVL.dropC hc l y n r⟩
 | .ref k,_,_,h=>by unfold RV at h ⊢;exact h
 | .fn _,_,_,h=>by unfold RV at h ⊢;exact h
 | .clo id cs,_,n,h=>by unfold kx at n;cases n
theorem RVL.dropC (hc:Cells clos H):∀(l:List jl) (y:List V),jS l=true->RVL Γ φ H l y->RVL Γ φ (aa7 clos H) l y
 | [],_,_,h=>by unfold RVL at h ⊢;exact h
 | d::l,_,n,h=>by
  unfold jS at n
  rw[ag]at n
  obtain⟨x,r,e,C,z⟩:=h.uncons
  subst e
  exact .cons (RV.dropC hc d x n.1 C) (RVL.dropC hc l r n.2 z)
end
theorem RVD.dropC {κ:Type}{z:jl->Option κ}(hc:Cells clos H):∀(l:List (jl×jl)) (y:List (κ×V)),jS (l.map (·.2))=true->RVD z Γ φ H l y->RVD z Γ φ (aa7 clos H) l y
 | [],_,_,h=>h
 | (d,e)::l,_,n,h=>by
  obtain⟨k,v,r,e1,e2,G,C⟩:=h
  rw[aL]at n
  unfold jS at n
  rw[ag]at n
  exact⟨k,v,r,e1,e2,RV.dropC hc e v n.1 G,RVD.dropC hc l r n.2 C⟩
theorem RO.dropC {a:Addr}{o:jD}(hc:Cells clos H)(h:RO Γ φ H a o)(n:o.ncl=true):RO Γ φ (aa7 clos H) a o:=by
 cases o with
 | lst l =>
  obtain⟨y,e,r⟩:=h
  exact⟨y,by rw[aa7.ne (zG hc e (fun _ z=>by cases z))];exact e,RVL.dropC hc l y n r⟩
 | ro l =>
  obtain⟨y,e,r⟩:=h
  exact⟨y,SqF.dropC hc e,RVL.dropC hc l y n r⟩
 | dic l =>
  obtain⟨y,e,r⟩:=h
  exact⟨y,by rw[aa7.ne (zG hc e (fun _ z=>by cases z))];exact e,RVD.dropC hc l y n r⟩
 | dit l =>
  obtain⟨y,e,r⟩:=h
  exact⟨y,by rw[aa7.ne (zG hc e (fun _ z=>by cases z))];exact e,RVD.dropC hc l y n r⟩
 | ins _ _=>exact h.elim
theorem TabsH.dropC {T:List (Addr×Str)}(hc:Cells clos H)(h:TabsH T H):TabsH T (aa7 clos H):=fun y hy=>by
 obtain⟨ps,e,t,c⟩:=h y hy
 refine⟨ps,by rw[aa7.ne (zG hc e (fun _ z=>by cases z))];exact e,t,fun pos G q=>?_⟩
 obtain⟨C,e1,e2⟩:=c pos G q
 exact⟨C,e1,by rw[aa7.ne (zG hc e2 (fun _ z=>by unfold qa at z;cases z))];exact e2⟩
theorem Rp.dropC (hc:Cells clos H)(r:Rp Γ φ H s)(n:s.all kz=true):Rp Γ φ (aa7 clos H) s :=
 ⟨r.inj,fun i o e=>RO.dropC hc (r.obj i o e) (aM.mp n o (aX e)),r.wf,TabsH.dropC hc r.tab⟩
theorem Gr.caught {N:List Str}{kd:Str->Option bw}{σ:St}(y:Caught clos N kd σ H1 H2)(g:Gr φ s H2 φ' s' H3):Gr φ s H1 φ' s' (aa7 clos H3):=by
 have h:∀ b o,H1 b=some o->isC clos b≠true:=fun b o e z=>by rw[y.free b z]at e;cases e
 have up:∀ b o,H1 b=some o->H2 b=some o:=fun b o e=>by rw[y.ne b (h b o e)];exact e
 refine⟨⟨g.w.map,fun b o e f=>?_⟩,g.le,fun i J C=>?_,g.kd,fun b e=>?_,fun b o e G Y=>?_⟩
 ·rw[aa7.ne (h b o e)];exact g.w.kp b o (up b o e) f
 ·have:=g.new i J C
  by_cases z:isC clos (φ' i)=true
  ·exact y.free _ z
  ·rw[<-y.ne _ z];exact this
 ·cases q:H1 b with
  | none=>exact absurd q e
  | some o =>
   rw[aa7.ne (h b o q)]
   exact g.st b (by rw[up b o q];simp)
 ·rw[aa7.ne (h b o e)];exact g.fr b o (up b o e) G Y
theorem aP3 (h:∀ b,isC clos b=true->H' b=none):ae1 H' (Put clos H H'):=fun b o e=>by
 rw[Put.ne (fun z=>by rw[h b z]at e;cases e)];exact e
theorem Gr.put (hc:Cells clos H)(C:∀ b,isC clos b=true->H' b=none)(hK:∀ b o,Γ.K.lookup b=some o->H b=none)(R':Rp Γ φ' H' s')(g:Gr φ s (aa7 clos H) φ' s' H'):Gr φ s H φ' s' (Put clos H H'):=by
 refine⟨⟨g.w.map,fun b o e f=>?_⟩,g.le,fun i h1 J=>?_,g.kd,fun b e=>?_,fun b o e nt Y=>?_⟩
 ·by_cases z:isC clos b=true
  ·rw[Put.cell z];exact e
  ·rw[Put.ne z];exact g.w.kp b o (by rw[aa7.ne z];exact e) f
 ·have hd:=g.new i h1 J
  by_cases z:isC clos (φ' i)=true
  ·have y:=C _ z
   obtain⟨o,eo⟩:∃ o,s'[i]?=some o:=⟨s'[i],aj J⟩
   have h:=R'.obj i o eo
   cases o with
   | lst l=>obtain⟨G,e,_⟩:=h;rw[y]at e;cases e
   | ro l =>
    obtain⟨G,e,_⟩:=h
    rcases e.1 with(e|⟨_,e⟩)|⟨ob,its,n,e,_⟩
    ·rw[y]at e;cases e
    ·rw[y]at e;cases e
    ·exact hK _ _ e
   | dic l=>obtain⟨G,e,_⟩:=h;rw[y]at e;cases e
   | dit l=>obtain⟨G,e,_⟩:=h;rw[y]at e;cases e
   | ins _ _=>exact h.elim
  ·rw[aa7.ne z]at hd;exact hd
 ·by_cases z:isC clos b=true
  ·rw[Put.cell z];exact e
  ·rw[Put.ne z];exact g.st b (by rw[aa7.ne z];exact e)
 ·by_cases z:isC clos b=true
  ·rw[Put.cell z];exact e
  ·rw[Put.ne z];exact g.fr b o (by rw[aa7.ne z];exact e) nt Y
theorem aT3 {T:List (Addr×Str)}{cells:List (Str×Addr)}{P:Addr}{q:Str}{params:aV}{body:Expr}{scope:Scope}{pos:Pos}{σ:St}{H:Hp}{Q:VK}(hT:TabsH T H)(nd:(T.map (·.1)).Nodup)(hm:(P,q)∈T)
  (go:∀(f:Addr) (H':Hp),aO1 H H'->(∀ b,H b≠none->H' b≠none)->TabsH T H'->H f=none->(∃ pm G C,H' f=some (am8 f (bC "<lambda>" q params body scope (ac1 cells scope.names []) pm (.ref G) C))/\H' G=some (qa G q))->Q (.ref f) H') :
  bP6 cells P q params body scope pos σ H Q:=by
 obtain⟨ps,hP,ht,hc⟩:=hT _ hm
 refine⟨ps,hP,ht,fun hn G f pm C n1 n2 ne=>?_,fun cv e=>?_⟩
 ·have cP:G≠P:=fun z=>by rw[z,hP]at n1;cases n1
  have fP:f≠P:=fun z=>by rw[z,hP]at n2;cases n2
  have Y:∀ b,b≠P->H b≠none->∀ o1 o2 o3,upd (upd (upd H P o1) G o2) f o3 b=H b:=fun b z1 z2 o1 o2 o3=>by
   rw[za fun z=>by subst z;exact z2 n2,za fun z=>by subst z;exact z2 n1,za z1]
  refine go f _ (fun b o d e=>?_) (fun b hb=>?_) (fun y hy=>?_) n2 ⟨pm,G,C,zb,by rw[za ne,zb]⟩
  ·rw[Y b (fun z=>by subst z;rw[hP]at e;cases e;exact d _ rfl) (by rw[e];simp)];exact e
  ·by_cases z:b=P
   ·subst z;rw[za (bE fP),za (bE cP),zb];simp
   ·rw[Y b z hb];exact hb
  ·by_cases z:y.1=P
   ·have ey:y=(P,q):=by
     have:∀(l:List (Addr×Str)),(l.map (·.1)).Nodup->y∈l->(P,q)∈l->y=(P,q):=by
      intro l
      induction l with
      | nil=>intro _ h;simp at h
      | cons a l ih =>
       intro hn h1 h2
       rw[aL,cr]at hn
       rcases aC.mp h1 with e1|h1<;>rcases aC.mp h2 with e2|h2
       ·rw[e1,e2]
       ·exact absurd (by rw[<-e1,z];exact a7 (f:=(·.1)) h2) hn.1
       ·exact absurd (by rw[<-e2,<-z];exact a7 (f:=(·.1)) h1) hn.1
       ·exact ih hn.2 h1 h2
     exact this T nd hy hm
    subst ey
    refine⟨_,by rw[za (bE fP),za (bE cP),zb],?_,fun J cv e=>?_⟩
    ·rw[cQ];exact TriplesOk_snoc _ _ _ _ ht
    ·rw[cQ]at e
     rcases codeAmong_add _ ht e with e'|e'
     ·obtain⟨c2,e1,e2⟩:=hc J cv e'
      exact⟨c2,e1,by rw[Y c2 (fun z=>by subst z;rw[hP]at e2;unfold qa at e2;cases e2) (by rw[e2];simp)];exact e2⟩
     ·exact⟨G,e',by rw[za ne,zb]⟩
   ·obtain⟨qs,e1,e2,e3⟩:=hT y hy
    refine⟨qs,by rw[Y y.1 z (by rw[e1];simp)];exact e1,e2,fun J cv e=>?_⟩
    obtain⟨c2,e4,e5⟩:=e3 J cv e
    exact⟨c2,e4,by rw[Y c2 (fun z=>by subst z;rw[hP]at e5;unfold qa at e5;cases e5) (by rw[e5];simp)];exact e5⟩
 ·obtain⟨G,e1,e2⟩:=hc pos cv e
  refine⟨G,e1,fun f pm C n=>go f _ (.of ((ae1.refl H).new n)) (fun b hb=>by
   by_cases z:b=f
   ·subst z;rw[zb];simp
   ·rw[za z];exact hb) (hT.new n) n ⟨pm,G,C,zb,?_⟩⟩
  rw[za (zm e2 n)];exact e2
theorem bp4 {P:aD}{w:World}{K:ab}{mg:Str->Option Value}{base:Heap}{k:Nat}{f:Addr}{N ps fr:List Str}{name qual:Str}{params:aV}{body:List Stmt}{scope:Scope}{h:List (Str×Addr)}{cap:List V}{sp:Sp}
  (S:LamScope N ps fr scope) (len:∀ vs H Q E,sp vs H Q E->vs.length=ps.length) (a5:cap.length=fr.length)
  (Y:∀(a1 pm:Value) (c':Addr) (a0:Value) (us:List Value),us.length=ps.length->dB (bT name qual params body scope h .none .none a1 pm none (.ref c') a0) ⟨us,[]⟩=pure (ps.zip us))
  (G:∀(A:aP) (outer:List Env) (s:ac) (H:Hp) (cd:Value) (vs:List V) (Q:VK),Room k (A.deeper (ci qual scope s.heap.objs.size f cd (aE (s.heap.objs.size+1) scope.names h)))->ah4 H f name qual params body scope fr cap h->(∀ b o,K.lookup b=some o->H b=none)->sp vs H Q E0 ->
   ∃ t,PSs (aw9 P w K mg base N qual scope f cd h A outer s H) body t/\t { nx:=fun _ H'=>(∀ b,isC h b=true->H' b=none)->Q .non (Put h H H'),rt:=fun v H'=>(∀ b,isC h b=true->H' b=none)->Q v (Put h H H') } (vs.map some++cap.map some) (aa7 h H)) :
  ClOk P w K mg base (k+1) (fun H=>ah4 H f name qual params body scope fr cap h) f sp:=by
 refine⟨fun A outer s H us vs Q hr C hR r a2=>?_⟩
 have hl:=len _ _ _ _ a2
 obtain⟨a1,pm,c',a0,h1,h2,h3,h4,h5,h6⟩:=id hR
 have a6:s.heap.NoLimit:=C.mod.nolimit.keeps fun b o e=>(C.bs b o e).1
 refine fI hr.depth (ao5 C.hok h1) rfl S.co S.gen rfl (at4 C.hok h2) ?_
 rw[Y a1 pm c' a0 us (by rw[<-r.length];exact hl)]
 refine aJ (ak7 S.kind (fun y hy=>?_) fun env he s1 x=>?_)
 ·rcases S.par y.1 (cU (show(y.1,y.2)∈ps.zip us from hy)).1 with q|q
  ·exact .inl q
  ·exact .inr ⟨q,zM q⟩
 ·subst he
  refine⟨a6.keeps x.toInCall.keep,codeAny_func ?_⟩
  obtain⟨t,ht,hq⟩:=G A outer s H (.ref c') vs Q (hr.deeper _) hR (fun b o e=>(C.bs b o (C.mod.kin b o e)).2) a2
  have I:=aP5 S hr.hd C hl a5 r h3 h4 h5 h6 x
  refine bP (ht [] s1 _ _ _ I hq) (fun fl s' hs=>?_) fun e s' hs=>hs.elim
  have fin:∀ {σ':St} {H':Hp} {v:V} {u:Value},Inv (aw9 P w K mg base N qual scope f (.ref c') h A outer s H) [] σ' H' s'->RelV v u->((∀ b,isC h b=true->H' b=none)->Q v (Put h H H'))->CE outer P w H s Q u s':=fun {σ' H' v u} J rv q=>by
   obtain⟨un,a4⟩:=aP6 C.hok h3 C.frf J.base J.hok
   have a3:∀ b,isC h b=true->H' b=none:=fun b y=>by
    obtain⟨o,v,z,_⟩:=h3.at y
    exact(show Un (frs outer) [] (aa7 h H) H' s.heap s'.heap from J.base).free b o (C.hok b _ z).1 (aa7.cell y) (by simp)
   exact⟨v,_,J.os,J.bare,un,a4,rv,q a3⟩
  cases fl with
  | ret u =>
   obtain⟨v,σ',H',J,rv,q⟩:=hs
   exact fin J rv q
  | next =>
   obtain⟨σ',H',J,q⟩:=hs
   exact fin (v:=V.non) (u:=Value.none) J rfl q
  | brk =>
   obtain⟨_,_,_,q⟩:=hs
   exact bo q
  | cont =>
   obtain⟨_,_,_,q⟩:=hs
   exact bo q
theorem bp2 {P:aD}{w:World}{K:ab}{mg:Str->Option Value}{base:Heap}{k:Nat}{f:Addr}{N ps fr:List Str}{qual:Str}{params:aV}{body:Expr}{scope:Scope}{h:List (Str×Addr)}{cap:List V}{sp:Sp}
  (S:LamScope N ps fr scope) (len:∀ vs H Q E,sp vs H Q E->vs.length=ps.length) (a4:cap.length=fr.length)
  (Y:∀(pm:Value) (c':Addr) (a0:Value) (us:List Value),us.length=ps.length->dB (bC "<lambda>" qual params body scope h pm (.ref c') a0) ⟨us,[]⟩=pure (ps.zip us))
  (G:∀(A:aP) (outer:List Env) (s:ac) (H:Hp) (cd:Value) (vs:List V) (Q:VK),Room k (A.deeper (ci qual scope s.heap.objs.size f cd (aE (s.heap.objs.size+1) scope.names h)))->ap2 H f qual params body scope fr cap h->(∀ b o,K.lookup b=some o->H b=none)->sp vs H Q E0 ->
   ∃ t,PE (aw9 P w K mg base N qual scope f cd h A outer s H) body t/\t (vs.map some++cap.map some) (aa7 h H) fun v H'=>(∀ b,isC h b=true->H' b=none)->Q v (Put h H H')) :
  ClOk P w K mg base (k+1) (fun H=>ap2 H f qual params body scope fr cap h) f sp:=by
 refine⟨fun A outer s H us vs Q hr C hR r a1=>?_⟩
 have hl:=len _ _ _ _ a1
 obtain⟨pm,c',a0,h1,h2,h3,h4,h5,h6⟩:=id hR
 have a5:s.heap.NoLimit:=C.mod.nolimit.keeps fun b o e=>(C.bs b o e).1
 refine PySem.W.kla_callFunE hr.depth (ao5 C.hok h1) rfl S.co S.gen rfl (at4 C.hok h2) ?_
 rw[Y pm c' a0 us (by rw[<-r.length];exact hl)]
 refine aJ (ak7 S.kind (fun y hy=>?_) fun env he s1 x=>?_)
 ·rcases S.par y.1 (cU (show(y.1,y.2)∈ps.zip us from hy)).1 with q|q
  ·exact .inl q
  ·exact .inr ⟨q,zM q⟩
 ·subst he
  refine⟨a5.keeps x.toInCall.keep,PySem.W.kla_codeExpr ?_⟩
  obtain⟨t,ht,hq⟩:=G A outer s H (.ref c') vs Q (hr.deeper _) hR (fun b o e=>(C.bs b o (C.mod.kin b o e)).2) a1
  have I:=aP5 S hr.hd C hl a4 r h3 h4 h5 h6 x
  refine bP (ht [] s1 _ _ _ I hq) (fun u s' hs=>?_) fun e s' hs=>hs.elim
  obtain⟨v,H',J,rv,q⟩:=hs
  obtain⟨un,a3⟩:=aP6 C.hok h3 C.frf J.base J.hok
  have a2:∀ b,isC h b=true->H' b=none:=fun b y=>by
   obtain⟨o,v,z,_⟩:=h3.at y
   exact(show Un (frs outer) [] (aa7 h H) H' s.heap s'.heap from J.base).free b o (C.hok b _ z).1 (aa7.cell y) (by simp)
  exact⟨v,_,J.os,J.bare,un,a3,rv,q a2⟩
theorem Rp.sameT {φ:Nat->Addr}{H H':Hp}{s:jk}(r:Rp Γ φ H s)(e:aO1 H H')(st:∀ b,H b≠none->H' b≠none)(tb:TabsH Γ.T H'):Gr φ s H φ s H'/\Rp Γ φ H' s:=by
 have kp:Kp H H':=fun b o h f=>e b o (fun ps z=>by subst z;cases f) h
 have Y:Gw φ s.length H φ H':=⟨fun _ _=>rfl,kp⟩
 refine⟨⟨Y,ai _,fun i h1 h2=>absurd h2 (by omega),fun i o o' e e'=>by rw[e]at e';cases e';rfl,st,fun b o h C _=>e b o C h⟩,r.inj,fun i o G=>?_,r.wf,tb⟩
 exact(r.obj i o G).mono Y (r.wf i o G) fun m u J=>by
  obtain⟨u',y,_,C⟩:=(r.obj i o G).there m
  rw[J]at y;cases y
  exact e _ _ C J
theorem Cells.kp {H H':Hp}(h:Cells clos H)(k:Kp H H'):Cells clos H':=fun x c e=>by
 obtain⟨o,v,q,d⟩:=h x c e
 exact⟨o,v,k _ _ q rfl,d⟩
noncomputable def PVp (Γ : Gm) (cells : List (Str × Addr)) (N : List Str) (σ : St) (φ : Nat -> Addr) (H : Hp) (d : DV.D) (v : V) : Prop := RV Γ φ H d v \/ ∃ id cs, d = .clo id cs /\ ∃ f J, v = .ref f /\ Γ.lg id J /\ ad3 H f J (ac1 cells J.scope.names []) /\
      cs.length = J.fr.length /\ (∀ x, J.scope.names.lookup x = some .free -> ∃ c, cells.lookup x = some c) /\
      ∃ cap, RVL Γ φ H cs cap /\ ∀(i : Nat) (x : Str) (v : V), J.fr[i]? = some x -> cap[i]? = some v -> J.scope.names.lookup x = some .free /\ ∃ j : Nat, N[j]? = some x /\ σ[j]? = some (some v)
inductive PVL (Γ:Gm)(cells:List (Str×Addr))(N:List Str)(σ:St)(φ:Nat->Addr)(H:Hp):List jl->List V->Prop where
 | nil:PVL Γ cells N σ φ H [] []
 | cons {d v l vs} (a:PVp Γ cells N σ φ H d v) (b:PVL Γ cells N σ φ H l vs):PVL Γ cells N σ φ H (d::l) (v::vs)
theorem PVp.mono {cells:List (Str×Addr)}{N:List Str}{σ:St}{φ φ':Nat->Addr}{s s':jk}{H H':Hp}(g:Gr φ s H φ' s' H'){d:jl}{v:V}(b:d.bnd s.length=true)(h:PVp Γ cells N σ φ H d v):PVp Γ cells N σ φ' H' d v:=by
 rcases h with h|⟨id,cs,rfl,h⟩
 ·exact .inl (RV.mono g _ _ b h)
 ·obtain⟨f,J,e,h1,y,Y,G,cap,C,z⟩:=h
  unfold jq at b
  exact .inr ⟨id,cs,rfl,f,J,e,h1,y.kp g.w.kp,Y,G,cap,RVL.mono g cs cap b C,z⟩
theorem PVp.caught {cells:List (Str×Addr)}{N:List Str}{kd:Str->Option bw}{σ:St}{φ:Nat->Addr}{n:Nat}{C H2:Hp}(ca:Caught cells N kd σ C H2)(G:∀ x c,cells.lookup x=some c->kd x=some .cell\/kd x=some .free){d:jl}{v:V}(b:d.bnd n=true)(h:PVp Γ cells N σ φ C d v):RV Γ φ H2 d v:=by
 have gw:Gw φ n C φ H2:=⟨fun _ _=>rfl,fun b o e _=>ca.same b o e⟩
 rcases h with h|⟨id,cs,rfl,h⟩
 ·exact RV.monoW gw _ _ b h
 ·obtain⟨f,J,e,h1,z,h4,Y,cap,h6,h7⟩:=h
  unfold jq at b
  unfold RV
  have y:∀(i:Nat) (x:Str) (v:V),J.fr[i]?=some x->cap[i]?=some v->J.scope.names.lookup x=some .free/\(kd x=some .cell\/kd x=some .free)/\∃ j:Nat,N[j]?=some x/\σ[j]?=some (some v):=fun i x v e1 e2=>by
   obtain⟨q1,q2⟩:=h7 i x v e1 e2
   obtain⟨c,q3⟩:=Y x q1
   exact⟨q1,G x c q3,q2⟩
  have hat:CloAt H2 f J cap (ac1 cells J.scope.names []):=by
   unfold CloAt
   unfold ad3 at z
   cases q:J.nm with
   | none=>rw[q]at z;exact aW8 ca z Y y
   | some p=>rw[q]at z;exact aR3 ca z Y y
  exact⟨f,cap,J,_,e,h1,hat,by rw[h6.length,h4],RVL.monoW gw cs cap b h6⟩
theorem PVL.caught {cells:List (Str×Addr)}{N:List Str}{kd:Str->Option bw}{σ:St}{φ:Nat->Addr}{n:Nat}{z H2:Hp}(C:Caught cells N kd σ z H2)(y:∀ x c,cells.lookup x=some c->kd x=some .cell\/kd x=some .free){l:List jl}{vs:List V}(h:PVL Γ cells N σ φ z l vs)(b:jm n l=true):RVL Γ φ H2 l vs:=by
 induction h with
 | nil=>exact .nil
 | cons a _ ih =>
  unfold jm at b
  rw[ag]at b
  exact .cons (a.caught C y b.1) (ih b.2)
end
variable {Γ:Gm} {X:Cx}
def TEv (Γ:Gm)(m:jn->jk->jo jl):TE:=fun σ H Q=>∃ φ ρ s d s',RE Γ φ H s.length ρ σ/\Rp Γ φ H s/\m ρ s=.ok d s'/\ac6 Γ φ s H d s' Q
def by6 (Γ:Gm)(φ:Nat->Addr)(s:jk)(H:Hp)(l:List jl)(s':jk)(Q:List V->Hp->Prop):Prop :=
 ∀ vs φ' H',Gr φ s H φ' s' H'->s.length<=s'.length->jm s'.length l=true->RVL Γ φ' H' l vs->Rp Γ φ' H' s'->Q vs H'
def TAv (Γ:Gm)(m:jn->jk->jo (List jl)):TA:=fun σ H Q=>∃ φ ρ s l s',RE Γ φ H s.length ρ σ/\Rp Γ φ H s/\m ρ s=.ok l s'/\by6 Γ φ s H l s' Q
def ay1 (Γ:Gm)(φ:Nat->Addr)(s:jk)(H:Hp)(b:Bool)(s':jk)(Q:Bool->Hp->Prop):Prop :=
 ∀ φ' H',Gr φ s H φ' s' H'->s.length<=s'.length->Rp Γ φ' H' s'->Q b H'
def TTv (Γ:Gm)(m:jn->jk->jo jl):TT:=fun σ H Q=>∃ φ ρ s b s',RE Γ φ H s.length ρ σ/\Rp Γ φ H s/\m ρ s=.ok (.bl b) s'/\ay1 Γ φ s H b s' Q
theorem PE.imp {e:Expr}{t t':TE}(h:PE X e t)(i:∀ σ H Q,t' σ H Q->t σ H Q):PE X e t':=fun y s σ H Q I q=>h y s σ H Q I (i σ H Q q)
theorem PT.imp {e:Expr}{t t':TT}(h:PT X e t)(i:∀ σ H Q,t' σ H Q->t σ H Q):PT X e t':=fun y s σ H Q I q=>h y s σ H Q I (i σ H Q q)
theorem PA.imp {e:List Expr}{t t':TA}(h:PA X e t)(i:∀ σ H Q,t' σ H Q->t σ H Q):PA X e t':=fun pos y s σ H Q I q=>h pos y s σ H Q I (i σ H Q q)
theorem ay1.trans {φ φ1:Nat->Addr}{s s1 s':jk}{H y:Hp}{b:Bool}{Q:Bool->Hp->Prop}(h:ay1 Γ φ s H b s' Q)(g:Gr φ s H φ1 s1 y)(l:s.length<=s1.length):ay1 Γ φ1 s1 y b s' Q :=
 fun φ' H' g' z p=>h φ' H' (g.trans g' l) (am l z) p
theorem bs1 (i:Nat){σ:St}{H:Hp}{Q:VK}(h:TEv Γ (fun ρ s=>DV.aA7 ρ i s) σ H Q):bb3 i σ H Q:=by
 obtain⟨φ,ρ,s,d,s',E,R,y,q⟩:=h
 simp only[DV.aA7]at y
 split at y
 ·rename_i d' e
  cases y
  obtain⟨b,v,e1,e2⟩:=E.val i _ e
  exact⟨v,e1,q.here R b e2⟩
 ·exact fb y
theorem ap8 {c:jl}{v:V}(hb:∀ n,c.bnd n=true)(z:∀ φ H,RV Γ φ H c v){σ:St}{H:Hp}{Q:VK}(h:TEv Γ (fun ρ s=>.ok c s) σ H Q):tC v σ H Q:=by
 obtain⟨φ,ρ,s,d,s',E,R,y,q⟩:=h
 cases y
 exact q.here R (hb _) (z _ _)
theorem aW4 {J m2:jn->jk->jo jl}{f:jl->jl->jk->jo jl}{σ:St}{H:Hp}{Q:VK}(h:TEv Γ (fun ρ s=>(J ρ s).bind fun x s=>(m2 ρ s).bind fun y s=>f x y s) σ H Q):tOp (rOp Γ f) (TEv Γ J) (TEv Γ m2) σ H Q:=by
 obtain⟨φ,ρ,s,d,s',E,R,z,q⟩:=h
 obtain⟨x,s1,e1,z⟩:=aa0 z
 obtain⟨y,s2,e2,z⟩:=aa0 z
 refine⟨φ,ρ,s,x,s1,E,R,e1,fun v1 φ1 H1 g1 l1 C r1 R1=>?_⟩
 refine⟨φ1,ρ,s1,y,s2,E.mono g1 l1,R1,e2,fun v2 φ2 H2 Y G b2 r2 R2=>?_⟩
 exact⟨φ2,s2,x,y,d,s',R2,RV.mono Y x v1 C r1,r2,zo G x C,b2,z,q.trans (g1.trans Y l1) (am l1 G)⟩
theorem zF {α:Type}{r:jo jl}{f:Bool->jk->jo α}{a:α}{t:jk}(h:jv r f=.ok a t):∃ b s,r=.ok (.bl b) s/\f b s=.ok a t:=by
 unfold jv at h
 obtain⟨d,s,e,h⟩:=aa0 h
 cases d with
 | bl b=>exact⟨b,s,e,h⟩
 | _=>exact fb h
theorem aA9 {m:jn->jk->jo jl}{σ:St}{H:Hp}{Q:Bool->Hp->Prop}(h:TTv Γ m σ H Q):tB (TEv Γ m) σ H Q:=by
 obtain⟨φ,ρ,s,b,s',E,R,z,q⟩:=h
 refine⟨φ,ρ,s,.bl b,s',E,R,z,fun v φ' H' g l C r y=>?_⟩
 exact⟨b,r.blE,q φ' H' g l y⟩
theorem bk3 {m:jn->jk->jo jl}{σ:St}{H:Hp}{Q:Bool->Hp->Prop}(h:TTv Γ m σ H Q):bA9 (TEv Γ m) σ H Q:=aA9 h
theorem bx6 {m:jn->jk->jo jl}{σ:St}{H:Hp}{Q:Bool->Hp->Prop}(h:TTv Γ (fun ρ s=>jv (m ρ s) fun b s=>.ok (.bl (!b)) s) σ H Q):bO8 (TTv Γ m) σ H Q:=by
 obtain⟨φ,ρ,s,b,s',E,R,y,q⟩:=h
 obtain⟨c,s1,e1,y⟩:=zF y
 cases y
 exact⟨φ,ρ,s,c,_,E,R,e1,q⟩
theorem aZ2 {z C:jn->jk->jo jl}{σ:St}{H:Hp}{Q:Bool->Hp->Prop}(h:TTv Γ (fun ρ s=>jv (z ρ s) fun c s=>if c then jv (C ρ s) fun c s=>.ok (.bl c) s else .ok (.bl false) s) σ H Q):bO9 (TTv Γ z) (TTv Γ C) σ H Q:=by
 obtain⟨φ,ρ,s,b,s',E,R,y,q⟩:=h
 obtain⟨c,s1,e1,y⟩:=zF y
 refine⟨φ,ρ,s,c,s1,E,R,e1,fun φ1 G g1 l1 R1=>?_⟩
 cases c with
 | true =>
  rw[if_pos rfl]at y ⊢
  obtain⟨J,s2,e2,y⟩:=zF y
  cases y
  exact⟨φ1,ρ,s1,_,_,E.mono g1 l1,R1,e2,q.trans g1 l1⟩
 | false =>
  rw[if_neg aN]at y ⊢
  cases y
  exact q φ1 G g1 l1 R1
theorem bt3 {z C:jn->jk->jo jl}{σ:St}{H:Hp}{Q:Bool->Hp->Prop}(h:TTv Γ (fun ρ s=>jv (z ρ s) fun c s=>if c then .ok (.bl true) s else jv (C ρ s) fun c s=>.ok (.bl c) s) σ H Q):tOr (TTv Γ z) (TTv Γ C) σ H Q:=by
 obtain⟨φ,ρ,s,b,s',E,R,y,q⟩:=h
 obtain⟨c,s1,e1,y⟩:=zF y
 refine⟨φ,ρ,s,c,s1,E,R,e1,fun φ1 G g1 l1 R1=>?_⟩
 cases c with
 | true =>
  rw[if_pos rfl]at y ⊢
  cases y
  exact q φ1 G g1 l1 R1
 | false =>
  rw[if_neg aN]at y ⊢
  obtain⟨J,s2,e2,y⟩:=zF y
  cases y
  exact⟨φ1,ρ,s1,_,_,E.mono g1 l1,R1,e2,q.trans g1 l1⟩
theorem br0 {m:jn->jk->jo jl}{σ:St}{H:Hp}{Q:VK}(h:TEv Γ (fun ρ s=>jv (m ρ s) fun b s=>.ok (.bl (!b)) s) σ H Q):bt6 (TEv Γ m) σ H Q:=by
 obtain⟨φ,ρ,s,d,s',E,R,y,q⟩:=h
 obtain⟨c,s1,e1,y⟩:=zF y
 cases y
 exact⟨φ,ρ,s,.bl c,_,E,R,e1,fun v φ1 z g l b r R1=>⟨c,r.blE,q _ φ1 z g l rfl RV.blI R1⟩⟩
theorem aZ1 {z C:jn->jk->jo jl}{σ:St}{H:Hp}{Q:VK}(h:TEv Γ (fun ρ s=>jv (z ρ s) fun c s=>if c then jv (C ρ s) fun c s=>.ok (.bl c) s else .ok (.bl false) s) σ H Q):bD1 (TEv Γ z) (TEv Γ C) σ H Q:=by
 obtain⟨φ,ρ,s,d,s',E,R,y,q⟩:=h
 obtain⟨c,s1,e1,y⟩:=zF y
 refine⟨φ,ρ,s,.bl c,s1,E,R,e1,fun v φ1 G g1 l1 J r1 R1=>⟨c,r1.blE,?_⟩⟩
 cases c with
 | true =>
  rw[if_pos rfl]at y ⊢
  obtain⟨c,s2,e2,y⟩:=zF y
  cases y
  exact⟨φ1,ρ,s1,.bl c,_,E.mono g1 l1,R1,e2,q.trans g1 l1⟩
 | false =>
  rw[if_neg aN]at y ⊢
  cases y
  exact q _ φ1 G g1 l1 rfl RV.blI R1
theorem bw9 {z C:jn->jk->jo jl}{σ:St}{H:Hp}{Q:VK}(h:TEv Γ (fun ρ s=>jv (z ρ s) fun c s=>if c then .ok (.bl true) s else jv (C ρ s) fun c s=>.ok (.bl c) s) σ H Q):bN4 (TEv Γ z) (TEv Γ C) σ H Q:=by
 obtain⟨φ,ρ,s,d,s',E,R,y,q⟩:=h
 obtain⟨c,s1,e1,y⟩:=zF y
 refine⟨φ,ρ,s,.bl c,s1,E,R,e1,fun v φ1 G g1 l1 J r1 R1=>⟨c,r1.blE,?_⟩⟩
 cases c with
 | true =>
  rw[if_pos rfl]at y ⊢
  cases y
  exact q _ φ1 G g1 l1 rfl RV.blI R1
 | false =>
  rw[if_neg aN]at y ⊢
  obtain⟨c,s2,e2,y⟩:=zF y
  cases y
  exact⟨φ1,ρ,s1,.bl c,_,E.mono g1 l1,R1,e2,q.trans g1 l1⟩
theorem bt9 {mc z C:jn->jk->jo jl}{σ:St}{H:Hp}{Q:VK}(h:TEv Γ (fun ρ s=>jv (mc ρ s) fun k s=>if k then z ρ s else C ρ s) σ H Q):tIf (TTv Γ mc) (TEv Γ z) (TEv Γ C) σ H Q:=by
 obtain⟨φ,ρ,s,d,s',E,R,y,q⟩:=h
 obtain⟨c,s1,e1,y⟩:=zF y
 refine⟨φ,ρ,s,c,s1,E,R,e1,fun φ1 G g1 l1 R1=>?_⟩
 cases c with
 | true =>
  rw[if_pos rfl]at y ⊢
  exact⟨φ1,ρ,s1,d,s',E.mono g1 l1,R1,y,q.trans g1 l1⟩
 | false =>
  rw[if_neg aN]at y ⊢
  exact⟨φ1,ρ,s1,d,s',E.mono g1 l1,R1,y,q.trans g1 l1⟩
theorem aB8 {σ:St}{H:Hp}{Q:List V->Hp->Prop}(h:TAv Γ (fun ρ s=>.ok [] s) σ H Q):aS2 σ H Q:=by
 obtain⟨φ,ρ,s,d,s',E,R,y,q⟩:=h
 cases y
 exact q [] φ H (Gr.refl _ _ _) (ai _) rfl .nil R
theorem bm1 {m:jn->jk->jo jl}{Y:jn->jk->jo (List jl)}{σ:St}{H:Hp}{Q:List V->Hp->Prop}(h:TAv Γ (fun ρ s=>(m ρ s).bind fun d s=>(Y ρ s).bind fun l s=>.ok (d::l) s) σ H Q):al8 (TEv Γ m) (TAv Γ Y) σ H Q:=by
 obtain⟨φ,ρ,s,l,s',E,R,z,q⟩:=h
 obtain⟨x,s1,e1,z⟩:=aa0 z
 obtain⟨y,s2,e2,z⟩:=aa0 z
 cases z
 refine⟨φ,ρ,s,x,s1,E,R,e1,fun v1 φ1 H1 g1 l1 C r1 R1=>?_⟩
 refine⟨φ1,ρ,s1,y,_,E.mono g1 l1,R1,e2,fun v2 φ2 H2 J G b2 r2 R2=>?_⟩
 refine q (v1::v2) φ2 H2 (g1.trans J l1) (am l1 G) ?_ (.cons (RV.mono J x v1 C r1) r2) R2
 unfold jm
 rw[zo G x C,b2];rfl
theorem au2 {z:jn->jk->jo (List jl)}{f:List jl->jk->jo jl}{σ:St}{H:Hp}{Q:VK}(h:TEv Γ (fun ρ s=>(z ρ s).bind fun l s=>f l s) σ H Q):tCB (rCl Γ f) (TAv Γ z) σ H Q:=by
 obtain⟨φ,ρ,s,d,s',E,R,y,q⟩:=h
 obtain⟨l,s1,e1,y⟩:=aa0 y
 exact⟨φ,ρ,s,l,s1,E,R,e1,fun vs φ1 G g1 l1 C r1 R1=>⟨φ1,s1,l,d,s',R1,r1,C,y,q.trans g1 l1⟩⟩
variable {Γ:Gm} {X:Cx}
def ak9 (Γ:Gm)(J:It)(φ0:Nat->Addr)(H0:Hp)(s0:jk)(q:j5):Prop :=
 ∀ φ H s,Gr φ0 s0 H0 φ s H->s0.length<=s.length->Rp Γ φ H s->jO s0 s q.src=true->∀ i:Nat,
  (i<q.its.length->J.go i H/\∀ x H',J.yld i H x H'->ae1 H H'/\∀ d,q.its[i]?=some d->RV Γ φ H' d x)/\(q.its.length<=i->J.stop i H)
def TIv (Γ:Gm)(m:jn->jk->jo j5):TI:=fun σ H R=>∃ φ ρ s q s',RE Γ φ H s.length ρ σ/\Rp Γ φ H s/\m ρ s=.ok q s' /\
 ∀ J φ' H',Gr φ s H φ' s' H'->s.length<=s'.length->jm s'.length q.its=true->Rp Γ φ' H' s'->ak9 Γ J φ' H' s' q->R J H'
theorem PI.imp {tg e:Expr}{t t':TI}(h:PI X tg e t)(i:∀ σ H R,t' σ H R->t σ H R):PI X tg e t':=fun y s σ H R I q=>h y s σ H R I (i σ H R q)
theorem PI.or {tg e:Expr}{t t':TI}(h:PI X tg e t)(h':PI X tg e t'):PI X tg e (fun σ H R=>t σ H R\/t' σ H R):=fun y s σ H R I q=>q.elim (h y s σ H R I) (h' y s σ H R I)
theorem aU5 {φ0:Nat->Addr}{H0:Hp}{s0:jk}{a:Addr}{C:List V}{l:List jl}(h:SqT Γ.K H0 a C)(hl:RVL Γ φ0 H0 l C)(hb:jm s0.length l=true):ak9 Γ (Itt Γ.K a) φ0 H0 s0 ⟨l,[]⟩:=by
 intro φ H s g _ R _ i
 have h':=g.w.kp.sqT h
 have z:=RVL.mono g l C hb hl
 refine⟨fun hlt=>⟨⟨C,C[i]'(by rw[z.length];exact hlt),h',aj _⟩,fun x H' y=>?_⟩,fun G=>⟨C,h',by rw[z.length];exact G⟩⟩
 obtain⟨e,y⟩:=y
 subst e
 refine⟨ae1.refl _,fun d hd=>?_⟩
 obtain⟨v,e1,e2⟩:=z.get hd
 rw[y C h']at e1;cases e1
 exact e2
theorem bl1 {φ0:Nat->Addr}{H0:Hp}{s0:jk}{a:Addr}{C:List V}{l:List jl}(h:SqF Γ.K H0 a C)(hl:RVL Γ φ0 H0 l C)(hb:jm s0.length l=true):ak9 Γ (Itl Γ.K a) φ0 H0 s0 ⟨l,[]⟩:=by
 intro φ H s g _ R _ i
 have h':=h.2 _ g.w.kp
 have z:=RVL.mono g l C hb hl
 refine⟨fun hlt=>⟨⟨C,C[i]'(by rw[z.length];exact hlt),h',aj _⟩,fun x H' y=>?_⟩,fun G=>⟨C,h',by rw[z.length];exact G⟩⟩
 obtain⟨e,y⟩:=y
 subst e
 refine⟨ae1.refl _,fun d hd=>?_⟩
 obtain⟨v,e1,e2⟩:=z.get hd
 rw[y C h']at e1;cases e1
 exact e2
theorem aW5 {φ0:Nat->Addr}{H0:Hp}{s0:jk}{r:Nat}{l:List jl}(Y:s0[r]?=some (.lst l)):ak9 Γ (Itl Γ.K (φ0 r)) φ0 H0 s0 ⟨l,[r]⟩:=by
 intro φ H s g _ R J i
 have z:r<s0.length:=(ae.mp Y).1
 have hs:s[r]?=some (.lst l):=by
  unfold jO at J
  simp only[dA,i5,eN,decide_eq_true_eq]at J
  rw[J];exact Y
 obtain⟨C,e,h⟩:=R.addr hs
 rw[g.w.map r z]at e
 have h':SqL Γ.K H (φ0 r) C:=SqL.of e
 refine⟨fun hlt=>⟨⟨C,C[i]'(by rw[h.length];exact hlt),h',aj _⟩,fun x H' y=>?_⟩,fun G=>⟨C,h',by rw[h.length];exact G⟩⟩
 obtain⟨e,y⟩:=y
 subst e
 refine⟨ae1.refl _,fun d hd=>?_⟩
 obtain⟨v,e1,e2⟩:=h.get hd
 rw[y C h']at e1;cases e1
 exact e2
theorem aY0 {φ0:Nat->Addr}{H0:Hp}{s0:jk}{l:List Nat}:ak9 Γ (Its ⟨l.toArray⟩) φ0 H0 s0 ⟨l.map fun c=>.str [c],[]⟩:=by
 intro φ H s g _ R _ i
 have hsz:(⟨l.toArray⟩:Str).cps.size=l.length:=by simp
 refine⟨fun hlt=>?_,fun h=>?_⟩
 ·simp only[aI]at hlt
  refine⟨show i<(⟨l.toArray⟩:Str).cps.size by rw[hsz];exact hlt,fun x H' y=>?_⟩
  obtain⟨e,c,hc,rfl⟩:=y
  subst e
  refine⟨ae1.refl _,fun d hd=>?_⟩
  have z:l[i]?=some c:=by simpa using hc
  rw[aG,z]at hd
  cases hd
  exact RV.strI (by simp;decide)
 ·simp only[aI]at h
  show(⟨l.toArray⟩:Str).cps.size<=i
  rw[hsz];exact h
theorem aX8 {φ0:Nat->Addr}{H0:Hp}{s0:jk}{a b:Int}:ak9 Γ (Itr a (b - a).toNat) φ0 H0 s0 ⟨jU a b,[]⟩:=by
 intro φ H s g _ R _ i
 have hn:(jU a b).length=(b - a).toNat:=by simp[jU]
 refine⟨fun hlt=>⟨show i<(b - a).toNat by rw[<-hn];exact hlt,fun x H' y=>?_⟩,fun h=>show(b - a).toNat<=i by rw[<-hn];exact h⟩
 obtain⟨e,rfl⟩:=y
 subst e
 refine⟨ae1.refl _,fun d hd=>?_⟩
 simp only[jU]at hd hlt
 rw[aG,bR (by simpa using hlt)]at hd
 cases hd
 exact RV.intI
theorem bn4 {m:jn->jk->jo jl}{σ:St}{H:Hp}{R:It->Hp->Prop}(h:TIv Γ (fun ρ s=>(m ρ s).bind fun x s=>match x with|.int i=>if -kA<=i/\i<kA then .ok ⟨jU 0 i,[]⟩ s else .bad|_=>.bad) σ H R) :
  bA4 (al8 (TEv Γ m) aS2) σ H R:=by
 obtain⟨φ,ρ,s,q,s',E,P,y,k⟩:=h
 obtain⟨x,s1,e1,y⟩:=aa0 y
 refine⟨φ,ρ,s,x,s1,E,P,e1,fun v φ1 z g l b r C=>?_⟩
 cases x with
 | int i =>
  simp only at y
  split at y
  ·rename_i hi
   cases y
   have hw:kA=2^62:=by decide
   rw[hw]at hi
   refine⟨i,by rw[r.intE],hi.1,hi.2,k _ φ1 z g l ?_ C ?_⟩
   ·refine aa4.mpr fun d hd=>?_
    simp only[jU,aO]at hd
    obtain⟨_,_,rfl⟩:=hd
    rfl
   ·have:=aX8 (Γ:=Γ) (φ0:=φ1) (H0:=z) (s0:=s') (a:=0) (b:=i)
    rwa [Int.sub_zero]at this
  ·exact fb y
 | _=>exact fb y
theorem bw4 {m:jn->jk->jo jl}{σ:St}{H:Hp}{R:It->Hp->Prop}(h:TIv Γ (fun ρ s=>(m ρ s).bind fun d s=>DV.aF8 d s) σ H R) :
  bG4 Γ.K (TEv Γ m) σ H R\/bj2 Γ.K (TEv Γ m) σ H R\/bP8 (TEv Γ m) σ H R:=by
 obtain⟨φ,ρ,s,q,s',E,P,y,k⟩:=h
 obtain⟨x,s1,e1,y⟩:=aa0 y
 unfold DV.aF8 at y
 cases x with
 | tup l =>
  cases y
  refine .inl ⟨φ,ρ,s,_,_,E,P,e1,fun v φ1 C g l b r z=>?_⟩
  obtain⟨a,J,rfl,h1,d1⟩:=r.tupE
  unfold jq at b
  exact⟨a,rfl,⟨J,h1⟩,k _ φ1 C g l b z (aU5 h1 d1 b)⟩
 | str l =>
  cases y
  refine .inr (.inr ⟨φ,ρ,s,_,_,E,P,e1,fun v φ1 C g G b r z=>?_⟩)
  refine⟨_,r.strE,k _ φ1 C g G ?_ z aY0⟩
  refine aa4.mpr fun d hd=>?_
  simp only[aO]at hd
  obtain⟨_,_,rfl⟩:=hd
  rfl
 | ref r =>
  simp only at y
  cases hs:s1[r]? with
  | none=>rw[hs]at y;cases y
  | some o =>
   rw[hs]at y
   cases o with
   | lst l =>
    cases y
    refine .inr (.inl ⟨φ,ρ,s,_,_,E,P,e1,fun v φ1 C g G b Y z=>?_⟩)
    have e:=Y.refE;subst e
    obtain⟨J,e2,d1⟩:=z.addr hs
    have wf:=z.wf _ _ hs
    unfold jr at wf
    exact⟨φ1 r,rfl,⟨J,SqL.of e2⟩,k _ φ1 C g G wf z (aW5 hs)⟩
   | ro l =>
    cases y
    refine .inr (.inl ⟨φ,ρ,s,_,_,E,P,e1,fun v φ1 C g G b Y z=>?_⟩)
    have e:=Y.refE;subst e
    obtain⟨J,e2,d1⟩:=z.obj _ _ hs
    have wf:=z.wf _ _ hs
    unfold jr at wf
    exact⟨φ1 r,rfl,⟨J,e2.1⟩,k _ φ1 C g G wf z (bl1 e2 d1 wf)⟩
   | dic l=>exact fb y
   | dit l=>exact fb y
   | ins c l=>exact fb y
 | _=>exact fb y
variable {Γ:Gm} {X:Cx}
noncomputable def bE8:List Nat->TGs
 | []=>bN8
 | i::is=>bv3 (at5 i) (bE8 is)
noncomputable def gOf (K:ab):jL->TG
 | .one i=>at5 i
 | .tup is=>bM9 K is.length (bE8 is)
theorem aZ9 {φ:Nat->Addr}{H:Hp}{n:Nat}{ρ ρ':jn}{σ:St}{i:Nat}{d:jl}{v:V}(E:RE Γ φ H n ρ σ)(r:RV Γ φ H d v)(b:d.bnd n=true)(h:j2 ρ i d=some ρ'):RE Γ φ H n ρ' (σ.set i (some v)):=by
 unfold j2 at h
 split at h
 ·rename_i hi
  cases h
  refine⟨by rw[br,br];exact E.len,fun j e hj=>?_⟩
  by_cases hij:j=i
  ·subst hij
   rw[aU hi]at hj
   cases hj
   exact⟨b,v,by rw[aU (by rw[<-E.len];exact hi)],r⟩
  ·rw[bj (bE hij)]at hj
   obtain⟨C,w,y,z⟩:=E.val j e hj
   exact⟨C,w,by rw[bj (bE hij)];exact y,z⟩
 ·cases h
theorem bu7 {φ:Nat->Addr}{H:Hp}{n:Nat}{Q:St->Hp->Prop}:∀(is:List Nat) (l:List jl) (y:List V) (ρ ρ':jn) (σ:St),RE Γ φ H n ρ σ->RVL Γ φ H l y->jm n l=true->ka ρ is l=some ρ'->(∀ σ',RE Γ φ H n ρ' σ'->Q σ' H)->bE8 is y σ H Q
 | [],[],y,ρ,ρ',σ,E,r,_,h,k=>by
  cases h
  exact⟨r.unnil,k σ E⟩
 | [],d::l,_,_,_,_,_,_,_,h,_=>by cases h
 | i::is,[],_,_,_,_,_,_,_,h,_=>by cases h
 | i::is,d::l,y,ρ,ρ',σ,E,r,b,h,k=>by
  have h:(j2 ρ i d).bind (fun ρ=>ka ρ is l)=some ρ':=h
  obtain⟨x,z,rfl,G,C⟩:=r.uncons
  unfold jm at b
  rw[ag]at b
  cases e:j2 ρ i d with
  | none=>rw[e]at h;cases h
  | some ρ1 =>
   rw[e]at h
   exact⟨x,z,rfl,bu7 is l z ρ1 ρ' _ (aZ9 E G b.1 e) C b.2 h k⟩
theorem aM5 {l:List jl}:∀ {is:List Nat} {ρ ρ':jn},ka ρ is l=some ρ'->is.length=l.length:=by
 induction l with
 | nil=>intro is ρ ρ' h;cases is with
  | nil=>rfl
  | cons i is=>cases h
 | cons d l ih=>intro is ρ ρ' h;cases is with
  | nil=>cases h
  | cons i is =>
   have h:(j2 ρ i d).bind (fun ρ=>ka ρ is l)=some ρ':=h
   cases e:j2 ρ i d with
   | none=>rw[e]at h;cases h
   | some ρ1=>rw[e]at h;rw[aQ,aQ,ih h]
theorem bi5 {φ:Nat->Addr}{H:Hp}{n:Nat}{Q:St->Hp->Prop}{tg:jL}{d:jl}{v:V}{ρ ρ':jn}{σ:St}(E:RE Γ φ H n ρ σ)(r:RV Γ φ H d v)(b:d.bnd n=true)(h:jB ρ tg d=some ρ')(k:∀ σ',RE Γ φ H n ρ' σ'->Q σ' H):gOf Γ.K tg v σ H Q:=by
 cases tg with
 | one i=>exact k _ (aZ9 E r b h)
 | tup is =>
  cases d with
  | tup l =>
   have h:ka ρ is l=some ρ':=h
   obtain⟨a,y,rfl,z,d1⟩:=r.tupE
   unfold jq at b
   exact⟨a,y,rfl,z,by rw[d1.length,aM5 h],bu7 is l y ρ ρ' σ E d1 b h k⟩
  | _=>cases h
def Off (φ:Nat->Addr)(s:jk)(b:Addr):Prop:=∀(i:Nat) (ob:jD),s[i]?=some ob->isMut ob=true->φ i≠b
theorem Off.mono {φ φ':Nat->Addr}{s s':jk}{H H':Hp}{b:Addr}{o:HO}(h:Off φ s b)(g:Gr φ s H φ' s' H')(hb:H b=some o):Off φ' s' b:=fun i ob e m z=>by
 by_cases hi:i<s.length
 ·obtain⟨y,C⟩:∃ y,s[i]?=some y:=⟨s[i],aj hi⟩
  exact h i y C (g.mu i y ob C e m) (by rw[<-g.w.map i hi];exact z)
 ·have:=g.new i (by omega) (ae.mp e).1
  rw[z,hb]at this;cases this
theorem Off.new {φ:Nat->Addr}{s:jk}{H:Hp}{b:Addr}(r:Rp Γ φ H s)(h:H b=none):Off φ s b:=fun i ob e m z=>by
 obtain⟨u,y,_⟩:=(r.obj i ob e).there m
 rw[z,h]at y;cases y
theorem Rp.foreign {φ:Nat->Addr}{s:jk}{H:Hp}{b:Addr}{ys h:List V}(r:Rp Γ φ H s)(hb:H b=some (.lst ys))(ho:Off φ s b):Rp Γ φ (upd H b (.lst h)) s:=by
 have g:Gw φ s.length H φ (upd H b (.lst h)):=⟨fun _ _=>rfl,(Kp.refl H).put hb rfl⟩
 exact⟨r.inj,fun i o e=>(r.obj i o e).mono g (r.wf i o e) fun m u y=>by rw[za (ho i o e m)];exact y,r.wf,r.tab.put hb⟩
theorem Gr.foreign {φ φ':Nat->Addr}{s s':jk}{H H':Hp}{b:Addr}{ys z:List V}(g:Gr φ s H φ' s' H')(h0:H b=none)(hb:H' b=some (.lst ys)):Gr φ s H φ' s' (upd H' b (.lst z)):=by
 have ne:∀ c o,H c=some o->c≠b:=fun c o e=>zm e h0
 refine⟨⟨g.w.map,fun c o e f=>?_⟩,g.le,g.new,g.kd,fun c hc=>?_,fun c o e h y=>?_⟩
 ·rw[za (ne c o e)];exact g.w.kp c o e f
 ·unfold upd;split
  ·simp
  ·exact g.st c hc
 ·rw[za (ne c o e)];exact g.fr c o e h y
def bs0 (Γ:Gm)(φ:Nat->Addr)(s:jk)(H:Hp)(l:List jl)(s':jk)(Q:VK):Prop :=
 ∀ p ys φ' H',Gr φ s H φ' s' H'->s.length<=s'.length->jm s'.length l=true->H' p=some (.lst ys)->H p=none->Off φ' s' p->RVL Γ φ' H' l ys->Rp Γ φ' H' s'->Q (.ref p) H'
def TFv (Γ:Gm)(m:jn->jk->jo (List jl)):TE:=fun σ H Q=>∃ φ ρ s l s',RE Γ φ H s.length ρ σ/\Rp Γ φ H s/\m ρ s=.ok l s'/\bs0 Γ φ s H l s' Q
theorem aN6 {m:jn->jk->jo (List jl)}{σ:St}{H:Hp}{Q:VK}(h:TEv Γ (fun ρ s=>(m ρ s).bind fun l s=>jQ (.lst l) s) σ H Q):TFv Γ m σ H Q:=by
 obtain⟨φ,ρ,s,d,s',E,R,hm,q⟩:=h
 obtain⟨l,s1,e1,hm⟩:=aa0 hm
 obtain⟨rfl,rfl⟩:=zP hm
 refine⟨φ,ρ,s,l,s1,E,R,e1,fun p ys φ' H' g hl hb hp h0 ho r z=>?_⟩
 have gw:Gw φ' s1.length H' (fun i=>if i=s1.length then p else φ' i) H':=⟨fun i hi=>if_neg (aq hi),Kp.refl _⟩
 have key:∀(i:Nat) (y:jD),(s1++[DV.O.lst l])[i]?=some y->(i<s1.length/\s1[i]?=some y)\/(i=s1.length/\y=.lst l):=fun i y e=>by
  rcases eA i s1.length with h|h|h
  ·rw[aH h]at e;exact .inl ⟨h,e⟩
  ·subst h;simp at e;exact .inr ⟨rfl,e.symm⟩
  ·rw[bL (by simp;omega)]at e;cases e
 have G:Gr φ s H (fun i=>if i=s1.length then p else φ' i) (s1++[.lst l]) H':=by
  refine⟨⟨fun i hi=>by show(if i=s1.length then p else φ' i)=_;rw[if_neg (by omega)];exact g.w.map i hi,g.w.kp⟩,by simp;omega,fun i h1 h2=>?_,fun i o y e e'=>?_,g.st,g.fr⟩
  ·by_cases hi:i=s1.length
   ·show H (if i=s1.length then p else φ' i)=none
    rw[if_pos hi];exact h0
   ·show H (if i=s1.length then p else φ' i)=none
    rw[if_neg hi];exact g.new i h1 (by simp at h2;omega)
  ·rcases key i y e' with⟨_,e2⟩|⟨hi,_⟩
   ·exact g.kd i o y e e2
   ·have:=(ae.mp e).1;omega
 have P:Rp Γ (fun i=>if i=s1.length then p else φ' i) H' (s1++[.lst l]):=by
  refine⟨fun i j Y J C ej mi mj e=>?_,fun i o e=>?_,fun i o e=>?_,z.tab⟩
  ·rcases key i Y C with⟨hi,C⟩|⟨hi,_⟩<;>rcases key j J ej with⟨hj,ej⟩|⟨hj,_⟩
   ·rw[if_neg (aq hi),if_neg (aq hj)]at e
    exact z.inj i j Y J C ej mi mj e
   ·rw[if_neg (aq hi),if_pos hj]at e
    exact absurd e (ho i Y C mi)
   ·rw[if_neg (aq hj),if_pos hi]at e
    exact absurd e.symm (ho j J ej mj)
   ·rw[hi,hj]
  ·rcases key i o e with⟨hi,e⟩|⟨hi,rfl⟩
   ·show RO Γ _ _ (if i=s1.length then p else φ' i) o
    rw[if_neg (aq hi)]
    exact(z.obj i o e).mono gw (z.wf i o e) fun _ u hu=>hu
   ·show RO Γ _ _ (if i=s1.length then p else φ' i) _
    rw[if_pos hi]
    exact⟨ys,hp,RVL.monoW gw l ys hb r⟩
  ·rw[aR,cB]
   rcases key i o e with⟨_,e⟩|⟨_,rfl⟩
   ·exact zV (cG _) _ (z.wf i o e)
   ·exact zV (cG _) _ (by unfold jr;exact hb)
 exact q (.ref p) _ H' G (by simp;omega) (by unfold jq;simp) (by unfold RV;simp) P
theorem bv4 {φ:Nat->Addr}{H:Hp}{n:Nat}{ρ:jn}{σ:St}(E:RE Γ φ H n ρ σ)(h:List (Option Nat)):RE Γ φ H n (j6 ρ h) (aq8 h σ):=by
 refine⟨by unfold j6 aq8;simp,fun i d e=>?_⟩
 unfold j6 at e
 rw[aG]at e
 cases q:h[i]? with
 | none=>rw[q]at e;cases e
 | some o =>
  rw[q]at e
  cases o with
  | none=>cases e
  | some j =>
   have e':(ρ[j]?).join=some d:=ay e
   have ej:ρ[j]?=some (some d):=by
    cases q2:ρ[j]? with
    | none=>rw[q2]at e';cases e'
    | some o2=>rw[q2]at e';exact congrArg some e'
   obtain⟨b,v,z,y⟩:=E.val j d ej
   refine⟨b,v,?_,y⟩
   unfold aq8
   rw[aG,q]
   show some ((σ[j]?).join)=_
   rw[z];rfl
theorem aK1 {mI:jn->jk->jo j5}{mc me:jn->jk->jo jl}{tg:jL}{G:List (Option Nat)}{σ:St}{H:Hp}{Q:VK}
  (h:TFv Γ (fun ρ s=>(mI ρ s).bind fun q s0=>if q.its.length<=js then j3 (fun s=>jO s0 s q.src) (fun d ρ s=>match jB ρ tg d with
   | some ρ=>jv (mc ρ s) fun k s=>if k then(me ρ s).bind fun v s=>.ok (some v,ρ) s else .ok (none,ρ) s
   | none=>.bad) q.its (j6 ρ G) s0 else .bad) σ H Q):tComp G (TIv Γ mI) (gOf Γ.K tg) (TTv Γ mc) (TEv Γ me) σ H Q:=by
 obtain⟨φ,ρ,s,l,s',E,R,hm,k⟩:=h
 obtain⟨q,s0,e1,hm⟩:=aa0 hm
 split at hm
 case isFalse=>exact fb hm
 rename_i b6
 refine⟨φ,ρ,s,q,s0,E,R,e1,fun J φ1 H1 g1 l1 b1 R1 wk D hD=>?_⟩
 have h0:H D=none:=by
  cases e:H D with
  | none=>rfl
  | some o=>exact absurd hD (g1.st D (by rw[e];simp))
 refine⟨fun i m σ' H'=>∃ φ' ρ' t y ys rest,Gr φ1 s0 H1 φ' t H'/\Rp Γ φ' H' t/\RE Γ φ' H' t.length ρ' σ'/\H' D=some (.lst ys)/\Off φ' t D/\RVL Γ φ' H' y ys/\jm t.length y=true/\y.length<=i/\i<=q.its.length/\m=q.its.length - i /\
  j3 (fun s=>jO s0 s q.src) (fun d ρ s=>match jB ρ tg d with
   | some ρ=>jv (mc ρ s) fun k s=>if k then(me ρ s).bind fun v s=>.ok (some v,ρ) s else .ok (none,ρ) s
   | none=>.bad) (q.its.drop i) ρ' t=.ok rest s'/\l=y++rest,⟨q.its.length,?_⟩,?_⟩
 ·obtain⟨g2,R2⟩:=R1.same (H':=upd H1 D (.lst [])) ((ae1.refl H1).new hD)
  exact⟨φ1,j6 ρ G,s0,[],[],l,g2,R2,bv4 ((E.mono g1 l1).mono g2 (ai _)) G,zb,Off.new R1 hD,.nil,rfl,ai _,dC _,by simp,by rw[iL];exact hm,rfl⟩
 ·rintro i m σ' H' ⟨φ',ρ',t,y,ys,rest,g,R',E',hy,a4,ra,ba,c0,hil,rfl,hc,hl⟩
  have C:=g.le
  rcases i6 i q.its.length with hlt|hge
  ·have hd:q.its[i]?=some q.its[i]:=aj hlt
   rw[d6 hlt]at hc
   unfold j3 at hc
   split at hc
   case isFalse=>exact fb hc
   rename_i a3
   obtain⟨b3,b4⟩:=(wk φ' H' t g C R' a3 i).1 hlt
   refine .inr ⟨b3,_,fun σ2 H2 n=>⟨q.its.length - (i+1),by omega,n⟩,fun x H2 b2=>?_⟩
   obtain⟨sm,rv⟩:=b4 x H2 b2
   obtain⟨g2,R2⟩:=R'.same sm
   have rd:=rv _ hd
   have bd:(q.its[i]).bnd t.length=true:=zo C _ (ag0 b1 hd)
   obtain⟨p,t3,hs,hc⟩:=aa0 hc
   obtain⟨r2,t4,a6,hc⟩:=aa0 hc
   cases hb:jB ρ' tg q.its[i]with
   | none=>rw[hb]at hs;cases hs
   | some ρ3 =>
    rw[hb]at hs
    refine bi5 (E'.mono g2 (ai _)) rd bd hb fun σ3 E3=>?_
    obtain⟨c,t1,ec,hs⟩:=zF hs
    refine⟨φ',ρ3,t,c,t1,E3,R2,ec,fun φ2 H4 g4 l4 R4=>?_⟩
    have a5:H2 D=some (.lst ys):=sm _ _ hy
    have a2:H4 D=some (.lst ys):=g4.fr D _ a5 (by nofun) a4
    have Y:Off φ2 t1 D:=a4.mono g4 a5
    have G4:=(g.trans g2 C).trans g4 C
    cases c with
    | true =>
     rw[if_pos rfl]at hs
     refine bR4 ?_
     obtain⟨v,t2,ev,hs⟩:=aa0 hs
     cases hs
     refine⟨φ2,ρ3,t1,v,t3,E3.mono g4 l4,R4,ev,fun w φ3 H5 g5 l5 b5 r5 R5=>?_⟩
     have a0:H5 D=some (.lst ys):=g5.fr D _ a2 (by nofun) Y
     have a1:Off φ3 t3 D:=Y.mono g5 a2
     refine⟨ys,a0,?_,?_⟩
     ·rw[ra.length]
      have:=qf
      omega
     ·have gw:Gw φ3 t3.length H5 φ3 (upd H5 D (.lst (ys++[w]))):=⟨fun _ _=>rfl,(Kp.refl H5).put a0 rfl⟩
      have G5:=G4.trans g5 (am C l4)
      have GG:=g2.trans (g4.trans g5 l4) (ai _)
      have b0:RVL Γ φ3 H5 y ys:=RVL.mono GG _ _ ba ra
      have bb:jm t3.length (y++[v])=true:=zI (aa3 GG.le _ ba) (by unfold jm;rw[b5];rfl)
      refine⟨φ3,ρ3,t3,y++[v],ys++[w],r2,G5.foreign hD a0,R5.foreign a0 a1,?_,zb,a1,RVL.monoW gw _ _ bb (b0.append (.cons r5 .nil)),bb,by simp;omega,hlt,rfl,?_,?_⟩
      ·have E5:=(E3.mono g4 l4).mono g5 l5
       exact⟨E5.len,fun j e hj=>by
        obtain⟨h1,z,h2,h3⟩:=E5.val j e hj
        exact⟨h1,z,h2,RV.monoW gw _ _ h1 h3⟩⟩
      ·cases hc;exact a6
      ·cases hc;rw[hl];simp
    | false =>
     rw[if_neg aN]at hs
     refine bR2 ?_
     cases hs
     have GG:=g2.trans g4 (ai _)
     exact⟨φ2,ρ3,t3,y,ys,r2,G4,R4,E3.mono g4 l4,a2,Y,RVL.mono GG _ _ ba ra,aa3 l4 _ ba,by omega,hlt,rfl,by cases hc;exact a6,by cases hc;exact hl⟩
  ·have hi:i=q.its.length:=by omega
   rw[fv hge]at hc
   unfold j3 at hc
   split at hc
   case isFalse=>exact fb hc
   rename_i a3
   cases hc
   refine .inl ⟨(wk φ' H' s' g C R' a3 i).2 hge,?_⟩
   rw[bh]at hl
   subst hl
   exact k D ys φ' H' (g1.trans g l1) (am l1 C) ba hy h0 a4 ra R'
variable {Γ:Gm} {X:Cx}
noncomputable def bN3 (Γ:Gm)(φ:Nat->Addr)(H:Hp)(n:Nat)(D:Ends):jM->Prop
 | .next ρ=>∀ σ,RE Γ φ H n ρ σ->D.nx σ H
 | .ret d=>∀ v,d.bnd n=true->RV Γ φ H d v->D.rt v H
 | .cont ρ=>∀ σ,RE Γ φ H n ρ σ->D.ct σ H
 | .brk ρ=>∀ σ,RE Γ φ H n ρ σ->D.bk σ H
def aj4 (Γ:Gm)(φ:Nat->Addr)(s:jk)(H:Hp)(c:jM)(s':jk)(D:Ends):Prop :=
 ∀ φ' H',Gr φ s H φ' s' H'->s.length<=s'.length->Rp Γ φ' H' s'->bN3 Γ φ' H' s'.length D c
def TSv (Γ:Gm)(m:jn->jk->jo jM):TS:=fun D σ H=>∃ φ ρ s c s',RE Γ φ H s.length ρ σ/\Rp Γ φ H s/\m ρ s=.ok c s'/\aj4 Γ φ s H c s' D
theorem PS.imp {e:Stmt}{t t':TS}(h:PS X e t)(i:∀ D σ H,t' D σ H->t D σ H):PS X e t':=fun y s σ H Q I q=>h y s σ H Q I (i Q σ H q)
theorem PSs.imp {e:List Stmt}{t t':TS}(h:PSs X e t)(i:∀ D σ H,t' D σ H->t D σ H):PSs X e t':=fun y s σ H Q I q=>h y s σ H Q I (i Q σ H q)
theorem aj4.trans {φ φ1:Nat->Addr}{s s1 s':jk}{H y:Hp}{c:jM}{D:Ends}(h:aj4 Γ φ s H c s' D)(g:Gr φ s H φ1 s1 y)(l:s.length<=s1.length):aj4 Γ φ1 s1 y c s' D :=
 fun φ' H' g' z p=>h φ' H' (g.trans g' l) (am l z) p
theorem aj4.here {φ:Nat->Addr}{s:jk}{H:Hp}{c:jM}{D:Ends}(h:aj4 Γ φ s H c s D)(p:Rp Γ φ H s):bN3 Γ φ H s.length D c:=h φ H (Gr.refl φ s H) (ai _) p
variable {D:Ends} {σ:St} {H:Hp}
theorem bf1 {m:jn->jk->jo jM}(y:∀ ρ s,m ρ s=.ok (.next ρ) s)(h:TSv Γ m D σ H):by7 D σ H:=by
 obtain⟨φ,ρ,s,c,s',E,R,e,q⟩:=h
 rw[y]at e;cases e
 exact q.here R σ E
theorem bv8 {m:jn->jk->jo jl}(h:TSv Γ (fun ρ s=>(m ρ s).bind fun d s=>.ok (.ret d) s) D σ H):bN2 (TEv Γ m) D σ H:=by
 obtain⟨φ,ρ,s,c,s',E,R,e,q⟩:=h
 obtain⟨x,s1,e1,e⟩:=aa0 e
 cases e
 exact⟨φ,ρ,s,x,_,E,R,e1,fun v φ1 z g1 l1 y r1 R1=>q φ1 z g1 l1 R1 v y r1⟩
theorem bj1 {m:jn->jk->jo jl}(h:TSv Γ (fun ρ s=>(m ρ s).bind fun _ s=>.ok (.next ρ) s) D σ H):bu0 (TEv Γ m) D σ H:=by
 obtain⟨φ,ρ,s,c,s',E,R,e,q⟩:=h
 obtain⟨x,s1,e1,e⟩:=aa0 e
 cases e
 exact⟨φ,ρ,s,x,_,E,R,e1,fun v φ1 y g1 l1 z r1 R1=>q φ1 y g1 l1 R1 σ (E.mono g1 l1)⟩
theorem aL3 {m:jn->jk->jo jl}{tg:jL}(h:TSv Γ (fun ρ s=>(m ρ s).bind fun d s=>match jB ρ tg d with|some ρ=>.ok (.next ρ) s|none=>.bad) D σ H):aS0 (TEv Γ m) (gOf Γ.K tg) D σ H:=by
 obtain⟨φ,ρ,s,c,s',E,R,e,q⟩:=h
 obtain⟨x,s1,e1,e⟩:=aa0 e
 refine⟨φ,ρ,s,x,s1,E,R,e1,fun v φ1 C g1 l1 z r1 R1=>?_⟩
 cases hb:jB ρ tg x with
 | none=>rw[hb]at e;cases e
 | some ρ1 =>
  rw[hb]at e
  cases e
  exact bi5 (E.mono g1 l1) r1 z hb fun σ' y=>q φ1 C g1 l1 R1 σ' y
theorem aW3 {m:jn->jk->jo (List jl)}(h:TSv Γ (fun ρ s=>((m ρ s).bind fun l s=>jQ (.lst l) s).bind fun d s=>match jB ρ tg d with|some ρ=>.ok (.next ρ) s|none=>.bad) D σ H):aS0 (TFv Γ m) (gOf Γ.K tg) D σ H :=
 aN6 (aL3 h)
def bz8 (Γ:Gm):bG2:=fun o i v H Q=>∃ φ s x y d s',Rp Γ φ H s/\RV Γ φ H x o/\RV Γ φ H y i/\RV Γ φ H d v/\x.bnd s.length=true/\y.bnd s.length=true/\d.bnd s.length=true/\DV.setIx x y d s=.ok () s' /\
 ∀ φ' H',Gr φ s H φ' s' H'->s.length<=s'.length->Rp Γ φ' H' s'->Q H'
theorem aV2 {Y mo J:jn->jk->jo jl}(h:TSv Γ (fun ρ s=>(Y ρ s).bind fun d s=>(mo ρ s).bind fun x s=>(J ρ s).bind fun y s=>(DV.setIx x y d s).bind fun _ s=>.ok (.next ρ) s) D σ H) :
  aS0 (TEv Γ Y) (bN6 (TEv Γ mo) (TEv Γ J) (bz8 Γ)) D σ H:=by
 obtain⟨φ,ρ,s,c,s',E,R,e,q⟩:=h
 obtain⟨d,s1,e1,e⟩:=aa0 e
 obtain⟨x,s2,e2,e⟩:=aa0 e
 obtain⟨y,s3,e3,e⟩:=aa0 e
 obtain⟨u,s4,e4,e⟩:=aa0 e
 cases e
 refine⟨φ,ρ,s,d,s1,E,R,e1,fun v1 φ1 H1 g1 l1 b1 r1 R1=>?_⟩
 refine⟨φ1,ρ,s1,x,s2,E.mono g1 l1,R1,e2,fun v2 φ2 H2 g2 C b2 r2 R2=>?_⟩
 have G2:=g1.trans g2 l1
 have L2:=am l1 C
 refine⟨φ2,ρ,s2,y,s3,E.mono G2 L2,R2,e3,fun v3 φ3 H3 z G b3 r3 R3=>?_⟩
 refine⟨φ3,s3,x,y,d,_,R3,RV.mono z x v2 b2 r2,r3,RV.mono (g2.trans z C) d v1 b1 r1,zo G x b2,b3,zo (am C G) d b1,e4,fun φ4 H4 g4 l4 R4=>?_⟩
 have G3:=G2.trans z L2
 have L3:=am L2 G
 exact q φ4 H4 (G3.trans g4 L3) (am L3 l4) R4 σ (E.mono (G3.trans g4 L3) (am L3 l4))
theorem by5 (hu:X.A.units+1<cLine):bL4 X (bz8 Γ):=by
 intro a0 sh σ H o i v ov iv u Q I ro ri rv h
 obtain⟨φ,s,x,y,d,s',R,rx,ry,rd,bx,a1,bd,C,q⟩:=h
 cases x with
 | ref r =>
  have C:(match s[r]? with
   | some (.lst l)=>(match y with
    | .int i=>(match jR l.length i with|some j=>DV.R.ok () (s.set r (.lst (l.set j d)))|none=>.bad)
    | _=>.bad)
   | some (.dic l)=>if y.key&&decide (l.length<js)then .ok () (s.set r (.dic (jw y d l)))else .bad
   | some (.dit l)=>if y.keyT&&decide (l.length<js)then .ok () (s.set r (.dit (jw y d l)))else .bad
   | _=>.bad)=.ok () s':=C
  cases e:s[r]? with
  | none=>rw[e]at C;cases C
  | some ob =>
   rw[e]at C
   cases ob with
   | lst l =>
    cases y with
    | int k =>
     have C:(match jR l.length k with|some j=>DV.R.ok () (s.set r (.lst (l.set j d)))|none=>.bad)=.ok () s':=C
     cases ej:jR l.length k with
     | none=>rw[ej]at C;cases C
     | some j =>
      rw[ej]at C
      cases C
      obtain⟨xs,h1,G⟩:=R.addr e
      have hb:jm s.length (l.set j d)=true:=aa4.mpr fun z hz=>by
       rcases d7 hz with h|h
       ·exact aa4.mp (by have:=R.wf r _ e;unfold jr at this;exact this) z h
       ·subst h;exact bd
      refine aT2 a0 sh σ H o i v ov iv u Q I ro ri rv ⟨φ r,xs,k,j,rx.refE,ry.intE,h1,?_,?_⟩
      ·rw[G.length];exact ej
      ·obtain⟨g,R'⟩:=R.set (o:=.lst (l.set j d)) (u:=.lst (xs.set j v)) e rfl hb fun H' g e=>⟨_,e,RVL.monoW g _ _ hb (G.set j rd)⟩
       exact q _ _ g (by simp) R'
    | _=>exact fb C
   | dic l =>
    have C:(if y.key&&decide (l.length<js)then DV.R.ok () (s.set r (.dic (jw y d l)))else .bad)=.ok () s':=C
    split at C
    case isFalse=>exact fb C
    rename_i hc
    cases C
    rw[ag]at hc
    obtain⟨k,hk⟩:=ao8 hc.1
    have hlt:=of_decide_eq_true hc.2
    obtain⟨Y,h1,G⟩:=R.obj r _ e
    have ex:=rx.refE;subst ex
    cases ro
    have ey:=aA3 hk ry;subst ey
    have hb:(DV.O.dic (jw y d l)).bnd s.length=true:=ay2 (R.wf r _ e) a1 bd
    have J:jm s.length ((jw y d l).map (·.2))=true:=by
     unfold jr at hb
     rw[ag]at hb
     exact hb.2
    obtain⟨g,R'⟩:=R.set (o:=.dic (jw y d l)) (u:=.dK (ak2 Y k v)) e rfl hb fun H' g e=>⟨_,e,RVD.monoW g _ _ J (G.put keyOf_inj hk rd)⟩
    exact ar4 hu I (bl6.k h1 (by rw[G.length];exact ah hlt qf)) ri rv fun s4 I4=>⟨_,I4,q _ _ g (by simp) R'⟩
   | dit l =>
    have C:(if y.keyT&&decide (l.length<js)then DV.R.ok () (s.set r (.dit (jw y d l)))else .bad)=.ok () s':=C
    split at C
    case isFalse=>exact fb C
    rename_i hc
    cases C
    rw[ag]at hc
    obtain⟨k,hk⟩:=as7 hc.1
    have hlt:=of_decide_eq_true hc.2
    obtain⟨Y,h1,G⟩:=R.obj r _ e
    have ex:=rx.refE;subst ex
    cases ro
    obtain⟨kb,ey,a2⟩:=aG5 hk ry;subst ey
    have hb:(DV.O.dit (jw y d l)).bnd s.length=true:=aR8 (R.wf r _ e) a1 bd
    have J:jm s.length ((jw y d l).map (·.2))=true:=by
     unfold jr at hb
     rw[ag]at hb
     exact hb.2
    obtain⟨g,R'⟩:=R.set (o:=.dit (jw y d l)) (u:=.dT (ak2 Y k v)) e rfl hb fun H' g e=>⟨_,e,RVD.monoW g _ _ J (G.put keyT_inj hk rd)⟩
    exact ar4 hu I (bl6.t h1 a2 (by rw[G.length];exact ah hlt qf)) ri rv fun s4 I4=>⟨_,I4,q _ _ g (by simp) R'⟩
   | _=>exact fb C
 | _=>exact fb C
theorem bH2 {mc:jn->jk->jo jl}{z C:jn->jk->jo jM}(h:TSv Γ (fun ρ s=>jv (mc ρ s) fun k s=>if k then z ρ s else C ρ s) D σ H):bQ2 (TTv Γ mc) (TSv Γ z) (TSv Γ C) D σ H:=by
 obtain⟨φ,ρ,s,d,s',E,R,y,q⟩:=h
 obtain⟨c,s1,e1,y⟩:=zF y
 refine⟨φ,ρ,s,c,s1,E,R,e1,fun φ1 G g1 l1 R1=>?_⟩
 cases c with
 | true =>
  rw[if_pos rfl]at y ⊢
  exact⟨φ1,ρ,s1,d,s',E.mono g1 l1,R1,y,q.trans g1 l1⟩
 | false =>
  rw[if_neg aN]at y ⊢
  exact⟨φ1,ρ,s1,d,s',E.mono g1 l1,R1,y,q.trans g1 l1⟩
theorem br1 {C J:jn->jk->jo jM}(h:TSv Γ (fun ρ s=>(C ρ s).bind fun c s=>match c with|.next ρ=>J ρ s|c=>.ok c s) D σ H):bO2 (TSv Γ C) (TSv Γ J) D σ H:=by
 obtain⟨φ,ρ,s,c,s',E,R,y,q⟩:=h
 obtain⟨G,s1,e1,y⟩:=aa0 y
 refine⟨φ,ρ,s,G,s1,E,R,e1,fun φ1 z g1 l1 R1=>?_⟩
 cases G with
 | next ρ1=>exact fun σ1 Y=>⟨φ1,ρ1,s1,c,s',Y,R1,y,q.trans g1 l1⟩
 | ret d=>cases y;exact q φ1 z g1 l1 R1
 | cont ρ=>cases y;exact q φ1 z g1 l1 R1
 | brk ρ=>cases y;exact q φ1 z g1 l1 R1
theorem aY1 {mc:jn->jk->jo jl}{C:jn->jk->jo jM}(h:TSv Γ (DV.whl mc C) D σ H):aY9 (TTv Γ mc) (TSv Γ C) D σ H:=by
 obtain⟨φ,ρ,s,c,s',E,R,y,q⟩:=h
 unfold DV.whl at y
 split at y
 case isFalse=>exact fb y
 rename_i hn
 generalize hn.choose=n at y
 refine⟨fun n σ H=>∃ φ ρ s,RE Γ φ H s.length ρ σ/\Rp Γ φ H s/\DV.qK mc C n ρ s=.ok c s'/\aj4 Γ φ s H c s' D,⟨n,φ,ρ,s,E,R,y,q⟩,?_⟩
 clear E R y q hn
 rintro n σ H ⟨φ,ρ,s,E,R,y,q⟩
 cases n with
 | zero=>exact fb y
 | succ n =>
  unfold DV.qK at y
  obtain⟨b,s1,e1,y⟩:=zF y
  refine⟨φ,ρ,s,b,s1,E,R,e1,fun φ1 Y g1 l1 R1=>?_⟩
  cases b with
  | false =>
   rw[if_neg aN]at y ⊢
   cases y
   exact q φ1 Y g1 l1 R1 σ (E.mono g1 l1)
  | true =>
   rw[if_pos rfl]at y ⊢
   obtain⟨J,s2,e2,y⟩:=aa0 y
   refine⟨_,fun σ' H' w=>⟨n,dv n,w⟩,φ1,ρ,s1,J,s2,E.mono g1 l1,R1,e2,fun φ2 H2 g2 l2 R2=>?_⟩
   have G:=g1.trans g2 l1
   have L:=am l1 l2
   cases J with
   | next ρ1=>exact fun σ1 z=>⟨φ2,ρ1,s2,z,R2,y,q.trans G L⟩
   | cont ρ1=>exact fun σ1 z=>⟨φ2,ρ1,s2,z,R2,y,q.trans G L⟩
   | ret d=>cases y;exact q φ2 H2 G L R2
   | brk ρ=>cases y;exact q φ2 H2 G L R2
theorem by3 {mI : DV.Env -> DV.Sto -> DV.R DV.Sq} {mb : DV.Env -> DV.Sto -> DV.R DV.Ct} {tg : DV.Tg} (h : TSv Γ (fun ρ s => (mI ρ s).bind fun q s0 => DV.aG0 (fun s => DV.chk s0 s q.src) (fun d ρ s => match DV.ac0 ρ tg d with
      | some ρ => mb ρ s
      | none => .bad) q.its ρ s0) D σ H) : bO1 (TIv Γ mI) (gOf Γ.K tg) (TSv Γ mb) D σ H := by
  obtain⟨φ, ρ, s, c, s', E, R, hm, k⟩ := h
  obtain⟨q, s0, e1, hm⟩ := aa0 hm
  refine⟨φ, ρ, s, q, s0, E, R, e1, fun J φ1 H1 g1 l1 b1 R1 wk => ?_⟩
  refine⟨fun i m σ' H' => ∃ φ' ρ' t, Gr φ1 s0 H1 φ' t H' /\ Rp Γ φ' H' t /\ RE Γ φ' H' t.length ρ' σ' /\ i <= q.its.length /\ m = q.its.length - i /\
    kq (fun s => jO s0 s q.src) (fun d ρ s => match jB ρ tg d with
      | some ρ => mb ρ s
      | none => .bad) (q.its.drop i) ρ' t = .ok c s', ⟨q.its.length, ?_⟩, ?_⟩
  · exact⟨φ1, ρ, s0, Gr.refl _ _ _, R1, E.mono g1 l1, dC _, by simp, by rw[iL]; exact hm⟩
  · rintro i m σ' H' ⟨φ', ρ', t, g, R', E', hil, rfl, hc⟩
    have hle := g.le
    rcases i6 i q.its.length with hlt|hge
    · have hd : q.its[i]? = some q.its[i] := aj hlt
      rw[d6 hlt]at hc
      unfold kq at hc
      split at hc
      case isFalse => exact fb hc
      rename_i hck
      obtain⟨hgo, hy2⟩ := (wk φ' H' t g hle R' hck i).1 hlt
      refine .inr ⟨hgo, _, fun σ2 H2 n => ⟨q.its.length - (i + 1), by omega, n⟩, fun x H2 hyl => ?_⟩
      obtain⟨sm, rv⟩ := hy2 x H2 hyl
      obtain⟨g2, R2⟩ := R'.same sm
      have rd := rv _ hd
      have bd : (q.its[i]).bnd t.length = true := zo hle _ (ag0 b1 hd)
      obtain⟨c1, t3, hs, hc⟩ := aa0 hc
      cases hb : jB ρ' tg q.its[i]with
      | none => rw[hb]at hs; cases hs
      | some ρ3 =>
        rw[hb]at hs
        refine bi5 (E'.mono g2 (ai _)) rd bd hb fun σ3 E3 => ?_
        refine⟨φ', ρ3, t, c1, t3, E3, R2, hs, fun φ2 H4 g4 l4 R4 => ?_⟩
        have G4 := (g.trans g2 hle).trans g4 hle
        have L4 := am hle l4
        have GG := g1.trans G4 l1
        cases c1 with
        | next ρ1 => exact fun σ1 E1 => ⟨φ2, ρ1, t3, G4, R4, E1, hlt, rfl, hc⟩
        | cont ρ1 => exact fun σ1 E1 => ⟨φ2, ρ1, t3, G4, R4, E1, hlt, rfl, hc⟩
        | ret d => cases hc; exact k φ2 H4 GG (am l1 L4) R4
        | brk ρ => cases hc; exact k φ2 H4 GG (am l1 L4) R4
    · rw[fv hge]at hc
      unfold kq at hc
      split at hc
      case isFalse => exact fb hc
      rename_i hck
      cases hc
      exact .inl ⟨(wk φ' H' s' g hle R' hck i).2 hge, k φ' H' (g1.trans g l1) (am l1 hle) R' σ' E'⟩
structure Ck where
 N:List Str
 sc:Scope
 lk:String->List Nat->Expr->Bool
noncomputable abbrev ck0 (N:List Str)(sc:Scope):Ck:=⟨N,sc,fun _ _ _=>false⟩
noncomputable def Ck.vis (c:Ck)(x:Str):Bool:=match c.sc.names.lookup x with|some .local=>true|some .cell=>true|some .free=>true|_=>false
noncomputable def Ck.loc (c:Ck)(x:Str):Bool:=match c.sc.names.lookup x with|some .local=>true|some .cell=>true|_=>false
noncomputable def Ck.gl (c:Ck)(x:Str):Bool:=(match c.sc.names.lookup x with|some .globalImplicit=>true|_=>false)&&!(x==("__debug__":Str))&&!decide (x=("__name__":Str))
noncomputable def Ck.var (c:Ck)(i:Nat)(x:Str):Bool:=decide (c.N[i]?=some x)&&c.vis x&&!(x==("__debug__":Str))&&!(x==("__classdict__":Str))
noncomputable def shp:Expr->Bool
 | .Starred ..=>false
 | .Set ..=>false
 | .SetComp ..=>false
 | .DictComp ..=>false
 | .GeneratorExp ..=>false
 | .Slice ..=>false
 | .NamedExpr ..=>false
 | _=>true
noncomputable def ap4:Expr->Bool
 | .ListComp ..=>false
 | .SetComp ..=>false
 | .DictComp ..=>false
 | _=>true
noncomputable def aV1:Expr->Bool
 | .Tuple ..=>false
 | _=>true
noncomputable def bv2:Expr->Bool
 | .Call _ [] [] _=>false
 | _=>true
noncomputable def mC:DV.Cn->Const->Bool
 | .non,.none=>true
 | .bl b,.bool c=>b==c
 | .int i,.int j=>decide (i=j)
 | .str x,.str y=>decide (y=⟨x.toArray⟩)&&decide (x.length<=1000)
 | _,_=>false
noncomputable def bE6 (ck:Ck):List Nat->List Expr->Bool
 | [],[]=>true
 | i::is,.Name x _::es=>decide (ck.N[i]?=some x)&&ck.loc x&&bE6 ck is es
 | _,_=>false
noncomputable def mTg (ck:Ck):jL->Expr->Bool
 | .one i,.Name x _=>decide (ck.N[i]?=some x)&&ck.loc x
 | .tup is,.Tuple es _ _=>bE6 ck is es
 | _,_=>false
noncomputable def tgN:Expr->List Str
 | .Name x _=>[x]
 | .Tuple es _ _=>es.filterMap fun e=>match e with|.Name x _=>some x|_=>none
 | _=>[]
structure ItT where
 x:Str
 y:Str
 ob:Expr
 sc:Scope
 p1:Pos
 p2:Pos
 p3:Pos
 p4:Pos
 p5:Pos
 p6:Pos
 p7:Pos
 k1:Nat
 k2:Nat
 ap:Pos
 cp:Pos
 pos:Pos
noncomputable def ItT.tg (q:ItT):Expr:=.Tuple [.Name q.x q.p5,.Name q.y q.p6] q.k2 q.p7
noncomputable def ItT.it (q:ItT):Expr:=.Call (.Attribute q.ob "items" q.ap) [] [] q.cp
noncomputable def ItT.text (q:ItT):Expr:=.ListComp (.BinOp (.Name q.x q.p1) .Add (.Tuple [.Name q.y q.p2] q.k1 q.p3) q.p4) [⟨q.tg,q.it,[],0⟩] q.sc q.pos
noncomputable def ckC (ck:Ck)(tgt:Expr)(caps:List (Option Nat))(scope:Scope):Ck:=⟨tgN tgt++(caps.filterMap id).map fun j=>ck.N.getD j "",scope,fun _ _ _=>false⟩
noncomputable def aC4 (ck:Ck)(tg:jL)(tgt iter:Expr)(caps:List (Option Nat))(scope:Scope):Bool :=
 zN (ckC ck tgt caps scope).N caps scope ck.N ck.sc&&decide ((ckC ck tgt caps scope).N.Nodup)&&mTg (ckC ck tgt caps scope) tg tgt&&shp iter
noncomputable def biT:jK->Option Str
 | .len=>some "len" | .abs=>some "abs" | .min2=>some "min" | .max2=>some "max" | .int=>some "int" | _=>none
noncomputable def biK:jK->Option (Nat×Str)
 | .isInt=>some (1, "int")|.isBool=>some (2, "bool")|.isStr=>some (3, "str")|.isTup=>some (4, "tuple")|.isList=>some (5, "list")|_=>none
noncomputable def mkT:kg->Option Str
 | .tuple=>some "tuple" | .list=>some "list" | _=>none
noncomputable def mkF:kg->Option Str
 | .all=>some "all" | .min=>some "min" | _=>none
noncomputable def mtT:kh->Option (Str×Nat)
 | .append=>some ("append",1)|_=>none
noncomputable def aU8:jV->Bool
 | .nil=>false
 | .ex _ as=>aU8 as
 | .lam _ _ _=>true
 | .fn _ as=>aU8 as
noncomputable def bN9:Expr->Bool
 | .UnaryOp .USub (.Constant (.int i) _ _) _=>decide (i=1)
 | _=>false
noncomputable def bF9 (ck:Ck)(b:jK)(x:Str)(xs:List Expr)(m1 m2:Bool):Bool:=match biK b with
 | some p=>(match xs with|[_,.Name y _]=>decide (x=("isinstance":Str))&&ck.gl x&&decide (y=p.2)&&ck.gl y&&m2|_=>false)
 | none=>(match xs with|_::_=>decide (biT b=some x)&&ck.gl x&&m1|[]=>false)
mutual
noncomputable def mE (ck:Ck):jW->Expr->Bool
 | .var i,E=>match E with|.Name x _=>ck.var i x|_=>false
 | .cst c,E=>match E with|.Constant v _ _=>mC c v|_=>false
 | .glob g,E=>match E with|.Name x _=>decide (x=(g:Str))&&ck.gl x|_=>false
 | .bin op a b,E=>match E with|.BinOp l o r _=>decide (o=bI7 op)&&mE ck a l&&mE ck b r|_=>false
 | .neg _,_=>false
 | .not a,E=>match E with|.UnaryOp .Not l _=>mE ck a l|_=>false
 | .cmp op a b,E=>match E with|.Compare l [o] [r] _=>decide (o=bo8 op)&&mE ck a l&&mE ck b r|_=>false
 | .chain _ _ _ _ _,_=>false
 | .isN a,E=>match E with|.Compare l [.Is] [.Constant .none _ _] _=>mE ck a l|_=>false
 | .notN a,E=>match E with|.Compare l [.IsNot] [.Constant .none _ _] _=>mE ck a l|_=>false
 | .isB _ _,_=>false
 | .notB _ _,_=>false
 | .and a b,E=>match E with
  | .BoolOp .And [l,r] _=>mE ck a l&&mE ck b r
  | .BoolOp .And (l::m::r::es) p=>mE ck a l&&mE ck b (.BoolOp .And (m::r::es) p)
  | _=>false
 | .or a b,E=>match E with
  | .BoolOp .Or [l,r] _=>mE ck a l&&mE ck b r
  | .BoolOp .Or (l::m::r::es) p=>mE ck a l&&mE ck b (.BoolOp .Or (m::r::es) p)
  | _=>false
 | .ite c a b,E=>match E with|.IfExp t l r _=>mE ck c t&&mE ck a l&&mE ck b r|_=>false
 | .tup es,E=>match E with|.Tuple xs _ _=>mEs ck es xs&&decide (xs.length<=1000)|_=>false
 | .lst es,E=>match E with|.List xs _=>mEs ck es xs&&decide (xs.length<=1000)|_=>false
 | .dic ks vs,E=>match E with|.Dict a b _=>(match a,b with|[],[]=>mEs ck ks []&&mEs ck vs []|[some x],[y]=>mEs ck ks [x]&&mEs ck vs [y]|_,_=>false)|_=>false
 | .slL _ _,_=>false
 | .slU _ _,_=>false
 | .slLU _ _ _,_=>false
 | .rev a,E=>match E with|.Subscript o (.Slice none none (some u) _) _=>bN9 u&&mE ck a o|_=>false
 | .bitl o,E=>match E with|.Call (.Attribute ob x ap) [] [] cp=>decide (x=("bit_length":Str))&&bv2 ob&&(ap.endLine==cp.line)&&mE ck o ob|_=>false
 | .lrng a,E=>match E with|.Call (.Name x _) [.Call (.Name z _) [y] [] _] [] _=>decide (x=("list":Str))&&decide (z=("range":Str))&&ck.gl x&&ck.gl z&&shp y&&mE ck a y|_=>false
 | .dicT,_=>false
 | .get2 _ _ _,_=>false
 | .ix a b,E=>match E with|.Subscript o i _=>mE ck a o&&mE ck b i|_=>false
 | .call f as,E=>match E with|.Call (.Name x _) xs [] _=>decide (x=(f:Str))&&ck.gl x&&mAs ck as xs|_=>false
 | .callC f as,E=>match E with|.Call (.Name x _) (y::ys) [] _=>decide (x=(f:Str))&&ck.gl x&&aU8 as&&bq4 ck as (y::ys)|_=>false
 | .callV i es,E=>match E with|.Call (.Name x _) (y::ys) [] _=>ck.var i x&&mEs ck es (y::ys)|_=>false
 | .bi b es,E=>match E with|.Call (.Name x _) xs [] _=>bF9 ck b x xs (mEs ck es xs) (mEs ck es (xs.take 1))|_=>false
 | .mk k l,E=>match E with
  | .Call (.Name x _) [a] [] _=>ck.gl x&&shp a&&((decide (mkT k=some x)&&mL ck 2 l a)||(decide (mkF k=some x)&&mL ck 1 l a))
  | .ListComp e gs sc p=>decide (k=.list)&&mL ck 0 l (.ListComp e gs sc p)
  | _=>false
 | .mkD k l d,E=>match E with
  | .Call (.Name x _) [a] [⟨some y,de,_⟩] _=>(decide (k=.min)&&decide (x=("min":Str)))&&decide (y=("default":Str))&&ck.gl x&&shp a&&mL ck 1 l a&&mE ck d de
  | _=>false
 | .meth m o es,E=>match E with
  | .Call (.Attribute ob x ap) xs [] cp=>decide (mtT m=some (x,xs.length))&&bv2 ob&&(ap.endLine==cp.line)&&mE ck o ob&&mEs ck es xs
  | _=>false
 | .ext _ _,_=>false
 | .extS _ _,_=>false
 | .mks _ _,_=>false
 | .mkDs _ _ _,_=>false
 | .join _ _,_=>false
noncomputable def mEs (ck:Ck):jC->List Expr->Bool
 | .nil,xs=>match xs with|[]=>true|_=>false
 | .cons e es,xs=>match xs with|x::xs=>mE ck e x&&shp x&&mEs ck es xs|_=>false
noncomputable def mAs (ck:Ck):jV->List Expr->Bool
 | .nil,xs=>match xs with|[]=>true|_=>false
 | .ex e es,xs=>match xs with|x::xs=>mE ck e x&&shp x&&mAs ck es xs|_=>false
 | .lam _ _ _,_=>false
 | .fn _ _,_=>false
noncomputable def bq4 (ck:Ck):jV->List Expr->Bool
 | .nil,xs=>match xs with|[]=>true|_=>false
 | .ex e es,xs=>match xs with|x::xs=>mE ck e x&&shp x&&bq4 ck es xs|_=>false
 | .lam id caps es,xs=>match xs with|x::xs=>ck.lk id caps x&&shp x&&bq4 ck es xs|_=>false
 | .fn _ _,_=>false
noncomputable def mI (ck:Ck)(tgt:Expr):DV.I->Expr->Bool
 | .rng1 a,E=>match E with|.Call (.Name x _) [l] [] _=>decide (x=("range":Str))&&ck.gl x&&mE ck a l&&shp l|_=>false
 | .rng2 _ _,_=>false
 | .seq e,x=>mE ck e x&&shp x
 | .rng3 _ _ _,_=>false
 | .enum (.seq _),_=>false
 | .zip (.seq _) (.seq _),_=>false
 | .enum _,_=>false
 | .zip _ _,_=>false
 | .items _,_=>false
noncomputable def mL (ck:Ck)(k:Nat):DV.L->Expr->Bool
 | .comp tg it e caps,E=>match E with|.ListComp elt [⟨tgt,iter,[],z⟩] scope _=>decide (z=0)&&aC4 ck tg tgt iter caps scope&&mI ck tgt it iter&&mE (ckC ck tgt caps scope) e elt|_=>false
 | .compIf tg it c e caps,E=>match E with|.ListComp elt [⟨tgt,iter,[i],z⟩] scope _=>decide (z=0)&&aC4 ck tg tgt iter caps scope&&mI ck tgt it iter&&mE (ckC ck tgt caps scope) c i&&mE (ckC ck tgt caps scope) e elt|_=>false
 | .disp es,E=>match E with|.List xs _=>decide (1<=k)&&mEs ck es xs&&decide (xs.length<=1000)|_=>false
 | .seq e,x=>decide (k=2)&&mE ck e x
 | .itm _,_=>false
end
theorem ff {p:Prop}(h:false=true):p:=Bool.noConfusion h
noncomputable def be6:aV->Bool
 | ⟨[], args, none, [], [], none, []⟩ => args.all fun y => y.annotation.isNone
 | _=>false
noncomputable def bO6:List Stmt->Option (Str×aV×Expr×Pos×Scope×Pos×List Stmt)
 | .FunctionDef nm params [.Return (some b) rp] [] none [] scope none nm' pos::xs=>if nm'=nm then some (nm,params,b,rp,scope,pos,xs)else none
 | _=>none
noncomputable def bP9 (nm:Str):List Stmt->Option (Str×Pos×Expr×Pos×Pos×Pos)
 | [.Return (some (.Call (.Name g gp) [a,.Name x p2] [] cp)) rp2]=>if x=nm then some (g,gp,a,p2,cp,rp2)else none
 | _=>none
noncomputable def bM6:kB->ki->Option (Nat×String×jW×String×List Nat)
 | .und i,.cons (.ret (.callC g (.ex e (.lam id caps .nil)))) .nil=>some (i,g,e,id,caps)
 | _,_=>none
noncomputable def bB4 (ck:Ck)(s:kB)(ss:ki)(S:List Stmt):Bool :=
 (bM6 s ss).any fun d=>(bO6 S).any fun q=>(bP9 q.1 q.2.2.2.2.2.2).any fun r =>
  decide (ck.N[d.1]?=some q.1)&&ck.loc q.1&&ck.var d.1 q.1&&ck.lk d.2.2.2.1 d.2.2.2.2 (.NamedExpr (.Name q.1 q.2.2.2.1) (.Lambda q.2.1 q.2.2.1 q.2.2.2.2.1 q.2.2.2.2.2.1) q.2.2.2.2.2.1)&&decide (r.1=(d.2.1:Str))&&ck.gl r.1&&mE ck d.2.2.1 r.2.2.1&&shp r.2.2.1&&be6 q.2.1
mutual
noncomputable def mS (ck:Ck):kB->Stmt->Bool
 | .asg tg e,S=>match S with
  | .Assign [t] v _=>mTg ck tg t&&mE ck e v&&(match tg with|.one _=>true|.tup _=>aV1 v&&ap4 v)
  | _=>false
 | .setIx o i e,S=>match S with|.Assign [.Subscript ob ix _] v _=>mE ck o ob&&mE ck i ix&&mE ck e v&&ap4 v&&aV1 v|_=>false
 | .aug _ _,_=>false
 | .ex e,S=>match S with|.Expr v _=>mE ck e v&&ap4 v|_=>false
 | .ret e,S=>match S with|.Return (some v) _=>mE ck e v|_=>false
 | .retN,_=>false
 | .ite c a b,S=>match S with|.If t l r _=>mE ck c t&&mSs ck a l&&mSs ck b r|_=>false
 | .whl c b,S=>match S with|.While t l [] _=>mE ck c t&&mSs ck b l|_=>false
 | .for_ tg it b,S=>match S with|.For tgt iter l [] _=>mTg ck tg tgt&&mI ck tgt it iter&&mSs ck b l|_=>false
 | .pass,_=>false
 | .cont,_=>false
 | .brk,_=>false
 | .raise,_=>true
 | .und _,_=>false
noncomputable def mSs (ck:Ck):ki->List Stmt->Bool
 | .nil,xs=>match xs with|[]=>true|_=>false
 | .cons s ss,xs=>match xs with|x::xs=>bB4 ck s ss (x::xs)||(mS ck s x&&mSs ck ss xs)|_=>false
end
theorem aB1 {y:Ck}{e:jW}{E:Expr}(h:mE y e E=true):shp E=true:=by
 cases E<;>first|rfl|(exfalso;cases e<;>exact ff h)
theorem bt5 {z:Ck}{y:Expr}{e:DV.I}{E:Expr}(h:mI z y e E=true):shp E=true:=by
 cases e with
 | seq e=>have h:(mE z e E&&shp E)=true:=h;rw[ag]at h;exact h.2
 | enum a=>cases E<;>first|rfl|(exfalso;cases a<;>exact ff h)
 | zip a b=>cases E<;>first|rfl|(exfalso;cases a<;>first|exact ff h|(cases b<;>exact ff h))
 | _=>cases E<;>first|rfl|exact ff h
theorem zd {e:Expr}{es:List Expr}{env:Env}(h:shp e=true):aW (e::es) env=(false,eval e env)::aW es env:=by
 cases e<;>first|rfl|cases h
theorem zy {env:Env}{pos:Pos}:∀ {es:List Expr},(∀ e∈es,shp e=true)->(cW pos (aW es env)).any (·.1)=false/\(cW pos (aW es env)).all (fun x=>!x.1)=true
 | [],_=>⟨rfl,rfl⟩
 | e::es,h=>by
  have C:=zd (es:=es) (env:=env) (h e (az ..))
  obtain⟨y,z⟩:=zy (env:=env) (pos:=pos) (es:=es) fun x hx=>h x (ao _ hx)
  rw[C]
  unfold cW at y z ⊢
  simp only[aL,eM,dA,y,z]
  exact⟨rfl,rfl⟩
theorem aw6 {e:Expr}{env:Env}(h:shp e=true)(x:Value):cD e env x=pure x:=by
 cases e<;>first|rfl|cases h
theorem aq4 {e:Expr}{op:CmpOp}(h:shp e=true):cz op e=false:=by
 cases e<;>first|rfl|cases h
theorem am4 {e:Expr}{t:Option Expr}{l:Nat}{env:Env}(h:ap4 e=true):dS e t l env=pure false:=by
 cases e<;>first|rfl|cases h
theorem au9 {e:Expr}{f:Str}{env:Env}(h:bv2 e=true):eI e f env (eval e env)=eval e env:=by
 cases e with
 | Call g a k p =>
  cases g with
  | Name x p' =>
   cases a with
   | nil=>cases k with
    | nil=>cases h
    | cons _ _=>rfl
   | cons _ _=>rfl
  | _=>rfl
 | _=>rfl
theorem aD1 {es:List Expr}{k:Nat}{p:Pos}{e:Expr}{env:Env}(h:aV1 e=true):gm [.Tuple es k p] e env=pure none:=by
 cases e<;>first|rfl|cases h
theorem aD8 {o i:Expr}{p:Pos}{e:Expr}{env:Env}(h:aV1 e=true):gm [.Subscript o i p] e env=pure none:=by
 cases e<;>first|rfl|cases h
theorem aF7 {e:Expr}(h:shp e=true):aG6 e:=by
 intro o i
 cases e<;>first|rfl|cases h
def spV (Γ:Gm)(c:List jl->jk->jo jl):Sp:=fun vs H Q _=>rCl Γ c vs H Q
noncomputable def bNames:List Str:=["len", "abs", "min", "max", "int", "isinstance", "bool", "str", "tuple", "list", "range", "sum", "all", "any", "sorted", "zip", "enumerate", "ord"]
def spL (Γ:Gm)(c:List jl->List jl->jk->jo jl)(cap:List V):Sp:=fun vs H Q _=>∃ φ s cs l d s',Rp Γ φ H s/\RVL Γ φ H l vs/\RVL Γ φ H cs cap/\jm s.length l=true/\jm s.length cs=true/\c cs l s=.ok d s'/\ac6 Γ φ s H d s' Q
noncomputable def LamI.own (J:LamI):Str:=match J.nm with|none => "<lambda>" | some p=>p.1
noncomputable def lamText (J:LamI)(params:aV)(body:Expr)(scope:Scope)(pos:Pos):Expr:=match J.nm with
 | none=>.Lambda params body scope pos
 | some p=>.NamedExpr (.Name p.1 p.2) (.Lambda params body scope pos) pos
structure LamHere (Γ:Gm)(X:Cx)(N:List Str)(id:String)(caps:List Nat)(params:aV)(body:Expr)(scope:Scope)(c P:Addr)(J:LamI):Prop where
 code:X.env.code=.ref c
 hd:bD X.base c P
 bm:BM X.mg X.base
 ck:lamCheck scope X.env.scope=true
 df:iG params X.env=([],[])
 lg:Γ.lg id J
 q:J.qual=X.env.qual++J.own
 p:J.params=params
 b:J.body=body
 s:J.scope=scope
 len:J.fr.length=caps.length
 at_:∀(i j:Nat) (x:Str),caps[i]?=some j->J.fr[i]?=some x->N[j]?=some x
 fr:∀ x∈J.fr,scope.names.lookup x=some .free
 cl:∀ x,scope.names.lookup x=some .free->∃ c,X.env.cells.lookup x=some c
 tab:(P,J.qual)∈Γ.T
 nd:(Γ.T.map (·.1)).Nodup
 fn:∀ x,X.fn x=true
 kd:∀ x c,X.env.cells.lookup x=some c->X.env.kindOf x=some .cell\/X.env.kindOf x=some .free
structure CG (Γ:Gm)(F:jF)(n:Nat)(X:Cx)(ck:Ck):Prop where
 K:X.K=Γ.K
 N:X.N=ck.N
 nd:ck.N.Nodup
 xe:X.xe=fun _ _=>False
 calm:X.calm=true
 deep:jz+1<=n
 room:Room n X.A
 sc:∀ x k,ck.sc.names.lookup x=some k->X.env.scope.names.lookup x=some k\/(k=.free/\X.env.scope.names.lookup x=some .cell)
 fn:∀ x,ck.sc.names.lookup x=some .cell->X.fn x=true
 bi:∀ x∈bNames,X.mg x=none
 call:∀ f:String,(∀ l s,F.call f l s=.bad)\/∃ a fd ps,FnOk X.prog X.w X.K X.mg X.base CX0 n a fd ps (spV Γ (F.call f))/\X.mg (f:Str)=some (.ref a)/\bN X.K (.ref a)=true/\Binds X.K fd ps []
 con:∀ x d,F.con x=some d->∃ v u,X.mg (x:Str)=some u/\RelV v u/\(∀ m,d.bnd m=true)/\∀ φ H,RV Γ φ H d v
 lam:∀ id caps E,ck.lk id caps E=true->∃ c P params body scope pos J,E=lamText J params body scope pos/\LamHere Γ X ck.N id caps params body scope c P J
 cl:∀(id:String) (J:LamI) (f:Addr) (cap:List V) (clos:List (Str×Addr)),Γ.lg id J->cap.length=J.fr.length->ClOk X.prog X.w X.K X.mg X.base n (fun H=>CloAt H f J cap clos) f (spL Γ (F.lam id) cap)
 fa:∀(f:String) (a:Addr),Γ.fa f=some a->X.mg (f:Str)=some (.ref a)/\∃ oc od fd sl,X.K.lookup a=some ⟨oc,od,.func fd,sl⟩
 fk:DV.FK F
section
variable {Γ:Gm} {F:jF} {n:Nat} {X:Cx} {ck:Ck}
theorem CG.vis (G:CG Γ F n X ck){x:Str}(h:ck.vis x=true):Vis X.env.scope x:=by
 unfold Ck.vis at h
 split at h
 ·rename_i e;rcases G.sc _ _ e with z|⟨z,_⟩
  ·exact .inl z
  ·cases z
 ·rename_i e;rcases G.sc _ _ e with z|⟨z,_⟩
  ·exact .inr (.inl z)
  ·cases z
 ·rename_i e;rcases G.sc _ _ e with z|⟨_,z⟩
  ·exact .inr (.inr z)
  ·exact .inr (.inl z)
 ·cases h
theorem CG.loc (G:CG Γ F n X ck){x:Str}(h:ck.loc x=true):Loc X.env.scope x/\(X.fn x=true\/X.env.scope.names.lookup x=some .local):=by
 unfold Ck.loc at h
 split at h
 ·rename_i e;rcases G.sc _ _ e with z|⟨z,_⟩
  ·exact⟨.inl z,.inr z⟩
  ·cases z
 ·rename_i e;rcases G.sc _ _ e with z|⟨z,_⟩
  ·exact⟨.inr z,.inl (G.fn _ e)⟩
  ·cases z
 ·cases h
theorem CG.gl (G:CG Γ F n X ck){x:Str}(h:ck.gl x=true):Gl X x/\(x==("__debug__":Str))=false/\x ≠ "__name__":=by
 unfold Ck.gl at h
 simp only[ag,eB]at h
 obtain⟨⟨y,C⟩,J⟩:=h
 refine⟨?_,C,of_decide_eq_false J⟩
 split at y
 ·rename_i e;rcases G.sc _ _ e with z|⟨z,_⟩
  ·exact z
  ·cases z
 ·cases y
theorem ba1 (G:CG Γ F n X ck):∀ {is:List Nat} {es:List Expr},bE6 ck is es=true->PGs X es (bE8 is)/\(bV es X.env).length=is.length/\(bV es X.env).findIdx? (·.1)=none
 | [],[],_=>⟨bc8,rfl,rfl⟩
 | [],_::_,h=>by cases h
 | i::is,[],h=>by cases h
 | i::is,e::es,h=>by
  cases e with
  | Name x p =>
   unfold bE6 at h
   simp only[ag,decide_eq_true_eq]at h
   obtain⟨⟨z,y⟩,J⟩:=h
   obtain⟨l1,C⟩:=G.loc y
   obtain⟨a,b,c⟩:=ba1 G J
   have hs:bV (.Name x p::es) X.env=(false,fe (.Name x p) X.env)::bV es X.env:=rfl
   refine⟨aU3 (aJ8 (by rw[G.N];exact G.nd) (by rw[G.N];exact z) l1 C) a (by rw[hs];rfl),by rw[hs,aQ,aQ,b],?_⟩
   rw[hs,List.findIdx?_cons]
   simp[c]
  | _=>cases h
theorem bf8 (G:CG Γ F n X ck){tg:jL}{e:Expr}(h:mTg ck tg e=true):PG X e (gOf Γ.K tg):=by
 unfold mTg at h
 split at h
 ·simp only[ag,decide_eq_true_eq]at h
  obtain⟨l1,y⟩:=G.loc h.2
  exact aJ8 (by rw[G.N];exact G.nd) (by rw[G.N];exact h.1) l1 y
 ·obtain⟨a,b,c⟩:=ba1 G h
  exact bj7 G.K G.calm a b c
 ·cases h
theorem CG.comp (G:CG Γ F n X ck){tg:jL}{Y iter:Expr}{J:List (Option Nat)}{scope:Scope}(h:aC4 ck tg Y iter J scope=true) :
  zN (ckC ck Y J scope).N J scope X.N X.env.scope=true/\shp iter=true /\
  ∀(C:Addr) (cells:List (Str×Addr)) (s:ac) (H:Hp) (ex:List Addr),CG Γ F n (zC X (ckC ck Y J scope).N scope C cells s H ex) (ckC ck Y J scope)/\PG (zC X (ckC ck Y J scope).N scope C cells s H ex) Y (gOf Γ.K tg):=by
 unfold aC4 at h
 simp only[ag,decide_eq_true_eq]at h
 obtain⟨⟨⟨h1,h2⟩,h3⟩,h4⟩:=h
 refine⟨?_,h4,fun C cells s H ex=>?_⟩
 ·rw[G.N]
  unfold zN at h1 ⊢
  simp only[ag]at h1 ⊢
  obtain⟨⟨⟨⟨⟨a1,a2⟩,a3⟩,a4⟩,a5⟩,a6⟩:=h1
  refine⟨⟨⟨⟨⟨a1,?_⟩,a3⟩,a4⟩,a5⟩,a6⟩
  rw[aM]at a2 ⊢
  intro y hy
  have:=a2 y hy
  rw[bF]at this ⊢
  rcases this with q|q
  ·exact .inl q
  ·right
   rw[bF]at q ⊢
   rcases q with q|q
   ·rcases G.sc _ _ (eq_of_beq q)with z|⟨z,_⟩
    ·left;rw[z];exact beq_self_eq_true _
    ·cases z
   ·rcases G.sc _ _ (eq_of_beq q)with z|⟨_,z⟩
    ·right;rw[z];exact beq_self_eq_true _
    ·left;rw[z];exact beq_self_eq_true _
 ·have G':CG Γ F n (zC X (ckC ck Y J scope).N scope C cells s H ex) (ckC ck Y J scope):=by
   refine⟨G.K,rfl,h2,rfl,G.calm,G.deep,G.room,fun x k e=>?_,fun x e=>?_,G.bi,G.call,G.con,fun _ _ _ h=>(by cases h),G.cl,G.fa,G.fk⟩
   ·have q:=qh (env:=X.env) e
    have q':(dz scope X.env).names.lookup x=some (if(k==NameKind.free&&X.env.scope.kind==.function&&X.env.kindOf x==some .cell)then NameKind.cell else k):=q
    show(dz scope X.env).names.lookup x=some k\/_
    rw[q']
    split
    ·rename_i hc
     simp only[ag]at hc
     exact .inr ⟨eq_of_beq hc.1.1,rfl⟩
    ·exact .inl rfl
   ·show(scope.names.lookup x==some .cell)=true
    rw[show scope.names.lookup x=some .cell from e];rfl
  exact⟨G',bf8 G' h3⟩
end
section
variable {Γ:Gm} {F:jF} {n:Nat} {X:Cx} {ck:Ck} {σ:St} {H:Hp} {Q:VK}
theorem TEv.eq {m m':jn->jk->jo jl}(e:∀ ρ s,m ρ s=m' ρ s)(q:TEv Γ m σ H Q):TEv Γ m' σ H Q:=by
 have:m=m':=funext fun ρ=>funext fun s=>e ρ s
 subst this;exact q
theorem TTv.eq {m m':jn->jk->jo jl}{Q:Bool->Hp->Prop}(e:∀ ρ s,m ρ s=m' ρ s)(q:TTv Γ m σ H Q):TTv Γ m' σ H Q:=by
 have:m=m':=funext fun ρ=>funext fun s=>e ρ s
 subst this;exact q
theorem TAv.eq {m m':jn->jk->jo (List jl)}{Q:List V->Hp->Prop}(e:∀ ρ s,m ρ s=m' ρ s)(q:TAv Γ m σ H Q):TAv Γ m' σ H Q:=by
 have:m=m':=funext fun ρ=>funext fun s=>e ρ s
 subst this;exact q
theorem TFv.eq {m m':jn->jk->jo (List jl)}(e:∀ ρ s,m ρ s=m' ρ s)(q:TFv Γ m σ H Q):TFv Γ m' σ H Q:=by
 have:m=m':=funext fun ρ=>funext fun s=>e ρ s
 subst this;exact q
theorem TIv.eq {m m':jn->jk->jo j5}{R:It->Hp->Prop}(e:∀ ρ s,m ρ s=m' ρ s)(q:TIv Γ m σ H R):TIv Γ m' σ H R:=by
 have:m=m':=funext fun ρ=>funext fun s=>e ρ s
 subst this;exact q
theorem TSv.eq {m m':jn->jk->jo jM}{D:Ends}(e:∀ ρ s,m ρ s=m' ρ s)(q:TSv Γ m D σ H):TSv Γ m' D σ H:=by
 have:m=m':=funext fun ρ=>funext fun s=>e ρ s
 subst this;exact q
def EvT (Γ:Gm)(X:Cx)(E:Expr)(m:jn->jk->jo jl):Prop:=PE X E (TEv Γ m)/\PT X E (TTv Γ m)
theorem EvT.val {E:Expr}{m:jn->jk->jo jl}(h:PE X E (TEv Γ m))(z:∀ y,cV E X.env y=(do let v <- y;standAt E.pos;gM [v] (truthy v)):=by intro _;rfl):EvT Γ X E m :=
 ⟨h,(bC7 h z).imp fun σ H Q q=>aA9 q⟩
theorem aV7 {c a b:Expr}{pos:Pos}{J tb C:TT}(hc:PT X c J)(ha:PT X a tb)(hb:PT X b C):PT X (.IfExp c a b pos) (fun σ H Q=>J σ H fun k z=>if k=true then tb σ z Q else C σ z Q):=by
 intro y s σ H Q I h
 have e:cV (.IfExp c a b pos) X.env (eval (.IfExp c a b pos) X.env)=(do if <- cV c X.env (eval c X.env)then cV a X.env (eval a X.env)else cV b X.env (eval b X.env)):=by rw[cV]
 rw[e]
 refine ak (thn (hc y s σ H _ I h) fun k s1 ⟨z,Y,G⟩=>?_)
 cases k with
 | true=>exact ha y s1 σ z Q Y G
 | false=>exact hb y s1 σ z Q Y G
theorem bx1 {mc C G:jn->jk->jo jl}{Q:Bool->Hp->Prop}(h:TTv Γ (fun ρ s=>jv (mc ρ s) fun k s=>if k then C ρ s else G ρ s) σ H Q):TTv Γ mc σ H fun k z=>if k=true then TTv Γ C σ z Q else TTv Γ G σ z Q:=by
 obtain⟨φ,ρ,s,d,s',E,R,y,q⟩:=h
 obtain⟨c,s1,e1,y⟩:=zF y
 refine⟨φ,ρ,s,c,s1,E,R,e1,fun φ1 z g1 l1 R1=>?_⟩
 cases c with
 | true =>
  rw[if_pos rfl]at y ⊢
  exact⟨φ1,ρ,s1,d,s',E.mono g1 l1,R1,y,q.trans g1 l1⟩
 | false =>
  rw[if_neg aN]at y ⊢
  exact⟨φ1,ρ,s1,d,s',E.mono g1 l1,R1,y,q.trans g1 l1⟩
section
variable {a b c:jW} {l r t:Expr} {pos:Pos}
theorem bj3 (G:CG Γ F n X ck)(op:kt)(ha:EvT Γ X l (jp F a))(hb:EvT Γ X r (jp F b)):EvT Γ X (.BinOp l (bI7 op) r pos) (jp F (.bin op a b)) :=
 .val ((bK3 (bz4 G.K op) ha.1 hb.1).imp fun σ H Q q=>aW4 (TEv.eq (fun ρ s=>rfl) q))
theorem bn9 (ha:EvT Γ X l (jp F a)):EvT Γ X (.UnaryOp .Not l pos) (jp F (.not a)) :=
 ⟨(br7 ha.1).imp fun σ H Q q=>br0 (TEv.eq (fun ρ s=>rfl) q),(bB5 ha.2).imp fun σ H Q q=>bx6 (TTv.eq (fun ρ s=>rfl) q)⟩
theorem bk7 (G:CG Γ F n X ck)(op:km)(hs:shp r=true)(ha:EvT Γ X l (jp F a))(hb:EvT Γ X r (jp F b)):EvT Γ X (.Compare l [bo8 op] [r] pos) (jp F (.cmp op a b)):=by
 have ho:=bs6 (Γ:=Γ) G.K (G.room.mono G.deep) op
 refine⟨(bc9 ho ha.1 hb.1 (aq4 hs)).imp fun σ H Q q=>aW4 (TEv.eq (fun ρ s=>rfl) q),(bd6 ho ha.1 hb.1 (aq4 hs)).imp fun σ H Q q=>?_⟩
 have q:=bk3 q
 exact aW4 (TEv.eq (fun ρ s=>rfl) q)
theorem RV.nonIff {φ:Nat->Addr}{x:jl}{v:V}(r:RV Γ φ H x v):decide (v=.non)=decide (x=.non):=by
 cases x with
 | non=>rw[r.nonE];rfl
 | bl b=>rw[r.blE];rfl
 | int i=>rw[r.intE];rfl
 | str z=>rw[r.strE];rfl
 | tup l=>obtain⟨a,h,rfl,_⟩:=r.tupE;rfl
 | ref k=>rw[r.refE];rfl
 | fn f=>unfold RV at r;obtain⟨a,_,rfl⟩:=r;rfl
 | clo f cs=>unfold RV at r;obtain⟨f,_,_,_,rfl,_⟩:=r;rfl
theorem bh7 {j pos'}(ha:EvT Γ X l (jp F a)):EvT Γ X (.Compare l [.Is] [.Constant .none j pos'] pos) (jp F (.isN a)):=by
 have key:∀ σ H Q,TEv Γ (jp F (.isN a)) σ H Q->bO5 (TEv Γ (jp F a)) σ H Q:=fun σ H Q q=>by
  obtain⟨φ,ρ,s,d,s',E,R,h,k⟩:=q
  obtain⟨x,s1,e1,h⟩:=aa0 h
  cases h
  refine⟨φ,ρ,s,x,_,E,R,e1,fun v φ1 y g1 l1 z r1 R1=>?_⟩
  show Q (.bl (decide (v=.non))) y
  rw[r1.nonIff]
  exact k _ φ1 y g1 l1 rfl RV.blI R1
 exact⟨(ba6 (ba2 ha.1)).imp key,(aZ8 (ba2 ha.1)).imp fun σ H Q q=>key _ _ _ (aA9 q)⟩
theorem aW2 {j pos'}(ha:EvT Γ X l (jp F a)):EvT Γ X (.Compare l [.IsNot] [.Constant .none j pos'] pos) (jp F (.notN a)):=by
 have key:∀ σ H Q,TEv Γ (jp F (.notN a)) σ H Q->bs7 (TEv Γ (jp F a)) σ H Q:=fun σ H Q q=>by
  obtain⟨φ,ρ,s,d,s',E,R,h,k⟩:=q
  obtain⟨x,s1,e1,h⟩:=aa0 h
  cases h
  refine⟨φ,ρ,s,x,_,E,R,e1,fun v φ1 y g1 l1 z r1 R1=>?_⟩
  show Q (.bl (!decide (v=.non))) y
  rw[r1.nonIff]
  exact k _ φ1 y g1 l1 rfl RV.blI R1
 exact⟨(ba6 (aI9 ha.1)).imp key,(aZ8 (aI9 ha.1)).imp fun σ H Q q=>key _ _ _ (aA9 q)⟩
theorem aO7 {op:BoolOp}{es:List Expr}{t:TT}(h:PT X (.BoolOp op es pos) t):PW X (.BoolOp op es pos) t:=by
 intro z y s σ H Q I q
 have:=h y s σ H Q I q
 have e:∀ w,cV (.BoolOp op es pos) X.env w=allTrue op es X.env:=fun w=>by rw[cV]
 rw[e]at this ⊢
 exact this
theorem bi9 (ha:EvT Γ X l (jp F a))(hb:EvT Γ X r (jp F b)):EvT Γ X (.BoolOp .And [l,r] pos) (jp F (.and a b)) :=
 ⟨(ba9 ha.1 (ba5 hb.1)).imp fun σ H Q q=>aZ1 (TEv.eq (fun ρ s=>rfl) q),(ba3 ha.2 (bo4 hb.2)).pt.imp fun σ H Q q=>aZ2 (TTv.eq (fun ρ s=>rfl) q)⟩
theorem bd9 {es:List Expr}(ha:EvT Γ X l (jp F a))(hb:EvT Γ X (.BoolOp .And (r::es) pos) (jp F b)):EvT Γ X (.BoolOp .And (l::r::es) pos) (jp F (.and a b)) :=
 ⟨(ba9 ha.1 hb.1).imp fun σ H Q q=>aZ1 (TEv.eq (fun ρ s=>rfl) q),(ba3 ha.2 (aO7 hb.2)).pt.imp fun σ H Q q=>aZ2 (TTv.eq (fun ρ s=>rfl) q)⟩
theorem br6 (ha:EvT Γ X l (jp F a))(hb:EvT Γ X r (jp F b)):EvT Γ X (.BoolOp .Or [l,r] pos) (jp F (.or a b)) :=
 ⟨(bw2 ha.1 (ba5 hb.1)).imp fun σ H Q q=>bw9 (TEv.eq (fun ρ s=>rfl) q),(bD8 ha.2 (bE2 hb.2)).pt.imp fun σ H Q q=>bt3 (TTv.eq (fun ρ s=>rfl) q)⟩
theorem bA3 {es:List Expr}(ha:EvT Γ X l (jp F a))(hb:EvT Γ X (.BoolOp .Or (r::es) pos) (jp F b)):EvT Γ X (.BoolOp .Or (l::r::es) pos) (jp F (.or a b)) :=
 ⟨(bw2 ha.1 hb.1).imp fun σ H Q q=>bw9 (TEv.eq (fun ρ s=>rfl) q),(bD8 ha.2 (aO7 hb.2)).pt.imp fun σ H Q q=>bt3 (TTv.eq (fun ρ s=>rfl) q)⟩
theorem be4 (hc:EvT Γ X t (jp F c))(ha:EvT Γ X l (jp F a))(hb:EvT Γ X r (jp F b)):EvT Γ X (.IfExp t l r pos) (jp F (.ite c a b)) :=
 ⟨(aU9 hc.2 ha.1 hb.1).imp fun σ H Q q=>bt9 (TEv.eq (fun ρ s=>rfl) q),(aV7 hc.2 ha.2 hb.2).imp fun σ H Q q=>bx1 (TTv.eq (fun ρ s=>rfl) q)⟩
theorem by9 (G:CG Γ F n X ck)(hs:shp r=true)(ha:EvT Γ X l (jp F a))(hb:EvT Γ X r (jp F b)):EvT Γ X (.Subscript l r pos) (jp F (.ix a b)) :=
 .val ((bK1 (bM1 G.K (bz9 G.room)) ha.1 hb.1 (aF7 hs)).imp fun σ H Q q=>aW4 (TEv.eq (fun ρ s=>rfl) q))
theorem bs2 {m:jn->jk->jo jl}{Q:VK}(h:TEv Γ (fun ρ s=>(m ρ s).bind fun x s=>DV.bn8 x s) σ H Q):bu2 Γ.K (TEv Γ m) (tUn (rU fun i=>.int (-i)) (tC (.int 1))) σ H Q:=by
 obtain⟨φ,ρ,s,d,s',E,R,y,q⟩:=h
 obtain⟨x,s1,e1,y⟩:=aa0 y
 refine⟨φ,ρ,s,x,s1,E,R,e1,fun v1 φ1 Y g1 l1 J r1 R1=>?_⟩
 unfold DV.bn8 at y
 cases x with
 | str x =>
  cases y
  have hl:=r1.strL
  refine⟨1,rfl,rfl,.inl ⟨⟨x.toArray⟩,r1.strE,?_,?_⟩⟩
  ·show x.toArray.size<=aA
   rw[ar]
   have:js<aA:=by rw[cY];decide
   omega
  ·have e:(⟨(⟨x.toArray⟩:Str).cps.reverse⟩:Str)=⟨x.reverse.toArray⟩:=by simp
   rw[e]
   exact(q.trans g1 l1).here R1 rfl (RV.strI (by rw[b7];exact hl))
 | ref r =>
  simp only at y
  cases hsr:s1[r]? with
  | none=>rw[hsr]at y;cases y
  | some o =>
   rw[hsr]at y
   cases o with
   | lst l =>
    obtain⟨rfl,rfl⟩:=zP y
    obtain⟨G,C,d1⟩:=R1.addr hsr
    have wf:=R1.wf _ _ hsr
    unfold jr at wf
    exact⟨1,rfl,rfl,.inr ⟨φ1 r,G,r1.refE,SqL.of C,fun p z=>(q.trans g1 l1).alloc R1 d1.reverse (aV6 wf fun d hd=>List.mem_reverse.mp hd) z⟩⟩
   | _=>exact fb y
 | _=>exact fb y
theorem bc7 (G:CG Γ F n X ck){p1 h p3:Pos}{k:Nat}(ha:EvT Γ X l (jp F a)):EvT Γ X (.Subscript l (.Slice none none (some (.UnaryOp .USub (.Constant (.int 1) k p1) p3)) h) pos) (jp F (.rev a)) :=
 .val ((bq0 G.K ha.1 (bI0 bA2 bb7)).imp fun σ H Q q=>bs2 q)
end
end
section
variable {Γ:Gm} {F:jF} {n:Nat} {X:Cx} {ck:Ck} {σ:St} {H:Hp} {Q:VK}
theorem al7:∀ {es:jC} {ρ:jn} {s s':jk} {l:List jl} {y:List Expr} {z:Ck},jG F es ρ s=.ok l s'->mEs z es y=true->l.length=y.length
 | .nil,ρ,s,s',l,y,z,h,m=>by
  cases h
  cases y with
  | nil=>rfl
  | cons _ _=>rw[mEs]at m<;>first|cases m|(intros;simp_all)
 | .cons e es,ρ,s,s',l,y,z,h,m=>by
  obtain⟨d,s1,e1,h⟩:=aa0 h
  obtain⟨r,s2,e2,h⟩:=aa0 h
  cases h
  cases y with
  | nil=>rw[mEs]at m<;>first|cases m|(intros;simp_all)
  | cons x y =>
   rw[mEs,ag]at m
   rw[aQ,aQ,al7 e2 m.2]
theorem ao6:∀ {es:jC} {z:List Expr},mEs ck es z=true->∀ x∈z,shp x=true
 | .nil,[],_,x,hx=>by cases hx
 | .nil,_::_,m,_,_=>by rw[mEs]at m<;>first|cases m|(intros;simp_all)
 | .cons e es,[],m,x,hx=>by cases hx
 | .cons e es,y::z,m,x,hx=>by
  rw[mEs,ag,ag]at m
  rcases aC.mp hx with h|h
  ·rw[h];exact m.1.2
  ·exact ao6 m.2 x h
theorem aN8:∀ {es:jV} {z:List Expr},mAs ck es z=true->∀ x∈z,shp x=true
 | .nil,[],_,x,hx=>by cases hx
 | .nil,_::_,m,_,_=>by rw[mAs]at m<;>first|cases m|(intros;simp_all)
 | .ex e es,[],m,x,hx=>by cases hx
 | .lam _ _ _,_,m,_,_=>by rw[mAs]at m<;>first|cases m|(intros;simp_all)
 | .fn _ _,_,m,_,_=>by rw[mAs]at m<;>first|cases m|(intros;simp_all)
 | .ex e es,y::z,m,x,hx=>by
  rw[mAs,ag,ag]at m
  rcases aC.mp hx with h|h
  ·rw[h];exact m.1.2
  ·exact aN8 m.2 x h
theorem aA6 {e:jW}{x:Expr}{h:List Expr}{y:jn->jk->jo (List jl)}(hs:shp x=true)(C:PE X x (TEv Γ (jp F e)))(z:PA X h (TAv Γ y)) :
  PA X (x::h) (TAv Γ (fun ρ s=>(jp F e ρ s).bind fun d s=>(y ρ s).bind fun l s=>.ok (d::l) s)) :=
 (zK C z (zd hs)).imp fun σ H Q q=>bm1 q
theorem aO6 {k:Nat}(h:k<=1000):k<=aA:=by rw[cY];omega
theorem bp0 {es:jC}{y:List Expr}{k:Nat}{pos:Pos}(m:mEs ck es y=true)(hz:y.length<=1000)(h:PA X y (TAv Γ (jG F es))):EvT Γ X (.Tuple y k pos) (jp F (.tup es)) :=
 .val ((bx2 h).imp fun σ H Q q=>tv_tup' hz m q)
where
 tv_tup' {es:jC} {y:List Expr} {σ:St} {H:Hp} {Q:VK} (hz:y.length<=1000) (m:mEs ck es y=true) (q:TEv Γ (jp F (.tup es)) σ H Q):bP7 (TAv Γ (jG F es)) σ H Q:=by
  obtain⟨φ,ρ,s,d,s',E,R,z,q⟩:=q
  obtain⟨l,s1,e1,z⟩:=aa0 z
  cases z
  refine⟨φ,ρ,s,l,_,E,R,e1,fun vs φ1 J g1 l1 G r1 R1=>⟨by rw[r1.length,al7 e1 m];exact aO6 hz,fun p C=>?_⟩⟩
  exact(q.trans g1 l1).tup R1 r1 G C
theorem bf5 {es:jC}{y:List Expr}{pos:Pos}(m:mEs ck es y=true)(hz:y.length<=1000)(h:PA X y (TAv Γ (jG F es))):EvT Γ X (.List y pos) (jp F (.lst es)):=by
 refine .val ((ba0 h).imp fun σ H Q q=>?_)
 obtain⟨φ,ρ,s,d,s',E,R,z,q⟩:=q
 obtain⟨l,s1,e1,z⟩:=aa0 z
 obtain⟨rfl,rfl⟩:=zP z
 refine⟨φ,ρ,s,l,_,E,R,e1,fun vs φ1 J g1 l1 G r1 R1=>⟨by rw[r1.length,al7 e1 m];exact aO6 hz,fun p C=>?_⟩⟩
 exact(q.trans g1 l1).alloc R1 r1 G C
theorem aU6 {f:String}{y:jV}{C:List Expr}{p pos:Pos}(G:CG Γ F n X ck)(hg:ck.gl (f:Str)=true)(m:mAs ck y C=true)(h:PA X C (TAv Γ (j4 F y))):EvT Γ X (.Call (.Name (f:Str) p) C [] pos) (jp F (.call f y)):=by
 refine .val ?_
 obtain⟨g1,g2,g3⟩:=G.gl hg
 rcases G.call f with hbad|⟨a,fd,ps,hF,z,hk,hb⟩
 ·intro Y s σ H Q I q
  obtain⟨φ,ρ,s,d,s',E,R,J,q⟩:=q
  obtain⟨l,s1,e1,J⟩:=aa0 J
  rw[hbad]at J
  cases J
 have key:∀ σ H Q,TEv Γ (jp F (.call f y)) σ H Q->aD5 (spV Γ (F.call f)) [] E0 (TAv Γ (j4 F y)) σ H Q:=fun σ H Q q=>by
  have:=au2 (TEv.eq (m':=fun ρ s=>(j4 F y ρ s).bind fun l s=>F.call f l s) (fun ρ s=>rfl) q)
  unfold tCB at this
  unfold aD5 spV
  simpa only[bh]using this
 cases C with
 | nil =>
  have h0:PE X (.Call (.Name (f:Str) p) [] [] pos) (aD5 (spV Γ (F.call f)) [] E0 aS2):=aV9 hF G.room g1 z hk hb .nil bB2 g2
  cases y with
  | nil =>
   refine h0.imp fun σ H Q q=>?_
   have q1:=key σ H Q q
   unfold aD5 at q1 ⊢
   exact aB8 (TAv.eq (fun ρ s=>rfl) q1)
  | _=>rw[mAs]at m<;>first|cases m|(intros;simp_all)
 | cons x C =>
  have hs:=aN8 m
  exact(bh1 hF G.room g1 z hk hb .nil bB2 h g2 (zd (hs x (az ..))) (zy fun e he=>hs e (ao _ he)).1).imp key
def BiC (Γ:Gm)(X:Cx)(b:jK)(x:Str):Prop:=(∃ id,aY x=some (.builtin id)/\ab6 X (.builtin id) (rCl Γ (kr b)))\/∃ T,aY x=some (.type T)/\ab6 X (.type T) (rCl Γ (kr b))
theorem bs3 (G:CG Γ F n X ck){b:jK}{x:Str}(h:biT b=some x):x∈bNames/\BiC Γ X b x:=by
 cases b<;>first|cases h|skip
 ·exact⟨by decide,.inl ⟨_,bJ8,aT1 G.K G.calm (k:=1) rfl⟩⟩
 ·exact⟨by decide,.inl ⟨_,bJ4,aT1 G.K G.calm (k:=1) rfl⟩⟩
 ·exact⟨by decide,.inr ⟨_,bz6,bD0⟩⟩
 ·exact⟨by decide,.inl ⟨_,bc3,aT1 G.K G.calm (k:=2) rfl⟩⟩
 ·exact⟨by decide,.inl ⟨_,bH9,aT1 G.K G.calm (k:=2) rfl⟩⟩
theorem bx0 {b:jK}{es:jC}{x:Str}{y:Expr}{z:List Expr}{p pos:Pos}(G:CG Γ F n X ck)(hb:biT b=some x)(hg:ck.gl x=true)(m:mEs ck es (y::z)=true)(h:PA X (y::z) (TAv Γ (jG F es))) :
  EvT Γ X (.Call (.Name x p) (y::z) [] pos) (jp F (.bi b es)):=by
 refine .val ?_
 obtain⟨g1,g2,Y⟩:=G.gl hg
 obtain⟨hm,hc⟩:=bs3 G hb
 have hs:=ao6 m
 have s1:=zd (es:=z) (env:=X.env) (hs y (az ..))
 have s2:=(zy (env:=X.env) (pos:=pos) fun e he=>hs e (ao _ he)).1
 rcases hc with⟨id,J,C⟩|⟨T,J,C⟩
 ·exact(ao9 C g1 (G.bi _ hm) J h Y g2 s1 s2).imp fun σ H Q q=>au2 (TEv.eq (fun ρ s=>rfl) q)
 ·exact(aj1 C g1 (G.bi _ hm) J h Y g2 s1 s2).imp fun σ H Q q=>au2 (TEv.eq (fun ρ s=>rfl) q)
theorem bt4 {b:jK}{k:Nat}{t:Str}(h:biK b=some (k,t)):(1<=k/\k<=5)/\t∈bNames/\aY t=some (.type (ak0 k))/\kr b=ko (ku k):=by
 cases b<;>cases h
 ·exact⟨by omega,by decide,bz6,rfl⟩
 ·exact⟨by omega,by decide,bv9,rfl⟩
 ·exact⟨by omega,by decide,bI8,rfl⟩
 ·exact⟨by omega,by decide,aK5,rfl⟩
 ·exact⟨by omega,by decide,aN0,rfl⟩
noncomputable def PEs (Γ:Gm)(F:jF)(X:Cx):jC->List Expr->Prop
 | .nil,[]=>True
 | .cons e es,x::xs=>(shp x=true/\EvT Γ X x (jp F e))/\PEs Γ F X es xs
 | _,_=>False
theorem ai1:∀ {es:jC} {y:List Expr},PEs Γ F X es y->PA X y (TAv Γ (jG F es))
 | .nil,[],_=>ac9.imp fun σ H Q q=>aB8 (TAv.eq (fun ρ s=>rfl) q)
 | .nil,_::_,h=>h.elim
 | .cons _ _,[],h=>h.elim
 | .cons e es,x::y,h=>(aA6 h.1.1 h.1.2.1 (ai1 h.2)).imp fun σ H Q q=>TAv.eq (fun ρ s=>rfl) q
theorem bo2 {b:jK}{es:jC}{k:Nat}{t:Str}{a:Expr}{p Y pos:Pos}(G:CG Γ F n X ck)(hb:biK b=some (k,t))(hg:ck.gl "isinstance"=true)(C:ck.gl t=true)(h:PEs Γ F X es [a]) :
  EvT Γ X (.Call (.Name "isinstance" p) [a,.Name t Y] [] pos) (jp F (.bi b es)):=by
 refine .val ?_
 obtain⟨g1,g2,g3⟩:=G.gl hg
 obtain⟨t1,t2,t3⟩:=G.gl C
 obtain⟨hk,y,hv,J⟩:=bt4 hb
 have z:PE X (.Name t Y) (tC (.ty (ak0 k))):=bm9 t1 (G.bi _ y) hv rfl t3 t2
 cases es with
 | nil=>exact h.elim
 | cons e es =>
  cases es with
  | cons _ _=>exact h.2.elim
  | nil =>
   obtain⟨⟨hs,ha,_⟩,_⟩:=h
   have hA:PA X [a,.Name t Y] (al8 (TEv Γ (jp F e)) (al8 (tC (.ty (ak0 k))) aS2)):=zK ha (zK z ac9 (zd rfl)) (zd hs)
   refine(ao9 (bC0 G.K hk) g1 (G.bi _ (by decide)) at1 hA g3 g2 (zd hs) (zy fun e he=>by rw[cj.mp he];rfl).1).imp fun σ H Q q=>?_
   obtain⟨φ,ρ,s,d,s',E,R,y,q⟩:=q
   obtain⟨l,s1,e1,y⟩:=aa0 y
   obtain⟨x,s2,e2,e1⟩:=aa0 e1
   obtain⟨l2,s3,e3,e1⟩:=aa0 e1
   cases e3
   cases e1
   rw[J]at y
   refine⟨φ,ρ,s,x,_,E,R,e2,fun v φ1 H1 g1 l1 b1 r1 R1=>?_⟩
   exact⟨v,rfl,φ1,_,[x],d,s',R1,.cons r1 .nil,by unfold jm;rw[b1];rfl,y,q.trans g1 l1⟩
end
section
variable {Γ:Gm} {F:jF} {n:Nat} {X:Cx} {ck:Ck} {σ:St} {H:Hp}
def TAp (Γ:Gm)(cells:List (Str×Addr))(N:List Str)(m:jn->jk->jo (List jl)):TA:=fun σ H Q=>∃ φ ρ s l s',RE Γ φ H s.length ρ σ/\Rp Γ φ H s/\m ρ s=.ok l s' /\
 ∀ vs φ' H',Gr φ s H φ' s' H'->s.length<=s'.length->jm s'.length l=true->PVL Γ cells N σ φ' H' l vs->Rp Γ φ' H' s'->Q vs H'
theorem TAp.eq {cells:List (Str×Addr)}{N:List Str}{m m':jn->jk->jo (List jl)}{Q:List V->Hp->Prop}(e:∀ ρ s,m ρ s=m' ρ s)(q:TAp Γ cells N m σ H Q):TAp Γ cells N m' σ H Q:=by
 obtain⟨φ,ρ,s,l,s',E,R,h,q⟩:=q
 exact⟨φ,ρ,s,l,s',E,R,by rw[<-e];exact h,q⟩
theorem be2 {cells:List (Str×Addr)}{N:List Str}{Q:List V->Hp->Prop}(h:TAp Γ cells N (fun ρ s=>.ok [] s) σ H Q):aS2 σ H Q:=by
 obtain⟨φ,ρ,s,l,s',E,R,y,q⟩:=h
 cases y
 exact q [] φ H (Gr.refl _ _ _) (ai _) rfl .nil R
theorem bC9 {cells:List (Str×Addr)}{N:List Str}{m:jn->jk->jo jl}{Y:jn->jk->jo (List jl)}{Q:List V->Hp->Prop}(h:TAp Γ cells N (fun ρ s=>(m ρ s).bind fun d s=>(Y ρ s).bind fun l s=>.ok (d::l) s) σ H Q):al8 (TEv Γ m) (TAp Γ cells N Y) σ H Q:=by
 obtain⟨φ,ρ,s,l,s',E,R,z,q⟩:=h
 obtain⟨x,s1,e1,z⟩:=aa0 z
 obtain⟨y,s2,e2,z⟩:=aa0 z
 cases z
 refine⟨φ,ρ,s,x,s1,E,R,e1,fun v φ1 H1 g1 l1 C r1 R1=>?_⟩
 refine⟨φ1,ρ,s1,y,s',E.mono g1 l1,R1,e2,fun vs φ2 H2 J G b2 r2 R2=>?_⟩
 exact q (v::vs) φ2 H2 (g1.trans J l1) (am l1 G) (by unfold jm;rw[zo G x C,b2];rfl) (.cons (PVp.mono J C (.inl r1)) r2) R2
theorem ai5 {ρ:jn}:∀ {is:List Nat} {cs:List jl},jH ρ is=some cs->cs.length=is.length/\∀(i j:Nat),is[i]?=some j->∃ d,cs[i]?=some d/\ρ[j]?=some (some d)
 | [],cs,h=>by cases h;exact⟨rfl,fun i j e=>by cases e⟩
 | k::is,cs,h=>by
  unfold jH at h
  cases e:ρ[k]? with
  | none=>rw[e]at h;cases h
  | some o =>
   cases o with
   | none=>rw[e]at h;cases h
   | some d =>
    cases e2:jH ρ is with
    | none=>rw[e,e2]at h;cases h
    | some l =>
     rw[e,e2]at h
     cases h
     obtain⟨C,z⟩:=ai5 e2
     refine⟨by rw[aQ,aQ,C],fun i j y=>?_⟩
     cases i with
     | zero=>cases y;exact⟨d,rfl,e⟩
     | succ i=>exact z i j y
theorem aL6 {φ:Nat->Addr}{s:jk}{ρ:jn}(E:RE Γ φ H s.length ρ σ):∀ {is:List Nat} {cs:List jl},jH ρ is=some cs->∃ cap,RVL Γ φ H cs cap/\jm s.length cs=true/\∀(i j:Nat) (v:V),is[i]?=some j->cap[i]?=some v->σ[j]?=some (some v)
 | [],cs,h=>by cases h;exact⟨[],.nil,rfl,fun i j v e=>by cases e⟩
 | k::is,cs,h=>by
  unfold jH at h
  cases e:ρ[k]? with
  | none=>rw[e]at h;cases h
  | some o =>
   cases o with
   | none=>rw[e]at h;cases h
   | some d =>
    cases e2:jH ρ is with
    | none=>rw[e,e2]at h;cases h
    | some l =>
     rw[e,e2]at h
     cases h
     obtain⟨cap,Y,G,h3⟩:=aL6 E e2
     obtain⟨hb,v,C,J⟩:=E.val k d e
     refine⟨v::cap,.cons J Y,by unfold jm;rw[hb,G];rfl,fun i j w y z=>?_⟩
     cases i with
     | zero=>cases y;cases z;exact C
     | succ i=>exact h3 i j w y z
theorem bE4 {id:String}{h:List Nat}{params:aV}{body:Expr}{scope:Scope}{pos:Pos}{c P:Addr}{J:LamI}{xs:List Expr}{ms:jn->jk->jo (List jl)}(L:LamHere Γ X X.N id h params body scope c P J)(hnm:J.nm=none)(h2:PA X xs (TAp Γ X.env.cells X.N ms)) :
  PA X (.Lambda params body scope pos::xs) (TAp Γ X.env.cells X.N (fun ρ s=>match jH ρ h with|some cs=>(ms ρ s).bind fun l s=>.ok (.clo id cs::l) s|none=>.bad)):=by
 refine(zK (aP7 L.code L.hd L.bm L.ck L.df) h2).imp fun σ H Q q=>?_
 obtain⟨φ,ρ,s,l,s',E,R,z,q⟩:=q
 have z:(match jH ρ h with|some cs=>(ms ρ s).bind fun l s=>DV.R.ok (DV.D.clo id cs::l) s|none=>DV.R.bad)=.ok l s':=z
 cases eg:jH ρ h with
 | none=>rw[eg]at z;exact fb z
 | some cs =>
  rw[eg]at z
  obtain⟨y,s2,e2,z⟩:=aa0 z
  cases z
  obtain⟨cap,Y,C,hσ⟩:=aL6 E eg
  have G:=(ai5 eg).1
  have hq:J.qual=X.env.qual ++ "<lambda>":=by rw[L.q];unfold LamI.own;rw[hnm]
  rw[<-hq]
  refine aT3 R.tab L.nd L.tab fun f H' e st tb hf ho=>?_
  obtain⟨g1,R1⟩:=R.sameT e st tb
  refine⟨φ,ρ,s,y,s',E.mono g1 (ai _),R1,e2,fun vs φ2 H2 g2 l2 b2 r2 R2=>?_⟩
  refine q (.ref f::vs) φ2 H2 (g1.trans g2 (ai _)) l2 (by unfold jm jq;rw[aa3 l2 cs C,b2];rfl) (.cons ?_ r2) R2
  have p1:PVp Γ X.env.cells X.N σ φ H' (.clo id cs) (.ref f):=by
   refine .inr ⟨id,cs,rfl,f,J,rfl,L.lg,by unfold ad3;rw[hnm];dsimp only;rw[L.p,L.b,L.s];exact ho,by rw[G,L.len],by rw[L.s];exact L.cl,cap,RVL.mono g1 cs cap C Y,fun i x v e1 e3=>?_⟩
   have hi:i<h.length:=by rw[<-L.len];exact(ae.mp e1).1
   have hj:h[i]?=some h[i]:=aj hi
   exact⟨by rw[L.s];exact L.fr x (aX e1),h[i],L.at_ i _ x hj e1,hσ i _ v hj e3⟩
  exact p1.mono g2 (by unfold jq;exact C)
theorem aH3 {f:String}{ms:jn->jk->jo (List jl)}{e:Expr}{es:List Expr}{p pos:Pos}(G:CG Γ F n X ck)(hg:ck.gl (f:Str)=true)(a0:∀ x,X.fn x=true)(J:∀ x c,X.env.cells.lookup x=some c->X.env.kindOf x=some .cell\/X.env.kindOf x=some .free)
  (hs:∀ y∈e::es,shp y=true) (h:PA X (e::es) (TAp Γ X.env.cells X.N ms)) :
  PE X (.Call (.Name (f:Str) p) (e::es) [] pos) (TEv Γ (fun ρ s=>(ms ρ s).bind fun l s=>(F.call f l s).bind fun d s'=>if(d.ncl&&s'.all kz)=true then .ok d s' else .bad)):=by
 obtain⟨g1,g2,g3⟩:=G.gl hg
 rcases G.call f with hb|⟨a,fd,ps,hF,Y,hk,hB⟩
 ·intro a1 s σ H Q I q
  obtain⟨φ,ρ,s,d,s',E,R,z,q⟩:=q
  obtain⟨l,s1,e1,z⟩:=aa0 z
  rw[hb]at z;exact fb z
 ·refine(ay9 hF G.room g1 Y hk hB a0 h g2 (zd (hs e (az ..))) (zy fun y hy=>hs y (ao _ hy)).1).imp fun σ H Q q=>?_
  obtain⟨φ,ρ,s,d,s',E,R,z,q⟩:=q
  obtain⟨l,s1,e1,z⟩:=aa0 z
  obtain⟨d2,s2,e2,z⟩:=aa0 z
  split at z
  case isFalse=>exact fb z
  rename_i hn
  cases z
  rw[ag]at hn
  refine⟨φ,ρ,s,l,s1,E,R,e1,fun vs φ1 H1 gg l1 b1 r1 R1=>fun H2 C=>?_⟩
  obtain⟨gs,R2⟩:=R1.same C.same
  refine⟨φ1,s1,l,d,s',R2,r1.caught C J b1,b1,e2,fun v φ' H3 g' l' b' r' R'=>?_⟩
  have hc:Cells X.env.cells H3:=C.cells.kp g'.w.kp
  exact q v φ' (aa7 X.env.cells H3) (gg.trans (Gr.caught C g') l1) (am l1 l') b' (RV.dropC hc d v hn.1 r') (R'.dropC hc hn.2)
theorem aH5 {i:Nat}{x:Str}{es:jC}{e:Expr}{xs:List Expr}{p pos:Pos}(G:CG Γ F n X ck)(hv:ck.var i x=true)(hs:∀ y∈e::xs,shp y=true)(h:PA X (e::xs) (TAv Γ (jG F es)))(a0:PE X (.Name x p) (bb3 i)) :
  PE X (.Call (.Name x p) (e::xs) [] pos) (TEv Γ (jp F (.callV i es))):=by
 refine(aR2 rfl rfl rfl rfl rfl G.room a0 h (zd (hs e (az ..))) (zy fun y hy=>hs y (ao _ hy)).1).imp fun σ H Q q=>?_
 obtain⟨φ,ρ,s,d,s',E,R,z,q⟩:=q
 have z:((jG F es ρ s).bind fun l s=>match ρ[i]? with
  | some (some (.fn f))=>F.call f l s
  | some (some (.clo id cs))=>F.lam id cs l s
  | _=>.bad)=.ok d s':=z
 obtain⟨l,s1,e1,z⟩:=aa0 z
 cases eρ:ρ[i]? with
 | none=>rw[eρ]at z;exact fb z
 | some o =>
  cases o with
  | none=>rw[eρ]at z;exact fb z
  | some v0 =>
   obtain⟨hb,v,hσ,rv⟩:=E.val i v0 eρ
   cases v0 with
   | fn f =>
    rw[eρ]at z
    have z:F.call f l s1=.ok d s':=z
    unfold RV at rv
    obtain⟨a,ha,e2⟩:=rv
    subst e2
    obtain⟨h1,h2⟩:=G.fa f a ha
    rcases G.call f with hb|⟨a',fd,ps,hF,a1,hk,hB⟩
    ·rw[hb]at z;exact fb z
    ·rw[h1]at a1
     cases a1
     refine⟨a,hσ,.inr h2,φ,ρ,s,l,s1,E,R,e1,fun vs φ1 H1 g1 l1 b1 r1 R1=>?_⟩
     exact⟨.inr h2,_,_,ClOk.ofFn hF hB,trivial,φ1,s1,l,d,s',R1,r1,b1,z,q.trans g1 l1⟩
   | clo id cs =>
    rw[eρ]at z
    have z:F.lam id cs l s1=.ok d s':=z
    unfold RV at rv
    unfold jq at hb
    obtain⟨f,cap,J,C,e2,a3,hat,a4,a2⟩:=rv
    subst e2
    have fin:∀ H',CloAt H' f J cap C->bn1 X.K H' f:=fun H' h'=>h'.fn
    refine⟨f,hσ,fin H hat,φ,ρ,s,l,s1,E,R,e1,fun vs φ1 H1 g1 l1 b1 r1 R1=>?_⟩
    have Y:=hat.kp g1.w.kp
    exact⟨fin H1 Y,_,_,G.cl id J f cap C a3 a4,Y,φ1,s1,cs,l,d,s',R1,r1,RVL.mono g1 cs cap hb a2,b1,aa3 l1 cs hb,z,q.trans g1 l1⟩
   | _=>rw[eρ]at z;exact fb z
end
section
variable {Γ:Gm} {F:jF} {n:Nat} {X:Cx} {ck:Ck} {σ:St} {H:Hp} {Q:VK}
def bS1 (K:ab)(H:Hp)(v:V)(ys:List V)(z:Bool):Prop:=(∃ a,v=.ref a/\(SqL K H a ys\/(SqT K H a ys/\(z=true->H a=some (.tup ys)))))\/∃ x:List Nat,v=.str ⟨x.toArray⟩/\x.length<=js/\ys=sgV x
def TLv (Γ:Gm)(m:jn->jk->jo (List jl)):TE:=fun σ H Q=>∃ φ ρ s l s',RE Γ φ H s.length ρ σ/\Rp Γ φ H s/\m ρ s=.ok l s' /\
 ∀ v ys φ' H',Gr φ s H φ' s' H'->s.length<=s'.length->jm s'.length l=true->bS1 Γ.K H' v ys (ju l)->RVL Γ φ' H' l ys->Rp Γ φ' H' s'->Q v H'
theorem aC1 {m:jn->jk->jo (List jl)}(h:TLv Γ m σ H Q):TFv Γ m σ H Q:=by
 obtain⟨φ,ρ,s,l,s',E,R,y,q⟩:=h
 exact⟨φ,ρ,s,l,s',E,R,y,fun p ys φ' H' g hl hb z h0 ho r C=>q (.ref p) ys φ' H' g hl hb (.inl ⟨p,rfl,.inl (SqL.of z)⟩) r C⟩
theorem aq2 {φ:Nat->Addr}:∀ x:List Nat,RVL Γ φ H (x.map fun c=>.str [c]) (sgV x)
 | []=>.nil
 | c::x=>.cons (RV.strI (by unfold js;simp)) (aq2 x)
theorem al5 {k:Nat}:∀ x:List Nat,jm k (x.map fun c=>.str [c])=true
 | []=>rfl
 | c::x=>by rw[aL];unfold jm;rw[al5 x];rfl
theorem bs9 {m:jn->jk->jo jl}(h:TLv Γ (fun ρ s=>(m ρ s).bind fun d s=>DV.bb2 d s) σ H Q):TEv Γ m σ H Q:=by
 obtain⟨φ,ρ,s,l,s',E,R,y,q⟩:=h
 obtain⟨d,s1,e1,y⟩:=aa0 y
 refine⟨φ,ρ,s,d,s1,E,R,e1,fun v φ1 J g1 l1 Y r1 R1=>?_⟩
 cases d with
 | tup l' =>
  cases y
  obtain⟨a,G,⟨rfl,z1⟩,C,z⟩:=r1.tupZ
  unfold jq at Y
  exact q _ G φ1 J g1 l1 Y (.inl ⟨a,rfl,.inr ⟨C,z1⟩⟩) z R1
 | str x =>
  cases y
  exact q v (sgV x) φ1 J g1 l1 (al5 x) (.inr ⟨x,r1.strE,r1.strL,rfl⟩) (aq2 x) R1
 | ref k =>
  have y:(match s1[k]? with
   | some (.lst l)=>DV.R.ok l s1
   | some (.ro l)=>.ok l s1
   | _=>.bad)=.ok l s':=y
  rw[r1.refE]
  cases e:s1[k]? with
  | none=>rw[e]at y;exact fb y
  | some ob =>
   rw[e]at y
   cases ob with
   | lst l' =>
    cases y
    obtain⟨G,C,z⟩:=R1.addr e
    have:=R1.wf k _ e
    unfold jr at this
    exact q _ G φ1 J g1 l1 this (.inl ⟨_,rfl,.inl (SqL.of C)⟩) z R1
   | ro l' =>
    cases y
    obtain⟨G,C,z⟩:=R1.obj k _ e
    have:=R1.wf k _ e
    unfold jr at this
    exact q _ G φ1 J g1 l1 this (.inl ⟨_,rfl,.inl C.1⟩) z R1
   | _=>exact fb y
 | _=>exact fb y
theorem TLv.eq {m m':jn->jk->jo (List jl)}(e:∀ ρ s,m ρ s=m' ρ s)(q:TLv Γ m σ H Q):TLv Γ m' σ H Q:=by
 have:m=m':=funext fun ρ=>funext fun s=>e ρ s
 subst this;exact q
theorem aF6 {m:jn->jk->jo (List jl)}{a:Expr}{p pos:Pos}(G:CG Γ F n X ck)(hg:ck.gl "tuple"=true)(hs:shp a=true)(h:PE X a (TLv Γ m)) :
  PE X (.Call (.Name "tuple" p) [a] [] pos) (TEv Γ (fun ρ s=>(m ρ s).bind fun l s=>j7 .tuple l s)):=by
 obtain⟨g1,g2,Y⟩:=G.gl hg
 refine(aj1 ((av2 G.K).or (au1 G.calm)) g1 (G.bi _ (by decide)) aK5 (zK h ac9 (zd hs)) Y g2 (zd hs) rfl).imp fun σ H Q q=>?_
 obtain⟨φ,ρ,s,d,s',E,R,C,q⟩:=q
 obtain⟨l,s1,e1,C⟩:=aa0 C
 cases C
 refine⟨φ,ρ,s,l,_,E,R,e1,fun v ys φ1 J g1 l1 z hq r1 R1=>?_⟩
 rcases hq with⟨a,rfl,hq|hq⟩|⟨x,rfl,hx,rfl⟩
 ·exact .inl ⟨a,ys,rfl,.inl ⟨hq,fun p y=>(q.trans g1 l1).tup R1 r1 z y⟩⟩
 ·exact .inl ⟨a,ys,rfl,.inr ⟨hq.1,q _ φ1 J g1 l1 (by unfold jq;exact z) (RV.tupC hq.1 hq.2 r1) R1⟩⟩
 ·exact .inr ⟨x,rfl,hx,fun p y=>(q.trans g1 l1).tup R1 r1 z y⟩
theorem aG4 {m:jn->jk->jo (List jl)}{a:Expr}{p pos:Pos}(G:CG Γ F n X ck)(Y:ck.gl "list"=true)(hs:shp a=true)(h:PE X a (TLv Γ m)) :
  PE X (.Call (.Name "list" p) [a] [] pos) (TEv Γ (fun ρ s=>(m ρ s).bind fun l s=>j7 .list l s)):=by
 obtain⟨g1,g2,J⟩:=G.gl Y
 refine(aj1 ((aE2 G.K).or (aD0 G.calm)) g1 (G.bi _ (by decide)) aN0 (zK h ac9 (zd hs)) J g2 (zd hs) rfl).imp fun σ H Q q=>?_
 obtain⟨φ,ρ,s,d,s',E,R,z,q⟩:=q
 obtain⟨l,s1,e1,z⟩:=aa0 z
 obtain⟨rfl,rfl⟩:=zP z
 refine⟨φ,ρ,s,l,_,E,R,e1,fun v ys φ1 H1 g1 l1 C hq r1 R1=>?_⟩
 rcases hq with⟨a,rfl,hq⟩|⟨x,rfl,hx,rfl⟩
 ·exact .inl ⟨a,ys,rfl,hq.imp id (·.1),fun p y=>(q.trans g1 l1).alloc R1 r1 C y⟩
 ·exact .inr ⟨x,rfl,hx,fun p y=>(q.trans g1 l1).alloc R1 r1 C y⟩
theorem bw6 {m:jn->jk->jo (List jl)}{k:kg}{x:Str}{a:Expr}{p pos:Pos}(G:CG Γ F n X ck)(hk:mkT k=some x)(y:ck.gl x=true)(hs:shp a=true)(h:PE X a (TLv Γ m)) :
  PE X (.Call (.Name x p) [a] [] pos) (TEv Γ (fun ρ s=>(m ρ s).bind fun l s=>j7 k l s)):=by
 cases k<;>cases hk
 ·exact aF6 G y hs h
 ·exact aG4 G y hs h
def FrC (Γ:Gm)(X:Cx)(x:Str)(k:kg):Prop:=∃ id r,aY x=some (.builtin id)/\x∈bNames/\ab6 X (.builtin id) r/\∀ φ H s l ys p d s' Q,Rp Γ φ H s->RVL Γ φ H l ys->H p=some (.lst ys)->j7 k l s=.ok d s'->ac6 Γ φ s H d s' Q->r [.ref p] H Q
theorem aB5:∀(l:List Int) (a:Int),(l.foldl min a=a\/l.foldl min a∈l)/\l.foldl min a<=a/\∀ y∈l,l.foldl min a<=y
 | [],a=>⟨.inl rfl,et _,fun y hy=>by cases hy⟩
 | b::l,a=>by
  obtain⟨C,J,G⟩:=aB5 l (min a b)
  rw[cu]
  refine⟨?_,by omega,fun y hy=>?_⟩
  ·rcases C with h|h
   ·rw[h]
    rcases i7 a b with z|z
    ·left;omega
    ·right;rw[show min a b=b by omega];exact az ..
   ·exact .inr (ao _ h)
  ·rcases aC.mp hy with z|z
   ·rw[z];omega
   ·exact G y z
theorem aC3 {l:List Int}{m:Int}(h:jX l=some m):m∈l/\∀ y∈l,m<=y:=by
 cases l with
 | nil=>cases h
 | cons a l =>
  cases h
  obtain⟨G,C,J⟩:=aB5 l a
  refine⟨?_,fun y hy=>?_⟩
  ·rcases G with h|h
   ·rw[h];exact az ..
   ·exact ao _ h
  ·rcases aC.mp hy with z|z
   ·rw[z];exact C
   ·exact J y z
theorem bo1 (G:CG Γ F n X ck){k:kg}{x:Str}(hk:mkF k=some x):FrC Γ X x k:=by
 cases k<;>cases hk
 ·refine⟨_,_,bH3,by decide,aM3 G.calm G.K,fun φ H s l ys p d s' Q R r C h q=>?_⟩
  unfold j7 at h
  dsimp only at h
  cases e:j1 l with
  | none=>rw[e]at h;exact fb h
  | some bs =>
   rw[e]at h
   cases h
   have:=aj0 e
   subst this
   exact⟨p,bs,rfl,SqL.of (by rw[<-r.bls];exact C),q.here R rfl RV.blI⟩
 ·refine⟨_,_,bc3,by decide,aO5 G.calm G.K,fun φ H s l ys p d s' Q R r C h q=>?_⟩
  unfold j7 at h
  dsimp only at h
  cases e:jT l with
  | none=>rw[e]at h;exact fb h
  | some is =>
   rw[e]at h
   have h:(match jX is with|some m=>DV.R.ok (DV.D.int m) s|none=>.bad)=.ok d s':=h
   cases e2:jX is with
   | none=>rw[e2]at h;exact fb h
   | some mm =>
    rw[e2]at h
    cases h
    have:=zW e
    subst this
    refine⟨p,is,rfl,SqL.of (by rw[<-r.ints];exact C),(fun(z:is=[])=>by rw[z]at e2;cases e2),fun m h y=>?_⟩
    obtain⟨a,b⟩:=aC3 e2
    have:m=mm:=ik (y mm a) (b m h)
    rw[this]
    exact q.here R rfl RV.intI
theorem bA0 {m:jn->jk->jo (List jl)}{k:kg}{x:Str}{a:Expr}{p pos:Pos}(G:CG Γ F n X ck)(hk:mkF k=some x)(hg:ck.gl x=true)(hs:shp a=true)(h:PE X a (TFv Γ m)) :
  PE X (.Call (.Name x p) [a] [] pos) (TEv Γ (fun ρ s=>(m ρ s).bind fun l s=>j7 k l s)):=by
 obtain⟨g1,g2,J⟩:=G.gl hg
 obtain⟨id,r,hb,hx,hc,Y⟩:=bo1 (Γ:=Γ) G hk
 refine(ao9 hc g1 (G.bi _ hx) hb (zK h ac9 (zd hs)) J g2 (zd hs) rfl).imp fun σ H Q q=>?_
 obtain⟨φ,ρ,s,d,s',E,R,y,q⟩:=q
 obtain⟨l,s1,e1,y⟩:=aa0 y
 exact⟨φ,ρ,s,l,_,E,R,e1,fun p ys φ1 C g1 l1 b1 z h0 ho r1 R1=>Y φ1 C s1 l ys p d s' Q R1 r1 z y (q.trans g1 l1)⟩
theorem bB7 {md:jn->jk->jo (jl)}{ml:jn->jk->jo (List jl)}{a de:Expr}{p pos kp:Pos}(G:CG Γ F n X ck)(hg:ck.gl "min"=true)(hs:shp a=true)(h:PE X a (TFv Γ ml))(hd:PE X de (TEv Γ md)) :
  PE X (.Call (.Name "min" p) [a] [⟨some "default",de,kp⟩] pos) (TEv Γ (fun ρ s=>(ml ρ s).bind fun l s=>(md ρ s).bind fun d s=>DV.mkD .min l d s)):=by
 obtain⟨g1,g2,g3⟩:=G.gl hg
 refine(bh4 rfl G.calm g1 (G.bi _ (by decide)) h hd (zd hs)).imp fun σ H Q q=>?_
 obtain⟨φ,ρ,s,d,s',E,R,C,q⟩:=q
 obtain⟨l,s1,e1,C⟩:=aa0 C
 obtain⟨d0,s2,e2,C⟩:=aa0 C
 refine⟨φ,ρ,s,l,s1,E,R,e1,fun p ys φ1 H1 g1 l1 b1 hp h0 ho r1 R1=>?_⟩
 refine⟨φ1,ρ,s1,d0,s2,E.mono g1 l1,R1,e2,fun v φ2 H2 g2 l2 b2 r2 R2=>?_⟩
 have a1:H2 p=some (.lst ys):=g2.fr p _ hp (by nofun) (fun i ob e mu=>ho i ob e mu)
 unfold DV.mkD at C
 dsimp only at C
 cases e:jT l with
 | none=>rw[e]at C;exact fb C
 | some is =>
  rw[e]at C
  have J:(match jX is with|some m=>DV.R.ok (DV.D.int m) s2|none=>DV.R.ok d0 s2)=.ok d s':=C
  have:=zW e
  subst this
  have hq:=q.trans (g1.trans g2 l1) (am l1 l2)
  refine⟨p,is,rfl,SqL.of (by rw[<-r1.ints];exact a1),fun z=>?_,fun m Y a0=>?_⟩
  ·subst z
   cases J
   exact hq.here R2 b2 r2
  ·clear e2
   cases e2:jX is with
   | none =>
    cases is with
    | nil=>cases Y
    | cons _ _=>cases e2
   | some mm =>
    rw[e2]at J
    cases J
    obtain⟨x,y⟩:=aC3 e2
    have:m=mm:=ik (a0 mm x) (y m Y)
    rw[this]
    exact hq.here R2 rfl RV.intI
theorem aX9 {φ φ':Nat->Addr}{s s':jk}{H':Hp}{r:Nat}{l:List jl}(R:Rp Γ φ H s)(g:Gr φ s H φ' s' H')(hb:r<s.length)(e:s'[r]?=some (.lst l)):tyV Γ.K "list" (.ref (φ r)) H:=by
 obtain⟨h,y⟩:∃ h,s[r]?=some h:=⟨s[r],aj hb⟩
 have z:=g.mu r h _ y e rfl
 have ho:=R.obj r h y
 cases h with
 | lst l0 =>
  obtain⟨G,C,_⟩:=ho
  exact .inl ⟨rfl,G,SqL.of C⟩
 | ro _=>cases z
 | dic _=>have:=g.kd r _ _ y e;cases this
 | dit _=>have:=g.kd r _ _ y e;cases this
 | ins _ _=>exact ho.elim
def mtR (Γ:Gm)(m:kh):V->List V->Hp->VK->Prop:=fun x vs H Q=>∃ φ s a l d s',Rp Γ φ H s/\RV Γ φ H a x/\RVL Γ φ H l vs/\a.bnd s.length=true/\jm s.length l=true/\ke m a l s=.ok d s'/\ac6 Γ φ s H d s' Q
theorem bC2:js<aA:=by rw[cY];decide
theorem aB2 {m:kh}{x:Str}{k:Nat}(y:mtT m=some (x,k)){a:jl}{l:List jl}{s s':jk}{d:jl}(h:ke m a l s=.ok d s'):∃ r l0,a=.ref r/\s[r]?=some (.lst l0):=by
 have go:∀ {r:Nat} {f:List jl->jo jl},(match s[r]? with|some (.lst l)=>f l|_=>.bad)=.ok d s'->∃ l0,s[r]?=some (.lst l0):=fun {r f} h=>by
  cases e:s[r]? with
  | none=>rw[e]at h;exact fb h
  | some ob =>
   cases ob with
   | lst l0=>exact⟨l0,rfl⟩
   | _=>rw[e]at h;exact fb h
 unfold ke at h
 split at h
 ·obtain⟨l0,e⟩:=go h;exact⟨_,l0,rfl,e⟩
 ·obtain⟨l0,e⟩:=go h;exact⟨_,l0,rfl,e⟩
 ·obtain⟨l0,e⟩:=go h;exact⟨_,l0,rfl,e⟩
 ·obtain⟨l0,e⟩:=go h;exact⟨_,l0,rfl,e⟩
 ·obtain⟨l0,e⟩:=go h;exact⟨_,l0,rfl,e⟩
 ·exact fb h
theorem aX5:MtR X "list.append" (mtR Γ .append):=by
 intro G sh σ H x vs v us Q I rx rv h
 obtain⟨φ,s,a,l,d,s',R,ra,rl,ba,bl,C,q⟩:=h
 obtain⟨r,l0,rfl,e⟩:=aB2 (m:=.append) rfl C
 cases l with
 | nil=>exact fb C
 | cons y t =>
  cases t with
  | cons _ _=>exact fb C
  | nil =>
   simp only[ke,e]at C
   split at C
   case isFalse=>exact fb C
   rename_i hlt
   cases C
   obtain⟨z,rfl,rz⟩:=rl.one
   obtain⟨xs,h1,Y⟩:=R.addr e
   have J:jm s.length l0=true:=by have:=R.wf r _ e;unfold jr at this;exact this
   refine ap0 G sh σ H x [z] v us Q I rx rv ⟨φ r,xs,z,ra.refE,rfl,h1,by rw[Y.length];have:=bC2;omega,?_⟩
   exact q.put R e (Y.append (.cons rz .nil)) (zI J bl) rfl RV.nonI
structure MtOk (Γ:Gm)(X:Cx)(m:kh)(x:Str):Prop where
 ex:∃ id,PySem.Slot "list" x id/\typeOf (.builtin id)=pure (.type "method_descriptor")/\MtR X id (mtR Γ m)
theorem bu8 (z:X.K=Γ.K)(y:Room (jz+1) X.A){m:kh}{x:Str}{k:Nat}(h:mtT m=some (x,k)):MtOk Γ X m x:=by
 cases m<;>cases h
 ·exact⟨_,fJ,PySem.F.type_list_append,aX5⟩
theorem aQ6 {m:kh}{o:jW}{es:jC}{ob:Expr}{C:List Expr}{x:Str}{ap cp:Pos}(G:CG Γ F n X ck)(hm:mtT m=some (x,C.length))(hab:bv2 ob=true)(hl:(ap.endLine==cp.line)=true)(ho:PE X ob (TEv Γ (jp F o)))
  (a2:mEs ck es C=true) (h:PEs Γ F X es C):EvT Γ X (.Call (.Attribute ob x ap) C [] cp) (jp F (.meth m o es)):=by
 refine .val ?_
 obtain⟨id,slot,a1,hr⟩:=(bu8 (Γ:=Γ) (X:=X) G.K (G.room.mono G.deep) hm).ex
 have hs:=ao6 a2
 have key:∀ σ H Q,TEv Γ (jp F (.meth m o es)) σ H Q->tBM Γ.K "list" (mtR Γ m) (TEv Γ (jp F o)) (TAv Γ (jG F es)) σ H Q:=fun σ H Q q=>by
  obtain⟨φ,ρ,s,d,s',E,R,z,q⟩:=q
  obtain⟨a,s1,e1,z⟩:=aa0 z
  obtain⟨l,s2,e2,z⟩:=aa0 z
  refine⟨φ,ρ,s,a,s1,E,R,e1,fun v φ1 H1 g1 l1 J r1 R1=>?_⟩
  obtain⟨r,l0,rfl,er⟩:=aB2 hm z
  rw[r1.refE]
  have hk:∀ φ2 H2,Gr φ1 s1 H1 φ2 s2 H2->tyV Γ.K "list" (.ref (φ1 r)) H1:=fun φ2 H2 g2=>aX9 R1 g2 (by unfold jq at J;exact of_decide_eq_true J) er
  have Y:TAv Γ (jG F es) σ H1 fun C H2=>mtR Γ m (.ref (φ1 r)) C H2 Q:=by
   refine⟨φ1,ρ,s1,l,s2,E.mono g1 l1,R1,e2,fun vs φ2 H2 g2 l2 b2 r2 R2=>?_⟩
   refine⟨φ2,s2,.ref r,l,d,s',R2,?_,r2,zo l2 _ J,b2,z,q.trans (g1.trans g2 l1) (am l1 l2)⟩
   have:=RV.mono g2 _ _ J r1
   rw[r1.refE]at this
   exact this
  refine⟨?_,Y⟩
  have hlt:r<s1.length:=by unfold jq at J;exact of_decide_eq_true J
  obtain⟨o0,e0⟩:∃ o0,s1[r]?=some o0:=⟨s1[r],aj hlt⟩
  have a0:=R1.obj r o0 e0
  cases o0 with
  | lst l0 =>
   obtain⟨C,h1,_⟩:=a0
   exact .inl ⟨rfl,C,SqL.of h1⟩
  | ro l0 =>
   obtain⟨C,h1,_⟩:=a0
   exact .inl ⟨rfl,C,h1.1⟩
  | dic _ =>
   obtain⟨o',eo,ek⟩:=DV.ae0 G.fk es ρ s1 _ _ e2 r _ e0
   rw[er]at eo;cases eo;cases ek
  | dit _ =>
   obtain⟨o',eo,ek⟩:=DV.ae0 G.fk es ρ s1 _ _ e2 r _ e0
   rw[er]at eo;cases eo;cases ek
  | ins _ _=>exact a0.elim
 cases C with
 | nil =>
  have p0:PE X (.Call (.Attribute ob x ap) [] [] cp) (bO7 X.K "list" (mtR Γ m) (TEv Γ (jp F o))):=aZ4 e9 slot a1 hr ho (au9 hab) hl
  rw[G.K]at p0
  refine p0.imp fun σ H Q q=>?_
  cases es with
  | cons _ _=>exact h.elim
  | nil =>
   obtain⟨φ,ρ,s,d,s',E,R,z,k⟩:=key σ H Q q
   refine⟨φ,ρ,s,d,s',E,R,z,fun v φ1 H1 g1 l1 J r1 R1=>?_⟩
   obtain⟨h1,h2⟩:=k v φ1 H1 g1 l1 J r1 R1
   exact⟨h1,aB8 (TAv.eq (fun ρ s=>rfl) h2)⟩
 | cons y ys =>
  refine(br8 G.K e9 slot a1 hr ho (ai1 h) (au9 hab) ?_ hl (zd (hs y (az ..))) (zy fun e he=>hs e (ao _ he)).1).imp key
  rw[(zy hs).2]
  have:(y::ys).length<=1:=by
   unfold mtT at hm
   split at hm<;>first|(have:=ay hm;have:=congrArg Prod.snd this;simp at this;simp;omega)|cases hm
  simp only[eO,dJ,i9]
  show(true&&decide ((y::ys).length+0+0<30))=true
  rw[eO]
  exact decide_eq_true (by omega)
end
section
variable {Γ:Gm} {F:jF} {n:Nat} {X:Cx} {ck:Ck} {σ:St} {H:Hp} {Q:VK}
theorem PIf.imp {e:List Expr}{t t':TT}(h:PIf X e t)(i:∀ σ H Q,t' σ H Q->t σ H Q):PIf X e t':=fun y s σ H Q I q=>h y s σ H Q I (i σ H Q q)
structure CompF (Γ:Gm)(X:Cx)(m:jn->jk->jo (List jl))(E:Expr):Prop where
 ex:∃ elt tgt iter ifs scope pos N' caps wi g tc te,E=.ListComp elt [⟨tgt,iter,ifs,0⟩] scope pos/\zN N' caps scope X.N X.env.scope=true/\PI X tgt iter wi /\
  (∀(C:Addr) (cells:List (Str×Addr)) (s:ac) (H:Hp) (ex:List Addr),PG (zC X N' scope C cells s H ex) tgt g/\PIf (zC X N' scope C cells s H ex) ifs tc/\PE (zC X N' scope C cells s H ex) elt te) /\
  (∀ x,cD iter X.env x=pure x)/\∀ σ H Q,TFv Γ m σ H Q->tComp caps wi g tc te σ H Q
theorem CompF.pe {m:jn->jk->jo (List jl)}{E:Expr}(h:CompF Γ X m E)(hc:X.calm=true):PE X E (TFv Γ m):=by
 obtain⟨a0,C,iter,G,scope,pos,N',y,wi,g,tc,te,rfl,h1,z,h3,Y,J⟩:=h.ex
 exact(aJ2 N' y h1 z hc h3 Y).imp J
theorem bk2 {tg:jL}{mI:jn->jk->jo j5}{mc J:jn->jk->jo jl}{h:List (Option Nat)}{z y iter i:Expr}{scope:Scope}{pos:Pos}(G:CG Γ F n X ck)(hm:aC4 ck tg y iter h scope=true)
  (hi:PI X y iter (TIv Γ mI)) (hc:∀ C cells s H ex,PT (zC X (ckC ck y h scope).N scope C cells s H ex) i (TTv Γ mc)) (he:∀ C cells s H ex,PE (zC X (ckC ck y h scope).N scope C cells s H ex) z (TEv Γ J)) :
  CompF Γ X (fun ρ s=>(mI ρ s).bind fun q s0=>if q.its.length<=js then j3 (fun s=>jO s0 s q.src) (fun d ρ s=>match jB ρ tg d with
   | some ρ=>jv (mc ρ s) fun k s=>if k then(J ρ s).bind fun v s=>.ok (some v,ρ) s else .ok (none,ρ) s
   | none=>.bad) q.its (j6 ρ h) s0 else .bad) (.ListComp z [⟨y,iter,[i],0⟩] scope pos):=by
 obtain⟨Y,c2,c3⟩:=G.comp hm
 exact⟨z,y,iter,[i],scope,pos,_,h,_,_,_,_,rfl,Y,hi,fun C cells s H ex=>⟨(c3 C cells s H ex).2,bh3 (hc C cells s H ex),he C cells s H ex⟩,aw6 c2,fun σ H Q q=>aK1 q⟩
theorem aU1 {tg:jL}{mI:jn->jk->jo j5}{Y:jn->jk->jo jl}{h:List (Option Nat)}{z y iter:Expr}{scope:Scope}{pos:Pos}(G:CG Γ F n X ck)(J:aC4 ck tg y iter h scope=true)
  (hi:PI X y iter (TIv Γ mI)) (he:∀ C cells s H ex,PE (zC X (ckC ck y h scope).N scope C cells s H ex) z (TEv Γ Y)) :
  CompF Γ X (fun ρ s=>(mI ρ s).bind fun q s0=>if q.its.length<=js then j3 (fun s=>jO s0 s q.src) (fun d ρ s=>match jB ρ tg d with
   | some ρ=>(Y ρ s).bind fun v s=>.ok (some v,ρ) s
   | none=>.bad) q.its (j6 ρ h) s0 else .bad) (.ListComp z [⟨y,iter,[],0⟩] scope pos):=by
 obtain⟨c1,c2,c3⟩:=G.comp J
 refine⟨z,y,iter,[],scope,pos,_,h,_,_,TTv Γ (fun ρ s=>.ok (.bl true) s),_,rfl,c1,hi,fun C cells s H ex=>⟨(c3 C cells s H ex).2,bi7.imp fun σ H Q q=>?_,he C cells s H ex⟩,aw6 c2,fun σ H Q q=>aK1 (TFv.eq (fun ρ s=>?_) q)⟩
 ·obtain⟨φ,ρ,s,b,s',E,R,J,q⟩:=q
  cases J
  exact q φ H (Gr.refl _ _ _) (ai _) R
 ·congr 1
theorem bc2 {tg:Expr}{e:jW}{E:Expr}(G:CG Γ F n X ck)(h:PE X E (TEv Γ (jp F e))):PI X tg E (TIv Γ (kC F (.seq e))):=by
 refine(PI.or (bm2 G.K h) (PI.or (aR9 G.K h) (br4 h))).imp fun σ H R q=>bw4 (TIv.eq (fun ρ s=>rfl) q)
theorem aT4 {tg:Expr}{a:jW}{l:Expr}{p pos:Pos}(G:CG Γ F n X ck)(y:ck.gl "range"=true)(hs:shp l=true)(h:PE X l (TEv Γ (jp F a))):PI X tg (.Call (.Name "range" p) [l] [] pos) (TIv Γ (kC F (.rng1 a))) :=
 (aI8 (G.gl y).1 (G.bi _ (by decide)) (zK h ac9 (zd hs)) (zd hs)).imp fun σ H R q=>bn4 (TIv.eq (fun ρ s=>rfl) q)
theorem bv6 (h:TEv Γ (fun ρ s=>jQ (.dic []) s) σ H Q):bb5 σ H Q:=by
 obtain⟨φ,ρ,s,d,s',E,R,y,q⟩:=h
 obtain⟨rfl,rfl⟩:=zP y
 intro p z
 obtain⟨g,C⟩:=R.new (o:=.dic []) (u:=.dK []) z rfl fun φ' H' g e=>⟨[],e,rfl⟩
 exact q (.ref p) _ _ g (by simp) (by unfold jq;simp) (by unfold RV;simp) C
theorem bA7 {mk mv:jn->jk->jo jl}(h:TEv Γ (fun ρ s=>(mk ρ (s++[.dic []])).bind fun kd s1=>(mv ρ s1).bind fun C s2=>if kd.key=true/\s2[s.length]?=some (.dic [])then .ok (.ref s.length) (s2.set s.length (.dic [(kd,C)]))else .bad) σ H Q):bv1 [(TEv Γ mk,TEv Γ mv)] σ H Q:=by
 obtain⟨φ,ρ,s,d,s',E,R,z,q⟩:=h
 obtain⟨kd,s1,e1,z⟩:=aa0 z
 obtain⟨C,s2,e2,z⟩:=aa0 z
 split at z
 case isFalse=>exact fb z
 rename_i hc
 cases z
 intro p hp
 obtain⟨g0,R0⟩:=R.new (o:=.dic []) (u:=.dK []) hp rfl fun φ' H' g e=>⟨[],e,rfl⟩
 have l0:s.length<=(s++[DV.O.dic []]).length:=by simp
 refine⟨_,ρ,s++[DV.O.dic []],kd,s1,E.mono g0 l0,R0,e1,fun v1 φ1 H1 g1 l1 b1 r1 R1=>?_⟩
 refine⟨φ1,ρ,s1,C,s2,(E.mono g0 l0).mono g1 l1,R1,e2,fun J φ2 H2 g2 Y b2 r2 R2=>?_⟩
 have y:φ2 s.length=p:=by
  rw[g2.w.map s.length (ah (by simp) l1),g1.w.map s.length (by simp)];simp
 obtain⟨k,hk⟩:=ao8 hc.1
 have ek:=aA3 hk (RV.mono g2 kd v1 b1 r1)
 obtain⟨G,z1,z2⟩:=R2.obj s.length _ hc.2
 have z2:G=[]:=z2
 subst z2
 rw[y]at z1
 refine⟨z1,[(k,J)],by rw[ek];rfl,by simp,?_⟩
 have hb:(DV.O.dic [(kd,C)]).bnd s2.length=true:=by
  unfold jr
  simp only[aL,cK,jm,eN,ag]
  exact⟨zo Y _ b1,b2⟩
 obtain⟨g3,R3⟩:=R2.set (o:=.dic [(kd,C)]) (u:=.dK [(k,J)]) hc.2 rfl hb fun H' g e=>⟨_,e,k,J,[],rfl,hk,RV.monoW g _ _ b2 r2,rfl⟩
 rw[y]at g3 R3
 have L:s.length<=s2.length:=am l0 (am l1 Y)
 have lt:s.length<s2.length:=ah (by simp) (am l1 Y)
 exact q (.ref p) _ _ (((g0.trans g1 l0).trans g2 (am l0 l1)).trans g3 L) (by rw[br];exact L) (by unfold jq;rw[br];exact decide_eq_true lt) (by unfold RV;rw[y]) R3
theorem aV0 {o:jW}{ob:Expr}{ap cp:Pos}(G:CG Γ F n X ck)(hab:bv2 ob=true)(hl:(ap.endLine==cp.line)=true)(ho:PE X ob (TEv Γ (jp F o))) :
  EvT Γ X (.Call (.Attribute ob "bit_length" ap) [] [] cp) (jp F (.bitl o)):=by
 refine .val ((aZ4 PySem.F.plainAttrs_int dR PySem.F.type_int_bit_length bj8 ho (au9 hab) hl).imp fun σ H Q q=>?_)
 obtain⟨φ,ρ,s,d,s',E,R,C,q⟩:=q
 obtain⟨x,z,e1,y⟩:=aa0 C
 unfold DV.aG2 at y
 refine⟨φ,ρ,s,_,z,E,R,e1,fun v1 φ1 Y g1 l1 J r1 R1=>?_⟩
 cases x with
 | int i =>
  cases y
  rw[r1.intE]
  refine⟨rfl,i,rfl,rfl,?_⟩
  have e:dM i=DV.bitsN i:=by
   unfold dM DV.bitsN
   by_cases h:i=0
   ·subst h;rfl
   ·rw[if_neg h,if_neg (by simpa using h)]
  rw[e]
  exact(q.trans g1 l1).here R1 rfl RV.intI
 | _=>exact fb y
theorem bh6 {φ:Nat->Addr}{H:Hp}(j:Int):RVL Γ φ H (jU 0 j) ((av j.toNat).map fun(k:Nat)=>V.int (k:Int)):=by
 unfold jU
 rw[show(j - 0:Int)=j by omega]
 generalize av j.toNat=l
 induction l with
 | nil=>exact .nil
 | cons a l ih =>
  rw[aL,aL,show(0:Int)+(a:Int)=a by omega]
  exact .cons RV.intI ih
theorem aX1 {a:jW}{y:Expr}{p p2 pos z:Pos}(G:CG Γ F n X ck)(h1:ck.gl "list"=true)(C:ck.gl "range"=true)(hs:shp y=true)(ha:PE X y (TEv Γ (jp F a))) :
  EvT Γ X (.Call (.Name "list" p2) [.Call (.Name "range" p) [y] [] pos] [] z) (jp F (.lrng a)):=by
 refine .val ((ar9 G.calm (G.gl C).1 (G.bi _ (by decide)) (G.gl h1).1 (G.bi _ (by decide)) (zK ha ac9 (zd hs)) (zd hs)).imp fun σ H Q q=>?_)
 obtain⟨φ,ρ,s,d,s',E,R,hm,q⟩:=q
 obtain⟨x,Y,e1,h⟩:=aa0 hm
 unfold DV.aK9 at h
 refine⟨φ,ρ,s,_,Y,E,R,e1,fun v1 φ1 H1 g1 l1 b1 r1 R1=>?_⟩
 cases x with
 | int i =>
  simp only at h
  split at h
  ·rename_i hc
   obtain⟨rfl,rfl⟩:=zP h
   rw[r1.intE]
   refine⟨i,rfl,hc.1,hc.2,fun p J=>(q.trans g1 l1).alloc R1 (bh6 i) ?_ J⟩
   unfold jU
   refine aa4.mpr fun d hd=>?_
   obtain⟨k,_,rfl⟩:=aO.mp hd
   rfl
  ·exact fb h
 | _=>exact fb h
end
section
variable {Γ:Gm} {F:jF} {n:Nat}
theorem br3 {X:Cx}{c:DV.Cn}{v:Const}{k:Nat}{pos:Pos}(h:mC c v=true):EvT Γ X (.Constant v k pos) (jp F (.cst c)):=by
 refine .val ?_
 unfold mC at h
 split at h
 ·exact bu6.imp fun σ H Q q=>ap8 (c:=.non) (fun _=>rfl) (fun _ _=>RV.nonI) (TEv.eq (fun ρ s=>rfl) q)
 ·rename_i b c
  have e:=eq_of_beq h
  subst e
  exact bI9.imp fun σ H Q q=>ap8 (c:=.bl b) (fun _=>rfl) (fun _ _=>RV.blI) (TEv.eq (fun ρ s=>rfl) q)
 ·rename_i i j
  have e:=of_decide_eq_true h
  subst e
  exact bb7.imp fun σ H Q q=>ap8 (c:=.int i) (fun _=>rfl) (fun _ _=>RV.intI) (TEv.eq (fun ρ s=>rfl) q)
 ·rename_i x y
  rw[ag]at h
  have e:=of_decide_eq_true h.1
  have e2:=of_decide_eq_true h.2
  subst e
  exact bC5.imp fun σ H Q q=>ap8 (c:=.str x) (fun _=>rfl) (fun _ _=>RV.strI (by unfold js;omega)) (TEv.eq (fun ρ s=>rfl) q)
 ·cases h
theorem bh8 {X:Cx}{ck:Ck}{es:jC}{y:List Expr}{pos:Pos}(m:mEs ck es y=true)(hz:y.length<=1000)(h:PA X y (TAv Γ (jG F es))):PE X (.List y pos) (TFv Γ (DV.evL F (.disp es))):=by
 refine(ba0 h).imp fun σ H Q q=>?_
 obtain⟨φ,ρ,s,l,s',E,R,J,q⟩:=q
 refine⟨φ,ρ,s,l,s',E,R,J,fun vs φ1 G g1 l1 C r1 R1=>⟨by rw[r1.length,al7 J m];exact aO6 hz,fun p z=>?_⟩⟩
 obtain⟨Y,R2⟩:=R1.same (H':=upd G p (.lst vs)) ((ae1.refl G).new z)
 refine q p vs φ1 _ (g1.trans Y l1) l1 C zb ?_ (Off.new R1 z) (RVL.mono Y _ _ C r1) R2
 cases e:H p with
 | none=>rfl
 | some o=>exact absurd z (g1.st p (by rw[e];simp))
theorem CompF.eq {X:Cx}{m m':jn->jk->jo (List jl)}{E:Expr}(c:CompF Γ X m E)(e:∀ ρ s,m' ρ s=m ρ s):CompF Γ X m' E:=by
 have:m'=m:=funext fun ρ=>funext fun s=>e ρ s
 subst this;exact c
theorem zh {a b:Bool}(h:(a&&b)=true):a=true/\b=true:=by rw[ag]at h;exact h
theorem be1 {X:Cx}{C:Ck}{g:String}{p:Pos}(G:CG Γ F n X C)(h:C.gl (g:Str)=true):EvT Γ X (.Name (g:Str) p) (jp F (.glob g)):=by
 refine .val ?_
 obtain⟨g1,g2,g3⟩:=G.gl h
 cases e:F.con g with
 | none =>
  intro z s σ H Q I q
  obtain⟨φ,ρ,s,d,s',E,R,y,q⟩:=q
  have y:(match F.con g with|some d=>DV.R.ok d s|none=>.bad)=.ok d s':=y
  rw[e]at y
  cases y
 | some d =>
  obtain⟨v,u,h1,J,h3,Y⟩:=G.con g d e
  exact(be5 g1 h1 J g2).imp fun σ H Q q=>ap8 (c:=d) h3 Y (TEv.eq (fun ρ s=>by show(match F.con g with|some d=>DV.R.ok d s|none=>.bad)=DV.R.ok d s;rw[e]) q)
theorem bu9 {X:Cx}{y:Ck}{i:Nat}{x:Str}{p:Pos}(G:CG Γ F n X y)(h:y.var i x=true):EvT Γ X (.Name x p) (jp F (.var i)):=by
 refine .val ?_
 unfold Ck.var at h
 obtain⟨h,J⟩:=zh h
 obtain⟨h,Y⟩:=zh h
 obtain⟨C,z⟩:=zh h
 have e1:(x==("__debug__":Str))=false:=by simpa using Y
 have e2:(x==("__classdict__":Str))=false:=by simpa using J
 exact(aJ6 (by rw[G.N];exact of_decide_eq_true C) (G.vis z) e1 e2).imp fun σ H Q q=>bs1 i (TEv.eq (fun ρ s=>rfl) q)
theorem aY8 {X:Cx}{y:Ck}{i:Nat}{x:Str}{p:Pos}(G:CG Γ F n X y)(h:y.var i x=true):PE X (.Name x p) (bb3 i):=by
 unfold Ck.var at h
 obtain⟨h,J⟩:=zh h
 obtain⟨h,Y⟩:=zh h
 obtain⟨C,z⟩:=zh h
 exact aJ6 (by rw[G.N];exact of_decide_eq_true C) (G.vis z) (by simpa using Y) (by simpa using J)
theorem an2 {Y:Ck}:∀ {es:jV} {G:List Expr},bq4 Y es G=true->∀ x∈G,shp x=true
 | .nil,[],_,x,hx=>by cases hx
 | .nil,_::_,h,_,_=>ff h
 | .ex e es,[],h,_,_=>ff h
 | .ex e es,y::ys,h,x,hx=>by
  obtain⟨h,C⟩:=zh h
  obtain⟨J,z⟩:=zh h
  rcases aC.mp hx with rfl|hx
  ·exact z
  ·exact an2 C x hx
 | .lam _ _ es,[],h,_,_=>ff h
 | .lam _ _ es,y::ys,h,x,hx=>by
  obtain⟨h,C⟩:=zh h
  obtain⟨J,z⟩:=zh h
  rcases aC.mp hx with rfl|hx
  ·exact z
  ·exact an2 C x hx
 | .fn _ _,_,h,_,_=>ff h
theorem aA4 {C:Ck}:∀ {es:jV} {Y:List Expr},bq4 C es Y=true->aU8 es=true->∃ id z E,C.lk id z E=true
 | .nil,_,_,h=>by cases h
 | .ex e es,[],h,_=>ff h
 | .ex e es,y::ys,h,hl=>by
  obtain⟨h,G⟩:=zh h
  exact aA4 G hl
 | .lam id z es,[],h,_=>ff h
 | .lam id z es,y::ys,h,_=>by
  obtain⟨h,G⟩:=zh h
  obtain⟨J,h2⟩:=zh h
  exact⟨id,z,y,J⟩
 | .fn _ _,_,h,_=>ff h
theorem ax6 {X:Cx}{E:Expr}{m:jn->jk->jo jl}(h:∀ ρ s,m ρ s=.bad):EvT Γ X E m:=by
 refine⟨fun z s σ H Q I q=>?_,fun z s σ H Q I q=>?_⟩
 ·obtain⟨φ,ρ,s,d,s',E,R,y,q⟩:=q
  rw[h]at y;exact fb y
 ·obtain⟨φ,ρ,s,d,s',E,R,y,q⟩:=q
  rw[h]at y;exact fb y
inductive LK (Γ:Gm)(X:Cx)(m:jn->jk->jo (List jl))(E:Expr)(k:Nat):Prop where
 | c (h:CompF Γ X m E):LK Γ X m E k
 | f (hk:1<=k) (h:PE X E (TFv Γ m)):LK Γ X m E k
 | s (hk:k=2) (h:PE X E (TLv Γ m)):LK Γ X m E k
theorem bv5 {X:Cx}{m:jn->jk->jo (List jl)}{E:Expr}(h:LK Γ X m E 0):CompF Γ X m E:=by
 cases h with
 | c h=>exact h
 | f hk h=>omega
 | s hk h=>omega
theorem bw3 {X:Cx}{y:Ck}{m:jn->jk->jo (List jl)}{E:Expr}(G:CG Γ F n X y)(h:LK Γ X m E 1):PE X E (TFv Γ m):=by
 cases h with
 | c h=>exact h.pe G.calm
 | f hk h=>exact h
 | s hk h=>omega
theorem bI2 {X:Cx}{y:Ck}{m:jn->jk->jo (List jl)}{E:Expr}(G:CG Γ F n X y)(h:LK Γ X m E 2):PE X E (TLv Γ m):=by
 cases h with
 | c h=>exact(h.pe G.calm).imp fun σ H Q q=>aC1 q
 | f hk h=>exact h.imp fun σ H Q q=>aC1 q
 | s hk h=>exact h
theorem aT9 {u : Expr} (h : bN9 u = true) : ∃ k p1 p2, u = .UnaryOp .USub (.Constant (.int 1) k p1) p2 := by
  cases u with
  | UnaryOp o l p => cases o with
    | USub => cases l with
      | Constant c k p1 => cases c with
        | int i => have e : i = 1 := of_decide_eq_true h
                   subst e; exact⟨k, p1, p, rfl⟩
        | _ => exact ff h
      | _ => exact ff h
    | _ => exact ff h
  | _ => exact ff h
theorem biOk_inv {z:Ck}{b:jK}{x:Str}{C:List Expr}{es:jC}(h:bF9 z b x C (mEs z es C) (mEs z es (C.take 1))=true) :
  (∃ k t a y G,biK b=some (k,t)/\C=[a,.Name y G]/\x=("isinstance":Str)/\y=t/\z.gl x=true/\z.gl y=true/\mEs z es [a]=true)\/∃ a ys,C=a::ys/\biT b=some x/\z.gl x=true/\mEs z es (a::ys)=true:=by
 unfold bF9 at h
 cases hk:biK b with
 | none =>
  rw[hk]at h
  cases C with
  | nil=>exact ff h
  | cons a ys =>
   obtain⟨h,h3⟩:=zh h
   obtain⟨Y,J⟩:=zh h
   exact .inr ⟨a,ys,rfl,of_decide_eq_true Y,J,h3⟩
 | some p =>
  rw[hk]at h
  cases C with
  | nil=>exact ff h
  | cons a ys=>cases ys with
   | nil=>exact ff h
   | cons b ys=>cases b with
    | Name y G=>cases ys with
     | nil =>
      obtain⟨h,h5⟩:=zh h
      obtain⟨h,h4⟩:=zh h
      obtain⟨h,h3⟩:=zh h
      obtain⟨Y,J⟩:=zh h
      exact .inl ⟨p.1,p.2,a,y,G,rfl,rfl,of_decide_eq_true Y,of_decide_eq_true h3,J,h4,h5⟩
     | cons _ _=>exact ff h
    | _=>exact ff h
mutual
theorem sE:∀(e:jW) (E:Expr) (X:Cx) (C:Ck),CG Γ F n X C->mE C e E=true->EvT Γ X E (jp F e)
 | .var i,E,X,C,G,h=>by
  cases E with
  | Name x p =>
   exact bu9 G h
  | _=>exact ff h
 | .cst c,E,X,C,G,h=>by
  cases E with
  | Constant v k p =>
   exact br3 h
  | _=>exact ff h
 | .glob g,E,X,C,G,h=>by
  cases E with
  | Name x p =>
   obtain⟨Y,J⟩:=zh h
   have e:=of_decide_eq_true Y
   subst e
   exact be1 G J
  | _=>exact ff h
 | .bin op a b,E,X,C,G,h=>by
  cases E with
  | BinOp l o r pE =>
   obtain⟨h,h3⟩:=zh h
   obtain⟨Y,J⟩:=zh h
   have e:=of_decide_eq_true Y
   subst e
   exact bj3 G op (sE a _ X C G J) (sE b _ X C G h3)
  | _=>exact ff h
 | .neg _,E,X,C,G,h=>ff h
 | .not a,E,X,C,G,h=>by
  cases E with
  | UnaryOp o l p =>
   cases o with
   | Not =>
    exact bn9 (sE a _ X C G h)
   | _=>exact ff h
  | _=>exact ff h
 | .cmp op a b,E,X,C,G,h=>by
  cases E with
  | Compare l os rs pE =>
   cases os with
   | cons o os_0 =>
    cases os_0 with
    | nil =>
     cases rs with
     | cons r rs_0 =>
      cases rs_0 with
      | nil =>
       obtain⟨h,h3⟩:=zh h
       obtain⟨Y,J⟩:=zh h
       have e:=of_decide_eq_true Y
       subst e
       exact bk7 G op (aB1 h3) (sE a _ X C G J) (sE b _ X C G h3)
      | _=>exact ff h
     | _=>exact ff h
    | _=>exact ff h
   | _=>exact ff h
  | _=>exact ff h
 | .chain _ _ _ _ _,E,X,C,G,h=>ff h
 | .isN a,E,X,C,G,h=>by
  cases E with
  | Compare l os rs pE =>
   cases os with
   | cons o os1 =>
    cases o with
    | Is =>
     cases os1 with
     | nil =>
      cases rs with
      | cons r rs1 =>
       cases r with
       | Constant v k p1 =>
        cases v with
        | none =>
         cases rs1 with
         | nil =>
          exact bh7 (sE a _ X C G h)
         | _=>exact ff h
        | _=>exact ff h
       | _=>exact ff h
      | _=>exact ff h
     | _=>exact ff h
    | _=>exact ff h
   | _=>exact ff h
  | _=>exact ff h
 | .notN a,E,X,C,G,h=>by
  cases E with
  | Compare l os rs pE =>
   cases os with
   | cons o os1 =>
    cases o with
    | IsNot =>
     cases os1 with
     | nil =>
      cases rs with
      | cons r rs1 =>
       cases r with
       | Constant v k p1 =>
        cases v with
        | none =>
         cases rs1 with
         | nil =>
          exact aW2 (sE a _ X C G h)
         | _=>exact ff h
        | _=>exact ff h
       | _=>exact ff h
      | _=>exact ff h
     | _=>exact ff h
    | _=>exact ff h
   | _=>exact ff h
  | _=>exact ff h
 | .isB _ _,E,X,C,G,h=>ff h
 | .notB _ _,E,X,C,G,h=>ff h
 | .and a b,E,X,C,G,h=>by
  cases E with
  | BoolOp op vs p=>cases op with
   | And =>
    cases vs with
    | nil=>exact ff h
    | cons l vs=>cases vs with
     | nil=>exact ff h
     | cons r vs=>cases vs with
      | nil =>
       obtain⟨Y,J⟩:=zh h
       exact bi9 (sE a _ X C G Y) (sE b _ X C G J)
      | cons r2 vs =>
       obtain⟨Y,J⟩:=zh h
       exact bd9 (sE a _ X C G Y) (sE b _ X C G J)
   | _=>exact ff h
  | _=>exact ff h
 | .or a b,E,X,C,G,h=>by
  cases E with
  | BoolOp op vs p=>cases op with
   | Or =>
    cases vs with
    | nil=>exact ff h
    | cons l vs=>cases vs with
     | nil=>exact ff h
     | cons r vs=>cases vs with
      | nil =>
       obtain⟨Y,J⟩:=zh h
       exact br6 (sE a _ X C G Y) (sE b _ X C G J)
      | cons r2 vs =>
       obtain⟨Y,J⟩:=zh h
       exact bA3 (sE a _ X C G Y) (sE b _ X C G J)
   | _=>exact ff h
  | _=>exact ff h
 | .ite c a b,E,X,C,G,h=>by
  cases E with
  | IfExp tE l r pE =>
   obtain⟨h,h3⟩:=zh h
   obtain⟨Y,J⟩:=zh h
   exact be4 (sE c _ X C G Y) (sE a _ X C G J) (sE b _ X C G h3)
  | _=>exact ff h
 | .tup es,E,X,C,G,h=>by
  cases E with
  | Tuple xs k p =>
   obtain⟨Y,J⟩:=zh h
   exact bp0 Y (of_decide_eq_true J) (ai1 (sEs es _ X C G Y))
  | _=>exact ff h
 | .lst es,E,X,C,G,h=>by
  cases E with
  | List xs p =>
   obtain⟨Y,J⟩:=zh h
   exact bf5 Y (of_decide_eq_true J) (ai1 (sEs es _ X C G Y))
  | _=>exact ff h
 | .dic .nil .nil,E,X,C,G,h=>by
  cases E with
  | Dict a b p=>cases a with
   | nil=>cases b with
    | nil=>exact .val (aR5.imp fun σ H Q q=>bv6 (TEv.eq (fun ρ s=>rfl) q))
    | _=>exact ff h
   | cons x a=>cases x with
    | none=>exact ff h
    | some x=>cases a with
     | nil=>cases b with
      | nil=>exact ff h
      | cons y b=>cases b with
       | nil=>exact ff h
       | _=>exact ff h
     | _=>exact ff h
  | _=>exact ff h
 | .dic (.cons k .nil) (.cons v .nil),E,X,C,G,h=>by
  cases E with
  | Dict a b p=>cases a with
   | nil=>cases b with
    | nil=>exact ff h
    | _=>exact ff h
   | cons x a=>cases x with
    | none=>exact ff h
    | some x=>cases a with
     | nil=>cases b with
      | nil=>exact ff h
      | cons y b=>cases b with
       | nil =>
        obtain⟨Y,J⟩:=zh h
        obtain⟨Y,_⟩:=zh Y
        obtain⟨Y,_⟩:=zh Y
        obtain⟨J,_⟩:=zh J
        obtain⟨J,_⟩:=zh J
        exact .val ((bk9 (aV5 (sE k _ X C G Y).1 (sE v _ X C G J).1 bp5) rfl rfl (by nofun) (by show 1<=15;decide)).imp fun σ H Q q=>bA7 (TEv.eq (fun ρ s=>rfl) q))
       | _=>exact ff h
     | _=>exact ff h
  | _=>exact ff h
 | .dic .nil (.cons _ _),E,X,C,G,h=>ax6 fun _ _=>rfl
 | .dic (.cons _ .nil) .nil,E,X,C,G,h=>ax6 fun _ _=>rfl
 | .dic (.cons _ .nil) (.cons _ (.cons _ _)),E,X,C,G,h=>ax6 fun _ _=>rfl
 | .dic (.cons _ (.cons _ _)) _,E,X,C,G,h=>ax6 fun _ _=>rfl
 | .bitl o,E,X,C,G,h=>by
  cases E with
  | Call fE xs kw cp =>
   cases fE with
   | Attribute ob x ap =>
    cases xs with
    | nil =>
     cases kw with
     | nil =>
      obtain⟨h,h4⟩:=zh h
      obtain⟨h,h3⟩:=zh h
      obtain⟨Y,J⟩:=zh h
      have e:=of_decide_eq_true Y
      subst e
      exact aV0 G J h3 (sE o _ X C G h4).1
     | _=>exact ff h
    | _=>exact ff h
   | _=>exact ff h
  | _=>exact ff h
 | .lrng a,E,X,C,G,h=>by
  cases E with
  | Call fE xs kw cp =>
   cases fE with
   | Name x px =>
    cases xs with
    | cons f xs_0 =>
     cases f with
     | Call fE2 ys kw2 cp2 =>
      cases fE2 with
      | Name z pz =>
       cases ys with
       | cons y ys_0 =>
        cases ys_0 with
        | nil =>
         cases kw2 with
         | nil =>
          cases xs_0 with
          | nil =>
           cases kw with
           | nil =>
            obtain⟨h,h6⟩:=zh h
            obtain⟨h,h5⟩:=zh h
            obtain⟨h,h4⟩:=zh h
            obtain⟨h,h3⟩:=zh h
            obtain⟨Y,J⟩:=zh h
            have e:=of_decide_eq_true Y
            have e2:=of_decide_eq_true J
            subst e e2
            exact aX1 G h3 h4 h5 (sE a _ X C G h6).1
           | _=>exact ff h
          | _=>exact ff h
         | _=>exact ff h
        | _=>exact ff h
       | _=>exact ff h
      | _=>exact ff h
     | _=>exact ff h
    | _=>exact ff h
   | _=>exact ff h
  | _=>exact ff h
 | .dicT,E,X,C,G,h=>ff h
 | .get2 _ _ _,E,X,C,G,h=>ff h
 | .ix a b,E,X,C,G,h=>by
  cases E with
  | Subscript o i p =>
   obtain⟨Y,J⟩:=zh h
   exact by9 G (aB1 J) (sE a _ X C G Y) (sE b _ X C G J)
  | _=>exact ff h
 | .slL _ _,E,X,C,G,h=>ff h
 | .slU _ _,E,X,C,G,h=>ff h
 | .slLU _ _ _,E,X,C,G,h=>ff h
 | .rev a,E,X,C,G,h=>by
  cases E with
  | Subscript o i p =>
   cases i with
   | Slice lo hi st p2 =>
    cases lo with
    | none =>
     cases hi with
     | none =>
      cases st with
      | some u =>
       obtain⟨Y,J⟩:=zh h
       obtain⟨_,_,_,rfl⟩:=aT9 Y
       exact bc7 G (sE a _ X C G J)
      | _=>exact ff h
     | _=>exact ff h
    | _=>exact ff h
   | _=>exact ff h
  | _=>exact ff h
 | .call f as,E,X,C,G,h=>by
  cases E with
  | Call fE xs kw p =>
   cases fE with
   | Name x pN =>
    cases kw with
    | nil =>
     obtain⟨h,h3⟩:=zh h
     obtain⟨Y,J⟩:=zh h
     have e:=of_decide_eq_true Y
     subst e
     exact aU6 G J h3 (sAs as _ X C G h3)
    | _=>exact ff h
   | _=>exact ff h
  | _=>exact ff h
 | .callC f as,E,X,C,G,h=>by
  cases E with
  | Call fE xs kw p =>
   cases fE with
   | Name x pN =>
    cases xs with
    | cons y ys =>
     cases kw with
     | nil =>
      obtain⟨h,h3⟩:=zh h
      obtain⟨h,h4⟩:=zh h
      obtain⟨Y,J⟩:=zh h
      have e:=of_decide_eq_true Y
      subst e
      obtain⟨id,a0,E',a1⟩:=aA4 h3 h4
      obtain⟨_,_,_,_,_,_,_,_,L⟩:=G.lam id a0 E' a1
      exact .val ((aH3 G J L.fn L.kd (an2 h3) (bH0 as _ X C G h3)).imp fun σ H Q q=>TEv.eq (fun ρ s=>rfl) q)
     | _=>exact ff h
    | _=>exact ff h
   | _=>exact ff h
  | _=>exact ff h
 | .callV i es,E,X,C,G,h=>by
  cases E with
  | Call fE xs kw p =>
   cases fE with
   | Name x pN =>
    cases xs with
    | cons y ys =>
     cases kw with
     | nil =>
      obtain⟨Y,J⟩:=zh h
      exact .val (aH5 G Y (ao6 J) (ai1 (sEs es _ X C G J)) (aY8 G Y))
     | _=>exact ff h
    | _=>exact ff h
   | _=>exact ff h
  | _=>exact ff h
 | .bi b es,E,X,C,G,h=>by
  cases E with
  | Call fE xs kw p =>
   cases fE with
   | Name x pN =>
    cases kw with
    | nil =>
     have h:bF9 C b x xs (mEs C es xs) (mEs C es (xs.take 1))=true:=h
     rcases biOk_inv h with⟨k,t,a,y,py,hk,rfl,rfl,rfl,J,h4,h5⟩|⟨a,ys,rfl,Y,J,h3⟩
     ·exact bo2 G hk J h4 (sEs es _ X C G h5)
     ·exact bx0 G Y J h3 (ai1 (sEs es _ X C G h3))
    | _=>exact ff h
   | _=>exact ff h
  | _=>exact ff h
 | .mk k l,E,X,C,G,h=>by
  cases E with
  | ListComp e gs sc p =>
   obtain⟨Y,J⟩:=zh h
   have e:=of_decide_eq_true Y
   subst e
   exact .val (((bv5 (sL l _ X C G 0 J)).pe G.calm).imp fun σ H Q q=>aN6 (TEv.eq (fun ρ s=>rfl) q))
  | Call fE xs kw p =>
   cases fE with
   | Name x pN =>
    cases xs with
    | cons a xs_0 =>
     cases xs_0 with
     | nil =>
      cases kw with
      | nil =>
       obtain⟨h,h4⟩:=zh h
       obtain⟨J,h3⟩:=zh h
       rw[bF]at h4
       rcases h4 with h4|h4
       ·obtain⟨h5,h6⟩:=zh h4
        exact .val ((bw6 G (of_decide_eq_true h5) J h3 (bI2 G (sL l _ X C G 2 h6))).imp fun σ H Q q=>TEv.eq (fun ρ s=>rfl) q)
       ·obtain⟨h5,h6⟩:=zh h4
        exact .val ((bA0 G (of_decide_eq_true h5) J h3 (bw3 G (sL l _ X C G 1 h6))).imp fun σ H Q q=>TEv.eq (fun ρ s=>rfl) q)
      | _=>exact ff h
     | _=>exact ff h
    | _=>exact ff h
   | _=>exact ff h
  | _=>exact ff h
 | .mks _ _,E,X,C,G,h=>ff h
 | .mkDs _ _ _,E,X,C,G,h=>ff h
 | .mkD k l d,E,X,C,G,h=>by
  cases E with
  | Call fE xs kw p =>
   cases fE with
   | Name x pN =>
    cases xs with
    | cons a xs_0 =>
     cases xs_0 with
     | nil =>
      cases kw with
      | cons kk kw1 =>
       cases kk with
       | mk ky de kp =>
        cases ky with
        | some y =>
         cases kw1 with
         | nil =>
          obtain⟨h,h7⟩:=zh h
          obtain⟨h,h6⟩:=zh h
          obtain⟨h,h5⟩:=zh h
          obtain⟨h,h3⟩:=zh h
          obtain⟨Y,J⟩:=zh h
          have e3:=of_decide_eq_true J
          subst e3
          obtain⟨e,e2⟩:=zh Y
          have e:=of_decide_eq_true e
          have e2:=of_decide_eq_true e2
          subst e e2
          exact .val ((bB7 G h3 h5 (bw3 G (sL l _ X C G 1 h6)) (sE d _ X C G h7).1).imp fun σ H Q q=>TEv.eq (fun ρ s=>rfl) q)
         | _=>exact ff h
        | _=>exact ff h
      | _=>exact ff h
     | _=>exact ff h
    | _=>exact ff h
   | _=>exact ff h
  | _=>exact ff h
 | .meth m o es,E,X,C,G,h=>by
  cases E with
  | Call fE xs kw p =>
   cases fE with
   | Attribute ob x ap =>
    cases kw with
    | nil =>
     obtain⟨h,h5⟩:=zh h
     obtain⟨h,h4⟩:=zh h
     obtain⟨h,h3⟩:=zh h
     obtain⟨Y,J⟩:=zh h
     exact aQ6 G (of_decide_eq_true Y) J h3 (sE o _ X C G h4).1 h5 (sEs es _ X C G h5)
    | _=>exact ff h
   | _=>exact ff h
  | _=>exact ff h
 | .ext _ _,E,X,C,G,h=>ff h
 | .extS _ _,E,X,C,G,h=>ff h
 | .join _ _,E,X,C,G,h=>ff h
theorem sEs:∀(es:jC) (y:List Expr) (X:Cx) (z:Ck),CG Γ F n X z->mEs z es y=true->PEs Γ F X es y
 | .nil,y,X,z,G,h=>by
  cases y with
  | nil =>
   exact trivial
  | _=>exact ff h
 | .cons e es,y,X,z,G,h=>by
  cases y with
  | cons x y =>
   obtain⟨h,Y⟩:=zh h
   obtain⟨J,C⟩:=zh h
   exact⟨⟨C,sE e _ X z G J⟩,sEs es _ X z G Y⟩
  | _=>exact ff h
theorem sAs:∀(es:jV) (y:List Expr) (X:Cx) (z:Ck),CG Γ F n X z->mAs z es y=true->PA X y (TAv Γ (j4 F es))
 | .nil,y,X,z,G,h=>by
  cases y with
  | nil =>
   exact ac9.imp fun σ H Q q=>aB8 (TAv.eq (fun ρ s=>rfl) q)
  | _=>exact ff h
 | .ex e es,y,X,z,G,h=>by
  cases y with
  | cons x y =>
   obtain⟨h,Y⟩:=zh h
   obtain⟨J,C⟩:=zh h
   exact(aA6 C (sE e _ X z G J).1 (sAs es _ X z G Y)).imp fun σ H Q q=>TAv.eq (fun ρ s=>rfl) q
  | _=>exact ff h
 | .lam _ _ _,y,X,z,G,h=>ff h
 | .fn _ _,y,X,z,G,h=>ff h
theorem bH0:∀(es:jV) (y:List Expr) (X:Cx) (z:Ck),CG Γ F n X z->bq4 z es y=true->PA X y (TAp Γ X.env.cells X.N (j4 F es))
 | .nil,y,X,z,G,h=>by
  cases y with
  | nil =>
   exact ac9.imp fun σ H Q q=>be2 (TAp.eq (fun ρ s=>rfl) q)
  | _=>exact ff h
 | .ex e es,y,X,z,G,h=>by
  cases y with
  | cons x y =>
   obtain⟨h,h3⟩:=zh h
   obtain⟨Y,C⟩:=zh h
   exact(zK (sE e _ X z G Y).1 (bH0 es _ X z G h3) (zd C)).imp fun σ H Q q=>bC9 (TAp.eq (fun ρ s=>rfl) q)
  | _=>exact ff h
 | .lam id caps es,y,X,z,G,h=>by
  cases y with
  | cons x y =>
   obtain⟨h,h3⟩:=zh h
   obtain⟨Y,C⟩:=zh h
   obtain⟨c,P,params,body,scope,pos,J,e,L⟩:=G.lam id caps _ Y
   have hnm:J.nm=none:=by
    cases q:J.nm with
    | none=>rfl
    | some p=>unfold lamText at e;rw[q]at e;rw[e]at C;cases C
   unfold lamText at e
   rw[hnm]at e
   dsimp only at e
   subst e
   rw[<-G.N]at L
   exact(bE4 L hnm (bH0 es _ X z G h3)).imp fun σ H Q q=>TAp.eq (fun ρ s=>rfl) q
  | _=>exact ff h
 | .fn _ _,y,X,z,G,h=>ff h
theorem sI:∀(i:DV.I) (E tg:Expr) (X:Cx) (y:Ck),CG Γ F n X y->mI y tg i E=true->PI X tg E (TIv Γ (kC F i))
 | .seq e,E,tg,X,y,G,h=>by
  obtain⟨z,C⟩:=zh h
  exact bc2 G (sE e _ X y G z).1
 | .rng1 a,E,tg,X,y,G,h=>by
  cases E with
  | Call fE xs kw p =>
   cases fE with
   | Name x pN =>
    cases xs with
    | cons l xs_0 =>
     cases xs_0 with
     | nil =>
      cases kw with
      | nil =>
       obtain⟨h,J⟩:=zh h
       obtain⟨h,Y⟩:=zh h
       obtain⟨z,C⟩:=zh h
       have e:=of_decide_eq_true z
       subst e
       exact aT4 G C J (sE a _ X y G Y).1
      | _=>exact ff h
     | _=>exact ff h
    | _=>exact ff h
   | _=>exact ff h
  | _=>exact ff h
 | .rng2 _ _,E,tg,X,y,G,h=>ff h
 | .rng3 _ _ _,E,tg,X,y,G,h=>ff h
 | .enum (.seq _),E,tg,X,y,G,h=>ff h
 | .enum (.rng1 _),E,tg,X,y,G,h=>ff h
 | .enum (.rng2 _ _),E,tg,X,y,G,h=>ff h
 | .enum (.rng3 _ _ _),E,tg,X,y,G,h=>ff h
 | .enum (.enum _),E,tg,X,y,G,h=>ff h
 | .enum (.zip _ _),E,tg,X,y,G,h=>ff h
 | .enum (.items _),E,tg,X,y,G,h=>ff h
 | .zip (.seq _) (.seq _),E,tg,X,y,G,h=>ff h
 | .zip (.seq _) (.rng1 _),E,tg,X,y,G,h=>ff h
 | .zip (.seq _) (.rng2 _ _),E,tg,X,y,G,h=>ff h
 | .zip (.seq _) (.rng3 _ _ _),E,tg,X,y,G,h=>ff h
 | .zip (.seq _) (.enum _),E,tg,X,y,G,h=>ff h
 | .zip (.seq _) (.zip _ _),E,tg,X,y,G,h=>ff h
 | .zip (.seq _) (.items _),E,tg,X,y,G,h=>ff h
 | .zip (.rng1 _) _,E,tg,X,y,G,h=>ff h
 | .zip (.rng2 _ _) _,E,tg,X,y,G,h=>ff h
 | .zip (.rng3 _ _ _) _,E,tg,X,y,G,h=>ff h
 | .zip (.enum _) _,E,tg,X,y,G,h=>ff h
 | .zip (.zip _ _) _,E,tg,X,y,G,h=>ff h
 | .zip (.items _) _,E,tg,X,y,G,h=>ff h
 | .items _,E,tg,X,y,G,h=>ff h
theorem sL:∀(l:DV.L) (E:Expr) (X:Cx) (J:Ck),CG Γ F n X J->∀ k,mL J k l E=true->LK Γ X (DV.evL F l) E k
 | .comp tg it e caps,E,X,J,G,k,h=>by
  cases E with
  | ListComp elt gs scope p =>
   cases gs with
   | cons g gs1 =>
    cases g with
    | mk tgt iter ifs z =>
     cases ifs with
     | nil =>
      cases gs1 with
      | nil =>
       obtain⟨h,h3⟩:=zh h
       obtain⟨h,Y⟩:=zh h
       obtain⟨h0,y⟩:=zh h
       have e0:=of_decide_eq_true h0
       subst e0
       have c:=aU1 (pos:=p) G y (sI it _ _ X J G Y) fun C cells s H ex=>(sE e _ _ _ ((G.comp y).2.2 C cells s H ex).1 h3).1
       exact .c (c.eq fun ρ s=>rfl)
      | _=>exact ff h
     | _=>exact ff h
   | _=>exact ff h
  | _=>exact ff h
 | .compIf tg it i e caps,E,X,J,G,k,h=>by
  cases E with
  | ListComp elt gs scope p =>
   cases gs with
   | cons g gs1 =>
    cases g with
    | mk tgt iter ifs z =>
     cases ifs with
     | cons i1 ifs1 =>
      cases ifs1 with
      | nil =>
       cases gs1 with
       | nil =>
        obtain⟨h,h4⟩:=zh h
        obtain⟨h,h3⟩:=zh h
        obtain⟨h,Y⟩:=zh h
        obtain⟨h0,y⟩:=zh h
        have e0:=of_decide_eq_true h0
        subst e0
        have c:=bk2 (pos:=p) G y (sI it _ _ X J G Y) (fun C cells s H ex=>(sE i _ _ _ ((G.comp y).2.2 C cells s H ex).1 h3).2) fun C cells s H ex=>(sE e _ _ _ ((G.comp y).2.2 C cells s H ex).1 h4).1
        exact .c (c.eq fun ρ s=>rfl)
       | _=>exact ff h
      | _=>exact ff h
     | _=>exact ff h
   | _=>exact ff h
  | _=>exact ff h
 | .disp es,E,X,J,G,k,h=>by
  cases E with
  | List xs p =>
   obtain⟨h,Y⟩:=zh h
   obtain⟨h0,y⟩:=zh h
   exact .f (of_decide_eq_true h0) (bh8 y (of_decide_eq_true Y) (ai1 (sEs es _ X J G y)))
  | _=>exact ff h
 | .seq e,E,X,J,G,k,h=>by
  obtain⟨h0,y⟩:=zh h
  exact .s (of_decide_eq_true h0) ((sE e _ X J G y).1.imp fun σ H Q q=>bs9 (TLv.eq (fun ρ s=>rfl) q))
 | .itm _,E,X,J,G,k,h=>ff h
end
end
section
variable {Γ:Gm} {F:jF} {n:Nat}
theorem aS5 {X:Cx}{ck:Ck}{m:jn->jk->jo (List jl)}{E:Expr}{x:Str}{i:Nat}{px pos:Pos}(G:CG Γ F n X ck)(c:CompF Γ X m E)(hi:ck.N[i]?=some x)(hl:ck.loc x=true) :
  PS X (.Assign [.Name x px] E pos) (aS0 (TFv Γ m) (at5 i)):=by
 obtain⟨J,y,iter,z,scope,p2,N',h,wi,g,tc,te,rfl,h1,h2,h3,h4,h5⟩:=c.ex
 obtain⟨l1,l2⟩:=G.loc hl
 have nd:X.N.Nodup:=by rw[G.N];exact G.nd
 have Y:X.N[i]?=some x:=by rw[G.N];exact hi
 generalize hb:((X.env.blockKind==.function&&X.env.kindOf x==some .local&&px.line==(Expr.ListComp J [⟨y,iter,z,0⟩] scope p2).pos.line&&!(scope.names.any fun(n,k)=>n==x&&(k==.local||k==.cell))))=b
 have C:dS (.ListComp J [⟨y,iter,z,0⟩] scope p2) (some (.Name x px)) pos.line X.env=pure b:=by rw[<-hb];rfl
 have imp:∀ D σ H,aS0 (TFv Γ m) (at5 i) D σ H->aS0 (tComp h wi g tc te) (at5 i) D σ H:=fun D σ H q=>h5 _ _ _ q
 cases b with
 | true =>
  have a0:X.env.scope.names.lookup x=some .local:=by
   simp only[ag]at hb
   exact eq_of_beq hb.1.1.2
  exact(aC6 N' h nd Y a0 h1 h2 G.calm h3 h4 C).imp imp
 | false=>exact(aZ7 nd Y l1 (aJ2 N' h h1 h2 G.calm h3 h4) C l2).imp imp
theorem bl8 {X:Cx}{y:Ck}{e:jW}{v:Expr}{x:Str}{i:Nat}{J pos:Pos}(G:CG Γ F n X y)(hi:y.N[i]?=some x)(hl:y.loc x=true)(h:mE y e v=true) :
  PS X (.Assign [.Name x J] v pos) (TSv Γ (DV.ex F (.asg (.one i) e))):=by
 obtain⟨l1,Y⟩:=G.loc hl
 have nd:X.N.Nodup:=by rw[G.N];exact G.nd
 have z:X.N[i]?=some x:=by rw[G.N];exact hi
 by_cases hc:ap4 v=true
 ·exact(aZ7 nd z l1 (sE e v X y G h).1 (am4 hc) Y).imp fun D σ H q=>aL3 (tg:=.one i) (TSv.eq (fun ρ s=>rfl) q)
 ·have hs:=aB1 h
  cases v with
  | ListComp elt gs sc p =>
   cases e with
   | mk k l =>
    obtain⟨h1,C⟩:=zh h
    have e:=of_decide_eq_true h1
    subst e
    exact(aS5 G (bv5 (sL l _ X y G 0 C)) hi hl).imp fun D σ H q=>aW3 (tg:=.one i) (TSv.eq (fun ρ s=>rfl) q)
   | _=>exact ff h
  | SetComp _ _ _ _=>cases hs
  | DictComp _ _ _ _ _=>cases hs
  | _=>exact absurd rfl hc
theorem aR4 {T:List (Addr×Str)}{cells:List (Str×Addr)}{P:Addr}{q:Str}{name:Str}{params:aV}{body:List Stmt}{scope:Scope}{pos:Pos}{ix:Nat}{D0:Ends}{σ:St}{H:Hp}(hT:TabsH T H)(nd:(T.map (·.1)).Nodup)(hm:(P,q)∈T)
  (go:∀(f:Addr) (H':Hp),aO1 H H'->(∀ b,H b≠none->H' b≠none)->TabsH T H'->H f=none->(∃ J pm G C,H' f=some (am8 f (bT name q params body scope (ac1 cells scope.names []) .none .none J pm none (.ref G) C))/\H' G=some (qa G q))->D0.nx (σ.set ix (some (.ref f))) H') :
  bN7 cells P name q params body scope pos ix D0 σ H:=by
 obtain⟨ps,hP,ht,hc⟩:=hT _ hm
 refine⟨ps,hP,ht,fun hn G f J pm C n1 n2 ne=>?_,fun cv e=>?_⟩
 ·have cP:G≠P:=fun z=>by rw[z,hP]at n1;cases n1
  have fP:f≠P:=fun z=>by rw[z,hP]at n2;cases n2
  have a0:∀ b,b≠P->H b≠none->∀ o1 o2 o3,upd (upd (upd H P o1) G o2) f o3 b=H b:=fun b z1 z2 o1 o2 o3=>by
   rw[za fun z=>by subst z;exact z2 n2,za fun z=>by subst z;exact z2 n1,za z1]
  refine go f _ (fun b o d e=>?_) (fun b hb=>?_) (fun y hy=>?_) n2 ⟨J,pm,G,C,zb,by rw[za ne,zb]⟩
  ·rw[a0 b (fun z=>by subst z;rw[hP]at e;cases e;exact d _ rfl) (by rw[e];simp)];exact e
  ·by_cases z:b=P
   ·subst z;rw[za (bE fP),za (bE cP),zb];simp
   ·rw[a0 b z hb];exact hb
  ·by_cases z:y.1=P
   ·have ey:y=(P,q):=by
     have:∀(l:List (Addr×Str)),(l.map (·.1)).Nodup->y∈l->(P,q)∈l->y=(P,q):=by
      intro l
      induction l with
      | nil=>intro _ h;simp at h
      | cons a l ih =>
       intro hn h1 h2
       rw[aL,cr]at hn
       rcases aC.mp h1 with e1|h1<;>rcases aC.mp h2 with e2|h2
       ·rw[e1,e2]
       ·exact absurd (by rw[<-e1,z];exact a7 (f:=(·.1)) h2) hn.1
       ·exact absurd (by rw[<-e2,<-z];exact a7 (f:=(·.1)) h1) hn.1
       ·exact ih hn.2 h1 h2
     exact this T nd hy hm
    subst ey
    refine⟨_,by rw[za (bE fP),za (bE cP),zb],?_,fun Y cv e=>?_⟩
    ·rw[cQ];exact TriplesOk_snoc _ _ _ _ ht
    ·rw[cQ]at e
     rcases codeAmong_add _ ht e with e'|e'
     ·obtain⟨c2,e1,e2⟩:=hc Y cv e'
      exact⟨c2,e1,by rw[a0 c2 (fun z=>by subst z;rw[hP]at e2;unfold qa at e2;cases e2) (by rw[e2];simp)];exact e2⟩
     ·exact⟨G,e',by rw[za ne,zb]⟩
   ·obtain⟨qs,e1,e2,e3⟩:=hT y hy
    refine⟨qs,by rw[a0 y.1 z (by rw[e1];simp)];exact e1,e2,fun Y cv e=>?_⟩
    obtain⟨c2,e4,e5⟩:=e3 Y cv e
    exact⟨c2,e4,by rw[a0 c2 (fun z=>by subst z;rw[hP]at e5;unfold qa at e5;cases e5) (by rw[e5];simp)];exact e5⟩
 ·obtain⟨G,e1,e2⟩:=hc pos cv e
  refine⟨G,e1,fun f J pm C n=>go f _ (.of ((ae1.refl H).new n)) (fun b hb=>by
   by_cases z:b=f
   ·subst z;rw[zb];simp
   ·rw[za z];exact hb) (hT.new n) n ⟨J,pm,G,C,zb,?_⟩⟩
  rw[za (zm e2 n)];exact e2
theorem aL7 (env : Env) : ∀ l : List Arg, (l.all fun y => y.annotation.isNone) = true -> gr l env = []
 | [], _ => by unfold gr; rfl
 | ⟨x,some a,p⟩::l,h=>by simp at h
 | ⟨x,none,p⟩::l,h=>by
  unfold gr
  exact aL7 env l (by simpa using h)
theorem aX0 {params:aV}(h:be6 params=true)(env:Env):params.defaults=[]/\params.kw_defaults=[]/\annTrees params none env=[]:=by
 unfold be6 at h
 split at h
 ·refine⟨rfl,rfl,?_⟩
  unfold annTrees
  simp only[Option.toList,bh]
  rw[aL7 env _ h];rfl
 ·cases h
theorem av6 {α:Type}{o:Option α}{f:α->Bool}(h:o.any f=true):∃ a,o=some a/\f a=true:=by
 cases o with
 | none=>exact ff h
 | some a=>exact⟨a,rfl,h⟩
theorem aQ5 {s:kB}{y:ki}{d:Nat×String×jW×String×List Nat}(h:bM6 s y=some d):s=.und d.1/\y=.cons (.ret (.callC d.2.1 (.ex d.2.2.1 (.lam d.2.2.2.1 d.2.2.2.2 .nil)))) .nil:=by
 unfold bM6 at h
 split at h
 ·cases h;exact⟨rfl,rfl⟩
 ·cases h
theorem aR0 {S:List Stmt}{q:Str×aV×Expr×Pos×Scope×Pos×List Stmt}(h:bO6 S=some q):S=.FunctionDef q.1 q.2.1 [.Return (some q.2.2.1) q.2.2.2.1] [] none [] q.2.2.2.2.1 none q.1 q.2.2.2.2.2.1::q.2.2.2.2.2.2:=by
 have y:∀ {p:Prop},(none:Option (Str×aV×Expr×Pos×Scope×Pos×List Stmt))=some q->p:=fun h=>nomatch h
 cases S with
 | cons x xs =>
  cases x with
  | FunctionDef nm params body dl ret tp scope ts nm2 pos =>
   cases body with
   | cons b1 bs =>
    cases b1 with
    | Return v rp =>
     cases v with
     | some b =>
      cases bs with
      | nil =>
       cases dl with
       | nil =>
        cases ret with
        | none =>
         cases tp with
         | nil =>
          cases ts with
          | none =>
           have h:(if nm2=nm then some (nm,params,b,rp,scope,pos,xs)else none)=some q:=h
           by_cases e:nm2=nm
           ·rw[if_pos e]at h;cases h;rw[e]
           ·rw[if_neg e]at h;exact y h
          | _=>exact y h
         | _=>exact y h
        | _=>exact y h
       | _=>exact y h
      | _=>exact y h
     | _=>exact y h
    | _=>exact y h
   | _=>exact y h
  | _=>exact y h
 | _=>exact y h
theorem aR6 {C:Str}{S:List Stmt}{r:Str×Pos×Expr×Pos×Pos×Pos}(h:bP9 C S=some r):S=[.Return (some (.Call (.Name r.1 r.2.1) [r.2.2.1,.Name C r.2.2.2.1] [] r.2.2.2.2.1)) r.2.2.2.2.2]:=by
 have z:∀ {p:Prop},(none:Option (Str×Pos×Expr×Pos×Pos×Pos))=some r->p:=fun h=>nomatch h
 cases S with
 | cons x xs =>
  cases x with
  | Return v rp2 =>
   cases v with
   | some e =>
    cases e with
    | Call f as kw cp =>
     cases f with
     | Name g gp =>
      cases as with
      | cons a as1 =>
       cases as1 with
       | cons y as2 =>
        cases y with
        | Name x p2 =>
         cases as2 with
         | nil =>
          cases kw with
          | nil =>
           cases xs with
           | nil =>
            have h:(if x=C then some (g,gp,a,p2,cp,rp2)else none)=some r:=h
            by_cases e:x=C
            ·rw[if_pos e]at h;cases h;rw[e]
            ·rw[if_neg e]at h;exact z h
           | _=>exact z h
          | _=>exact z h
         | _=>exact z h
        | _=>exact z h
       | _=>exact z h
      | _=>exact z h
     | _=>exact z h
    | _=>exact z h
   | _=>exact z h
  | _=>exact z h
 | _=>exact z h
theorem bw8 {X:Cx}{ck:Ck}{s:kB}{ss:ki}{S:List Stmt}(G:CG Γ F n X ck)(hM:bB4 ck s ss S=true):PSs X S (TSv Γ (kD F (.cons s ss))):=by
 obtain⟨⟨i,g,e,id,C⟩,e1,hA⟩:=av6 hM
 clear hM
 obtain⟨⟨Y,params,b,rp,scope,pos,xs⟩,e2,hB⟩:=av6 hA
 clear hA
 obtain⟨⟨g',gp,a,p2,cp,rp2⟩,e3,h⟩:=av6 hB
 clear hB
 obtain⟨rfl,rfl⟩:=aQ5 e1
 have e3:=aR6 e3
 have e2:=aR0 e2
 dsimp only at e2 e3 h ⊢
 subst e3
 subst e2
 clear e1
 obtain⟨h,f0⟩:=zh h
 obtain⟨h,a4⟩:=zh h
 obtain⟨h,h9⟩:=zh h
 obtain⟨h,h8⟩:=zh h
 obtain⟨h,h7⟩:=zh h
 obtain⟨h,h6⟩:=zh h
 obtain⟨h,h5⟩:=zh h
 obtain⟨h0,h2⟩:=zh h
 have h7:=of_decide_eq_true h7
 subst h7
 have h1:=of_decide_eq_true h0
 clear h0
 obtain⟨c,P,b3,b6,b4,f3,J,eE,L⟩:=G.lam id C _ h6
 obtain⟨pn,hnm⟩:∃ pn,J.nm=some pn:=by
  cases q:J.nm with
  | none=>unfold lamText at eE;rw[q]at eE;cases eE
  | some p=>exact⟨p,rfl⟩
 obtain⟨pa,pb⟩:=pn
 unfold lamText at eE
 rw[hnm]at eE
 dsimp only at eE
 cases eE
 rw[<-G.N]at L h1
 obtain⟨l1,l2⟩:=G.loc h2
 obtain⟨a1,a2,a3⟩:=aX0 f0 X.env
 have d0:X.env.kindOf Y=some .local\/X.env.kindOf Y=some .cell:=l1
 have hq:iH X.env Y Y=J.qual:=by
  rw[L.q]
  unfold LamI.own iH
  rw[hnm]
  rcases d0 with z|z<;>rw[z]<;>rfl
 have p1:=bC3 (X:=X) (c:=c) (P:=P) (body:=[.Return (some b) rp]) (scope:=scope) (pos:=pos) (by rw[G.N];exact G.nd) h1 l1 L.code L.hd L.bm L.ck hq a1 a2 a3 l2
 have e0:PE X (.Name Y p2) (bb3 i):=aY8 G h5
 obtain⟨g1,g2,g3⟩:=G.gl h8
 rcases G.call g with hb|⟨fa,fd,ps,hF,e7,hk,hB⟩
 ·intro f2 sh σ H D I q
  obtain⟨φ,ρ,s,c,s',E,R,hm,q⟩:=q
  obtain⟨c1,s1,e1,hm⟩:=aa0 hm
  have e1:(match kE ρ i with|some ρ=>DV.R.ok (DV.Ct.next ρ) s|none=>.bad)=.ok c1 s1:=e1
  split at e1
  case h_2=>cases e1
  cases e1
  obtain⟨c1,s1,e1,hm⟩:=aa0 hm
  obtain⟨d1,s2,e1,y⟩:=aa0 e1
  obtain⟨l,s3,e1,y⟩:=aa0 e1
  obtain⟨d,s4,e4,y⟩:=aa0 y
  rw[hb]at e4;cases e4
 have hE:=(sE e _ X ck G h9).1
 have hA:PA X [a,.Name Y p2] (al8 (TEv Γ (jp F e)) (al8 (bb3 i) aS2)):=zK hE (zK e0 ac9 (zd rfl)) (zd a4)
 have p3:=ay9 (p:=gp) (pos:=cp) hF G.room g1 e7 hk hB L.fn hA g2 (zd a4) (zy (es:=[.Name Y p2]) fun z hz=>by rw[cj.mp hz];rfl).1
 refine(ag3 p1 (ag3 (aO0 p3) ax2)).imp fun D σ H q=>?_
 obtain⟨φ,ρ,s,c0,s',E,R,hm,q⟩:=q
 obtain⟨c1,s1,e1,hm⟩:=aa0 hm
 have e1:(match kE ρ i with|some ρ=>DV.R.ok (DV.Ct.next ρ) s|none=>.bad)=.ok c1 s1:=e1
 unfold kE at e1
 by_cases hil:i < ρ.length
 case neg=>rw[if_neg hil]at e1;cases e1
 rw[if_pos hil]at e1
 cases e1
 obtain⟨c1,s1,e1,hm⟩:=aa0 hm
 obtain⟨d1,s2,e1,y⟩:=aa0 e1
 cases y
 cases hm
 obtain⟨l,s3,e1,y⟩:=aa0 e1
 obtain⟨d2,s4,e4,y⟩:=aa0 y
 split at y
 case isFalse=>exact fb y
 rename_i hn
 cases y
 rw[ag]at hn
 obtain⟨x1,s5,e5,e1⟩:=aa0 e1
 obtain⟨y1,s6,e6,e1⟩:=aa0 e1
 cases e1
 have e6:(match jH (ρ.set i none) C with|some cs=>(j4 F .nil (ρ.set i none) s5).bind fun l s=>DV.R.ok (DV.D.clo id cs::l) s|none=>DV.R.bad)=.ok y1 s3:=e6
 cases eg:jH (ρ.set i none) C with
 | none=>rw[eg]at e6;cases e6
 | some cs =>
  rw[eg]at e6
  cases e6
  refine aR4 R.tab L.nd L.tab fun f H' eS st tb hf ho=>?_
  obtain⟨b2,R1⟩:=R.sameT eS st tb
  have E1:RE Γ φ H' s.length (ρ.set i none) (σ.set i (some (.ref f))):=by
   have E0:=E.mono b2 (ai _)
   refine⟨by rw[br,br];exact E0.len,fun j d ej=>?_⟩
   by_cases z:i=j
   ·subst z
    rw[aU hil]at ej;cases ej
   ·rw[bj z]at ej
    obtain⟨q1,v,q2,q3⟩:=E0.val j d ej
    exact⟨q1,v,by rw[bj z];exact q2,q3⟩
  obtain⟨cap,b0,a6,hσ⟩:=aL6 E1 eg
  have a5:=(ai5 eg).1
  have c3:ad3 H' f J (ac1 X.env.cells J.scope.names []):=by
   unfold ad3;rw[hnm];dsimp only;rw[L.p,L.b,L.s];exact ho
  refine⟨φ,ρ.set i none,s,x1,_,E1,R1,e5,fun v1 φ1 H1 g1 l1 b1 r1 c2=>?_⟩
  have f1:i < σ.length:=by rw[<-E.len];exact hil
  refine⟨.ref f,by rw[aU f1],?_⟩
  intro H2 ca
  obtain⟨gs,R2⟩:=c2.same ca.same
  have a0:=aa3 l1 cs a6
  have b5:∀ m,x1.bnd m=true->jm m cs=true->jm m [x1,.clo id cs]=true:=fun m z1 z2=>by
   simp only[jm,z1,eO,eN]
   unfold jq;exact z2
  have bl:=b5 _ b1 a0
  have pv:PVL Γ X.env.cells X.N (σ.set i (some (.ref f))) φ1 H1 [x1,.clo id cs] [v1,.ref f]:=by
   refine .cons (.inl r1) (.cons (.inr ⟨id,cs,rfl,f,J,rfl,L.lg,c3.kp g1.w.kp,by rw[a5,L.len],by rw[L.s];exact L.cl,cap,RVL.mono g1 cs cap a6 b0,fun i x v e1 e3=>?_⟩) .nil)
   have hi:i<C.length:=by rw[<-L.len];exact(ae.mp e1).1
   have hj:C[i]?=some C[i]:=aj hi
   exact⟨by rw[L.s];exact L.fr x (aX e1),C[i],L.at_ i _ x hj e1,hσ i _ v hj e3⟩
  refine⟨φ1,_,[x1,.clo id cs],_,_,R2,pv.caught ca L.kd bl,bl,e4,fun v φ' H3 g' l' b' r' R'=>?_⟩
  have hc:Cells X.env.cells H3:=ca.cells.kp g'.w.kp
  exact q φ' (aa7 X.env.cells H3) ((b2.trans g1 (ai _)).trans (Gr.caught ca g') l1) (am l1 l') (R'.dropC hc hn.2) v b' (RV.dropC hc _ v hn.1 r')
mutual
theorem sS:∀(st:kB) (S:Stmt) (X:Cx) (y:Ck),CG Γ F n X y->mS y st S=true->PS X S (TSv Γ (DV.ex F st))
 | .asg tg e,S,X,y,G,h=>by
  cases S with
  | Assign ts v p =>
   cases ts with
   | cons t ts1 =>
    cases ts1 with
    | nil =>
     obtain⟨h,J⟩:=zh h
     obtain⟨C,z⟩:=zh h
     cases tg with
     | one i =>
      have h:=C
      cases t with
      | Name x px =>
       obtain⟨Y,a2⟩:=zh h
       exact bl8 G (of_decide_eq_true Y) a2 z
      | _=>exact ff h
     | tup is =>
      obtain⟨Y,a2⟩:=zh J
      have h:=C
      cases t with
      | Tuple te tk tp=>exact(bb1 (sE e _ X y G z).1 (bf8 G C) (show dS v (some (.Tuple te tk tp)) p.line X.env=pure false from am4 a2) (aD1 Y) rfl).imp fun D σ H q=>aL3 (TSv.eq (fun ρ s=>rfl) q)
      | _=>exact ff h
    | _=>exact ff h
   | _=>exact ff h
  | _=>exact ff h
 | .setIx o i e,S,X,y,G,h=>by
  cases S with
  | Assign ts v p2 =>
   cases ts with
   | cons tt ts1 =>
    cases tt with
    | Subscript ob ix p1 =>
     cases ts1 with
     | nil =>
      obtain⟨h,h5⟩:=zh h
      obtain⟨h,h4⟩:=zh h
      obtain⟨h,J⟩:=zh h
      obtain⟨C,z⟩:=zh h
      have a0:=aB1 z
      refine(bb1 (sE e _ X y G J).1 (bD2 (sE o _ X y G C).1 (sE i _ X y G z).1 (by5 (bz9 G.room)) ?_) (show dS v (some (.Subscript ob ix p1)) p2.line X.env=pure false from am4 h4) (aD8 h5) ?_).imp fun D σ H q=>aV2 (TSv.eq (fun ρ s=>rfl) q)
      ·intro w
       cases ix<;>first|rfl|cases a0
      ·rfl
     | _=>exact ff h
    | _=>exact ff h
   | _=>exact ff h
  | _=>exact ff h
 | .aug _ _,S,X,y,G,h=>ff h
 | .ex e,S,X,y,G,h=>by
  cases S with
  | Expr v p =>
   obtain⟨C,z⟩:=zh h
   exact(bq2 (sE e _ X y G C).1 (am4 z)).imp fun D σ H q=>bj1 (TSv.eq (fun ρ s=>rfl) q)
  | _=>exact ff h
 | .ret e,S,X,y,G,h=>by
  cases S with
  | Return vo p =>
   cases vo with
   | some v =>
    exact(aO0 (sE e _ X y G h).1).imp fun D σ H q=>bv8 (TSv.eq (fun ρ s=>rfl) q)
   | _=>exact ff h
  | _=>exact ff h
 | .retN,S,X,y,G,h=>ff h
 | .ite c a b,S,X,y,G,h=>by
  cases S with
  | If t l r p =>
   obtain⟨h,J⟩:=zh h
   obtain⟨C,z⟩:=zh h
   exact(bL0 (sE c _ X y G C).2 (sSs a _ X y G z) (sSs b _ X y G J)).imp fun D σ H q=>bH2 (TSv.eq (fun ρ s=>rfl) q)
  | _=>exact ff h
 | .whl c b,S,X,y,G,h=>by
  cases S with
  | While t l o p =>
   cases o with
   | nil =>
    obtain⟨C,z⟩:=zh h
    exact(aR1 (by rw[G.xe];exact il) (sE c _ X y G C).2 (sSs b _ X y G z)).imp fun D σ H q=>aY1 (TSv.eq (fun ρ s=>rfl) q)
   | _=>exact ff h
  | _=>exact ff h
 | .for_ tg it b,S,X,y,G,h=>by
  cases S with
  | For tgt iter l o p =>
   cases o with
   | nil =>
    obtain⟨h,J⟩:=zh h
    obtain⟨C,z⟩:=zh h
    exact(bu4 (by rw[G.xe];exact il) G.calm (sI it _ _ X y G z) (bf8 G C) (sSs b _ X y G J) (aw6 (bt5 z))).imp fun D σ H q=>by3 (TSv.eq (fun ρ s=>rfl) q)
   | _=>exact ff h
  | _=>exact ff h
 | .pass,S,X,y,G,h=>ff h
 | .cont,S,X,y,G,h=>ff h
 | .brk,S,X,y,G,h=>ff h
 | .und _,S,X,y,G,h=>ff h
 | .raise,S,X,y,G,h=>aW7.imp fun D σ H q=>by
  obtain⟨φ,ρ,s,c,s',E,R,hm,q⟩:=q
  cases hm
theorem sSs:∀(st:ki) (S:List Stmt) (X:Cx) (y:Ck),CG Γ F n X y->mSs y st S=true->PSs X S (TSv Γ (kD F st))
 | .nil,S,X,y,G,h=>by
  cases S with
  | nil =>
   exact ax2.imp fun D σ H q=>bf1 (m:=kD F .nil) (fun ρ s=>rfl) q
  | _=>exact ff h
 | .cons s ss,S,X,y,G,h=>by
  cases S with
  | cons x xs =>
   rcases(bF _ _).mp h with h|h
   ·exact bw8 G h
   obtain⟨C,z⟩:=zh h
   exact(ag3 (sS s _ X y G C) (sSs ss _ X y G z)).imp fun D σ H q=>br1 (TSv.eq (fun ρ s=>rfl) q)
  | _=>exact ff h
end
end
section
variable {Γ:Gm}
theorem av4 {φ φ1:Nat->Addr}{H y:Hp}{s s1:jk}(R:Rp Γ φ H s)(g:Gr φ s H φ1 s1 y)(ho:kF s s1=true){i:Nat}{o:jD}(hi:i<s.length)(e:s1[i]?=some o):o.bnd s.length=true:=by
 unfold kF at ho
 have:=aM.mp ho i (bv.mpr hi)
 rw[e,bF]at this
 rcases this with h|h
 ·exact R.wf i o (of_decide_eq_true h).symm
 ·exact h
theorem qr {s1:jk}{k i:Nat}{o:jD}(e:(s1.take k)[i]?=some o):i<k/\s1[i]?=some o:=by
 rw[gI]at e
 split at e
 ·exact⟨‹_›,e⟩
 ·cases e
theorem aF1 {φ φ1:Nat->Addr}{H h:Hp}{s s1:jk}(R:Rp Γ φ H s)(g:Gr φ s H φ1 s1 h)(R1:Rp Γ φ1 h s1)(ho:kF s s1=true):Gr φ s H φ1 (s1.take s.length) h/\Rp Γ φ1 h (s1.take s.length):=by
 have hl:(s1.take s.length).length=s.length:=by rw[dt];have:=g.le;omega
 refine⟨⟨g.w,by rw[hl];exact ai _,fun i G C=>by rw[hl]at C;omega,fun i o y e e'=>g.kd i o y e (qr e').2,g.st,g.fr⟩,fun i j o y e e' m m' z=>R1.inj i j o y (qr e).2 (qr e').2 m m' z,fun i o e=>R1.obj i o (qr e).2,fun i o e=>?_,R1.tab⟩
 rw[hl]
 exact av4 R g ho (qr e).1 (qr e).2
theorem am3 {φ φ1:Nat->Addr}{H z:Hp}{s s1 s':jk}{v0 d:jl}{v:V}(R:Rp Γ φ H s)(g:Gr φ s H φ1 s1 z)(R1:Rp Γ φ1 z s1)(hb:v0.bnd s1.length=true)(r:RV Γ φ1 z v0 v)(h:DV.zH s v0 s1=.ok d s') :
  ∃ φ',Gr φ s H φ' s' z/\s.length<=s'.length/\d.bnd s'.length=true/\RV Γ φ' z d v/\Rp Γ φ' z s':=by
 have all:d=v0->s'=s1->∃ φ',Gr φ s H φ' s' z/\s.length<=s'.length/\d.bnd s'.length=true/\RV Γ φ' z d v/\Rp Γ φ' z s':=fun e1 e2=>by
  subst e1;subst e2
  exact⟨φ1,g,g.le,hb,r,R1⟩
 unfold DV.zH at h
 split at h
 case isFalse=>cases h;exact all rfl rfl
 rename_i ho
 obtain⟨gt,Rt⟩:=aF1 R g R1 ho
 have hl:(s1.take s.length).length=s.length:=by rw[dt];have:=g.le;omega
 have tk:d=v0->s'=s1.take s.length->v0.bnd s.length=true->∃ φ',Gr φ s H φ' s' z/\s.length<=s'.length/\d.bnd s'.length=true/\RV Γ φ' z d v/\Rp Γ φ' z s':=fun e1 e2 b=>by
  subst e1;subst e2
  exact⟨φ1,gt,by rw[hl];exact ai _,by rw[hl];exact b,r,Rt⟩
 split at h
 ·rename_i k
  split at h
  ·cases h
   exact tk rfl rfl (by unfold jq;exact decide_eq_true ‹_›)
  ·rename_i hk
   split at h
   ·rename_i o J
    split at h
    ·rename_i G
     cases h
     have gw:Gw φ1 s.length z (fun i=>if i=s.length then φ1 k else φ1 i) z:=⟨fun i hi=>if_neg (aq hi),Kp.refl _⟩
     have key:∀(i:Nat) (C:jD),(s1.take s.length++[o])[i]?=some C->(i<s.length/\s1[i]?=some C)\/(i=s.length/\C=o):=fun i C e=>by
      rcases eA i s.length with h|h|h
      ·rw[aH (by rw[hl];exact h)]at e;exact .inl (qr e)
      ·subst h
       rw[aB (by rw[hl];exact ai _),hl,ja]at e
       exact .inr ⟨rfl,(ay e).symm⟩
      ·rw[bL (by rw[aR,hl];simp;omega)]at e;cases e
     have y:(s1.take s.length++[o]).length=s.length+1:=by rw[aR,hl];rfl
     refine⟨fun i=>if i=s.length then φ1 k else φ1 i,⟨⟨fun i hi=>?_,g.w.kp⟩,by rw[y];omega,fun i h1 h2=>?_,fun i oo C e e'=>?_,g.st,g.fr⟩,by rw[y];omega,by unfold jq;rw[y];exact decide_eq_true (dv _),?_,⟨fun i j oi oj a0 a1 Y mj e=>?_,fun i C e=>?_,fun i C e=>?_,R1.tab⟩⟩
     ·show(if i=s.length then φ1 k else φ1 i)=φ i
      rw[if_neg (aq hi)];exact g.w.map i hi
     ·rw[y]at h2
      show H (if i=s.length then φ1 k else φ1 i)=none
      rw[if_pos (by omega)]
      exact g.new k (by omega) (ae.mp J).1
     ·rcases key i C e' with⟨_,e2⟩|⟨hi,_⟩
      ·exact g.kd i oo C e e2
      ·have:=(ae.mp e).1;omega
     ·rw[r.refE]
      unfold RV
      show V.ref (φ1 k)=V.ref (if s.length=s.length then φ1 k else φ1 s.length)
      rw[if_pos rfl]
     ·rcases key i oi a0 with⟨hi,ei⟩|⟨hi,zi⟩<;>rcases key j oj a1 with⟨hj,ej⟩|⟨hj,zj⟩
      ·rw[if_neg (aq hi),if_neg (aq hj)]at e
       exact R1.inj i j oi oj ei ej Y mj e
      ·rw[if_neg (aq hi),if_pos hj]at e
       subst zj
       have:=R1.inj i k oi _ ei J Y mj e
       omega
      ·rw[if_neg (aq hj),if_pos hi]at e
       subst zi
       have:=R1.inj k j _ oj J ej Y mj e
       omega
      ·rw[hi,hj]
     ·rcases key i C e with⟨hi,e⟩|⟨hi,rfl⟩
      ·show RO Γ _ _ (if i=s.length then φ1 k else φ1 i) C
       rw[if_neg (aq hi)]
       exact(R1.obj i C e).mono gw (av4 R g ho hi e) fun _ u hu=>hu
      ·show RO Γ _ _ (if i=s.length then φ1 k else φ1 i) C
       rw[if_pos hi]
       exact(R1.obj k _ J).mono gw G fun _ u hu=>hu
     ·rw[y]
      rcases key i C e with⟨hi,e⟩|⟨_,rfl⟩
      ·exact zV (cG _) _ (av4 R g ho hi e)
      ·exact zV (cG _) _ G
    ·cases h;exact all rfl rfl
   ·exact fb h
 ·split at h
  ·cases h;exact tk rfl rfl ‹_›
  ·cases h;exact all rfl rfl
structure LamGood (J:LamI)(L:j8):Prop where
 sc:LamScope (J.ps++J.fr) J.ps J.fr J.scope
 ps:J.ps.length=L.ps
 fr:J.fr.length=L.cs
 m:mE (ck0 (J.ps++J.fr) J.scope) L.body J.body=true
 bind:∀(clos:List (Str×Addr)) (doc pm:Value) (c':Addr) (ctv:Value) (us:List Value),us.length=J.ps.length->dB (bC "<lambda>" J.qual J.params J.body J.scope clos pm (.ref c') ctv) ⟨us,[]⟩=pure (J.ps.zip us) /\
  ∀(nm:Str) (rp:Pos),dB (bT nm J.qual J.params [.Return (some J.body) rp] J.scope clos .none .none doc pm none (.ref c') ctv) ⟨us,[]⟩=pure (J.ps.zip us)
structure LkAt (Γ:Gm)(cds:List (Addr×Addr))(f:Str)(sc:Scope)(N:List Str)(fd:bp)(id:String)(caps:List Nat)(params:aV)(body:Expr)(scope:Scope)(c P:Addr)(J:LamI):Prop where
 code:fd.code=.ref c
 cd:(c,P)∈cds
 ck:lamCheck scope sc=true
 fre:∀ x,scope.names.lookup x=some .free->sc.names.lookup x=some .cell
 cel:∀ y∈sc.names,y.2=.cell->sc.names.lookup y.1=some .cell
 df:∀ env,iG params env=([],[])
 lg:Γ.lg id J
 q:J.qual=f ++ ".<locals>."++J.own
 p:J.params=params
 b:J.body=body
 s:J.scope=scope
 len:J.fr.length=caps.length
 at_:∀(i j:Nat) (x:Str),caps[i]?=some j->J.fr[i]?=some x->N[j]?=some x
 fr:∀ x∈J.fr,scope.names.lookup x=some .free
 tab:(P,J.qual)∈Γ.T
def bF5 (Γ:Gm)(cds:List (Addr×Addr))(f:Str)(sc:Scope)(N:List Str)(fd:bp)(lk:String->List Nat->Expr->Bool):Prop :=
 ∀ id caps E,lk id caps E=true->∃ c P params body scope pos J,E=lamText J params body scope pos/\LkAt Γ cds f sc N fd id caps params body scope c P J
def Good (Γ:Gm)(cds:List (Addr×Addr))(mg:Str->Option Value)(f:String)(d:j9):Prop:=∃ st N ps a fd lk,DefAt Γ.K mg (f:Str) st ps a fd/\FnScope N ps (defScope st)/\ps.length=d.ps/\N.length=d.ps+d.vs/\mSs ⟨N,defScope st,lk⟩ d.body (zD st)=true/\bF5 Γ cds (f:Str) (defScope st) N fd lk
structure PrOk (Γ:Gm)(cds:List (Addr×Addr))(P:jy)(mg:Str->Option Value):Prop where
 df:∀ f d,P.df f=some d->Good Γ cds mg f d
 con:∀ x d,P.con x=some d->∃ v u,mg (x:Str)=some u/\RelV v u/\(∀ m,d.bnd m=true)/\∀ φ H,RV Γ φ H d v
 bi:∀ x∈bNames,mg x=none
 fa:∀(f:String) (a:Addr),Γ.fa f=some a->mg (f:Str)=some (.ref a)/\∃ oc od fd sl,Γ.K.lookup a=some ⟨oc,od,.func fd,sl⟩
 lg:∀ id J,Γ.lg id J->∃ L,P.lm id=some L/\LamGood J L
 nd:(Γ.T.map (·.1)).Nodup
noncomputable def az8 (Γ : Gm) (prog : Program) (w : World) (mg : Str -> Option Value) (base : Heap) (F : DV.Fns) (n : Nat) : Prop := (∀ f : String, (∀ l s, F.call f l s = .bad) \/
      ∃ a fd ps, FnOk prog w Γ.K mg base CX0 n a fd ps (spV Γ (F.call f)) /\ mg (f : Str) = some (.ref a) /\ bN Γ.K (.ref a) = true /\ Binds Γ.K fd ps []) /\
  ∀(id : String) (J : LamI) (f : Addr) (cap : List V) (clos : List (Str × Addr)), Γ.lg id J -> cap.length = J.fr.length -> ClOk prog w Γ.K mg base n (fun H => CloAt H f J cap clos) f (spL Γ (F.lam id) cap)
theorem aR7 {φ:Nat->Addr}{H:Hp}{n k:Nat}{N:List Str}{l:List jl}{vs:List V}(r:RVL Γ φ H l vs)(b:jm n l=true)(hN:N.length=l.length+k):RE Γ φ H n (l.map some++ax k none) (ae7 N vs):=by
 have hl:=r.length
 refine⟨?_,fun i d e=>?_⟩
 ·unfold ae7;simp[hl,hN]
 ·by_cases hi:i<l.length
  ·rw[aH (by simpa using hi),aG]at e
   have e':l[i]?=some d:=by
    rw[aj hi]at e ⊢
    exact ay e
   obtain⟨v,e1,e2⟩:=r.get e'
   refine⟨ag0 b e',v,?_,e2⟩
   unfold ae7
   rw[aH (by rw[aI,hl];exact hi),aG,e1];rfl
  ·rw[aB (by simpa using g8 hi)]at e
   rw[eR]at e
   split at e<;>cases e
theorem bB1 {a4:List (Addr×Addr)}{P:jy}{prog:aD}{w:World}{mg:Str->Option Value}{Y:Heap}(hP:PrOk Γ a4 P mg)(hb:∀ y∈a4,bD Y y.1 y.2/\BM mg Y)(n:Nat)(a2:az8 Γ prog w mg Y (jt P n) (n+31))
  {f:String} {d:j9} (e:P.df f=some d) {st:Stmt} {N ps:List Str} {a:Addr} {fd:bp} {lk:String->List Nat->Expr->Bool} (hD:DefAt Γ.K mg (f:Str) st ps a fd) (hS:FnScope N ps (defScope st)) (h1:ps.length=d.ps) (h2:N.length=d.ps+d.vs) (hm:mSs ⟨N,defScope st,lk⟩ d.body (zD st)=true) (hL:bF5 Γ a4 (f:Str) (defScope st) N fd lk) :
  FnOk prog w Γ.K mg Y CX0 (n+1+31) a fd ps (spV Γ ((jt P (n+1)).call f)):=by
 have a1:∀ vs H Q E,spV Γ ((jt P (n+1)).call f) vs H Q E->vs.length=ps.length:=fun vs H Q E q=>by
  obtain⟨φ,s,l,d',s',R,r,b,hc,k⟩:=q
  simp only[jt,e]at hc
  split at hc
  ·rw[r.length,h1];assumption
  ·exact fb hc
 have body:∀(a0:Value),(∀ id C E,lk id C E=true->fd.code=a0)->∀(A:aP) (outer:List Env) (sh:ac) (H:Hp) (vs:List V) (Q:VK) (E:XK),Room (n+31) (A.deeper (eF (f:Str) (defScope st) sh.heap.objs.size a a0))->spV Γ ((jt P (n+1)).call f) vs H Q E ->
   ∃ t,PSs (aX6 CX0 prog w Γ.K mg Y N (f:Str) (defScope st) a a0 A outer sh H E).nox (zD st) t/\t { nx:=fun _ H'=>Q .non H',rt:=Q } (ae7 N vs) H:=by
  intro a0 b0 A outer sh H vs Q E hr q
  have G:CG Γ (jt P n) (n+31) (aX6 CX0 prog w Γ.K mg Y N (f:Str) (defScope st) a a0 A outer sh H E).nox ⟨N,defScope st,lk⟩:=by
   refine⟨rfl,rfl,hS.nd,rfl,rfl,?_,hr,fun x k e=>.inl e,fun _ _=>rfl,hP.bi,a2.1,?_,fun id C E' a3=>?_,a2.2,hP.fa,DV.af5 P n⟩
   ·show jz+1<=n+31
    unfold jz;omega
   ·have:(jt P n).con=P.con:=by cases n<;>rfl
    rw[this];exact hP.con
   ·obtain⟨c,Pa,params,body,scope,pos,J,eE,L⟩:=hL id C E' a3
    obtain⟨a6,a5⟩:=hb _ L.cd
    refine⟨c,Pa,params,body,scope,pos,J,eE,⟨?_,a6,a5,L.ck,L.df _,L.lg,L.q,L.p,L.b,L.s,L.len,L.at_,L.fr,fun x hx=>?_,L.tab,hP.nd,fun _=>rfl,fun x c hx=>?_⟩⟩
    ·show a0=.ref c
     rw[<-b0 id C E' a3];exact L.code
    ·exact zM (L.fre x hx)
    ·rcases zv (au hx)with z|z
     ·exact .inl (L.cel (x,.cell) z rfl)
     ·exact absurd z (by simp)
  refine⟨_,sSs d.body (zD st) _ ⟨N,defScope st,lk⟩ G hm,?_⟩
  obtain⟨φ,s,l,d',s',R,r,b,hc,k⟩:=q
  simp only[jt,e]at hc
  split at hc
  case isFalse=>exact fb hc
  rename_i a1
  obtain⟨c,s1,e1,hc⟩:=aa0 hc
  refine⟨φ,l.map some++ax d.vs none,s,c,s1,aR7 r b (by rw[h2,a1]),R,e1,fun φ1 H1 g1 l1 R1=>?_⟩
  cases c with
  | ret v0 =>
   intro v hb rv
   obtain⟨φ',g',l',b',r',R'⟩:=am3 R g1 R1 hb rv hc
   exact k v φ' H1 g' l' b' r' R'
  | next ρ =>
   intro σ' _
   obtain⟨φ',g',l',b',r',R'⟩:=am3 (v0:=.non) R g1 R1 rfl RV.nonI hc
   exact k .non φ' H1 g' l' b' r' R'
  | cont ρ=>exact fb hc
  | brk ρ=>exact fb hc
 by_cases hl:∃ id C E,lk id C E=true
 ·obtain⟨id,C,E,a3⟩:=hl
  obtain⟨c,Pa,params,b1,scope,pos,J,eE,L⟩:=hL id C E a3
  exact hD.fn.okC L.code hS a1 (body _ fun _ _ _ _=>L.code)
 ·exact hD.fn.ok hS a1 (fun a0=>body a0 fun id C E h=>absurd ⟨id,C,E,h⟩ hl)
theorem bf3 {b5:List (Addr×Addr)}{P:jy}{prog:aD}{w:World}{mg:Str->Option Value}{Y:Heap}(hP:PrOk Γ b5 P mg)(n:Nat)(a1:az8 Γ prog w mg Y (jt P n) (n+31))
  (id:String) (J:LamI) (f:Addr) (cap:List V) (C:List (Str×Addr)) (b6:Γ.lg id J) (a3:cap.length=J.fr.length) :
  ClOk prog w Γ.K mg Y (n+1+31) (fun H=>CloAt H f J cap C) f (spL Γ ((jt P (n+1)).lam id) cap):=by
 obtain⟨L,eL,LG⟩:=hP.lg id J b6
 have a2:∀ vs H Q E,spL Γ ((jt P (n+1)).lam id) cap vs H Q E->vs.length=J.ps.length:=fun vs H Q E q=>by
  obtain⟨φ,s,cs,l,d,s',R,r,rc,b,bc,hc,k⟩:=q
  simp only[jt,eL]at hc
  split at hc
  ·rename_i hh;rw[r.length,LG.ps];exact hh.1
  ·exact fb hc
 have main:∀(A:aP) (outer:List Env) (sh:ac) (H:Hp) (cd:Value) (vs:List V) (Q:VK),Room (n+31) (A.deeper (ci J.qual J.scope sh.heap.objs.size f cd (aE (sh.heap.objs.size+1) J.scope.names C)))->Cells C H->(∀ b o,Γ.K.lookup b=some o->H b=none)->spL Γ ((jt P (n+1)).lam id) cap vs H Q E0 ->
   ∃ t,PE (aw9 prog w Γ.K mg Y (J.ps++J.fr) J.qual J.scope f cd C A outer sh H) J.body t/\t (vs.map some++cap.map some) (aa7 C H) fun v H'=>(∀ b,isC C b=true->H' b=none)->Q v (Put C H H'):=by
  intro A outer sh H cd vs Q hr z hK q
  have G:CG Γ (jt P n) (n+31) (aw9 prog w Γ.K mg Y (J.ps++J.fr) J.qual J.scope f cd C A outer sh H) (ck0 (J.ps++J.fr) J.scope):=by
   refine⟨rfl,rfl,LG.sc.nd,rfl,rfl,?_,hr,fun x k e=>.inl e,fun x e=>?_,hP.bi,a1.1,?_,fun _ _ _ h=>(by cases h),a1.2,hP.fa,DV.af5 P n⟩
   ·show jz+1<=n+31
    unfold jz;omega
   ·show(J.scope.names.lookup x==some .cell)=true
    rw[show J.scope.names.lookup x=some .cell from e];rfl
   ·have:(jt P n).con=P.con:=by cases n<;>rfl
    rw[this];exact hP.con
  refine⟨_,(sE L.body J.body _ (ck0 (J.ps++J.fr) J.scope) G LG.m).1,?_⟩
  obtain⟨φ,s,cs,l,d,s',R,r,rc,b,bc,hc,k⟩:=q
  simp only[jt,eL]at hc
  split at hc
  case isFalse=>exact fb hc
  rename_i hh
  obtain⟨h1,h2,h3⟩:=hh
  rw[ag,ag]at h3
  obtain⟨⟨c0,b4⟩,b3⟩:=h3
  obtain⟨v0,s1,e1,hc⟩:=aa0 hc
  have RD:Rp Γ φ (aa7 C H) s:=R.dropC z b3
  have a6:RVL Γ φ (aa7 C H) (l++cs) (vs++cap):=(RVL.dropC z l vs c0 r).append (RVL.dropC z cs cap b4 rc)
  refine⟨φ,l.map some++cs.map some,s,v0,s1,⟨by simp[r.length,rc.length],fun i x ei=>?_⟩,RD,e1,fun v φ1 H1 g1 l1 b1 r1 R1 a4=>?_⟩
  ·rw[<-cy,aG]at ei
   have b2:(l++cs)[i]?=some x:=by
    cases q:(l++cs)[i]? with
    | none=>rw[q]at ei;cases ei
    | some y=>rw[q]at ei;cases ei;rfl
   obtain⟨u,e3,e4⟩:=a6.get b2
   refine⟨ag0 (zI b bc) b2,u,?_,e4⟩
   rw[<-cy,aG,e3];rfl
  ·obtain⟨φ',g',l',b',r',R'⟩:=am3 RD g1 R1 b1 r1 hc
   have gp:=Gr.put z a4 hK R' g'
   obtain⟨gs,Rs⟩:=R'.same (aP3 (H:=H) a4)
   exact k v φ' _ gp l' b' (RV.mono gs d v b' r') Rs
 unfold CloAt
 cases q:J.nm with
 | none=>exact bp2 LG.sc a2 a3 (fun pm c' a0 us a5=>(LG.bind C .none pm c' a0 us a5).1) (fun A outer sh H cd vs Q hr hat hK q=>by
   obtain⟨pm,c',a0,_,_,z,_⟩:=hat
   exact main A outer sh H cd vs Q hr z hK q)
 | some p=>exact bp4 LG.sc a2 a3 (fun b0 pm c' a0 us a5=>(LG.bind C b0 pm c' a0 us a5).2 _ _) (fun A outer sh H cd vs Q hr hat hK q=>by
   obtain⟨b0,pm,c',a0,_,_,z,_⟩:=hat
   obtain⟨t,h1,h2⟩:=main A outer sh H cd vs Q hr z hK q
   exact⟨_,ag3 (aO0 h1) ax2,h2⟩)
theorem aI1 {C:List (Addr×Addr)}{P:jy}{prog:aD}{w:World}{mg:Str->Option Value}{h:Heap}(G:PrOk Γ C P mg)(hb:∀ y∈C,bD h y.1 y.2/\BM mg h):∀ n:Nat,az8 Γ prog w mg h (jt P n) (n+31)
 | 0=>⟨fun f=>.inl fun l s=>rfl,fun id J f cap z _ _=>⟨fun A outer s H us vs Q _ _ _ _ q=>by
   obtain⟨φ,s,cs,l,d,s',R,r,rc,b,bc,hc,k⟩:=q
   cases hc⟩⟩
 | n+1=>by
  have ih:az8 Γ prog w mg h (jt P n) (n+31):=aI1 G hb n
  refine⟨fun f=>?_,fun id J f cap z h1 Y=>bf3 G n ih id J f cap z h1 Y⟩
  cases e:P.df f with
  | none=>exact .inl fun l s=>by simp only[jt,e]
  | some d =>
   obtain⟨st,N,ps,a,fd,lk,hD,hS,h1,Y,hm,hL⟩:=G.df f d e
   exact .inr ⟨a,fd,ps,bB1 G hb n ih e hD hS h1 Y hm hL,hD.mg,hD.fn.kp,hD.bi⟩
def spT (Γ:Gm):Sp:=fun vs H Q _=>∃(a:Addr) (ns:List Int),vs=[.ref a]/\SqF Γ.K H a (ns.map V.int)/\ns.length<=63/\TabsH Γ.T H/\∀ H',Q (.bl true) H'
theorem ax5 {φ:Nat->Addr}{H:Hp}:∀ ns:List Int,RVL Γ φ H (ns.map DV.D.int) (ns.map V.int)
 | []=>.nil
 | n::ns=>.cons RV.intI (ax5 ns)
theorem ar8 {m:Nat}:∀ ns:List Int,jm m (ns.map DV.D.int)=true
 | []=>rfl
 | n::ns=>by rw[aL];unfold jm;rw[ar8 ns];rfl
theorem bz3 {P:jy}{k:Nat}(h:∀ ns:List Int,ns.length<=63->∃ s',(jt P k).call "law" [.ref 0] [.ro (ns.map DV.D.int)]=.ok (.bl true) s')(vs:List V)(H:Hp)(Q:VK)(E:XK)(q:spT Γ vs H Q E):spV Γ ((jt P k).call "law") vs H Q E:=by
 obtain⟨a,ns,rfl,z,hl,hT,y⟩:=q
 obtain⟨s',hs⟩:=h ns hl
 refine⟨fun _=>a,[.ro (ns.map DV.D.int)],[.ref 0],.bl true,s',⟨fun i j o C e e' m m' _=>?_,fun i o e=>?_,fun i o e=>?_,hT⟩,.cons RV.refI .nil,?_,hs,fun v φ' H' g l b r R=>?_⟩
 ·cases i with
  | zero=>cases e;cases m
  | succ i=>cases e
 ·cases i with
  | zero=>cases e;exact⟨_,z,ax5 ns⟩
  | succ i=>cases e
 ·cases i with
  | zero=>cases e;unfold jr;exact ar8 ns
  | succ i=>cases e
 ·unfold jm jq jm;rfl
 ·rw[r.blE];exact y H'
theorem aA0 {y:List (Addr×Addr)}{mg:Str->Option Value}:∀ {tbl:List (String×j9)},(∀ p∈tbl,Good Γ y mg p.1 p.2)->∀ f d,tbl.lookup f=some d->Good Γ y mg f d
 | [],_,f,d,h=>by cases h
 | (g,e)::tbl,H,f,d,h=>by
  rw[aS]at h
  cases q:f==g with
  | true =>
   rw[q]at h
   cases h
   rw[eq_of_beq q]
   exact H (g,_) (az ..)
  | false =>
   rw[q]at h
   exact aA0 (fun p z=>H p (ao _ z)) f d h
def bh5 (Γ:Gm)(mg:Str->Option Value)(x:String)(d:jl):Prop:=∃ v u,mg (x:Str)=some u/\RelV v u/\(∀ m,d.bnd m=true)/\∀ φ H,RV Γ φ H d v
theorem aJ0 {mg:Str->Option Value}:∀ {tbl:List (String×jl)},(∀ p∈tbl,bh5 Γ mg p.1 p.2)->∀ f d,tbl.lookup f=some d->bh5 Γ mg f d
 | [],_,f,d,h=>by cases h
 | (g,e)::tbl,H,f,d,h=>by
  rw[aS]at h
  cases q:f==g with
  | true =>
   rw[q]at h
   cases h
   rw[eq_of_beq q]
   exact H (g,_) (az ..)
  | false =>
   rw[q]at h
   exact aJ0 (fun p y=>H p (ao _ y)) f d h
end
theorem aD2 {P:aD}{w:World}{K:ab}{mg mb:Str->Option Value}{k:Nat}{fa a:Addr}{fd:bp}{x:Str}{sp:Sp}{C:ac}{vs:List Value}{ns:List Int}{tabs:List (Addr×Addr)}
  (KX:K.In C.heap) (b0:C.heap.Ns a8 mg) (hb:C.heap.Ns fc mb) (d1:∀ x:Str,x ≠ "__name__"->mb x=aY x) (c2:C.heap.NoLimit) (hg:C.gens=#[]) (e5:BM mg C.heap) (hT:iM tabs C.heap) (f1:iO K=true)
  (ha:C.heap.get? a=some { cls:=.type "list",data:=.seq vs.toArray }) (hi:ir vs ns) (hl:ns.length<=aA) (hr:Room k f7)
  (F:∀ Y:Heap,K.In Y->Y.Ns a8 mg->BM mg Y->(∀ q∈tabs,bD Y q.1 q.2)->FnOk P w K mg Y CX0 k fa fd [x] sp) (a6:∀(s:ac) (u:Value),ip s fd ⟨[u],[]⟩ [(x,u)])
  (f0:∀ H:Hp,(∀ q∈tabs,H q.2=some (.tbl #[]))->SqL K H a (ns.map V.int)->(∀ u,H a=some u->(∃ o xs,u=.frz o (.lst xs))\/∃ ps,u=.tbl ps)->sp [.ref a] H (fun v _=>v=.bl true) E0) :
  ed (model P w) f7 (.call (.ref fa) ⟨[.ref a],[]⟩) (fun r s'=>r=.ok (.ret (.bool true))/\OldK C.heap s'.heap/\s'.os=C.os/\d9 s'.gens) C:=by
 have rv:=as6 hi
 have c3:=hi.length
 have G:∀ b,b∈tabs.map (·.2)->C.heap.get? b=some (dg #[]):=fun b h=>by
  obtain⟨q,hq,rfl⟩:=aO.mp h
  exact(hT q hq).2
 have a1:∀ H:Hp,(∀ b u,H b=some u->(b=a/\∃ o xs,u=.frz o (.lst xs))\/(b∈tabs.map (·.2)/\u=.tbl #[]))->(∀ q∈tabs,H q.2=some (.tbl #[]))->SqL K H a (ns.map V.int)->HOk P w H C.heap->(H a≠none->K.lookup a=none) ->
   ed (model P w) f7 (.call (.ref fa) ⟨[.ref a],[]⟩) (fun r s'=>r=.ok (.ret (.bool true))/\OldK C.heap s'.heap/\s'.os=C.os/\d9 s'.gens) C:=by
  intro H hO e6 hS hok hK
  have un:∀ b o,C.heap.get? b=some o->o.cls≠.type "list"->(∀ vs,o.data≠.fields vs)->H b=none:=fun b o e n1 n2=>by
   cases q:H b with
   | none=>rfl
   | some u =>
    rcases hO b u q with⟨z,_⟩|⟨z,_⟩
    ·rw[z,ha]at e;cases e;exact absurd rfl n1
    ·rw[G b z]at e;cases e;exact absurd rfl (n2 #[])
  have a0:∀ {b:Addr} {m:Str->Option Value},C.heap.Ns b m->(aQ2 C.heap H).Ns b m:=fun {b m} ⟨o,es,ep,e,d,r⟩=>by
   refine⟨o,es,ep,af7 e ?_,d,r⟩
   cases q:H b with
   | none=>rfl
   | some u =>
    rcases hO b u q with⟨z,_⟩|⟨z,_⟩
    ·rw[z,ha]at e;cases e;cases d
    ·rw[G b z]at e;cases e;cases d
  have c0:K.In (aQ2 C.heap H):=fun b o e=>af7 (KX b o e) (by
   cases q:H b with
   | none=>rfl
   | some u =>
    rcases hO b u q with⟨z,_⟩|⟨z,_⟩
    ·subst z
     rw[hK (by rw[q];simp)]at e;cases e
    ·have e2:=KX b o e
     rw[G b z]at e2
     have h2:=aM.mp f1 (b,o) (PySem.W.mem_of_lookupK e)
     have e3:o=dg #[]:=(ay e2).symm
     subst e3
     exact absurd (show false=true from h2) aN)
  have hM:Mod K mg (aQ2 C.heap H):=⟨c0,a0 b0,⟨mb,a0 hb,d1⟩,let⟨mc,h1,h2⟩:=c2;⟨mc,a0 h1,h2⟩⟩
  have d0:BM mg (aQ2 C.heap H):=by
   obtain⟨bm,ob,b1,b2,b3,b4,b5,b6⟩:=e5
   exact⟨bm,ob,b1,b2,af7 b3 (un bm ob b3 (by rw[b4];nofun) (by rw[b6];nofun)),b4,b5,b6⟩
  have e4:∀ q∈tabs,bD (aQ2 C.heap H) q.1 q.2:=fun q hq=>by
   obtain⟨o,e7,c1,tf,a4,tg,d2,text,tt,e1,r1,r2⟩:=(hT q hq).1
   refine⟨o,e7,c1,tf,a4,tg,d2,text,tt,af7 e1 ?_,r1,r2⟩
   cases q2:H q.1 with
   | none=>rfl
   | some u =>
    rcases hO _ u q2 with⟨z,_⟩|⟨z,_⟩
    ·rw[z,ha]at e1;cases e1;exact absurd r1 (by simp)
    ·rw[G _ z]at e1;cases e1;exact absurd r1 (by simp)
  have e0:Env0 P w K mg (aQ2 C.heap H) f7 [] C H:=⟨rfl,hM,fun b o e=>bm8 e,Nat.le_of_eq (aI2 _ _),trivial,fun b hb=>absurd (show b∈([]:List Addr)from hb) (by simp),hok,.of_eq hg⟩
  refine dN ((F _ c0 (a0 b0) d0 e4).run f7 [] C H ⟨[.ref a],[]⟩ [.ref a] [.ref a] _ _ hr e0 (a6 C (.ref a)) (.cons rfl .nil) (f0 H e6 hS (fun u e=>(hO a u e).elim (fun z=>.inl z.2) (fun z=>.inr ⟨_,z.2⟩)))) fun r s' h=>?_
  cases r with
  | error e=>exact bo h
  | ok fl =>
   cases fl with
   | next=>exact bo h
   | brk=>exact bo h
   | cont=>exact bo h
   | ret u =>
    obtain⟨v,H',os,bare,a5,a2,r',q⟩:=h
    have q':v=.bl true:=q
    subst q'
    obtain rfl:u=Value.bool true:=r'
    have key:∀ b o,C.heap.get? b=some o->asItWas C.heap s'.heap b o/\∃ o',s'.heap.get? b=some o':=fun b o e=>by
     cases q:H b with
     | none =>
      have z:=a5.keep b o e q (by intro z;exact absurd (show b∈([]:List Addr)from z) (by simp)) (by simp)
      exact⟨.inl z,o,z⟩
     | some u =>
      rcases hO b u q with⟨_,ob,xs,z⟩|⟨z,z2⟩
      ·subst z
       have z2:=a5.frzs b ob _ q
       obtain⟨e1,_⟩:=hok b _ q
       obtain⟨e2,_⟩:=a2 b _ z2
       rw[e]at e1;cases e1
       exact⟨.inl e2,_,e2⟩
      ·subst z2
       obtain⟨a3,z3⟩:=a5.tbls b _ q
       have g:s'.heap.get? b=some { cls:=.none,data:=.fields (#[]++a3) }:=a2 b _ z3
       have e1:=G b z
       rw[e]at e1;cases e1
       obtain⟨p,hp,ep⟩:=aO.mp z
       refine⟨.inr (.inl ⟨?_,rfl,#[],a3,rfl,g⟩),_,g⟩
       have t:=((hT p hp).1.tab (hT p hp).2).isCodeTable
       rw[ep]at t
       exact t
    exact⟨rfl,⟨fun b o e=>(key b o e).1,fun b o e=>(key b o e).2⟩,os,bare⟩
 have tbl:∀ b,b∈tabs.map (·.2)->b≠a:=fun b h z=>by
  have e:=G b h
  rw[z,ha]at e;cases e
 cases hk:K.lookup a with
 | some o =>
  have e:=KX a o hk
  rw[ha]at e
  cases e
  refine a1 (fun b=>if b∈tabs.map (·.2)then some (.tbl #[])else none) (fun b u z=>?_) (fun q hq=>if_pos (a7 hq)) (.inr ⟨_,vs.toArray,_,hk,rfl,rfl,rfl,by rw[ar,c3];exact hl,by simpa using rv⟩) (fun b u z=>?_) fun z=>?_
  ·by_cases hb:b∈tabs.map (·.2)
   ·have J:=(if_pos hb).symm.trans z
    cases J
    exact .inr ⟨hb,rfl⟩
   ·have J:=(if_neg hb).symm.trans z
    cases J
  ·by_cases hb:b∈tabs.map (·.2)
   ·have J:=(if_pos hb).symm.trans z
    cases J
    exact G b hb
   ·have J:=(if_neg hb).symm.trans z
    cases J
  ·exact absurd (if_neg fun y=>tbl a y rfl) z
 | none =>
  refine a1 (fun b=>if b=a then some (.frz { cls:=.type "list",data:=.seq vs.toArray } (.lst (ns.map V.int)))else if b∈tabs.map (·.2)then some (.tbl #[])else none) (fun b u z=>?_) (fun q hq=>?_) (.inl (.inr ⟨{ cls:=.type "list",data:=.seq vs.toArray },if_pos rfl⟩)) (fun b u z=>?_) fun _=>hk
  ·by_cases hb:b=a
   ·have J:=(if_pos hb).symm.trans z
    cases J
    exact .inl ⟨hb,_,_,rfl⟩
   ·have J:=(if_neg hb).symm.trans z
    by_cases hc:b∈tabs.map (·.2)
    ·rw[if_pos hc]at J;cases J;exact .inr ⟨hc,rfl⟩
    ·rw[if_neg hc]at J;cases J
  ·have hm:q.2∈tabs.map (·.2):=a7 hq
   show(if _ then _ else if _ then _ else _)=_
   rw[if_neg (tbl _ hm),if_pos hm]
  ·by_cases hb:b=a
   ·have J:=(if_pos hb).symm.trans z
    cases J
    subst hb
    exact⟨ha,by rw[aI];exact hl,vs,_,rv,ha⟩
   ·have J:=(if_neg hb).symm.trans z
    by_cases hc:b∈tabs.map (·.2)
    ·rw[if_pos hc]at J;cases J;exact G b hc
    ·rw[if_neg hc]at J;cases J
theorem aK3 {ts:List Addr}{l:cn}{n k:Nat}{q:aD}{loose:List Str}{XP:(Str->Option Value)->Heap->Prop}{YP:World->Heap->Prop}{d:DefRec}{K:Params->ab}{sp:ab->Sp}{x:Str}(names:List Str)
  (hn:l.most=some n) (a5:n<=aA) (a3:d.params.defaults=[]) (hr:Room k f7)
  (hY:∀(w:World) (h:Heap),YP w h->(K w.params).In h/\∀ P∈ts,h.get? P=some (dg #[])) (a2:∀ w:World,bx4 (K w.params) names ts=true) (b1:∀ w:World,iO (K w.params)=true)
  (F:∀(w:World) (mg:Str->Option Value) (fa:Addr) (h:Heap),(K w.params).In h->h.Ns a8 mg->mg d.name=some (.ref fa) ->
   ∃ fd:bp,(∀(s:ac) (u:Value),ip s fd ⟨[u],[]⟩ [(x,u)]) /\
    ∀ C:Heap,(K w.params).In C->C.Ns a8 mg->BM mg C->bf9 (K w.params) names C->FnOk l.prog w (K w.params) mg C CX0 k fa fd [x] (sp (K w.params)))
  (a6:∀(K:ab) (H:Hp) (a:Addr) (ns:List Int),ns.length<=n->bn0 K names H->SqL K H a (ns.map V.int)->(∀ u,H a=some u->(∃ o xs,u=.frz o (.lst xs))\/∃ ps,u=.tbl ps)->sp K [.ref a] H (fun v _=>v=.bl true) E0) :
  iQ q loose XP YP l.row.toRowW d [] (fun f vs=>iu f vs):=by
 refine Att.attach_call hn a3 fun w s₀ s₁ mg mb fa o pm cd b2 a vs ns G Y ho hd b3 b0 a1 a0 J hg=>?_
 obtain⟨KX,a4⟩:=hY w _ Y
 obtain⟨fd,hb,hF⟩:=F w mg fa _ KX G.T.g b0
 have hT:iM ((as9 (K w.params) names).map (·.2)) s₁.heap:=fun p hp=>by
  obtain⟨y,hy,rfl⟩:=aO.mp hp
  obtain⟨h1,h2⟩:=ak6.mp hy
  have z:=aM.mp (a2 w) y.1 h1
  rw[h2]at z
  have z':(hG (K w.params) y.2.1 y.2.2&&ts.contains y.2.2)=true:=z
  rw[ag]at z'
  exact⟨PySem.W.codeHd_of_K KX z'.1,a4 _ (by simpa using z'.2)⟩
 have hm:∀ x∈names,∀ c P,aZ (K w.params) x=some (c,P)->(c,P)∈(as9 (K w.params) names).map (·.2):=fun x hx c P e=>aO.mpr ⟨(x,c,P),ak6.mpr ⟨hx,e⟩,rfl⟩
 refine aD2 (tabs:=(as9 (K w.params) names).map (·.2)) KX G.T.g G.T.b G.T.builtins G.T.nolimit hg ?_ hT (b1 w) a1 a0 (am J a5) hr (fun C k1 k2 k3 k4=>hF C k1 k2 k3 fun x hx c P e=>k4 _ (hm x hx c P e)) hb fun H hO hS hF=>a6 (K w.params) H a ns J (fun x hx c P e=>hO _ (hm x hx c P e)) hS hF
 obtain⟨bm,ob,h1,h2,h3,h4,h5,h6⟩:=G.T.bmain
 exact⟨bm,ob,h1,h2,h3,h4,h5,h6⟩
def spB (names:List Str)(K:ab):Sp:=fun vs H Q _=>∃(a:Addr) (ns:List Int),vs=[.ref a]/\SqF K H a (ns.map V.int)/\ns.length<=63/\bn0 K names H/\∀ H',Q (.bl true) H'
theorem bD5 {names:List Str}{K:ab}{H:Hp}{a:Addr}{ns:List Int}(hl:ns.length<=63)(J:bn0 K names H)(y:SqL K H a (ns.map V.int))(G:∀ u,H a=some u->(∃ o C,u=.frz o (.lst C))\/∃ ps,u=.tbl ps):spB names K [.ref a] H (fun v _=>v=.bl true) E0:=by
 refine⟨a,ns,rfl,⟨y,fun H' k=>?_⟩,hl,J,fun _=>rfl⟩
 rcases y with(h|⟨o,h⟩)|h
 ·rcases G _ h with⟨_,_,z⟩|⟨_,z⟩<;>cases z
 ·exact .inl (.inr ⟨o,k _ _ h rfl⟩)
 ·exact .inr h
def bR6 (P:jy):String->LamI->Prop:=fun id J=>∃ L,P.lm id=some L/\LamGood J L
noncomputable def sfx (x:Str):Str:=if x = "letter_table" then "least_fee" else "<lambda>"
noncomputable def bc6 (names:List Str)(K:ab):List (Addr×Str):=names.map fun x=>(((aZ K x).getD (0,0)).2,x ++ ".<locals>."++sfx x)
noncomputable def bq7 (names:List Str)(K:ab):List (Addr×Addr):=names.map fun x=>(aZ K x).getD (0,0)
noncomputable def bt1 (K:ab)(f:String):Option Addr:=match dm K a8 (f:Str)with
 | some (some (.ref a))=>(match K.lookup a with
  | some ⟨_,_,.func _,_⟩=>some a
  | _=>none)
 | _=>none
theorem bk0 {K:ab}{f:String}{a:Addr}{oc:Value}{od:Option Addr}{z:bp}{sl:Array (Option Value)}(y:dm K a8 (f:Str)=some (some (.ref a)))(h:K.lookup a=some ⟨oc,od,.func z,sl⟩):bt1 K f=some a:=by
 unfold bt1
 rw[y]
 simp only
 rw[h]
theorem aB9 {K:ab}{f:String}{a:Addr}(h:bt1 K f=some a):dm K a8 (f:Str)=some (some (.ref a))/\∃ oc od y sl,K.lookup a=some ⟨oc,od,.func y,sl⟩:=by
 unfold bt1 at h
 split at h
 ·rename_i z e
  split at h
  ·rename_i oc od y sl e2
   cases h
   exact⟨e,_,_,_,_,e2⟩
  ·cases h
 ·cases h
noncomputable abbrev aQ4 (names:List Str)(P:jy)(K:ab):Gm:=⟨K,bt1 K,bR6 P,bc6 names K⟩
theorem bM7 {names:List Str}{P:jy}{K:ab}{h:Heap}{mg:Str->Option Value}(X:K.In h)(G:h.Ns a8 mg):∀(f:String) (a:Addr),(aQ4 names P K).fa f=some a->mg (f:Str)=some (.ref a)/\∃ oc od y sl,(aQ4 names P K).K.lookup a=some ⟨oc,od,.func y,sl⟩:=fun f a e=>⟨cT X G (aB9 e).1,(aB9 e).2⟩
theorem br9 {names:List Str}{P:jy}{K:ab}{h:Heap}{mg:Str->Option Value}{f:String}{a:Addr}{oc:Value}{od:Option Addr}{C:bp}{sl:Array (Option Value)}(X:K.In h)(G:h.Ns a8 mg)(y:dm K a8 (f:Str)=some (some (.ref a)))(z:K.lookup a=some ⟨oc,od,.func C,sl⟩):bh5 (aQ4 names P K) mg f (.fn f) :=
 ⟨.ref a,.ref a,cT X G y,rfl,fun _=>rfl,fun φ H=>by unfold RV;exact⟨a,bk0 y z,rfl⟩⟩
theorem aX7 {names:List Str}{P:jy}{K:ab}(y:∀ x∈names,(aZ K x).isSome=true){vs:List V}{H:Hp}{Q:VK}{E:XK}(q:spB names K vs H Q E):spT (aQ4 names P K) vs H Q E:=by
 obtain⟨a,ns,e,z,hl,G,C⟩:=q
 refine⟨a,ns,e,z,hl,TabsH.init fun p h=>?_,C⟩
 simp only[bc6,gZ]at h
 obtain⟨x,hx,rfl⟩:=aO.mp h
 exact G x hx _ _ (an1 (y x hx))
theorem ba8 {names:List Str}{K:ab}{mg:Str->Option Value}{h:Heap}(z:∀ x∈names,(aZ K x).isSome=true)(bm:BM mg h)(hc:bf9 K names h):∀ y∈bq7 names K,bD h y.1 y.2/\BM mg h:=fun y hy=>by
 obtain⟨x,hx,rfl⟩:=aO.mp hy
 exact⟨hc x hx _ _ (an1 (z x hx)),bm⟩
noncomputable def an4:aV->Option (List Str)
 | ⟨[],args,none,[],[],none,[]⟩=>some (args.map (·.arg))
 | _=>none
theorem aj6 {p:aV}{ps:List Str}(h:an4 p=some ps):∃ args,p=⟨[],args,none,[],[],none,[]⟩/\args.map (·.arg)=ps:=by
 unfold an4 at h
 split at h
 ·exact⟨_,rfl,ay h⟩
 ·cases h
def aL8 (ps:List Str):Prop:=∀ params,an4 params=some ps->∀(qual:Str) (body:Expr) (scope:Scope) (clos:List (Str×Addr)) (doc pm:Value) (c':Addr) (ctv:Value) (us:List Value),us.length=ps.length->dB (bC "<lambda>" qual params body scope clos pm (.ref c') ctv) ⟨us,[]⟩=pure (ps.zip us) /\
 ∀(nm:Str) (rp:Pos),dB (bT nm qual params [.Return (some body) rp] scope clos .none .none doc pm none (.ref c') ctv) ⟨us,[]⟩=pure (ps.zip us)
noncomputable def aH6 (ps fr:List Str)(sc:Scope):Bool:=decide (sc.kind=.function)&&!sc.isCoroutine&&!sc.isGenerator&&decide ((ps++fr).Nodup)&&(ps.all fun x=>decide (sc.names.lookup x=some .local)||decide (sc.names.lookup x=some .cell))&&(fr.all fun x=>decide (sc.names.lookup x=some .free))&&(sc.names.all fun y=>!decide (y.2=.cell)||decide (sc.names.lookup y.1=some .cell))
theorem aM6 {ps fr:List Str}{sc:Scope}(h:aH6 ps fr sc=true):LamScope (ps++fr) ps fr sc:=by
 unfold aH6 at h
 simp only[ag,decide_eq_true_eq,eB,aM,bF]at h
 obtain⟨⟨⟨⟨⟨⟨G,C⟩,h3⟩,h4⟩,Y⟩,h6⟩,J⟩:=h
 exact⟨G,C,h3,h4,rfl,Y,h6,fun y hy e=>by
  rcases J y hy with z|z
  ·rw[e]at z;simp at z
  ·exact z⟩
noncomputable def bw5 (scope sc:Scope):Bool:=scope.names.all fun y=>!decide (scope.names.lookup y.1=some .free)||decide (sc.names.lookup y.1=some .cell)
theorem aU4 {scope sc:Scope}(h:bw5 scope sc=true):∀ x,scope.names.lookup x=some .free->sc.names.lookup x=some .cell:=fun x hx=>by
 have:=aM.mp h (x,.free) (au hx)
 simp only[bF,eB,decide_eq_false_iff_not,decide_eq_true_eq]at this
 rcases this with z|z
 ·exact absurd hx z
 ·exact z
noncomputable def lkB (sc:Scope)(N:List Str)(caps:List Nat)(params:aV)(body:Expr)(scope:Scope)(t:j8×List Str×List Str):Bool :=
 decide (an4 params=some t.2.1)&&decide (caps.map (fun j=>N[j]?)=t.2.2.map some)&&lamCheck scope sc&&bw5 scope sc&&aH6 t.2.1 t.2.2 scope&&decide (t.2.1.length=t.1.ps)&&decide (t.2.2.length=t.1.cs)&&mE (ck0 (t.2.1++t.2.2) scope) t.1.body body
noncomputable def lkG (f:Str)(sc:Scope)(N:List Str)(tab:List (String×j8×List Str×List Str))(id:String)(caps:List Nat)(E:Expr):Bool:=match tab.lookup id,E with
 | some t,.Lambda params body scope _=>decide (sfx f = "<lambda>")&&lkB sc N caps params body scope t
 | some t,.NamedExpr (.Name nm _) (.Lambda params body scope p1) p2=>decide (sfx f=nm)&&decide (p1=p2)&&lkB sc N caps params body scope t
 | _,_=>false
theorem bm7 {names:List Str}{P:jy}{K:ab}{f:Str}{sc:Scope}{N:List Str}{fd:bp}{tab:List (String×j8×List Str×List Str)}(hf:f∈names)(G:fd.code=.ref ((aZ K f).getD (0,0)).1)(a0:∀ y∈sc.names,y.2=.cell->sc.names.lookup y.1=some .cell)
  (Y:∀ id t,tab.lookup id=some t->P.lm id=some t.1/\aL8 t.2.1):bF5 (aQ4 names P K) (bq7 names K) f sc N fd (lkG f sc N tab):=by
 intro id z E h
 have C:∀(t:j8×List Str×List Str) (params:aV) (body:Expr) (scope:Scope) (nm:Option (Str×Pos)),tab.lookup id=some t->lkB sc N z params body scope t=true->(match nm with|none => "<lambda>" | some p=>p.1)=sfx f ->
   LkAt (aQ4 names P K) (bq7 names K) f sc N fd id z params body scope ((aZ K f).getD (0,0)).1 ((aZ K f).getD (0,0)).2 ⟨f ++ ".<locals>."++sfx f,params,body,scope,t.2.1,t.2.2,nm⟩:=fun t params body scope nm e h hs=>by
  obtain⟨L,ps,fr⟩:=t
  unfold lkB at h
  simp only[ag,decide_eq_true_eq]at h
  obtain⟨⟨⟨⟨⟨⟨⟨h1,h2⟩,h3⟩,h4⟩,h5⟩,h6⟩,h7⟩,h8⟩:=h
  obtain⟨hL,hB⟩:=Y id _ e
  obtain⟨args,rfl,a1⟩:=aj6 h1
  have J:fr.length=z.length:=by have:=congrArg jf h2;simpa using this.symm
  have S:=aM6 h5
  refine⟨G,aO.mpr ⟨f,hf,rfl⟩,h3,aU4 h4,a0,fun env=>rfl,⟨L,hL,⟨S,h6,h7,h8,fun a3 a5 pm c' a4 us a2=>hB _ h1 _ _ _ _ _ _ _ _ _ a2⟩⟩,?_,rfl,rfl,rfl,J,fun i j x e1 e2=>?_,S.frs,aO.mpr ⟨f,hf,rfl⟩⟩
  ·show f ++ ".<locals>."++sfx f=f ++ ".<locals>."++LamI.own _
   unfold LamI.own
   rw[<-hs]<;>rfl
  ·have e3:(z.map (fun j=>N[j]?))[i]?=some (N[j]?):=by rw[aG,e1];rfl
   rw[h2,aG,e2]at e3
   exact(ay e3).symm
 unfold lkG at h
 split at h
 case h_3=>cases h
 ·rename_i t params body scope pos e
  rw[ag]at h
  exact⟨_,_,params,body,scope,pos,_,rfl,C t params body scope none e h.2 (of_decide_eq_true h.1).symm⟩
 ·rename_i t nm rp params body scope p1 p2 e
  rw[ag,ag]at h
  have ep:=of_decide_eq_true h.1.2
  subst ep
  exact⟨_,_,params,body,scope,p1,_,rfl,C t params body scope (some (nm,rp)) e h.2 (of_decide_eq_true h.1.1).symm⟩
theorem aK0 {names:List Str}{P:jy}{K:ab}{f:Str}{sc:Scope}{N:List Str}{y:bp}:bF5 (aQ4 names P K) (bq7 names K) f sc N y (fun _ _ _=>false):=fun _ _ _ h=>by cases h
theorem bG8 {names:List Str}{P:jy}{K:ab}:∀ id J,(aQ4 names P K).lg id J->∃ L,P.lm id=some L/\LamGood J L:=fun _ _ h=>h
theorem bJ2 {P:jy}{tab:List (String×j8×List Str×List Str)}(h:∀ p∈tab,P.lm p.1=some p.2.1/\aL8 p.2.2.1):∀ id t,tab.lookup id=some t->P.lm id=some t.1/\aL8 t.2.1:=by
 induction tab with
 | nil=>intro id t e;cases e
 | cons y l ih =>
  intro id t e
  rw[aS]at e
  cases q:id==y.1 with
  | true =>
   rw[q]at e
   cases e
   rw[eq_of_beq q]
   exact h y (az ..)
  | false =>
   rw[q]at e
   exact ih (fun p z=>h p (ao _ z)) id t e
def bQ1 (K:ab)(n:Str)(st:Stmt):Prop:=∃(f:Addr) (od an:Option Addr) (sl:Array (Option Value)) (oc kV dc pm cd ct:Value),dm K a8 n=some (some (.ref f)) /\
 K.lookup f=some ⟨oc,od,.func (cf n n (defArgs st) (zD st) (defScope st) .none kV dc pm an cd ct),sl⟩/\dX K cd n=true/\bN K (.ref f)=true
def bP4 (n:Str)(st:Stmt)(ps:List Str):Prop:=∀(kV doc pm:Value) (an:Option Addr) (cdv ct:Value) (us:List Value),us.length=ps.length->dB (cf n n (defArgs st) (zD st) (defScope st) .none kV doc pm an cdv ct) ⟨us,[]⟩=pure (ps.zip us)
theorem bd0 {Q:List Value->Prop}(h:Q [])(us:List Value)(hl:us.length=0):Q us:=by
 cases us with
 | nil=>exact h
 | cons _ _=>cases hl
theorem bdS {k:Nat}{Q:List Value->Prop}(h:∀ a us,us.length=k->Q (a::us))(us:List Value)(hl:us.length=k+1):Q us:=by
 cases us with
 | nil=>cases hl
 | cons a us=>exact h a us (i3 hl)
theorem bd1 {Q:List Value->Prop}(h:∀ a,Q [a]):∀ us:List Value,us.length=1->Q us:=bdS fun a=>bd0 (h a)
theorem bd2 {Q:List Value->Prop}(h:∀ a b,Q [a,b]):∀ us:List Value,us.length=2->Q us:=bdS fun a=>bd1 (h a)
theorem bd3 {Q:List Value->Prop}(h:∀ a b c,Q [a,b,c]):∀ us:List Value,us.length=3->Q us:=bdS fun a=>bd2 (h a)
theorem bd4 {Q:List Value->Prop}(h:∀ a b c d,Q [a,b,c,d]):∀ us:List Value,us.length=4->Q us:=bdS fun a=>bd3 (h a)
def DT (names:List Str)(P:jy)(n:String)(d:j9)(st:Stmt):Prop:=∃ N ps,FnScope N ps (defScope st)/\ps.length=d.ps/\N.length=d.ps+d.vs/\bP4 n st ps/\(mSs ⟨N,defScope st,fun _ _ _=>false⟩ d.body (zD st)=true \/
 ((n:Str)∈names/\∃ tab,mSs ⟨N,defScope st,lkG n (defScope st) N tab⟩ d.body (zD st)=true/\(∀ y∈(defScope st).names,y.2=.cell->(defScope st).names.lookup y.1=some .cell)/\∀ p∈tab,P.lm p.1=some p.2.1/\aL8 p.2.2.1))
theorem good_of {names:List Str}{P:jy}{K:ab}{h:Heap}{mg:Str->Option Value}{n:String}{d:j9}{st:Stmt}(X:K.In h)(G:h.Ns a8 mg)(hT:∀ x∈names,(aZ K x).isSome=true)(hD:bQ1 K n st)(hd:DT names P n d st):Good (aQ4 names P K) (bq7 names K) mg n d:=by
 obtain⟨f,od,an,sl,oc,kV,dc,pm,cd,ct,a,l,c,k⟩:=hD
 obtain⟨N,ps,J,z,C,h4,y⟩:=hd
 have F:=ba4 (st:=st) l c k
 have D:DefAt K mg n st ps f _:=⟨F,cT X G a,F.binds h4⟩
 rcases y with y|⟨hn,tab,y,h6,Y⟩
 ·exact⟨_,_,_,_,_,_,D,J,z,C,y,aK0⟩
 ·exact⟨_,_,_,_,_,_,D,J,z,C,y,bm7 hn (PySem.W.law_code X G (an1 (hT _ hn)) (cT X G a) (X _ _ l) rfl) h6 (bJ2 Y)⟩
end L2
end
noncomputable section
namespace DV
noncomputable def ao2:Df:=⟨"_law_bag",2,3,(.cons (.asg (.one 2) (.cst (.int 0))) (.cons (.ite (.cmp .lt (.var 1) (.bi .len (.cons (.var 0) .nil))) (.cons (.asg (.one 2) (.bi .abs (.cons (.ix (.var 0) (.var 1)) .nil))) .nil) .nil) (.cons (.asg (.one 3) (.bin .add (.bin .mul (.cst (.int 7919)) (.var 1)) (.cst (.int 17)))) (.cons (.for_ (.one 4) (.rng1 (.bi .min2 (.cons (.bi .len (.cons (.var 0) .nil)) (.cons (.cst (.int 60)) .nil)))) (.cons (.asg (.one 3) (.bin .mod (.bin .add (.bin .add (.bin .mul (.var 3) (.cst (.int 48271))) (.bin .mod (.ix (.var 0) (.var 4)) (.cst (.int 2147483647)))) (.var 4)) (.cst (.int 2147483629)))) .nil)) (.cons (.ite (.cmp .lt (.var 2) (.bin .pow (.cst (.int 10)) (.cst (.int 18)))) (.cons (.asg (.one 2) (.cst (.int 0))) .nil) .nil) (.cons (.ret (.lst (.cons (.var 2) (.cons (.var 3) .nil)))) .nil))))))⟩
noncomputable def ac2:Df:=⟨"_law_take",2,3,(.cons (.ite (.cmp .gt (.ix (.var 0) (.cst (.int 0))) (.cst (.int 0))) (.cons (.asg (.one 2) (.bin .mod (.ix (.var 0) (.cst (.int 0))) (.var 1))) (.cons (.setIx (.var 0) (.cst (.int 0)) (.bin .fdiv (.ix (.var 0) (.cst (.int 0))) (.var 1))) (.cons (.ret (.var 2)) .nil))) .nil) (.cons (.asg (.one 3) (.cst (.int 0))) (.cons (.asg (.one 4) (.cst (.int 1))) (.cons (.whl (.cmp .lt (.var 4) (.var 1)) (.cons (.setIx (.var 0) (.cst (.int 1)) (.bin .mod (.bin .add (.bin .mul (.ix (.var 0) (.cst (.int 1))) (.cst (.int 48271))) (.cst (.int 7919))) (.cst (.int 2147483647)))) (.cons (.asg (.one 3) (.bin .add (.bin .mul (.var 3) (.cst (.int 1073741789))) (.bin .mod (.bin .mul (.bin .fdiv (.ix (.var 0) (.cst (.int 1))) (.cst (.int 8))) (.cst (.int 69621))) (.cst (.int 1073741789))))) (.cons (.asg (.one 4) (.bin .mul (.var 4) (.cst (.int 1073741789)))) .nil)))) (.cons (.ret (.bin .mod (.var 3) (.var 1))) .nil)))))⟩
noncomputable def bl7:Df:=⟨"_law_rooms",2,1,(.cons (.asg (.one 2) (.call "_law_take" (.ex (.var 0) (.ex (.bin .shl (.cst (.int 1)) (.var 1)) .nil)))) (.cons (.ret (.mk .tuple (.compIf (.one 0) (.rng1 (.var 1)) (.cmp .eq (.bin .mod (.bin .fdiv (.var 1) (.bin .shl (.cst (.int 1)) (.var 0))) (.cst (.int 2))) (.cst (.int 1))) (.var 0) [none,some 2]))) .nil))⟩
noncomputable def aP8:Df:=⟨"_law_machine",1,5,(.cons (.asg (.one 1) (.bin .add (.cst (.int 1)) (.call "_law_take" (.ex (.var 0) (.ex (.cst (.int 3)) .nil))))) (.cons (.asg (.one 2) (.bin .add (.cst (.int 1)) (.call "_law_take" (.ex (.var 0) (.ex (.cst (.int 5)) .nil))))) (.cons (.asg (.one 3) (.call "_law_take" (.ex (.var 0) (.ex (.cst (.int 13)) .nil)))) (.cons (.ite (.cmp .eq (.call "_law_take" (.ex (.var 0) (.ex (.cst (.int 8)) .nil))) (.cst (.int 7))) (.cons (.asg (.one 3) (.call "_law_take" (.ex (.var 0) (.ex (.cst (.int 76)) .nil)))) .nil) .nil) (.cons (.asg (.one 4) (.lst .nil)) (.cons (.for_ (.one 5) (.rng1 (.var 3)) (.cons (.ex (.meth .append (.var 4) (.cons (.tup (.cons (.call "_law_take" (.ex (.var 0) (.ex (.var 2) .nil))) (.cons (.ix (.cst (.str [97,98,99])) (.call "_law_take" (.ex (.var 0) (.ex (.var 1) .nil)))) (.cons (.call "_law_take" (.ex (.var 0) (.ex (.var 2) .nil))) (.cons (.call "_law_take" (.ex (.var 0) (.ex (.cst (.int 4)) .nil))) .nil))))) .nil))) .nil)) (.cons (.ret (.tup (.cons (.var 1) (.cons (.var 2) (.cons (.call "_law_rooms" (.ex (.var 0) (.ex (.var 2) .nil))) (.cons (.call "_law_rooms" (.ex (.var 0) (.ex (.var 2) .nil))) (.cons (.mk .tuple (.seq (.var 4))) .nil))))))) .nil)))))))⟩
noncomputable def bt8:Df:=⟨"_law_word",3,2,(.cons (.asg (.one 3) (.cst (.str []))) (.cons (.for_ (.one 4) (.rng1 (.call "_law_take" (.ex (.var 0) (.ex (.bin .add (.var 2) (.cst (.int 1))) .nil)))) (.cons (.asg (.one 3) (.bin .add (.var 3) (.ix (.cst (.str [97,98,99])) (.call "_law_take" (.ex (.var 0) (.ex (.var 1) .nil)))))) .nil)) (.cons (.ret (.var 3)) .nil)))⟩
noncomputable def ql:Df:=⟨"rooms_of",1,0,(.cons (.ret (.ix (.var 0) (.cst (.int 1)))) .nil)⟩
noncomputable def ai3:Df:=⟨"begins_of",1,0,(.cons (.ret (.ix (.var 0) (.cst (.int 2)))) .nil)⟩
noncomputable def ap5:Df:=⟨"ends_of",1,0,(.cons (.ret (.ix (.var 0) (.cst (.int 3)))) .nil)⟩
noncomputable def qk:Df:=⟨"doors_of",1,0,(.cons (.ret (.ix (.var 0) (.cst (.int 4)))) .nil)⟩
noncomputable def aa8:Df:=⟨"grid",2,2,(.cons (.asg (.one 2) (.lst .nil)) (.cons (.for_ (.one 3) (.rng1 (.var 0)) (.cons (.ex (.meth .append (.var 2) (.cons (.mk .tuple (.comp (.one 0) (.rng1 (.var 0)) (.callV 1 (.cons (.var 2) (.cons (.var 0) .nil))) [none,some 1,some 3])) .nil))) .nil)) (.cons (.ret (.mk .tuple (.seq (.var 2)))) .nil)))⟩
noncomputable def aa9:Df:=⟨"least",1,0,(.cons (.ret (.mkD .min (.compIf (.one 0) (.seq (.var 0)) (.notN (.var 0)) (.var 0) [none]) (.cst .non))) .nil)⟩
noncomputable def ab3:Df:=⟨"added",2,0,(.cons (.ite (.or (.isN (.var 0)) (.isN (.var 1))) (.cons (.ret (.cst .non)) .nil) .nil) (.cons (.ret (.bin .add (.var 0) (.var 1))) .nil))⟩
noncomputable def ab5:Df:=⟨"plain",1,0,(.cons (.ret (.callC "grid" (.ex (.var 0) (.lam "plain.0" [] .nil)))) .nil)⟩
noncomputable def aa5:Lm:=⟨"plain.0",2,0,(.ite (.cmp .eq (.var 0) (.var 1)) (.cst (.int 0)) (.cst .non))⟩
noncomputable def aa6:Df:=⟨"product",2,1,(.cons (.asg (.one 2) (.bi .len (.cons (.var 0) .nil))) (.cons (.ret (.callC "grid" (.ex (.var 2) (.lam "product.0" [2,0,1] .nil)))) .nil))⟩
noncomputable def aa2:Lm:=⟨"product.0",2,3,(.call "least" (.ex (.mk .list (.comp (.one 0) (.rng1 (.var 2)) (.call "added" (.ex (.ix (.ix (.var 1) (.var 2)) (.var 0)) (.ex (.ix (.ix (.var 3) (.var 0)) (.var 4)) .nil))) [none,some 3,some 0,some 4,some 1])) .nil))⟩
noncomputable def ac8:Df:=⟨"_law_table",2,6,(.cons (.asg (.one 2) (.ix (.lst (.cons (.cst (.int 6)) (.cons (.cst (.int 6)) (.cons (.bin .pow (.cst (.int 10)) (.cst (.int 9))) (.cons (.bin .pow (.cst (.int 10)) (.cst (.int 60))) .nil))))) (.call "_law_take" (.ex (.var 0) (.ex (.cst (.int 4)) .nil))))) (.cons (.asg (.one 3) (.lst .nil)) (.cons (.for_ (.one 4) (.rng1 (.var 1)) (.cons (.asg (.one 5) (.tup .nil)) (.cons (.for_ (.one 6) (.rng1 (.var 1)) (.cons (.asg (.one 7) (.cst .non)) (.cons (.ite (.cmp .gt (.call "_law_take" (.ex (.var 0) (.ex (.cst (.int 3)) .nil))) (.cst (.int 0))) (.cons (.asg (.one 7) (.call "_law_take" (.ex (.var 0) (.ex (.var 2) .nil)))) .nil) .nil) (.cons (.asg (.one 5) (.bin .add (.var 5) (.tup (.cons (.var 7) .nil)))) .nil)))) (.cons (.ex (.meth .append (.var 3) (.cons (.var 5) .nil))) .nil)))) (.cons (.ret (.mk .tuple (.seq (.var 3)))) .nil))))⟩
noncomputable def ab0:Df:=⟨"_law_product",2,6,(.cons (.asg (.one 2) (.lst .nil)) (.cons (.for_ (.one 3) (.rng1 (.bi .len (.cons (.var 0) .nil))) (.cons (.asg (.one 4) (.tup .nil)) (.cons (.for_ (.one 5) (.rng1 (.bi .len (.cons (.var 0) .nil))) (.cons (.asg (.one 6) (.cst .non)) (.cons (.for_ (.one 7) (.rng1 (.bi .len (.cons (.var 0) .nil))) (.cons (.ite (.and (.notN (.ix (.ix (.var 0) (.var 3)) (.var 7))) (.notN (.ix (.ix (.var 1) (.var 7)) (.var 5)))) (.cons (.ite (.or (.isN (.var 6)) (.cmp .lt (.bin .add (.ix (.ix (.var 0) (.var 3)) (.var 7)) (.ix (.ix (.var 1) (.var 7)) (.var 5))) (.var 6))) (.cons (.asg (.one 6) (.bin .add (.ix (.ix (.var 0) (.var 3)) (.var 7)) (.ix (.ix (.var 1) (.var 7)) (.var 5)))) .nil) .nil) .nil) .nil) .nil)) (.cons (.asg (.one 4) (.bin .add (.var 4) (.tup (.cons (.var 6) .nil)))) .nil)))) (.cons (.ex (.meth .append (.var 2) (.cons (.var 4) .nil))) .nil)))) (.cons (.ret (.mk .tuple (.seq (.var 2)))) .nil)))⟩
noncomputable def ab7:Df:=⟨"_law_same",2,2,(.cons (.ite (.or (.not (.bi .isTup (.cons (.var 0) .nil))) (.cmp .ne (.bi .len (.cons (.var 0) .nil)) (.bi .len (.cons (.var 1) .nil)))) (.cons (.ret (.cst (.bl false))) .nil) .nil) (.cons (.for_ (.one 2) (.rng1 (.bi .len (.cons (.var 1) .nil))) (.cons (.ite (.or (.not (.bi .isTup (.cons (.ix (.var 0) (.var 2)) .nil))) (.cmp .ne (.bi .len (.cons (.ix (.var 0) (.var 2)) .nil)) (.bi .len (.cons (.var 1) .nil)))) (.cons (.ret (.cst (.bl false))) .nil) .nil) (.cons (.for_ (.one 3) (.seq (.ix (.var 0) (.var 2))) (.cons (.ite (.and (.notN (.var 3)) (.or (.not (.bi .isInt (.cons (.var 3) .nil))) (.bi .isBool (.cons (.var 3) .nil)))) (.cons (.ret (.cst (.bl false))) .nil) .nil) .nil)) .nil))) (.cons (.ret (.cmp .eq (.var 0) (.var 1))) .nil)))⟩
noncomputable def ab2:Df:=⟨"raised",4,3,(.cons (.asg (.one 4) (.var 2)) (.cons (.asg (.one 5) (.var 0)) (.cons (.asg (.one 6) (.var 1)) (.cons (.whl (.cmp .gt (.var 6) (.cst (.int 0))) (.cons (.ite (.cmp .eq (.bin .mod (.var 6) (.cst (.int 2))) (.cst (.int 1))) (.cons (.asg (.one 4) (.callV 3 (.cons (.var 4) (.cons (.var 5) .nil)))) .nil) .nil) (.cons (.asg (.one 6) (.bin .fdiv (.var 6) (.cst (.int 2)))) (.cons (.ite (.cmp .gt (.var 6) (.cst (.int 0))) (.cons (.asg (.one 5) (.callV 3 (.cons (.var 5) (.cons (.var 5) .nil)))) .nil) .nil) .nil)))) (.cons (.ret (.var 4)) .nil)))))⟩
noncomputable def ac3:Df:=⟨"power",2,0,(.cons (.ret (.call "raised" (.ex (.var 0) (.ex (.var 1) (.ex (.call "plain" (.ex (.bi .len (.cons (.var 0) .nil)) .nil)) (.ex (.glob "product") .nil)))))) .nil)⟩
noncomputable def ac7:Df:=⟨"_law_power",2,3,(.cons (.asg (.one 2) (.bi .len (.cons (.var 0) .nil))) (.cons (.asg (.one 3) (.mk .tuple (.comp (.one 0) (.rng1 (.var 2)) (.mk .tuple (.comp (.one 0) (.rng1 (.var 1)) (.ix (.lst (.cons (.cst .non) (.cons (.cst (.int 0)) .nil))) (.bi .int (.cons (.cmp .eq (.var 1) (.var 0)) .nil))) [none,some 0])) [none,some 2]))) (.cons (.for_ (.one 4) (.seq (.rev (.lrng (.bitl (.var 1))))) (.cons (.asg (.one 3) (.call "_law_product" (.ex (.var 3) (.ex (.var 3) .nil)))) (.cons (.ite (.cmp .eq (.bin .band (.bin .shr (.var 1) (.var 4)) (.cst (.int 1))) (.cst (.int 1))) (.cons (.asg (.one 3) (.call "_law_product" (.ex (.var 3) (.ex (.var 0) .nil)))) .nil) .nil) .nil))) (.cons (.ret (.var 3)) .nil))))⟩
noncomputable def ab1:Df:=⟨"law",1,5,(.cons (.for_ (.one 1) (.rng1 (.bin .add (.bi .min2 (.cons (.bi .len (.cons (.var 0) .nil)) (.cons (.cst (.int 3)) .nil))) (.cst (.int 1)))) (.cons (.asg (.one 2) (.call "_law_bag" (.ex (.var 0) (.ex (.var 1) .nil)))) (.cons (.asg (.one 3) (.call "_law_table" (.ex (.var 2) (.ex (.bin .add (.cst (.int 1)) (.call "_law_take" (.ex (.var 2) (.ex (.cst (.int 3)) .nil)))) .nil)))) (.cons (.for_ (.one 4) (.seq (.lst (.cons (.call "_law_take" (.ex (.var 2) (.ex (.cst (.int 10)) .nil))) (.cons (.call "_law_take" (.ex (.var 2) (.ex (.bin .pow (.cst (.int 10)) (.cst (.int 60))) .nil))) (.cons (.cst (.int 0)) (.cons (.cst (.int 1)) .nil)))))) (.cons (.ite (.not (.call "_law_same" (.ex (.call "power" (.ex (.var 3) (.ex (.var 4) .nil))) (.ex (.call "_law_power" (.ex (.var 3) (.ex (.var 4) .nil))) .nil)))) (.cons (.ret (.cst (.bl false))) .nil) .nil) .nil)) (.cons (.ite (.cmp .eq (.var 1) (.cst (.int 0))) (.cons (.asg (.one 5) (.call "_law_table" (.ex (.var 2) (.ex (.bin .add (.cst (.int 4)) (.call "_law_take" (.ex (.var 2) (.ex (.cst (.int 2)) .nil)))) .nil)))) (.cons (.asg (.one 4) (.call "_law_take" (.ex (.var 2) (.ex (.cst (.int 13)) .nil)))) (.cons (.ite (.not (.call "_law_same" (.ex (.call "power" (.ex (.var 5) (.ex (.var 4) .nil))) (.ex (.call "_law_power" (.ex (.var 5) (.ex (.var 4) .nil))) .nil)))) (.cons (.ret (.cst (.bl false))) .nil) .nil) .nil))) .nil) .nil))))) (.cons (.ret (.cst (.bl true))) .nil))⟩
noncomputable def zB:Df:=⟨"letter_table",2,1,(.cons (.und 2) (.cons (.ret (.callC "grid" (.ex (.call "rooms_of" (.ex (.var 0) .nil)) (.lam "letter_table.least_fee" [0,1] .nil)))) .nil))⟩
noncomputable def zn:Lm:=⟨"letter_table.least_fee",2,2,(.call "least" (.ex (.mk .list (.compIf (.tup [0,1,2,3]) (.seq (.call "doors_of" (.ex (.var 2) .nil))) (.cmp .eq (.tup (.cons (.var 0) (.cons (.var 1) (.cons (.var 2) .nil)))) (.tup (.cons (.var 4) (.cons (.var 5) (.cons (.var 6) .nil))))) (.var 3) [none,none,none,none,some 0,some 3,some 1])) .nil))⟩
noncomputable def qe:Df:=⟨"word_table",2,3,(.cons (.asg (.one 2) (.dic .nil .nil)) (.cons (.asg (.one 3) (.call "plain" (.ex (.call "rooms_of" (.ex (.var 0) .nil)) .nil))) (.cons (.for_ (.one 4) (.seq (.var 1)) (.cons (.ite (.cmp .notin (.var 4) (.var 2)) (.cons (.setIx (.var 2) (.var 4) (.call "letter_table" (.ex (.var 0) (.ex (.var 4) .nil)))) .nil) .nil) (.cons (.asg (.one 3) (.call "product" (.ex (.var 3) (.ex (.ix (.var 2) (.var 4)) .nil)))) .nil))) (.cons (.ret (.var 3)) .nil))))⟩
noncomputable def aw3:Df:=⟨"_law_from_room",3,7,(.cons (.asg (.one 3) (.mk .list (.comp (.one 0) (.rng1 (.ix (.var 0) (.cst (.int 1)))) (.cst .non) [none]))) (.cons (.setIx (.var 3) (.var 2) (.cst (.int 0))) (.cons (.for_ (.one 4) (.seq (.var 1)) (.cons (.asg (.one 5) (.mk .list (.comp (.one 0) (.seq (.var 3)) (.cst .non) [none]))) (.cons (.for_ (.tup [6,7,8,9]) (.seq (.ix (.var 0) (.cst (.int 4)))) (.cons (.ite (.and (.cmp .eq (.var 7) (.var 4)) (.notN (.ix (.var 3) (.var 6)))) (.cons (.ite (.or (.isN (.ix (.var 5) (.var 8))) (.cmp .lt (.bin .add (.ix (.var 3) (.var 6)) (.var 9)) (.ix (.var 5) (.var 8)))) (.cons (.setIx (.var 5) (.var 8) (.bin .add (.ix (.var 3) (.var 6)) (.var 9))) .nil) .nil) .nil) .nil) .nil)) (.cons (.asg (.one 3) (.var 5)) .nil)))) (.cons (.ret (.mk .tuple (.seq (.var 3)))) .nil))))⟩
noncomputable def aN9:Df:=⟨"law",1,7,(.cons (.for_ (.one 1) (.rng1 (.bin .add (.bi .min2 (.cons (.bi .len (.cons (.var 0) .nil)) (.cons (.cst (.int 3)) .nil))) (.cst (.int 1)))) (.cons (.asg (.one 2) (.call "_law_bag" (.ex (.var 0) (.ex (.var 1) .nil)))) (.cons (.asg (.one 3) (.call "_law_machine" (.ex (.var 2) .nil))) (.cons (.asg (.one 4) (.call "_law_word" (.ex (.var 2) (.ex (.ix (.var 3) (.cst (.int 0))) (.ex (.ix (.lst (.cons (.cst (.int 10)) (.cons (.cst (.int 10)) (.cons (.cst (.int 10)) (.cons (.ix (.lst (.cons (.cst (.int 30)) (.cons (.cst (.int 200)) .nil))) (.bi .int (.cons (.cmp .eq (.var 1) (.cst (.int 0))) .nil))) .nil))))) (.call "_law_take" (.ex (.var 2) (.ex (.cst (.int 4)) .nil)))) .nil))))) (.cons (.asg (.one 5) (.lst (.cons (.var 4) (.cons (.cst (.str [])) (.cons (.rev (.var 4)) (.cons (.var 4) .nil)))))) (.cons (.ite (.cmp .gt (.bi .len (.cons (.var 4) .nil)) (.cst (.int 60))) (.cons (.asg (.one 5) (.lst (.cons (.var 4) .nil))) .nil) .nil) (.cons (.for_ (.one 6) (.seq (.var 5)) (.cons (.asg (.one 7) (.mk .tuple (.comp (.one 0) (.rng1 (.ix (.var 3) (.cst (.int 1)))) (.call "_law_from_room" (.ex (.var 1) (.ex (.var 2) (.ex (.var 0) .nil)))) [none,some 3,some 6]))) (.cons (.ite (.not (.call "_law_same" (.ex (.call "word_table" (.ex (.var 3) (.ex (.var 6) .nil))) (.ex (.var 7) .nil)))) (.cons (.ret (.cst (.bl false))) .nil) .nil) .nil))) .nil))))))) (.cons (.ret (.cst (.bl true))) .nil))⟩
noncomputable def zR:Df:=⟨"at_begins_and_ends",2,2,(.cons (.asg (.one 2) (.lst .nil)) (.cons (.for_ (.one 3) (.seq (.call "begins_of" (.ex (.var 0) .nil))) (.cons (.ex (.ext (.var 2) (.comp (.one 0) (.seq (.call "ends_of" (.ex (.var 0) .nil))) (.ix (.ix (.var 1) (.var 2)) (.var 0)) [none,some 1,some 3]))) .nil)) (.cons (.ret (.var 2)) .nil)))⟩
noncomputable def bl2:Df:=⟨"price",2,0,(.cons (.ret (.call "least" (.ex (.call "at_begins_and_ends" (.ex (.var 0) (.ex (.call "word_table" (.ex (.var 0) (.ex (.var 1) .nil))) .nil))) .nil))) .nil)⟩
noncomputable def aM0:Df:=⟨"sign_of",1,0,(.cons (.ite (.isN (.var 0)) (.cons (.ret (.glob "NONE")) .nil) .nil) (.cons (.ret (.ite (.cmp .eq (.var 0) (.cst (.int 0))) (.glob "FREE") (.glob "SOME"))) .nil))⟩
noncomputable def aQ0:Df:=⟨"reading",1,0,(.cons (.ret (.callC "grid" (.ex (.bi .len (.cons (.var 0) .nil)) (.lam "reading.0" [0] .nil)))) .nil)⟩
noncomputable def ar0:Lm:=⟨"reading.0",2,1,(.call "sign_of" (.ex (.ix (.ix (.var 2) (.var 0)) (.var 1)) .nil))⟩
noncomputable def ad8:Df:=⟨"plain_signs",1,0,(.cons (.ret (.callC "grid" (.ex (.var 0) (.lam "plain_signs.0" [] .nil)))) .nil)⟩
noncomputable def qt:Lm:=⟨"plain_signs.0",2,0,(.ite (.cmp .eq (.var 0) (.var 1)) (.glob "FREE") (.glob "NONE"))⟩
noncomputable def bE3:Df:=⟨"_law_box",2,4,(.cons (.asg (.one 2) (.cst (.int 0))) (.cons (.ite (.cmp .lt (.var 1) (.bi .len (.cons (.var 0) .nil))) (.cons (.asg (.one 2) (.bi .abs (.cons (.ix (.var 0) (.var 1)) .nil))) .nil) .nil) (.cons (.ite (.cmp .ge (.var 2) (.bin .pow (.cst (.int 10)) (.cst (.int 18)))) (.cons (.ret (.lst (.cons (.var 2) .nil))) .nil) .nil) (.cons (.asg (.one 3) (.cst (.int 0))) (.cons (.for_ (.one 4) (.rng1 (.cst (.int 128))) (.cons (.asg (.one 5) (.bin .mod (.bin .mul (.bin .add (.bin .add (.bin .add (.bin .mod (.var 2) (.cst (.int 2147483647))) (.bin .mul (.cst (.int 7919)) (.var 1))) (.bin .mul (.cst (.int 104729)) (.var 4))) (.cst (.int 97))) (.cst (.int 48271))) (.cst (.int 2147483647)))) (.cons (.asg (.one 3) (.bin .add (.bin .mul (.var 3) (.cst (.int 2147483647))) (.bin .mod (.bin .add (.bin .add (.bin .mul (.var 5) (.var 5)) (.bin .mul (.cst (.int 31)) (.var 4))) (.bin .fdiv (.var 2) (.cst (.int 2147483647)))) (.cst (.int 2147483647))))) .nil))) (.cons (.ret (.lst (.cons (.var 3) .nil))) .nil))))))⟩
noncomputable def aG3:Df:=⟨"_law_draw",2,1,(.cons (.asg (.one 2) (.bin .mod (.ix (.var 0) (.cst (.int 0))) (.var 1))) (.cons (.setIx (.var 0) (.cst (.int 0)) (.bin .fdiv (.ix (.var 0) (.cst (.int 0))) (.var 1))) (.cons (.ret (.var 2)) .nil)))⟩
noncomputable def bD3:Df:=⟨"_law_form",2,2,(.cons (.ite (.or (.not (.bi .isTup (.cons (.var 0) .nil))) (.cmp .ne (.bi .len (.cons (.var 0) .nil)) (.var 1))) (.cons (.ret (.cst (.bl false))) .nil) .nil) (.cons (.for_ (.one 2) (.seq (.var 0)) (.cons (.ite (.or (.not (.bi .isTup (.cons (.var 2) .nil))) (.cmp .ne (.bi .len (.cons (.var 2) .nil)) (.var 1))) (.cons (.ret (.cst (.bl false))) .nil) .nil) (.cons (.for_ (.one 3) (.seq (.var 2)) (.cons (.ite (.or (.not (.bi .isInt (.cons (.var 3) .nil))) (.bi .isBool (.cons (.var 3) .nil))) (.cons (.ret (.cst (.bl false))) .nil) .nil) .nil)) .nil))) (.cons (.ret (.cst (.bl true))) .nil)))⟩
noncomputable def zu:Df:=⟨"sign_product",2,1,(.cons (.asg (.one 2) (.bi .len (.cons (.var 0) .nil))) (.cons (.ret (.callC "grid" (.ex (.var 2) (.lam "sign_product.0" [2,0,1] .nil)))) .nil))⟩
noncomputable def zl:Lm:=⟨"sign_product.0",2,3,(.mk .min (.comp (.one 0) (.rng1 (.var 2)) (.bi .max2 (.cons (.ix (.ix (.var 1) (.var 2)) (.var 0)) (.cons (.ix (.ix (.var 3) (.var 0)) (.var 4)) .nil))) [none,some 3,some 0,some 4,some 1]))⟩
noncomputable def au0:Df:=⟨"_law_signs",2,6,(.cons (.asg (.one 2) (.call "_law_draw" (.ex (.var 0) (.ex (.cst (.int 4)) .nil)))) (.cons (.asg (.one 3) (.lst .nil)) (.cons (.for_ (.one 4) (.rng1 (.var 1)) (.cons (.asg (.one 5) (.lst .nil)) (.cons (.for_ (.one 6) (.rng1 (.var 1)) (.cons (.asg (.one 7) (.call "_law_draw" (.ex (.var 0) (.ex (.cst (.int 4)) .nil)))) (.cons (.ite (.or (.and (.cmp .eq (.var 2) (.cst (.int 1))) (.cmp .gt (.call "_law_draw" (.ex (.var 0) (.ex (.cst (.int 3)) .nil))) (.cst (.int 0)))) (.and (.cmp .eq (.var 2) (.cst (.int 2))) (.cmp .gt (.var 4) (.var 6)))) (.cons (.asg (.one 7) (.cst (.int 3))) .nil) .nil) (.cons (.ite (.and (.cmp .eq (.var 2) (.cst (.int 3))) (.and (.cmp .ne (.var 6) (.bin .mod (.bin .add (.var 4) (.cst (.int 1))) (.var 1))) (.cmp .gt (.call "_law_draw" (.ex (.var 0) (.ex (.cst (.int 4)) .nil))) (.cst (.int 0))))) (.cons (.asg (.one 7) (.cst (.int 3))) .nil) .nil) (.cons (.ex (.meth .append (.var 5) (.cons (.var 7) .nil))) .nil))))) (.cons (.ex (.meth .append (.var 3) (.cons (.mk .tuple (.seq (.var 5))) .nil))) .nil)))) (.cons (.ret (.mk .tuple (.seq (.var 3)))) .nil))))⟩
noncomputable def ah9:Df:=⟨"_law_product",2,4,(.cons (.asg (.one 2) (.lst .nil)) (.cons (.for_ (.one 3) (.seq (.var 0)) (.cons (.asg (.one 4) (.mk .list (.comp (.one 0) (.seq (.var 3)) (.cst (.int 3)) [none]))) (.cons (.for_ (.one 5) (.rng1 (.bi .len (.cons (.var 3) .nil))) (.cons (.ite (.cmp .lt (.ix (.var 3) (.var 5)) (.cst (.int 3))) (.cons (.asg (.one 4) (.mk .list (.comp (.one 0) (.rng1 (.bi .len (.cons (.var 3) .nil))) (.bi .min2 (.cons (.ix (.var 1) (.var 0)) (.cons (.bi .max2 (.cons (.ix (.var 2) (.var 3)) (.cons (.ix (.ix (.var 4) (.var 3)) (.var 0)) .nil))) .nil))) [none,some 4,some 3,some 5,some 1]))) .nil) .nil) .nil)) (.cons (.ex (.meth .append (.var 2) (.cons (.mk .tuple (.seq (.var 4))) .nil))) .nil)))) (.cons (.ret (.mk .tuple (.seq (.var 2)))) .nil)))⟩
noncomputable def ae8:Df:=⟨"sign_power",2,0,(.cons (.ret (.call "raised" (.ex (.var 0) (.ex (.var 1) (.ex (.call "plain_signs" (.ex (.bi .len (.cons (.var 0) .nil)) .nil)) (.ex (.glob "sign_product") .nil)))))) .nil)⟩
noncomputable def bc0:Df:=⟨"_law_unit",1,0,(.cons (.ret (.mk .tuple (.comp (.one 0) (.rng1 (.var 0)) (.mk .tuple (.comp (.one 0) (.rng1 (.var 1)) (.bin .mul (.cst (.int 3)) (.bi .int (.cons (.cmp .ne (.var 1) (.var 0)) .nil))) [none,some 0])) [none,some 0]))) .nil)⟩
noncomputable def aJ1:Df:=⟨"_law_round",1,2,(.cons (.asg (.one 1) (.lst (.cons (.call "_law_unit" (.ex (.bi .len (.cons (.var 0) .nil)) .nil)) .nil))) (.cons (.whl (.cst (.bl true)) (.cons (.asg (.one 2) (.call "_law_product" (.ex (.ix (.var 1) (.neg (.cst (.int 1)))) (.ex (.var 0) .nil)))) (.cons (.ite (.cmp .isin (.var 2) (.var 1)) (.cons (.ret (.tup (.cons (.var 1) (.cons (.meth .index (.var 1) (.cons (.var 2) .nil)) .nil)))) .nil) .nil) (.cons (.ex (.meth .append (.var 1) (.cons (.var 2) .nil))) .nil)))) .nil))⟩
noncomputable def bo9:Df:=⟨"_law_due",3,0,(.cons (.ite (.cmp .lt (.var 2) (.bi .len (.cons (.var 0) .nil))) (.cons (.ret (.ix (.var 0) (.var 2))) .nil) .nil) (.cons (.ret (.ix (.var 0) (.bin .add (.var 1) (.bin .mod (.bin .sub (.var 2) (.var 1)) (.bin .sub (.bi .len (.cons (.var 0) .nil)) (.var 1)))))) .nil))⟩
noncomputable def aN7:Df:=⟨"law",1,9,(.cons (.for_ (.one 1) (.rng1 (.bin .add (.bi .min2 (.cons (.cst (.int 8)) (.cons (.bi .len (.cons (.var 0) .nil)) .nil))) (.cst (.int 1)))) (.cons (.asg (.one 2) (.call "_law_box" (.ex (.var 0) (.ex (.var 1) .nil)))) (.cons (.asg (.one 3) (.bin .add (.cst (.int 1)) (.call "_law_draw" (.ex (.var 2) (.ex (.cst (.int 5)) .nil))))) (.cons (.asg (.one 4) (.call "_law_signs" (.ex (.var 2) (.ex (.var 3) .nil)))) (.cons (.asg (.tup [5,6]) (.call "_law_round" (.ex (.var 4) .nil))) (.cons (.asg (.one 7) (.bin .mul (.call "_law_draw" (.ex (.var 2) (.ex (.bin .pow (.cst (.int 10)) (.cst (.int 30))) .nil))) (.bin .pow (.cst (.int 10)) (.cst (.int 29))))) (.cons (.ite (.cmp .gt (.var 1) (.cst (.int 0))) (.cons (.asg (.one 7) (.cst (.int 0))) .nil) .nil) (.cons (.for_ (.one 8) (.seq (.lst (.cons (.cst (.int 0)) (.cons (.cst (.int 1)) (.cons (.bin .add (.cst (.int 2)) (.call "_law_draw" (.ex (.var 2) (.ex (.cst (.int 30)) .nil)))) (.cons (.call "_law_draw" (.ex (.var 2) (.ex (.cst (.int 1000)) .nil))) (.cons (.bin .add (.var 7) (.call "_law_draw" (.ex (.var 2) (.ex (.cst (.int 1000)) .nil)))) .nil))))))) (.cons (.asg (.one 9) (.call "sign_power" (.ex (.var 4) (.ex (.var 8) .nil)))) (.cons (.ite (.or (.not (.call "_law_form" (.ex (.var 9) (.ex (.var 3) .nil)))) (.cmp .ne (.var 9) (.call "_law_due" (.ex (.var 5) (.ex (.var 6) (.ex (.var 8) .nil)))))) (.cons (.ret (.cst (.bl false))) .nil) .nil) (.cons (.ite (.cmp .ne (.call "sign_product" (.ex (.var 9) (.ex (.call "sign_power" (.ex (.var 4) (.ex (.cst (.int 7)) .nil))) .nil))) (.call "_law_due" (.ex (.var 5) (.ex (.var 6) (.ex (.bin .add (.var 8) (.cst (.int 7))) .nil))))) (.cons (.ret (.cst (.bl false))) .nil) .nil) .nil)))) .nil)))))))) (.cons (.ret (.cst (.bl true))) .nil))⟩
noncomputable def qG:Df:=⟨"is_steady",1,0,(.cons (.ret (.cmp .eq (.call "sign_product" (.ex (.var 0) (.ex (.var 0) .nil))) (.var 0))) .nil)⟩
noncomputable def ak8:Df:=⟨"round_of",1,0,(.cons (.ite (.or (.cmp .eq (.var 0) (.glob "FREE")) (.cmp .eq (.var 0) (.glob "NONE"))) (.cons (.ret (.var 0)) .nil) .nil) (.cons (.ret (.glob "UNBOUND")) .nil))⟩
noncomputable def ah0:Df:=⟨"sharpened",1,2,(.cons (.ite (.not (.call "is_steady" (.ex (.var 0) .nil))) (.cons .raise .nil) .nil) (.cons (.asg (.one 1) (.bi .len (.cons (.var 0) .nil))) (.cons (.asg (.one 2) (.mk .list (.comp (.one 0) (.rng1 (.var 1)) (.call "round_of" (.ex (.ix (.ix (.var 1) (.var 0)) (.var 0)) .nil)) [none,some 0]))) (.cons (.ret (.callC "grid" (.ex (.var 1) (.lam "sharpened.0" [1,0,2] .nil)))) .nil))))⟩
noncomputable def qF:Lm:=⟨"sharpened.0",2,3,(.mk .min (.comp (.one 0) (.rng1 (.var 2)) (.bi .max3 (.cons (.ix (.ix (.var 1) (.var 2)) (.var 0)) (.cons (.ix (.var 3) (.var 0)) (.cons (.ix (.ix (.var 1) (.var 0)) (.var 4)) .nil)))) [none,some 3,some 0,some 4,some 1]))⟩
noncomputable def qE:Df:=⟨"steady_power",1,2,(.cons (.asg (.one 1) (.cst (.int 1))) (.cons (.asg (.one 2) (.var 0)) (.cons (.whl (.not (.call "is_steady" (.ex (.var 2) .nil))) (.cons (.aug 1 (.cst (.int 1))) (.cons (.asg (.one 2) (.call "sign_product" (.ex (.var 2) (.ex (.var 0) .nil)))) .nil))) (.cons (.ret (.tup (.cons (.var 1) (.cons (.var 2) .nil)))) .nil))))⟩
noncomputable def av1:Df:=⟨"_law_goes_with",2,4,(.cons (.for_ (.tup [2,3]) (.zip (.seq (.var 0)) (.seq (.var 1))) (.cons (.for_ (.tup [4,5]) (.zip (.seq (.var 2)) (.seq (.var 3))) (.cons (.ite (.or (.cmp .lt (.var 5) (.var 4)) (.or (.cmp .ne (.cmp .eq (.var 5) (.cst (.int 0))) (.cmp .eq (.var 4) (.cst (.int 0)))) (.cmp .ne (.cmp .eq (.var 5) (.cst (.int 3))) (.cmp .eq (.var 4) (.cst (.int 3)))))) (.cons (.ret (.cst (.bl false))) .nil) .nil) .nil)) .nil)) (.cons (.ret (.cmp .eq (.bi .len (.cons (.var 0) .nil)) (.bi .len (.cons (.var 1) .nil)))) .nil))⟩
noncomputable def bg6:Df:=⟨"_law_right",1,3,(.cons (.asg (.tup [1,2]) (.call "steady_power" (.ex (.var 0) .nil))) (.cons (.asg (.one 3) (.call "sharpened" (.ex (.var 2) .nil))) (.cons (.ite (.or (.notB (.call "is_steady" (.ex (.var 3) .nil)) true) (.cmp .ne (.call "sharpened" (.ex (.var 3) .nil)) (.var 3))) (.cons (.ret (.cst (.bl false))) .nil) .nil) (.cons (.ite (.or (.cmp .ne (.call "sign_product" (.ex (.var 3) (.ex (.var 2) .nil))) (.var 3)) (.cmp .ne (.call "sign_product" (.ex (.var 2) (.ex (.var 3) .nil))) (.var 3))) (.cons (.ret (.cst (.bl false))) .nil) .nil) (.cons (.ret (.call "_law_goes_with" (.ex (.var 2) (.ex (.var 3) .nil)))) .nil)))))⟩
noncomputable def aP4:Df:=⟨"law",1,7,(.cons (.for_ (.one 1) (.rng1 (.bin .add (.bi .min2 (.cons (.cst (.int 12)) (.cons (.bi .len (.cons (.var 0) .nil)) .nil))) (.cst (.int 1)))) (.cons (.asg (.one 2) (.call "_law_box" (.ex (.var 0) (.ex (.var 1) .nil)))) (.cons (.asg (.one 3) (.bin .add (.cst (.int 1)) (.call "_law_draw" (.ex (.var 2) (.ex (.cst (.int 5)) .nil))))) (.cons (.asg (.one 4) (.call "_law_signs" (.ex (.var 2) (.ex (.var 3) .nil)))) (.cons (.asg (.one 5) (.call "_law_signs" (.ex (.var 2) (.ex (.var 3) .nil)))) (.cons (.asg (.one 6) (.call "sign_product" (.ex (.call "sharpened" (.ex (.ix (.call "steady_power" (.ex (.var 4) .nil)) (.cst (.int 1))) .nil)) (.ex (.var 5) .nil)))) (.cons (.for_ (.one 7) (.seq (.lst (.cons (.var 4) (.cons (.call "sign_product" (.ex (.var 4) (.ex (.var 5) .nil))) (.cons (.call "sign_product" (.ex (.var 5) (.ex (.var 4) .nil))) (.cons (.var 6) .nil)))))) (.cons (.ite (.not (.call "_law_right" (.ex (.var 7) .nil))) (.cons (.ret (.cst (.bl false))) .nil) .nil) .nil)) .nil))))))) (.cons (.ret (.cst (.bl true))) .nil))⟩
noncomputable def at9:Df:=⟨"word_signs",2,0,(.cons (.ret (.call "reading" (.ex (.call "word_table" (.ex (.var 0) (.ex (.var 1) .nil))) .nil))) .nil)⟩
noncomputable def aC9:Df:=⟨"end_sign",2,0,(.cons (.ret (.mkDs .min (.call "at_begins_and_ends" (.ex (.var 0) (.ex (.var 1) .nil))) (.glob "NONE"))) .nil)⟩
noncomputable def ax4:Df:=⟨"folded",4,2,(.cons (.asg (.one 4) (.lst .nil)) (.cons (.for_ (.one 5) (.seq (.var 0)) (.cons (.ite (.cmp .eq (.ix (.var 5) (.cst (.int 0))) (.cst (.str [108,101,116,116,101,114]))) (.cons (.ex (.meth .append (.var 4) (.cons (.callV 1 (.cons (.ix (.var 5) (.cst (.int 1))) .nil)) .nil))) .nil) (.cons (.ite (.cmp .eq (.ix (.var 5) (.cst (.int 0))) (.cst (.str [112,97,105,114]))) (.cons (.ex (.meth .append (.var 4) (.cons (.callV 2 (.cons (.ix (.var 4) (.ix (.var 5) (.cst (.int 1)))) (.cons (.ix (.var 4) (.ix (.var 5) (.cst (.int 2)))) .nil))) .nil))) .nil) (.cons (.ex (.meth .append (.var 4) (.cons (.callV 3 (.cons (.ix (.var 4) (.ix (.var 5) (.cst (.int 1)))) (.cons (.ix (.var 5) (.cst (.int 2))) .nil))) .nil))) .nil)) .nil)) .nil)) (.cons (.ret (.var 4)) .nil)))⟩
noncomputable def ar7:Df:=⟨"counted",2,0,(.cons (.ret (.callC "folded" (.ex (.var 0) (.lam "counted.2" [1] (.lam "counted.1" [] (.lam "counted.0" [] .nil)))))) .nil)⟩
noncomputable def af2:Lm:=⟨"counted.0",2,0,(.bin .mul (.var 0) (.var 1))⟩
noncomputable def af1:Lm:=⟨"counted.1",2,0,(.bin .add (.var 0) (.var 1))⟩
noncomputable def af0:Lm:=⟨"counted.2",1,1,(.var 1)⟩
noncomputable def am1:Df:=⟨"long_length",1,0,(.cons (.ret (.ix (.call "counted" (.ex (.var 0) (.ex (.cst (.int 1)) .nil))) (.neg (.cst (.int 1))))) .nil)⟩
noncomputable def aw1:Df:=⟨"letter_at",2,4,(.cons (.asg (.one 2) (.call "counted" (.ex (.var 0) (.ex (.cst (.int 1)) .nil)))) (.cons (.asg (.one 3) (.ix (.var 0) (.neg (.cst (.int 1))))) (.cons (.asg (.one 4) (.var 1)) (.cons (.whl (.cmp .ne (.ix (.var 3) (.cst (.int 0))) (.cst (.str [108,101,116,116,101,114]))) (.cons (.asg (.one 5) (.ix (.var 3) (.cst (.int 1)))) (.cons (.ite (.cmp .eq (.ix (.var 3) (.cst (.int 0))) (.cst (.str [116,105,109,101,115]))) (.cons (.asg (.one 4) (.bin .mod (.var 4) (.ix (.var 2) (.var 5)))) .nil) (.cons (.ite (.cmp .ge (.var 4) (.ix (.var 2) (.var 5))) (.cons (.asg (.one 4) (.bin .sub (.var 4) (.ix (.var 2) (.var 5)))) (.cons (.asg (.one 5) (.ix (.var 3) (.cst (.int 2)))) .nil)) .nil) .nil)) (.cons (.asg (.one 3) (.ix (.var 0) (.var 5))) .nil)))) (.cons (.ret (.ix (.var 3) (.cst (.int 1)))) .nil)))))⟩
noncomputable def bR9:Df:=⟨"_law_on",3,5,(.cons (.asg (.one 3) (.mk .list (.comp (.one 0) (.seq (.var 2)) (.cst .non) [none]))) (.cons (.for_ (.tup [4,5,6,7]) (.seq (.ix (.var 0) (.cst (.int 4)))) (.cons (.ite (.and (.cmp .eq (.var 5) (.var 1)) (.notN (.ix (.var 2) (.var 4)))) (.cons (.ite (.or (.isN (.ix (.var 3) (.var 6))) (.cmp .lt (.bin .add (.ix (.var 2) (.var 4)) (.var 7)) (.ix (.var 3) (.var 6)))) (.cons (.setIx (.var 3) (.var 6) (.bin .add (.ix (.var 2) (.var 4)) (.var 7))) .nil) .nil) .nil) .nil) .nil)) (.cons (.ret (.var 3)) .nil)))⟩
class Has (P:Pr)(d:Df):Prop where
 eq:P.df d.name=some d
class HasL (P:Pr)(d:Lm):Prop where
 eq:P.lm d.id=some d
class HasC (P:Pr)(x:String)(v:D):Prop where
 eq:P.con x=some v
noncomputable def fin (s:Sto)(c:Ct)(s':Sto):R D:=match c with
 | .ret v=>zH s v s'
 | .next _=>zH s .non s'
 | _=>.bad
@[simp] theorem fin_ret (s:Sto) (v:D) (s':Sto):fin s (.ret v) s'=zH s v s':=rfl
@[simp] theorem fin_next (s:Sto) (ρ:Env) (s':Sto):fin s (.next ρ) s'=zH s .non s':=rfl
theorem zw {P:Pr}(d:Df)[h:Has P d]{n:Nat}{l:List D}{s:Sto}(hl:l.length=d.ps) :
  (aa1 P (n+1)).call d.name l s=(exs (aa1 P n) d.body (l.map some++ax d.vs none) s).bind (fin s):=by
 simp only[aa1,h.eq,hl,if_true]
 rfl
theorem aI7 {P:Pr}(d:Lm)[h:HasL P d]{n:Nat}{cs l:List D}{s:Sto}(hl:l.length=d.ps)(hc:cs.length=d.cs)(hn:(D.nclL l&&D.nclL cs&&s.all O.ncl)=true) :
  (aa1 P (n+1)).lam d.id cs l s=(ev (aa1 P n) d.body (l.map some++cs.map some) s).bind (zH s):=by
 simp only[aa1,h.eq,hl,hc,hn,and_self,if_true]
theorem bg1 {P:Pr}{x:String}{v:D}[h:HasC P x v]{n:Nat}:(aa1 P n).con x=some v:=by
 cases n<;>exact h.eq
theorem at0 (s t:Sto):ao1 s (s++t)=true:=by
 unfold ao1
 rw[aM]
 intro i hi
 rw[bv]at hi
 rw[aH hi]
 simp
theorem aI3 (s t:Sto)(r:Nat)(o:O)(h:o.bnd s.length=true):ao1 s (s.set r o++t)=true:=by
 unfold ao1
 rw[aM]
 intro i hi
 rw[bv]at hi
 rw[aH (by rw[br];exact hi)]
 by_cases e:r=i
 ·subst e;rw[aU hi];simp[h]
 ·rw[bj e];simp
theorem qy {s t:Sto}{d:D}(h:∀ n,d.bnd n=true)(y:∀ r,d≠.ref r):zH s d (s++t)=.ok d s:=by
 unfold zH
 rw[at0,if_pos rfl]
 cases d with
 | ref r=>exact absurd rfl (y r)
 | _=>simp[h]
theorem zz {s:Sto}{d:D}(h:∀ n,d.bnd n=true)(y:∀ r,d≠.ref r):zH s d s=.ok d s:=by
 have:=qy (s:=s) (t:=[]) h y
 rwa [bh]at this
theorem as8 {s t:Sto}{d:D}{r:Nat}{o:O}(h:∀ n,d.bnd n=true)(y:∀ r,d≠.ref r)(ho:o.bnd s.length=true):zH s d (s.set r o++t)=.ok d (s.set r o):=by
 unfold zH
 rw[aI3 s t r o ho,if_pos rfl]
 have e:(s.set r o++t).take s.length=s.set r o:=by rw[List.take_append_of_le_length (by simp),List.take_of_length_le (by simp)]
 cases d with
 | ref r=>exact absurd rfl (y r)
 | _=>simp only[h,if_true,e]
theorem ak1 {s:Sto}{d:D}{r:Nat}{o:O}(h:∀ n,d.bnd n=true)(y:∀ r,d≠.ref r)(ho:o.bnd s.length=true):zH s d (s.set r o)=.ok d (s.set r o):=by
 have:=as8 (s:=s) (t:=[]) (r:=r) h y ho
 rwa [bh]at this
theorem aG8 {s t u:Sto}{o:O}(ho:o.bnd s.length=true):zH s (.ref (s.length+t.length)) (s++(t++o::u))=.ok (.ref s.length) (s++[o]):=by
 unfold zH
 rw[at0,if_pos rfl]
 simp[ho,aB]
@[simp] theorem ap9 {s:Sto} {i:Int}:zH s (.int i) s=.ok (.int i) s:=zz (fun _=>rfl) (by nofun)
@[simp] theorem aV3 {s:Sto} {i:Bool}:zH s (.bl i) s=.ok (.bl i) s:=zz (fun _=>rfl) (by nofun)
@[simp] theorem ag9 {s:Sto}:zH s .non s=.ok .non s:=zz (fun _=>rfl) (by nofun)
@[simp] theorem by4 {s:Sto} {x:List Nat}:zH s (.str x) s=.ok (.str x) s:=zz (fun _=>rfl) (by nofun)
theorem qx {c:Env->Sto->R D}{g:Env->Sto->R Ct}:∀ {n:Nat} {ρ:Env} {s:Sto},qK c g n ρ s≠.bad->qK c g (n+1) ρ s=qK c g n ρ s
 | 0,_,_,h=>absurd rfl h
 | n+1,ρ,s,h=>by
  rw[show qK c g (n+1+1) ρ s=tru (c ρ s) (fun b s=>if b then(g ρ s).bind fun y s=>match y with
   | .next ρ=>qK c g (n+1) ρ s|.cont ρ=>qK c g (n+1) ρ s|.brk ρ=>.ok (.next ρ) s|.ret d=>.ok (.ret d) s else .ok (.next ρ) s)from rfl]
  have e:qK c g (n+1) ρ s=tru (c ρ s) (fun b s=>if b then(g ρ s).bind fun y s=>match y with
   | .next ρ=>qK c g n ρ s|.cont ρ=>qK c g n ρ s|.brk ρ=>.ok (.next ρ) s|.ret d=>.ok (.ret d) s else .ok (.next ρ) s):=rfl
  rw[e]at h ⊢
  unfold tru at h ⊢
  cases hc:c ρ s with
  | exc _ _=>rfl
  | bad=>rfl
  | ok d s1 =>
   rw[hc]at h
   cases d with
   | bl b =>
    cases b with
    | false=>rfl
    | true =>
     simp only[R.bind_ok,if_true]at h ⊢
     cases hg:g ρ s1 with
     | exc _ _=>rfl
     | bad=>rfl
     | ok y s2 =>
      rw[hg]at h
      simp only[R.bind_ok]at h ⊢
      cases y with
      | next ρ'=>exact qx h
      | cont ρ'=>exact qx h
      | _=>rfl
   | _=>rfl
theorem zY {c:Env->Sto->R D}{g:Env->Sto->R Ct}{n:Nat}{ρ:Env}{s:Sto}(h:qK c g n ρ s≠.bad):∀ k,qK c g (n+k) ρ s=qK c g n ρ s
 | 0=>rfl
 | k+1=>by
  have e:=zY h k
  rw[<-Nat.add_assoc,qx (by rw[e];exact h),e]
theorem bA1 {c:Env->Sto->R D}{g:Env->Sto->R Ct}{n:Nat}{ρ:Env}{s:Sto}{r:Ct}{t:Sto}(h:qK c g n ρ s=.ok r t):whl c g ρ s=.ok r t:=by
 have hb:qK c g n ρ s≠.bad:=by rw[h];nofun
 have hx:∃ n,qK c g n ρ s≠.bad:=⟨n,hb⟩
 unfold whl
 rw[dif_pos hx]
 have z:=zY hx.choose_spec n
 have y:=zY hb hx.choose
 rw[<-z,fq,y,h]
theorem aV4 {c:Env->Sto->R D}{g:Env->Sto->R Ct}{ρ ρ':Env}{s s1 s':Sto}(hc:c ρ s=.ok (.bl true) s1)(z:g ρ s1=.ok (.next ρ') s'):whl c g ρ s=whl c g ρ' s':=by
 have key:∀ n,qK c g (n+1) ρ s=qK c g n ρ' s':=fun n=>by
  show tru (c ρ s) _=_
  rw[hc,tru_bl,if_pos rfl,z];rfl
 unfold whl
 by_cases hx:∃ n,qK c g n ρ' s'≠.bad
 ·have hy:∃ n,qK c g n ρ s≠.bad:=⟨hx.choose+1,by rw[key];exact hx.choose_spec⟩
  rw[dif_pos hx,dif_pos hy]
  have y:=zY hy.choose_spec (hx.choose+1)
  have h:=zY (n:=hx.choose+1) (ρ:=ρ) (s:=s) (by rw[key];exact hx.choose_spec) hy.choose
  rw[<-y,fq,h,key]
 ·have hy:¬ ∃ n,qK c g n ρ s≠.bad:=fun⟨n,hn⟩=>by
   cases n with
   | zero=>exact hn rfl
   | succ n=>exact hx ⟨n,by rw[<-key];exact hn⟩
  rw[dif_neg hx,dif_neg hy]
theorem bn7 {c:Env->Sto->R D}{g:Env->Sto->R Ct}{ρ:Env}{s s1:Sto}(hc:c ρ s=.ok (.bl false) s1):whl c g ρ s=.ok (.next ρ) s1 :=
 bA1 (n:=1) (by show tru (c ρ s) _=_;rw[hc,tru_bl];rfl)
theorem qi {ok:Sto->Bool}{g:D->Env->Sto->R Ct}(P:Nat->Env->Sto->Prop):∀(l:List D) (k:Nat) (ρ:Env) (s:Sto),
  P k ρ s->(∀(j:Nat) (ρ:Env) (s:Sto),j<=l.length->P (k+j) ρ s->ok s=true)->(∀(j:Nat) (d:D) (ρ:Env) (s:Sto),l[j]?=some d->P (k+j) ρ s->∃ ρ' s',(g d ρ s=.ok (.next ρ') s'\/g d ρ s=.ok (.cont ρ') s')/\P (k+j+1) ρ' s') ->
  ∃ ρ' s',aG0 ok g l ρ s=.ok (.next ρ') s'/\P (k+l.length) ρ' s'
 | [],k,ρ,s,h,o,_=>⟨ρ,s,by show(if ok s then _ else _)=_;rw[if_pos (o 0 ρ s (ai _) h)],h⟩
 | d::l,k,ρ,s,h,o,t=>by
  have ho:=o 0 ρ s (dC _) h
  obtain⟨ρ1,s1,y,C⟩:=t 0 d ρ s rfl h
  obtain⟨ρ2,s2,e,G⟩:=qi P l (k+1) ρ1 s1 C (fun j ρ' s' hj z=>o (j+1) ρ' s' (by simpa using hj) (by rwa [show k+(j+1)=k+1+j by omega])) fun j d' ρ' s' hj z=>by
   have:=t (j+1) d' ρ' s' (by simpa using hj) (by rwa [show k+(j+1)=k+1+j by omega])
   rwa [show k+(j+1)+1=k+1+j+1 by omega]at this
  refine⟨ρ2,s2,?_,by rwa [aQ,show k+(l.length+1)=k+1+l.length by omega]⟩
  show(if ok s then _ else _)=_
  rw[if_pos ho]
  rcases y with y|y<;>(rw[y];exact e)
noncomputable def Nx (Q:Env->Sto->Prop):R Ct->Prop
 | .ok (.next ρ) s=>Q ρ s
 | .ok (.cont ρ) s=>Q ρ s
 | _=>False
@[simp] theorem bJ6 (Q:Env->Sto->Prop) (ρ:Env) (s:Sto):Nx Q (.ok (.next ρ) s)=Q ρ s:=rfl
@[simp] theorem bK2 (Q:Env->Sto->Prop) (ρ:Env) (s:Sto):Nx Q (.ok (.cont ρ) s)=Q ρ s:=rfl
theorem aS6 {Q:Env->Sto->Prop}{r:R Ct}{ρ:Env}{s:Sto}(e:r=.ok (.next ρ) s)(h:Q ρ s):Nx Q r:=by rw[e];exact h
theorem Nx.out {Q:Env->Sto->Prop}:∀ {r:R Ct},Nx Q r->∃ ρ s,(r=.ok (.next ρ) s\/r=.ok (.cont ρ) s)/\Q ρ s
 | .ok (.next ρ) s,h=>⟨ρ,s,.inl rfl,h⟩
 | .ok (.cont ρ) s,h=>⟨ρ,s,.inr rfl,h⟩
 | .ok (.ret _) _,h=>h.elim
 | .ok (.brk _) _,h=>h.elim
 | .exc _ _,h=>h.elim
 | .bad,h=>h.elim
noncomputable def Tst (A B:Sto->Prop):R D->Prop
 | .ok (.bl false) s=>A s
 | .ok (.bl true) s=>B s
 | _=>False
@[simp] theorem aM1 (A B:Sto->Prop) (b:Bool) (s:Sto):Tst A B (.ok (.bl b) s)=if b then B s else A s:=by cases b<;>rfl
theorem Tst.out {A B:Sto->Prop}:∀ {r:R D},Tst A B r->(∃ s,r=.ok (.bl false) s/\A s)\/∃ s,r=.ok (.bl true) s/\B s
 | .ok (.bl false) s,h=>.inl ⟨s,rfl,h⟩
 | .ok (.bl true) s,h=>.inr ⟨s,rfl,h⟩
 | .ok .non _,h=>h.elim
 | .ok (.int _) _,h=>h.elim
 | .ok (.str _) _,h=>h.elim
 | .ok (.tup _) _,h=>h.elim
 | .ok (.ref _) _,h=>h.elim
 | .ok (.fn _) _,h=>h.elim
 | .ok (.clo _ _) _,h=>h.elim
 | .exc _ _,h=>h.elim
 | .bad,h=>h.elim
theorem aS1 {c:Env->Sto->R D}{g:Env->Sto->R Ct}{ρ ρ':Env}{s s1 s':Sto}(hc:c ρ s=.ok (.bl true) s1)(z:g ρ s1=.ok (.cont ρ') s'):whl c g ρ s=whl c g ρ' s':=by
 have key:∀ n,qK c g (n+1) ρ s=qK c g n ρ' s':=fun n=>by
  show tru (c ρ s) _=_
  rw[hc,tru_bl,if_pos rfl,z];rfl
 unfold whl
 by_cases hx:∃ n,qK c g n ρ' s'≠.bad
 ·have hy:∃ n,qK c g n ρ s≠.bad:=⟨hx.choose+1,by rw[key];exact hx.choose_spec⟩
  rw[dif_pos hx,dif_pos hy]
  have y:=zY hy.choose_spec (hx.choose+1)
  have h:=zY (n:=hx.choose+1) (ρ:=ρ) (s:=s) (by rw[key];exact hx.choose_spec) hy.choose
  rw[<-y,fq,h,key]
 ·have hy:¬ ∃ n,qK c g n ρ s≠.bad:=fun⟨n,hn⟩=>by
   cases n with
   | zero=>exact hn rfl
   | succ n=>exact hx ⟨n,by rw[<-key];exact hn⟩
  rw[dif_neg hx,dif_neg hy]
theorem bt2 {c:Env->Sto->R D}{g:Env->Sto->R Ct}(P:Nat->Env->Sto->Prop)(Q:Env->Sto->Prop)
  (step:∀ k ρ s,P k ρ s->Tst (fun s1=>Q ρ s1) (fun s1=>Nx (fun ρ' s'=>∃ y,y<k/\P y ρ' s') (g ρ s1)) (c ρ s)) :
  ∀(k:Nat) (ρ:Env) (s:Sto),P k ρ s->∃ ρ' s',whl c g ρ s=.ok (.next ρ') s'/\Q ρ' s':=by
 intro k
 induction k using Nat.strongRecOn with
 | _ k ih =>
  intro ρ s h
  rcases(step k ρ s h).out with⟨s1,hc,hq⟩|⟨s1,hc,hn⟩
  ·exact⟨ρ,s1,bn7 hc,hq⟩
  ·obtain⟨ρ',s',z,y,hk,C⟩:=hn.out
   rcases z with z|z
   ·rw[aV4 hc z];exact ih y hk ρ' s' C
   ·rw[aS1 hc z];exact ih y hk ρ' s' C
theorem aW1 {c:Env->Sto->R D}{g:Env->Sto->R Ct}{ρ:Env}{s:Sto}{α:Type}{f:Ct->Sto->R α}{W:R α->Prop}(P:Nat->Env->Sto->Prop)(Q:Env->Sto->Prop)(k:Nat)(h:P k ρ s)
  (step:∀ k ρ s,P k ρ s->Tst (fun s1=>Q ρ s1) (fun s1=>Nx (fun ρ' s'=>∃ y,y<k/\P y ρ' s') (g ρ s1)) (c ρ s))
  (z:∀ ρ' s',Q ρ' s'->W (f (.next ρ') s')):W ((whl c g ρ s).bind f):=by
 obtain⟨ρ',s',e,q⟩:=bt2 P Q step k ρ s h
 rw[e]
 exact z ρ' s' q
theorem aA2 {c:Env->Sto->R D}{g:Env->Sto->R Ct}{ρ:Env}{s:Sto}{α:Type}{f:Ct->Sto->R α}{x:R α}(P:Nat->Env->Sto->Prop)(Q:Env->Sto->Prop)(k:Nat)(h:P k ρ s)
  (step:∀ k ρ s,P k ρ s->Tst (fun s1=>Q ρ s1) (fun s1=>Nx (fun ρ' s'=>∃ y,y<k/\P y ρ' s') (g ρ s1)) (c ρ s))
  (z:∀ ρ' s',Q ρ' s'->f (.next ρ') s'=x):(whl c g ρ s).bind f=x:=aW1 (W:=(·=x)) P Q k h step z
theorem az7 {ok:Sto->Bool}{g:D->Env->Sto->R Ct}{l:List D}{ρ:Env}{s:Sto}{α:Type}{f:Ct->Sto->R α}{W:R α->Prop}(P:Nat->Env->Sto->Prop)(h:P 0 ρ s)
  (o:∀(j:Nat) (ρ:Env) (s:Sto),j<=l.length->P j ρ s->ok s=true) (step:∀(j:Nat) (d:D) (ρ:Env) (s:Sto),l[j]?=some d->P j ρ s->Nx (P (j+1)) (g d ρ s))
  (z:∀ ρ' s',P l.length ρ' s'->W (f (.next ρ') s')):W ((aG0 ok g l ρ s).bind f):=by
 obtain⟨ρ',s',e,q⟩:=qi P l 0 ρ s h (fun j ρ s hj y=>o j ρ s hj (by rwa [be]at y)) (fun j d ρ s hj y=>by
  rw[be]at y ⊢
  exact(step j d ρ s hj y).out)
 rw[e]
 rw[be]at q
 exact z ρ' s' q
theorem al9 {ok:Sto->Bool}{g:D->Env->Sto->R Ct}{l:List D}{ρ:Env}{s:Sto}{α:Type}{f:Ct->Sto->R α}{x:R α}(P:Nat->Env->Sto->Prop)(h:P 0 ρ s)
  (o:∀(j:Nat) (ρ:Env) (s:Sto),j<=l.length->P j ρ s->ok s=true) (step:∀(j:Nat) (d:D) (ρ:Env) (s:Sto),l[j]?=some d->P j ρ s->Nx (P (j+1)) (g d ρ s))
  (y:∀ ρ' s',P l.length ρ' s'->f (.next ρ') s'=x):(aG0 ok g l ρ s).bind f=x:=az7 (W:=(·=x)) P h o step y
section
variable {F:Fns} {ρ:Env} {s:Sto}
@[simp] theorem z8 (i:Nat):ev F (.var i) ρ s=aA7 ρ i s:=rfl
@[simp] theorem ev_cst (c:Cn):ev F (.cst c) ρ s=.ok c.d s:=rfl
@[simp] theorem ev_bin (op:BOp) (a b:E):ev F (.bin op a b) ρ s=(ev F a ρ s).bind fun x s=>(ev F b ρ s).bind fun y s=>qo op x y s:=rfl
@[simp] theorem ev_not (a:E):ev F (.not a) ρ s=tru (ev F a ρ s) fun b s=>.ok (.bl (!b)) s:=rfl
@[simp] theorem ev_cmp (op:COp) (a b:E):ev F (.cmp op a b) ρ s=(ev F a ρ s).bind fun x s=>(ev F b ρ s).bind fun y s=>qB op x y s:=rfl
@[simp] theorem bE9 (o p:COp) (a b c:E):ev F (.chain o p a b c) ρ s=(ev F a ρ s).bind fun x s=>(ev F b ρ s).bind fun y s=>tru (qB o x y s) fun k s=>if k then(ev F c ρ s).bind fun z s=>qB p y z s else .ok (.bl false) s:=rfl
@[simp] theorem ev_isN (a:E):ev F (.isN a) ρ s=(ev F a ρ s).bind fun x s=>.ok (.bl (decide (x=.non))) s:=rfl
@[simp] theorem ev_notN (a:E):ev F (.notN a) ρ s=(ev F a ρ s).bind fun x s=>.ok (.bl (!decide (x=.non))) s:=rfl
@[simp] theorem ev_and (a b:E):ev F (.and a b) ρ s=tru (ev F a ρ s) fun c s=>if c then tru (ev F b ρ s) fun c s=>.ok (.bl c) s else .ok (.bl false) s:=rfl
@[simp] theorem ev_or (a b:E):ev F (.or a b) ρ s=tru (ev F a ρ s) fun c s=>if c then .ok (.bl true) s else tru (ev F b ρ s) fun c s=>.ok (.bl c) s:=rfl
@[simp] theorem ev_ite (c a b:E):ev F (.ite c a b) ρ s=tru (ev F c ρ s) fun k s=>if k then ev F a ρ s else ev F b ρ s:=rfl
@[simp] theorem ev_tup (es:Es):ev F (.tup es) ρ s=(evs F es ρ s).bind fun l s=>.ok (.tup l) s:=rfl
@[simp] theorem ev_lst (es:Es):ev F (.lst es) ρ s=(evs F es ρ s).bind fun l s=>ab8 (.lst l) s:=rfl
@[simp] theorem ev_ix (a b:E):ev F (.ix a b) ρ s=(ev F a ρ s).bind fun x s=>(ev F b ρ s).bind fun y s=>ixM x y s:=rfl
@[simp] theorem ev_call (f:String) (h:As):ev F (.call f h) ρ s=(ai4 F h ρ s).bind fun l s=>F.call f l s:=rfl
@[simp] theorem az2 (f:String) (h:As):ev F (.callC f h) ρ s=(ai4 F h ρ s).bind fun l s=>(F.call f l s).bind fun d s'=>if(d.ncl&&s'.all O.ncl)=true then .ok d s' else .bad:=rfl
@[simp] theorem ev_bi (b:Bi) (es:Es):ev F (.bi b es) ρ s=(evs F es ρ s).bind fun l s=>bi b l s:=rfl
@[simp] theorem ev_mk (k:Mk) (it:L):ev F (.mk k it) ρ s=(evL F it ρ s).bind fun q s=>mk k q s:=rfl
@[simp] theorem ev_mkD (k:Mk) (it:L) (d:E):ev F (.mkD k it d) ρ s=(evL F it ρ s).bind fun q s=>(ev F d ρ s).bind fun d s=>mkD k q d s:=rfl
@[simp] theorem ev_mks (k:Mk) (e:E):ev F (.mks k e) ρ s=(ev F e ρ s).bind fun x s=>(bq6 x s).bind fun q s=>mk k q s:=rfl
@[simp] theorem ev_mkDs (k:Mk) (e d:E):ev F (.mkDs k e d) ρ s=(ev F e ρ s).bind fun x s=>(ev F d ρ s).bind fun z s=>(bq6 x s).bind fun q s=>mkD k q z s:=rfl
@[simp] theorem ev_meth (m:Mt) (o:E) (es:Es):ev F (.meth m o es) ρ s=(ev F o ρ s).bind fun x s=>(evs F es ρ s).bind fun l s=>meth m x l s:=rfl
@[simp] theorem bI5 (o e:E):ev F (.extS o e) ρ s=(ev F o ρ s).bind fun x s=>(ev F e ρ s).bind fun y s=>extS x y s:=rfl
@[simp] theorem by2 (a:E):ev F (.rev a) ρ s=(ev F a ρ s).bind fun x s=>bn8 x s:=rfl
@[simp] theorem bQ4 (o:E) (it:L):ev F (.ext o it) ρ s=(ev F o ρ s).bind fun x s=>(evL F it ρ s).bind fun q s=>by0 x q s:=rfl
@[simp] theorem evs_nil:evs F .nil ρ s=.ok [] s:=rfl
@[simp] theorem evs_cons (e:E) (es:Es):evs F (.cons e es) ρ s=(ev F e ρ s).bind fun d s=>(evs F es ρ s).bind fun l s=>.ok (d::l) s:=rfl
@[simp] theorem evas_nil:ai4 F .nil ρ s=.ok [] s:=rfl
@[simp] theorem evas_ex (e:E) (h:As):ai4 F (.ex e h) ρ s=(ev F e ρ s).bind fun d s=>(ai4 F h ρ s).bind fun l s=>.ok (d::l) s:=rfl
@[simp] theorem bL6 (f:String) (h:As):ai4 F (.fn f h) ρ s=(ai4 F h ρ s).bind fun l s=>.ok (.fn f::l) s:=rfl
@[simp] theorem evI_seq (e:E):evI F (.seq e) ρ s=(ev F e ρ s).bind fun d s=>aF8 d s:=rfl
@[simp] theorem bF0 (es:Es):evL F (.disp es) ρ s=evs F es ρ s:=rfl
@[simp] theorem evL_seq (e:E):evL F (.seq e) ρ s=(ev F e ρ s).bind fun d s=>bb2 d s:=rfl
noncomputable def aE8 (x:D):M Sq:=fun s=>match x with|.int i=>if -W62<=i/\i<W62 then .ok ⟨z6 0 i,[]⟩ s else .bad|_=>.bad
@[simp] theorem evI_rng1 (a:E):evI F (.rng1 a) ρ s=(ev F a ρ s).bind fun x s=>aE8 x s:=rfl
theorem zQ {i:Int}(h0:-W62<=i)(h:i<W62):aE8 (.int i) s=.ok ⟨z6 0 i,[]⟩ s:=by unfold aE8;simp only[h0,h,and_self,if_true]
noncomputable def nxt (F:Fns)(ss:Ss)(c:Ct)(s:Sto):R Ct:=match c with|.next ρ=>exs F ss ρ s|c=>.ok c s
@[simp] theorem zU (h:Ss) (ρ:Env) (s:Sto):nxt F h (.next ρ) s=exs F h ρ s:=rfl
@[simp] theorem nxt_ret (h:Ss) (d:D) (s:Sto):nxt F h (.ret d) s=.ok (.ret d) s:=rfl
@[simp] theorem nxt_cont (h:Ss) (ρ:Env) (s:Sto):nxt F h (.cont ρ) s=.ok (.cont ρ) s:=rfl
@[simp] theorem zZ:exs F .nil ρ s=.ok (.next ρ) s:=rfl
@[simp] theorem zT (st:S) (h:Ss):exs F (.cons st h) ρ s=(ex F st ρ s).bind (nxt F h):=rfl
noncomputable def bL3 (ρ:Option Env)(s:Sto):R Ct:=match ρ with|some ρ=>.ok (.next ρ) s|none=>.bad
@[simp] theorem qp (ρ:Env) (s:Sto):bL3 (some ρ) s=.ok (.next ρ) s:=rfl
@[simp] theorem ex_asg (tg:Tg) (e:E):ex F (.asg tg e) ρ s=(ev F e ρ s).bind fun d s=>bL3 (ac0 ρ tg d) s:=rfl
@[simp] theorem ex_setIx (o i e:E):ex F (.setIx o i e) ρ s=(ev F e ρ s).bind fun d s=>(ev F o ρ s).bind fun x s=>(ev F i ρ s).bind fun y s=>(setIx x y d s).bind fun _ s=>.ok (.next ρ) s:=rfl
@[simp] theorem ex_ex (e:E):ex F (.ex e) ρ s=(ev F e ρ s).bind fun _ s=>.ok (.next ρ) s:=rfl
@[simp] theorem ex_ret (e:E):ex F (.ret e) ρ s=(ev F e ρ s).bind fun d s=>.ok (.ret d) s:=rfl
@[simp] theorem bL2:ex F .retN ρ s=.ok (.ret .non) s:=rfl
@[simp] theorem ex_ite (c:E) (a b:Ss):ex F (.ite c a b) ρ s=tru (ev F c ρ s) fun k s=>if k then exs F a ρ s else exs F b ρ s:=rfl
@[simp] theorem ex_whl (c:E) (b:Ss):ex F (.whl c b) ρ s=whl (ev F c) (exs F b) ρ s:=rfl
noncomputable def turn (F:Fns)(tg:Tg)(b:Ss)(d:D)(ρ:Env)(s:Sto):R Ct:=match ac0 ρ tg d with
 | some ρ=>exs F b ρ s
 | none=>.bad
@[simp] theorem ex_for (tg:Tg) (it:I) (b:Ss):ex F (.for_ tg it b) ρ s=(evI F it ρ s).bind fun q s0=>aG0 (fun s=>chk s0 s q.src) (turn F tg b) q.its ρ s0:=rfl
@[simp] theorem ex_cont:ex F .cont ρ s=.ok (.cont ρ) s:=rfl
@[simp] theorem ex_und (i:Nat):ex F (.und i) ρ s=bL3 (ad1 ρ i) s:=rfl
@[simp] theorem ex_pass:ex F .pass ρ s=.ok (.next ρ) s:=rfl
@[simp] theorem zO (i:Nat) (d:D):ac0 ρ (.one i) d=ax0 ρ i d:=rfl
@[simp] theorem bindT_tup (is:List Nat) (l:List D):ac0 ρ (.tup is) (.tup l)=ai7 ρ is l:=rfl
@[simp] theorem setVs_nil:ai7 ρ [] []=some ρ:=rfl
@[simp] theorem setVs_cons (i:Nat) (is:List Nat) (d:D) (l:List D):ai7 ρ (i::is) (d::l)=(ax0 ρ i d).bind fun ρ=>ai7 ρ is l:=rfl
@[simp] theorem qc (d:D) (ρ:Env):aA7 (some d::ρ) 0 s=.ok d s:=rfl
@[simp] theorem z9 (x:Option D) (ρ:Env) (i:Nat):aA7 (x::ρ) (i+1) s=aA7 ρ i s:=by unfold aA7;rw[List.getElem?_cons_succ]
@[simp] theorem setV_0 (d:D) (x:Option D) (ρ:Env):ax0 (x::ρ) 0 d=some (some d::ρ):=rfl
@[simp] theorem setV_s (d:D) (x:Option D) (ρ:Env) (i:Nat):ax0 (x::ρ) (i+1) d=(ax0 ρ i d).map (x::·):=by
 unfold ax0
 by_cases h:i < ρ.length
 ·rw[if_pos (by simpa using h),if_pos h];rfl
 ·rw[if_neg (by simpa using h),if_neg h];rfl
@[simp] theorem unsetV_0 (x:Option D) (ρ:Env):ad1 (x::ρ) 0=some (none::ρ):=rfl
@[simp] theorem unsetV_s (x:Option D) (ρ:Env) (i:Nat):ad1 (x::ρ) (i+1)=(ad1 ρ i).map (x::·):=by
 unfold ad1
 by_cases h:i < ρ.length
 ·rw[if_pos (by simpa using h),if_pos h];rfl
 ·rw[if_neg (by simpa using h),if_neg h];rfl
@[simp] theorem Cn_int (i:Int):(Cn.int i).d=.int i:=rfl
@[simp] theorem Cn_bl (i:Bool):(Cn.bl i).d=.bl i:=rfl
@[simp] theorem Cn_str (i:List Nat):(Cn.str i).d=.str i:=rfl
@[simp] theorem Cn_non:Cn.non.d=.non:=rfl
@[simp] theorem add_int (a b:Int):qo .add (.int a) (.int b) s=.ok (.int (a+b)) s:=rfl
@[simp] theorem sub_int (a b:Int):qo .sub (.int a) (.int b) s=.ok (.int (a - b)) s:=rfl
theorem ae5 {a b:Int}(h:mulOk a b=true):qo .mul (.int a) (.int b) s=.ok (.int (a*b)) s:=by show(if mulOk a b then _ else _:M D) s=_;rw[if_pos h];rfl
theorem bg9 {a b:Int}(h:a.natAbs<2^64):mulOk a b=true:=by unfold mulOk;simp[h]
theorem am5 {a b:Int}(h:b.natAbs<2^64):mulOk a b=true:=by unfold mulOk;simp[h]
theorem ai2 {a b:Int}(h:0<b):qo .mod (.int a) (.int b) s=.ok (.int (a % b)) s:=by show(if 0<b then _ else _:M D) s=_;rw[if_pos h];rfl
theorem bl4:(10:Int)^200<=(DIVL:Int):=by unfold DIVL;decide +kernel
theorem ao0 {a b:Int}(h:0<b)(y:b<10^200):qo .fdiv (.int a) (.int b) s=.ok (.int (a / b)) s:=by show(if 0<b/\b<(DIVL:Int)then _ else _:M D) s=_;rw[if_pos ⟨h,Int.lt_of_lt_of_le y bl4⟩];rfl
theorem aj5 {a b:Int}(h:0<=b/\b<=1000000/\a.natAbs<2^64):qo .pow (.int a) (.int b) s=.ok (.int (a^b.toNat)) s:=by show(if _ then _ else _:M D) s=_;rw[if_pos h];rfl
@[simp] theorem lt_int (a b:Int):qB .lt (.int a) (.int b) s=.ok (.bl (decide (a<b))) s:=rfl
@[simp] theorem le_int (a b:Int):qB .le (.int a) (.int b) s=.ok (.bl (decide (a<=b))) s:=rfl
@[simp] theorem gt_int (a b:Int):qB .gt (.int a) (.int b) s=.ok (.bl (decide (b<a))) s:=rfl
@[simp] theorem ge_int (a b:Int):qB .ge (.int a) (.int b) s=.ok (.bl (decide (b<=a))) s:=rfl
@[simp] theorem eq_int (a b:Int):qB .eq (.int a) (.int b) s=.ok (.bl (decide (a=b))) s:=rfl
@[simp] theorem ne_int (a b:Int):qB .ne (.int a) (.int b) s=.ok (.bl (!decide (a=b))) s:=rfl
@[simp] theorem alloc_eq (o:O):ab8 o s=.ok (.ref s.length) (s++[o]):=rfl
@[simp] theorem aL2 (l:List D):bi .len [.tup l] s=.ok (.int l.length) s:=rfl
@[simp] theorem bk8 (l:List Nat):bi .len [.str l] s=.ok (.int l.length) s:=rfl
theorem bb8 {r:Nat}{l:List D}(h:s[r]?=some (.ro l)):bi .len [.ref r] s=.ok (.int l.length) s:=by simp only[bi,bi1,bq5,h]
@[simp] theorem bM5 (i:Int):bi .abs [.int i] s=.ok (.int (if i<0 then -i else i)) s:=rfl
@[simp] theorem aX4 (a b:Int):bi .min2 [.int a,.int b] s=.ok (.int (if b<a then b else a)) s:=rfl
@[simp] theorem bF8 (a b:Int):bi .max2 [.int a,.int b] s=.ok (.int (if b > a then b else a)) s:=rfl
@[simp] theorem aN5 (a:Int):bi .isInt [.int a] s=.ok (.bl true) s:=rfl
@[simp] theorem aE5 (a:Int):bi .isBool [.int a] s=.ok (.bl false) s:=rfl
@[simp] theorem bA6 (l:List D):bi .isTup [.tup l] s=.ok (.bl true) s:=rfl
theorem bA8 {r:Nat}{l:List D}{j:Nat}{d:D}(h:s[r]?=some (.ro l))(hj:l[j]?=some d):ixM (.ref r) (.int (j:Int)) s=.ok d s:=by
 have hl:j<l.length:=(ae.mp hj).1
 have e:l[j]=d:=(ae.mp hj).2
 simp[ixM,h,ixn,hl,e]
theorem aL1 {r:Nat}{l:List D}{j:Nat}{d:D}(h:s[r]?=some (.lst l))(hj:l[j]?=some d):ixM (.ref r) (.int (j:Int)) s=.ok d s:=by
 have hl:j<l.length:=(ae.mp hj).1
 have e:l[j]=d:=(ae.mp hj).2
 simp[ixM,h,ixn,hl,e]
theorem ix_tup {l:List D}{j:Nat}{d:D}(hj:l[j]?=some d):ixM (.tup l) (.int (j:Int)) s=.ok d s:=by
 have hl:j<l.length:=(ae.mp hj).1
 have e:l[j]=d:=(ae.mp hj).2
 simp[ixM,ixn,hl,e]
theorem al2 {r:Nat}{l:List D}{v:D}(h:s[r]?=some (.lst l))(hl:l.length<LIM):meth .append (.ref r) [v] s=.ok .non (s.set r (.lst (l++[v]))):=by
 simp[meth,h,hl]
end
theorem au4 (s t:Sto)(b:Bool):∃ s',zH s (.bl b) t=.ok (.bl b) s':=by
 unfold zH
 by_cases h:ao1 s t=true
 ·rw[if_pos h];exact⟨_,rfl⟩
 ·rw[if_neg h];exact⟨_,rfl⟩
def Yes (r:R D):Prop:=∃ s',r=.ok (.bl true) s'
theorem aK6 (s t:Sto):Yes (zH s (.bl true) t):=au4 s t true
theorem az4 {a b:Int}{j:Nat}{d:D}(h:(z6 a b)[j]?=some d):(j:Int)<b - a/\d=.int (a+j):=by
 have hj:=(ae.mp h).1
 simp only[z6,aI,dk]at hj
 unfold z6 at h
 rw[aG,bR hj]at h
 exact⟨by omega,(ay h).symm⟩
def bG6 (P:Pr)(k:Nat):Prop:=∀ ns:List Int,ns.length<=63->Yes ((aa1 P k).call "law" [.ref 0] [.ro (ns.map D.int)])
noncomputable def qd:Option Int->D
 | none=>.non
 | some i=>.int i
@[simp] theorem zt:qd none=.non:=rfl
@[simp] theorem zx (i:Int):qd (some i)=.int i:=rfl
@[simp] theorem ad7 (p:Option Int) (n:Nat):(qd p).bnd n=true:=by cases p<;>rfl
theorem aB0 (p:Option Int)(r:Nat):qd p≠.ref r:=by cases p<;>nofun
@[simp] theorem aF4 {s:Sto} {p:Option Int}:zH s (qd p) s=.ok (qd p) s:=zz (ad7 p) (aB0 p)
noncomputable def zL (b:Nat×Nat):O:=.lst [.int b.1,.int b.2]
@[simp] theorem bF1 (b:Nat×Nat) (n:Nat):(zL b).bnd n=true:=rfl
noncomputable def tkW (many:Nat):Nat->Nat->Nat->Nat->Nat×Nat
 | 0,mix,num,_=>(num,mix)
 | n+1,mix,num,room=>if room<many then tkW many n ((mix*48271+7919) % 2147483647) (num*1073741789+(mix*48271+7919) % 2147483647 / 8*69621 % 1073741789) (room*1073741789)else(num,mix)
noncomputable def tk (b:Nat×Nat)(many:Nat):Nat×(Nat×Nat) :=
 if 0<b.1 then(b.1 % many,(b.1 / many,b.2))else let r:=tkW many 12 b.2 0 1;(r.1 % many,(b.1,r.2))
theorem bH7 (b:Nat×Nat){many:Nat}(h:0<many):(tk b many).1<many:=by
 unfold tk
 split
 ·exact Nat.mod_lt _ h
 ·exact Nat.mod_lt _ h
theorem aI5 {many:Nat}{k y z room:Nat}(h:many<=room):tkW many k y z room=(z,y):=by
 cases k with
 | zero=>rfl
 | succ k=>unfold tkW;rw[if_neg (by omega)]
theorem aY2 {many:Nat}{k y z room:Nat}(h:room<many):tkW many (k+1) y z room=tkW many k ((y*48271+7919) % 2147483647) (z*1073741789+(y*48271+7919) % 2147483647 / 8*69621 % 1073741789) (room*1073741789):=by
 conv=>lhs;unfold tkW
 rw[if_pos h]
theorem bd5 {P:Pr}[Has P ac2](n:Nat)(b:Nat×Nat)(many:Nat)(h0:0<many)(h:many<=10^90)(s:Sto)(r:Nat)(hs:s[r]?=some (zL b)) :
  (aa1 P (n+1)).call "_law_take" [.ref r,.int many] s=.ok (.int (tk b many).1) (s.set r (zL (tk b many).2)):=by
 refine(zw ac2 rfl).trans ?_
 obtain⟨c,m⟩:=b
 have hr:r<s.length:=(ae.mp hs).1
 have J:(0:Int)<(many:Int):=by omega
 have a0:(many:Int)<10^200:=by
  have:(10:Int)^90<10^200:=by decide +kernel
  have:((many:Nat):Int)<=((10^90:Nat):Int):=by exact_mod_cast h
  omega
 by_cases hc:0<c
 ·have C:s[r]?=some (.lst [.int c,.int m]):=hs
  simp[ac2,ixM,C,ixn,hc,ai2 J,ao0 J a0,setIx,tk]
  exact ak1 (fun _=>rfl) (by nofun) rfl
 ·have Y:c=0:=by omega
  subst Y
  have C:s[r]?=some (.lst [.int 0,.int m]):=hs
  simp[ac2,ixM,C,ixn]
  refine aA2 (fun k ρ t=>∃ y z room:Nat,ρ=[some (.ref r),some (.int many),none,some (.int z),some (.int room)]/\t=s.set r (zL (0,y))/\many<=room*1073741789^k/\tkW many k y z room=tkW many 12 m 0 1)
   (fun ρ t=>∃ room:Nat,ρ=[some (.ref r),some (.int many),none,some (.int (tkW many 12 m 0 1).1),some (.int room)]/\t=s.set r (zL (0,(tkW many 12 m 0 1).2))) 12 ⟨m,0,1,by simp,?_,?_,rfl⟩ ?_ ?_
  ·have e:s[r]=zL (0,m):=(ae.mp hs).2
   rw[<-e,fM]
  ·refine am h ?_
   decide +kernel
  ·rintro k ρ t ⟨y,z,room,rfl,rfl,G,he⟩
   by_cases hlt:room<many
   ·simp only[ev_cmp,z8,qc,z9,R.bind_ok,lt_int,aM1,gY,hlt,decide_true,if_true]
    cases k with
    | zero=>simp at G;omega
    | succ k =>
     have h1:(s.set r (zL (0,y)))[r]?=some (.lst [.int 0,.int y]):=by rw[aU hr];rfl
     have m1:∀ a:Int,mulOk a 48271=true:=fun a=>am5 (by decide)
     have m2:∀ a:Int,mulOk a 1073741789=true:=fun a=>am5 (by decide)
     have m3:∀ a:Int,mulOk a 69621=true:=fun a=>am5 (by decide)
     refine aS6 ?_ ⟨k,dv k,(y*48271+7919) % 2147483647,z*1073741789+(y*48271+7919) % 2147483647 / 8*69621 % 1073741789,room*1073741789,rfl,rfl,?_,?_⟩
     ·simp[ixM,h1,ixn,ae5 (m1 _),ai2,setIx,hr,ae5 (m2 _),ae5 (m3 _),ao0,zL]
     ·rw[jb]at G
      rw[gu,gW 1073741789];exact G
     ·rw[<-he,aY2 hlt]
   ·simp only[ev_cmp,z8,qc,z9,R.bind_ok,lt_int,aM1,gY,hlt,decide_false,if_false,bz]
    refine⟨room,?_,?_⟩
    ·rw[<-he,aI5 (by omega)]
    ·rw[<-he,aI5 (by omega)]
  ·rintro ρ t ⟨room,rfl,rfl⟩
   simp[ai2 J,tk]
   exact ak1 (fun _=>rfl) (by nofun) rfl
noncomputable def aY7 (at_:Int)(ns:List Int):Nat->Int
 | 0=>7919*at_+17
 | k+1=>(aY7 at_ ns k*48271+(ns.getD k 0) % 2147483647+k) % 2147483629
theorem bf2 (at_:Int)(h:0<=at_)(ns:List Int):∀ k,0<=aY7 at_ ns k
 | 0=>by unfold aY7;omega
 | k+1=>by unfold aY7;exact Int.emod_nonneg _ (by decide)
noncomputable def cellF (ns:List Int)(at_:Nat):Nat:=if 10^18<=(ns.getD at_ 0).natAbs then(ns.getD at_ 0).natAbs else 0
noncomputable def bp1 (ns:List Int)(at_:Nat):Nat×Nat:=(cellF ns at_,(aY7 at_ ns (min ns.length 60)).toNat)
theorem bz7 {P:Pr}[Has P ao2](n:Nat)(ns:List Int)(at_:Nat)(s:Sto)(r:Nat)(hs:s[r]?=some (.ro (ns.map D.int)))(hl:ns.length<=63) :
  (aa1 P (n+1)).call "_law_bag" [.ref r,.int at_] s=.ok (.ref s.length) (s++[zL (bp1 ns at_)]):=by
 refine(zw ao2 rfl).trans ?_
 have m1:∀ a:Int,mulOk 7919 a=true:=fun a=>bg9 (by decide)
 have m2:∀ a:Int,mulOk a 48271=true:=fun a=>am5 (by decide)
 have y:bi .len [.ref r] s=.ok (.int ns.length) s:=by rw[bb8 hs,aI]
 have C:∀(c:Int),(c<10^18->cellF ns at_=0)->(10^18<=c->(cellF ns at_:Int)=c) ->
   (exs (aa1 P n) (.cons (.asg (.one 3) (.bin .add (.bin .mul (.cst (.int 7919)) (.var 1)) (.cst (.int 17)))) (.cons (.for_ (.one 4) (.rng1 (.bi .min2 (.cons (.bi .len (.cons (.var 0) .nil)) (.cons (.cst (.int 60)) .nil)))) (.cons (.asg (.one 3) (.bin .mod (.bin .add (.bin .add (.bin .mul (.var 3) (.cst (.int 48271))) (.bin .mod (.ix (.var 0) (.var 4)) (.cst (.int 2147483647)))) (.var 4)) (.cst (.int 2147483629)))) .nil)) (.cons (.ite (.cmp .lt (.var 2) (.bin .pow (.cst (.int 10)) (.cst (.int 18)))) (.cons (.asg (.one 2) (.cst (.int 0))) .nil) .nil) (.cons (.ret (.lst (.cons (.var 2) (.cons (.var 3) .nil)))) .nil)))) [some (.ref r),some (.int at_),some (.int c),none,none] s).bind (fin s)=.ok (.ref s.length) (s++[zL (bp1 ns at_)]):=by
  intro c h1 h2
  simp[ae5 (m1 _),y]
  have hk:(if(60:Int)<(ns.length:Int)then 60 else(ns.length:Int))=((min ns.length 60:Nat):Int):=by omega
  rw[hk,zQ (by unfold W62;omega) (by unfold W62;omega)]
  simp only[R.bind_ok]
  refine al9 (fun j ρ t=>t=s/\∃ x,ρ=[some (.ref r),some (.int at_),some (.int c),some (.int (aY7 at_ ns j)),x]) ⟨rfl,none,rfl⟩ (fun _ _ _ _ _=>rfl) ?_ ?_
  ·rintro j d ρ t hj ⟨rfl,x,rfl⟩
   have a1:j<min ns.length 60:=by have:=(ae.mp hj).1;simpa [z6]using this
   have hd:d=.int (j:Int):=by simpa [z6,a1]using hj.symm
   subst hd
   refine aS6 ?_ ⟨rfl,some (.int (j:Int)),rfl⟩
   have hx:ixM (.ref r) (.int (j:Int)) t=.ok (.int (ns.getD j 0)) t:=bA8 hs (by simp[show j<ns.length by omega])
   simp[turn,ae5 (m2 _),hx,ai2,aY7]
  ·rintro ρ t ⟨rfl,x,rfl⟩
   have J:(z6 0 ((min ns.length 60:Nat):Int)).length=min ns.length 60:=by simp[z6]
   rw[J]
   have Y:=bf2 at_ (by omega) ns (min ns.length 60)
   have z:∀ G,(G:Int)=cellF ns at_->zH t (.ref t.length) (t++[.lst [.int G,.int (aY7 at_ ns (min ns.length 60))]])=.ok (.ref t.length) (t++[zL (bp1 ns at_)]):=by
    intro G a0
    have:=aG8 (s:=t) (t:=[]) (u:=[]) (o:=zL (bp1 ns at_)) rfl
    simp only[dJ,i9,fy]at this
    rw[<-this]
    simp[zL,bp1,a0,dL Y]
   by_cases h:c<10^18
   ·have h':c<1000000000000000000:=h
    simp[aj5,h']
    exact z 0 (by rw[h1 h];rfl)
   ·have h':¬ c<1000000000000000000:=h
    simp[aj5,h']
    exact z c (h2 (by omega)).symm
 by_cases hat:at_<ns.length
 ·have hx:ixM (.ref r) (.int at_) s=.ok (.int (ns.getD at_ 0)) s:=bA8 hs (by simp[hat])
  have e:=C (if ns.getD at_ 0<0 then -ns.getD at_ 0 else ns.getD at_ 0) (by unfold cellF;intro h;rw[if_neg (by omega)]) (by unfold cellF;intro h;rw[if_pos (by omega)];omega)
  rw[<-e]
  simp[ao2,y,hat,hx]
 ·have e:=C 0 (by unfold cellF;intro h;rw[if_neg];rw[aK,bL (by omega)];decide) (by intro h;exact absurd h (by decide))
  rw[<-e]
  simp[ao2,y,hat]
theorem bf6 {s t:Sto}{r:Nat}{o:O}(h:r<s.length):(s++t).set r o=s.set r o++t:=by rw[io,if_pos h]
theorem am9 {s t:Sto}{r:Nat}{o:O}(h:s[r]?=some o):(s++t)[r]?=some o:=by
 rw[aH (ae.mp h).1];exact h
theorem aL5 {s:Sto}{r:Nat}{o:O}(h:r<s.length):(s.set r o)[r]?=some o:=aU h
theorem aQ9 {P:Pr}[Has P ac2](n:Nat)(b:Nat×Nat)(many:Int)(h0:0<many)(h:many<=10^90)(s:Sto)(r:Nat)(hs:s[r]?=some (zL b)) :
  (aa1 P (n+1)).call "_law_take" [.ref r,.int many] s=.ok (.int (tk b many.toNat).1) (s.set r (zL (tk b many.toNat).2)):=by
 have:=bd5 n b many.toNat (P:=P) (by omega) (by have:many<=((10^90:Nat):Int):=(by simpa using h);omega) s r hs
 rwa [show((many.toNat:Nat):Int)=many by omega]at this
noncomputable def bd (b:Nat×Nat):Nat×(Nat×Nat) :=
 let x0:=tk b 3
 let x1:=tk x0.2 13
 let x2:=tk x1.2 1000000000
 let x3:=tk x2.2 1000000000000000000000000000000
 let i:=tk x3.2 4
 ([x0.1,x1.1,x2.1,x3.1].getD i.1 0,i.2)
section
variable {F:Fns} {ρ:Env} {s:Sto}
noncomputable def ah1 (F:Fns)(tg:Tg)(e:E)(d:D)(ρ:Env)(s:Sto):R (Option D×Env):=match ac0 ρ tg d with
 | some ρ=>(ev F e ρ s).bind fun v s=>.ok (some v,ρ) s
 | none=>.bad
noncomputable def bp9 (F:Fns)(tg:Tg)(c e:E)(d:D)(ρ:Env)(s:Sto):R (Option D×Env):=match ac0 ρ tg d with
 | some ρ=>tru (ev F c ρ s) fun k s=>if k then(ev F e ρ s).bind fun v s=>.ok (some v,ρ) s else .ok (none,ρ) s
 | none=>.bad
@[simp] theorem af9 (tg:Tg) (it:I) (e:E) (h:List (Option Nat)):evL F (.comp tg it e h) ρ s=(evI F it ρ s).bind fun q s0=>if q.its.length<=LIM then ac4 (fun s=>chk s0 s q.src) (ah1 F tg e) q.its (qD ρ h) s0 else .bad:=rfl
@[simp] theorem aE1 (tg:Tg) (it:I) (c e:E) (h:List (Option Nat)):evL F (.compIf tg it c e h) ρ s=(evI F it ρ s).bind fun q s0=>if q.its.length<=LIM then ac4 (fun s=>chk s0 s q.src) (bp9 F tg c e) q.its (qD ρ h) s0 else .bad:=rfl
@[simp] theorem bP0 (a hi:E):ev F (.slU a hi) ρ s=(ev F a ρ s).bind fun x s=>(ev F hi ρ s).bind fun y s=>match y with|.int i=>slM x none (some i) s|_=>.bad:=rfl
@[simp] theorem bP5 (a hi:E):ev F (.slL a hi) ρ s=(ev F a ρ s).bind fun x s=>(ev F hi ρ s).bind fun y s=>match y with|.int i=>slM x (some i) none s|_=>.bad:=rfl
end
theorem am2 {ok:Sto->Bool}{g:D->Env->Sto->R (Option D×Env)}(P:Env->Sto->Prop)(f:D->Option D):∀(l:List D) (ρ:Env) (s:Sto),P ρ s ->
  (∀ ρ s,P ρ s->ok s=true)->(∀ d∈l,∀ ρ s,P ρ s->∃ ρ' s',g d ρ s=.ok (f d,ρ') s'/\P ρ' s')->∃ ρ' s',ac4 ok g l ρ s=.ok (l.filterMap f) s'/\P ρ' s'
 | [],ρ,s,h,o,_=>⟨ρ,s,by unfold ac4;rw[if_pos (o ρ s h)];rfl,h⟩
 | d::l,ρ,s,h,o,st=>by
  obtain⟨ρ1,s1,e1,z⟩:=st d (az ..) ρ s h
  obtain⟨ρ2,s2,e2,y⟩:=am2 P f l ρ1 s1 z o fun x hx=>st x (ao _ hx)
  refine⟨ρ2,s2,?_,y⟩
  unfold ac4
  rw[if_pos (o ρ s h),e1]
  simp only[R.bind_ok]
  rw[e2,bn]
  cases f d<;>rfl
theorem ae6 {P:Pr}[Has P ac2](n:Nat){s:Sto}{r:Nat}(hs:∃ b,s[r]?=some (zL b))(many:Int)(h0:0<many)(h:many<=10^90) :
  ∃(k:Nat) (b:Nat×Nat),(k:Int)<many/\(aa1 P (n+1)).call "_law_take" [.ref r,.int many] s=.ok (.int k) (s.set r (zL b)):=by
 obtain⟨b,hb⟩:=hs
 have:=bH7 b (many:=many.toNat) (by omega)
 exact⟨(tk b many.toNat).1,(tk b many.toNat).2,by omega,aQ9 n b many h0 h s r hb⟩
theorem bc5 {s:Sto}{r:Nat}{b:Nat×Nat}(h:r<s.length):∃ y,(s.set r (zL b))[r]?=some (zL y):=⟨b,aL5 h⟩
theorem bg3 {s t:Sto}{r:Nat}(h:∃ b,s[r]?=some (zL b)):∃ b,(s++t)[r]?=some (zL b):=by obtain⟨b,hb⟩:=h;exact⟨b,am9 hb⟩
theorem bw0 {s:Sto}{r:Nat}(h:∃ b,s[r]?=some (zL b)):r<s.length:=by obtain⟨b,hb⟩:=h;exact(ae.mp hb).1
theorem aB7 {l:List D}(h:∀ d∈l,∀ n,d.bnd n=true)(n:Nat):D.bndL n l=true:=by
 induction l with
 | nil=>rfl
 | cons d l ih=>unfold D.bndL;rw[h d (az ..),ih fun x hx=>h x (ao _ hx)];rfl
theorem aw0 {P:Pr}[Has P ac2](n:Nat){s t:Sto}{r:Nat}(z:r<s.length)(b:Nat×Nat)(many:Int)(h0:0<many)(h:many<=10^90) :
  ∃(k:Nat) (y:Nat×Nat),(k:Int)<many/\(aa1 P (n+1)).call "_law_take" [.ref r,.int many] (s.set r (zL b)++t)=.ok (.int k) (s.set r (zL y)++t):=by
 obtain⟨k,y,G,C⟩:=ae6 (P:=P) n (s:=s.set r (zL b)++t) (r:=r) ⟨b,am9 (aL5 z)⟩ many h0 h
 refine⟨k,y,G,?_⟩
 rw[C,bf6 (by rw[br];exact z),List.set_set]
theorem bj9 {a b:List Nat}{s:Sto}(h:a.length+b.length<=LIM):qo .add (.str a) (.str b) s=.ok (.str (a++b)) s:=by
 show(if a.length+b.length<=LIM then _ else _:M D) s=_;rw[if_pos h];rfl
def Lts (L:Nat)(w:List Nat):Prop:=∀ c∈w,97<=c/\c<97+L
theorem rep_len (l:List Nat):∀ n,(rep n l).length=l.length*n
 | 0=>by simp[rep]
 | n+1=>by simp[rep,rep_len l n,fZ];omega
noncomputable def bu1 (L:Nat)(d:D):Bool:=match d with
 | .str w=>decide (w.length<=200)&&w.all fun c=>decide (97<=c/\c<97+L)
 | _=>false
@[simp] theorem bO3 {F:Fns} {ρ:Env} {s:Sto} (a:E):ev F (.neg a) ρ s=(ev F a ρ s).bind fun x s=>match x with|.int i=>.ok (.int (-i)) s|_=>.bad:=rfl
structure Dr where
 a:Nat
 l:Nat
 b:Nat
 t:Nat
noncomputable def Dr.d (x:Dr):D:=.tup [.int x.a,.str [x.l],.int x.b,.int x.t]
structure Mc where
 L:Nat
 R:Nat
 bg:List Nat
 en:List Nat
 ds:List Dr
noncomputable def bP2 (l:List Nat):List D:=l.map fun(k:Nat)=>D.int (k:Int)
noncomputable def Mc.ps (m:Mc):List D:=[.int m.L,.int m.R,.tup (bP2 m.bg),.tup (bP2 m.en),.tup (m.ds.map Dr.d)]
noncomputable def Mc.d (m:Mc):D:=.tup m.ps
structure Dr.Ok (m:Mc)(x:Dr):Prop where
 a:x.a<m.R
 l:97<=x.l/\x.l<97+m.L
 b:x.b<m.R
 t:x.t<4
structure Mc.Ok (m:Mc):Prop where
 L1:1<=m.L
 L3:m.L<=3
 R1:1<=m.R
 R5:m.R<=5
 bg:(∀ k∈m.bg,k<m.R)/\m.bg.Pairwise (· < ·)
 en:(∀ k∈m.en,k<m.R)/\m.en.Pairwise (· < ·)
 ds:(∀ x∈m.ds,x.Ok m)/\m.ds.length<=75
section
variable {P:Pr}
@[simp] theorem bL5 (a b:Nat) (s:Sto):qB .ne (.str [a]) (.str [b]) s=.ok (.bl (!decide (a=b))) s:=by
 show(match eqv s DEEP (.str [a]) (.str [b])with|some r=>R.ok (D.bl (!r)) s|none=>.bad)=_
 have:eqv s DEEP (.str [a]) (.str [b])=some ([a]==[b]):=rfl
 rw[this]
 have e:([a]==[b])=decide (a=b):=by rw[fD];simp
 rw[e]
@[simp] theorem bK9 (a b:Nat) (s:Sto):qB .eq (.str [a]) (.str [b]) s=.ok (.bl (decide (a=b))) s:=by
 show(match eqv s DEEP (.str [a]) (.str [b])with|some r=>R.ok (D.bl r) s|none=>.bad)=_
 have:eqv s DEEP (.str [a]) (.str [b])=some ([a]==[b]):=rfl
 rw[this]
 have e:([a]==[b])=decide (a=b):=by rw[fD];simp
 rw[e]
end
theorem good_of {L:Nat}{w:List Nat}(h:w.length<=200)(hw:Lts L w):bu1 L (.str w)=true:=by
 unfold bu1
 simp only[h,decide_true,eO,aM,decide_eq_true_eq]
 exact hw
theorem aK8 {a b:List D}{s:Sto}(h:a.length+b.length<=LIM):qo .add (.tup a) (.tup b) s=.ok (.tup (a++b)) s:=by
 show(if a.length+b.length<=LIM then _ else _:M D) s=_;rw[if_pos h];rfl
@[simp] theorem bI3 {F:Fns} {ρ:Env} {s:Sto} (a lo hi:E):ev F (.slLU a lo hi) ρ s=(ev F a ρ s).bind fun x s=>(ev F lo ρ s).bind fun y s=>match y with|.int i=>(ev F hi ρ s).bind (fun z s=>match z with|.int j=>slM x (some i) (some j) s|_=>.bad)|_=>.bad:=rfl
@[simp] theorem bF4 {F:Fns} {ρ:Env} {s:Sto} (e:E):evI F (.enum (.seq e)) ρ s=(ev F e ρ s).bind fun d s=>(aQ7 d s).bind fun q s=>.ok ⟨be8 0 q.its,q.src⟩ s:=rfl
noncomputable def row (m:Nat)(f:Nat->Int):List D:=(av m).map fun j=>.int (f j)
@[simp] theorem bJ7 {m:Nat} {f:Nat->Int}:(row m f).length=m:=by unfold row;simp
theorem aU2 {ok:Sto->Bool}{g:D->Env->Sto->R (Option D×Env)}(P:Env->Sto->Prop)(f:D->D)(l:List D)(ρ:Env)(s:Sto)(h:P ρ s)
  (o:∀ ρ s,P ρ s->ok s=true) (st:∀ d∈l,∀ ρ s,P ρ s->∃ ρ' s',g d ρ s=.ok (some (f d),ρ') s'/\P ρ' s'):∃ ρ' s',ac4 ok g l ρ s=.ok (l.map f) s'/\P ρ' s':=by
 obtain⟨ρ',s',e,p⟩:=am2 P (fun d=>some (f d)) l ρ s h o st
 refine⟨ρ',s',?_,p⟩
 rw[e];congr 1;induction l<;>simp_all
theorem ag2 {ok:Sto->Bool}{g:D->Env->Sto->R (Option D×Env)}(P:Env->Sto->Prop)(f:Nat->D)(n:Nat)(ρ:Env)(s:Sto)(h:P ρ s)
  (o:∀ ρ s,P ρ s->ok s=true) (st:∀ j,j<n->∀ ρ s,P ρ s->∃ ρ' s',g (.int (j:Int)) ρ s=.ok (some (f j),ρ') s'/\P ρ' s'):∃ ρ' s',ac4 ok g (z6 0 (n:Int)) ρ s=.ok ((av n).map f) s'/\P ρ' s':=by
 obtain⟨ρ',s',e,p⟩:=aU2 (g:=g) P (fun d=>match d with|.int i=>f i.toNat|d=>d) (z6 0 (n:Int)) ρ s h o fun d hd ρ s y=>by
  obtain⟨j,hj⟩:=List.getElem?_of_mem hd
  obtain⟨z,rfl⟩:=az4 hj
  obtain⟨ρ',s',e,p⟩:=st j (by omega) ρ s y
  refine⟨ρ',s',?_,p⟩
  rw[jc,e];rfl
 refine⟨ρ',s',?_,p⟩
 rw[e]
 congr 1
 unfold z6
 rw[gZ,show((n:Int) - 0).toNat=n by omega]
 exact cO fun j _=>by
  show f ((0:Int)+(j:Int)).toNat=f j
  congr 1;omega
theorem zq (n:Nat):(z6 0 (n:Int)).length=n:=by simp[z6]
theorem z7 {n j:Nat}{d:D}(h:(z6 0 (n:Int))[j]?=some d):j<n/\d=.int (j:Int):=by
 obtain⟨y,rfl⟩:=az4 h
 exact⟨by omega,by rw[jc]⟩
theorem bj4 {s t:Sto}{l:List D}{v:D}(h:l.length<LIM):meth .append (.ref s.length) [v] (s++.lst l::t)=.ok .non (s++.lst (l++[v])::t):=by
 rw[al2 (l:=l) (by rw[aB (ai _)];simp) h,List.set_append_right _ _ (ai _)]
 simp
noncomputable def prN (f g:Nat->Nat->Int)(i j:Nat):Nat->Int
 | 0=>3
 | k+1=>if f i k<3 then(let b:=(if g k j > f i k then g k j else f i k);if b<prN f g i j k then b else prN f g i j k)else prN f g i j k
noncomputable def pr (m:Nat)(f g:Nat->Nat->Int)(i j:Nat):Int:=prN f g i j m
noncomputable def bx9 (m:Nat)(f:Nat->Nat->Int):Sto:=(av m).map fun i=>.lst (row m (f i))
@[simp] theorem br5 {m:Nat} {f:Nat->Nat->Int}:(bx9 m f).length=m:=by unfold bx9;simp
noncomputable def bS3 (p m:Nat):List D:=(av m).map fun i=>.ref (p+i)
theorem aY5 {b:Bool}{s:Sto}:bi .int [.bl b] s=.ok (.int (if b then 1 else 0)) s:=rfl
@[simp] theorem bM4 {F:Fns} {ρ:Env} {s:Sto} (a b:E):evI F (.zip (.seq a) (.seq b)) ρ s=(ev F a ρ s).bind fun x s=>(ev F b ρ s).bind fun y s=>(aC8 x s).bind fun p s=>(aC8 y s).bind fun q s=>.ok ⟨bK6 p.its q.its,p.src++q.src⟩ s:=rfl
theorem ix_str {l:List Nat}{j c:Nat}{s:Sto}(hj:l[j]?=some c):ixM (.str l) (.int (j:Int)) s=.ok (.str [c]) s:=by
 have hl:j<l.length:=(ae.mp hj).1
 have e:l[j]=c:=(ae.mp hj).2
 simp[ixM,ixn,hl,e]
noncomputable def shN (f:Nat->Nat->Int)(i j:Nat):Nat->Int
 | 0=>3
 | k+1=>let b:=max (max (f i k) (if f k k=1 then 2 else f k k)) (f k j);if b<shN f i j k then b else shN f i j k
noncomputable def sh (m:Nat)(f:Nat->Nat->Int)(i j:Nat):Int:=shN f i j m
theorem ax8 {s:Sto}{l:List D}{v:D}(h:l.length<LIM):meth .append (.ref s.length) [v] (s++[.lst l])=.ok .non (s++[.lst (l++[v])]):=bj4 (t:=[]) h
def EqG (m:Nat)(f g:Nat->Nat->Int):Prop:=∀ i j,i<m->j<m->f i j=g i j
inductive Stp where
 | let_ (c:Nat)|pair (i j:Nat)|sharp (i:Nat)
noncomputable def Stp.d:Stp->D
 | .let_ c=>.tup [.str [108,101,116,116,101,114],.str [c]]
 | .pair i j=>.tup [.str [112,97,105,114],.int i,.int j]
 | .sharp i=>.tup [.str [115,104,97,114,112],.int i]
theorem ae3 {l:List D}(h:∀ d∈l,d.ncl=true):D.nclL l=true:=by
 induction l with
 | nil=>rfl
 | cons d l ih=>unfold D.nclL;rw[h d (az ..),ih fun x hx=>h x (ao _ hx)];rfl
theorem aS7 {l:List Int}:D.nclL (l.map D.int)=true:=ae3 fun d hd=>by obtain⟨x,_,rfl⟩:=aO.mp hd;rfl
theorem bd7 {s:Sto}{r:Nat}{o:O}(h:s.all O.ncl=true)(ho:o.ncl=true):(s.set r o).all O.ncl=true:=by
 rw[aM]at h ⊢
 intro x hx
 rcases d7 hx with h1|h1
 ·exact h x h1
 ·rw[h1];exact ho
section
variable {s:Sto} {r:Nat} {b:Int} {A B C:List D} {T:Sto}
end
section
variable {m:Nat} {f:Nat->Nat->Int} {x:Int}
end
section
variable {F:Fns} {ρ:Env} {s:Sto}
noncomputable def apV (F:Fns)(d:D)(l:List D)(s:Sto):R D:=match d with
 | .fn f=>F.call f l s
 | .clo id cs=>F.lam id cs l s
 | _=>.bad
theorem am7 {i:Nat}{d:D}(es:Es)(h:ρ[i]?=some (some d)):ev F (.callV i es) ρ s=(evs F es ρ s).bind fun l s=>apV F d l s:=by
 show(evs F es ρ s).bind (fun l s=>match ρ[i]? with
  | some (some (.fn f))=>F.call f l s
  | some (some (.clo id cs))=>F.lam id cs l s
  | _=>.bad)=_
 rw[h]
 cases d<;>rfl
theorem az1 {id:String}{y:List Nat}{cs:List D}(z:As)(h:ad0 ρ y=some cs):ai4 F (.lam id y z) ρ s=(ai4 F z ρ s).bind fun l s=>.ok (.clo id cs::l) s:=by
 show(match ad0 ρ y with
  | some cs=>(ai4 F z ρ s).bind fun l s=>R.ok (D.clo id cs::l) s
  | none=>.bad)=_
 rw[h]
end
theorem ao4 {s:Sto}{o:O}(h:s.all O.ncl=true)(ho:o.ncl=true):(s++[o]).all O.ncl=true:=by rw[List.all_append,h];simp[ho]
noncomputable def Stp.t (c:Int):Stp->D
 | .sharp i=>.tup [.str [116,105,109,101,115],.int i,.int c]
 | x=>x.d
noncomputable def gdD (m:Nat)(W:Nat->Nat->D):D:=.tup ((av m).map fun i=>.tup ((av m).map fun j=>W i j))
theorem aJ7 {m:Nat}{W:Nat->Nat->D}(h:∀ i j n,(W i j).bnd n=true)(n:Nat):(gdD m W).bnd n=true:=by
 unfold gdD D.bnd
 refine aB7 (fun d hd n=>?_) n
 obtain⟨i,_,rfl⟩:=aO.mp hd
 unfold D.bnd
 refine aB7 (fun d hd n=>?_) n
 obtain⟨j,_,rfl⟩:=aO.mp hd
 exact h i j n
theorem aN1 {P : Pr} [Has P aa8] (n : Nat) {m : Nat} (hm : m <= 1000) {d : D} {s : Sto} {W : Nat -> Nat -> D} (hW : ∀ i j n, (W i j).bnd n = true)
    (h : ∀ i j, i < m -> j < m -> apV (aa1 P n) d [.int i, .int j] (s ++ [.lst ((av i).map fun i => .tup ((av m).map fun j => W i j))]) = .ok (W i j) (s ++ [.lst ((av i).map fun i => .tup ((av m).map fun j => W i j))])) :
    (aa1 P (n + 1)).call "grid" [.int m, d] s = .ok (gdD m W) s := by
  have e0 : (aa1 P (n + 1)).call "grid" [.int m, d] s = _ := zw aa8 (n := n) rfl
  rw[e0, show(cH some [D.int m, d] ++ ax aa8.vs none) = [some (D.int m), some d, none, none]from rfl]
  simp -implicitDefEqProofs only[aa8]
  simp -implicitDefEqProofs only[zT, zZ, ex_asg, ev_lst, evs_nil, R.bind_ok, alloc_eq, zO, setV_s, setV_0, bQ, qp, zU, ex_for, evI_rng1, z8, qc, z9]
  rw[zQ (by unfold W62; omega) (by unfold W62; omega)]
  simp only[R.bind_ok]
  rw[R.bind_assoc]
  refine al9 (fun i ρ t => ∃(x : Option D), ρ = [some (D.int m), some d, some (.ref s.length), x] /\ t = s ++ [.lst ((av i).map fun i => .tup ((av m).map fun j => W i j))]) ⟨none, rfl, rfl⟩ (fun _ _ _ _ _ => rfl) ?_ ?_
  · rintro i dd ρ t hi ⟨x, rfl, rfl⟩
    have hi5 := (z7 hi).1
    rw[(z7 hi).2]
    generalize hS : s ++ [O.lst ((av i).map fun i => D.tup ((av m).map fun j => W i j))] = S
    have e1 : ac4 (fun s1 => chk S s1 []) (ah1 (aa1 P n) (.one 0) (.callV 1 (.cons (.var 2) (.cons (.var 0) .nil)))) (z6 0 (m : Int)) (qD [some (D.int m), some d, some (.ref s.length), some (.int (i : Int))] [none, some 1, some 3]) S = .ok ((av m).map fun j => W i j) S := by
     obtain⟨ρ1, s1, e1, h1⟩ := ag2 (ok := fun s1 => chk S s1 []) (g := ah1 (aa1 P n) (.one 0) (.callV 1 (.cons (.var 2) (.cons (.var 0) .nil)))) (fun ρ u => u = S /\ ∃ x, ρ = [x, some d, some (.int i)]) (fun j => W i j) m (qD [some (D.int m), some d, some (.ref s.length), some (.int (i : Int))] [none, some 1, some 3]) S ⟨rfl, none, rfl⟩ (fun _ _ _ => rfl) (by
      rintro j hj ρ u ⟨rfl, x, rfl⟩
      refine⟨[some (.int j), some d, some (.int i)], u, ?_, rfl, _, rfl⟩
      have hc := h i j hi5 hj
      rw[hS]at hc
      unfold ah1
      simp -implicitDefEqProofs only[zO, setV_0]
      rw[am7 (d := d) _ rfl]
      simp -implicitDefEqProofs only[evs_cons, evs_nil, z8, qc, z9, R.bind_ok, hc])
     obtain⟨rfl, _⟩ := h1
     exact e1
    have e2 : turn (aa1 P n) (.one 3) (.cons (.ex (.meth .append (.var 2) (.cons (.mk .tuple (.comp (.one 0) (.rng1 (.var 0)) (.callV 1 (.cons (.var 2) (.cons (.var 0) .nil))) [none, some 1, some 3])) .nil))) .nil) (.int i) [some (D.int m), some d, some (.ref s.length), x] S = .ok (.next [some (D.int m), some d, some (.ref s.length), some (.int i)]) (s ++ [.lst ((av (i + 1)).map fun i => .tup ((av m).map fun j => W i j))]) := by
      unfold turn
      simp -implicitDefEqProofs only[zO, setV_s, setV_0, bQ, zT, zZ, ex_ex, ev_meth, evs_cons, evs_nil, ev_mk, af9, evI_rng1, z8, qc, z9, R.bind_ok]
      rw[zQ (by unfold W62; omega) (by unfold W62; omega)]
      simp only[R.bind_ok]
      rw[if_pos (by rw[zq]; unfold LIM; omega), e1, <- hS]
      simp -implicitDefEqProofs only[R.bind_ok, mk]
      rw[ax8 (by unfold LIM; simp; omega), fF, cy]
      rfl
    rw[e2]
    show ∃ x, _
    exact⟨some (.int i), rfl, rfl⟩
  · rintro ρ t ⟨x, rfl, rfl⟩
    rw[zq]
    have h0 : (s ++ [O.lst ((av m).map fun i => D.tup ((av m).map fun j => W i j))])[s.length]? = some (.lst ((av m).map fun i => D.tup ((av m).map fun j => W i j))) := by rw[aB (ai _)]; simp
    simp -implicitDefEqProofs only[zU, zT, zZ, ex_ret, ev_mk, evL_seq, z8, qc, z9, R.bind_ok, bb2, h0, mk, nxt_ret, fin_ret]
    exact qy (d := gdD m W) (aJ7 hW) (by nofun)
def InG (m:Nat)(f:Nat->Nat->Int):Prop:=∀ i j,i<m->j<m->0<=f i j/\f i j<=3
section
variable {P:Pr} [Has P aa8] [Has P zu] [HasL P zl]
end
noncomputable def ab9 (S:Int->Prop):Option Int->Prop
 | none=>∀ c,¬ S c
 | some c=>S c/\∀ c',S c'->c<=c'
theorem ab9.eq {S z:Int->Prop}{o y:Option Int}(h:ab9 S o)(h':ab9 z y)(e:∀ c,S c↔z c):o=y:=by
 cases o with
 | none =>
  cases y with
  | none=>rfl
  | some c=>exact absurd ((e c).mpr h'.1) (h c)
 | some c =>
  cases y with
  | none=>exact absurd ((e c).mp h.1) (h' c)
  | some c' =>
   have G:=h.2 c' ((e c').mpr h'.1)
   have C:=h'.2 c ((e c).mp h.1)
   rw[show c=c' by omega]
theorem ab9.congr {S z:Int->Prop}{o:Option Int}(h:ab9 S o)(e:∀ c,S c↔z c):ab9 z o:=by
 cases o with
 | none=>exact fun c hc=>h c ((e c).mpr hc)
 | some c=>exact⟨(e c).mp h.1,fun y hc=>h.2 y ((e y).mpr hc)⟩
noncomputable def minO:Option Int->Option Int->Option Int
 | none,x=>x
 | some a,none=>some a
 | some a,some b=>if b<a then some b else some a
theorem ab9.or {S C:Int->Prop}{o y:Option Int}(h:ab9 S o)(h':ab9 C y):ab9 (fun c=>S c\/C c) (minO o y):=by
 cases o with
 | none =>
  cases y with
  | none=>exact fun c hc=>hc.elim (h c) (h' c)
  | some b=>exact⟨.inr h'.1,fun c hc=>hc.elim (fun z=>absurd z (h c)) (h'.2 c)⟩
 | some a =>
  cases y with
  | none=>exact⟨.inl h.1,fun c hc=>hc.elim (h.2 c) (fun z=>absurd z (h' c))⟩
  | some b =>
   show ab9 _ (if b<a then some b else some a)
   by_cases hlt:b<a
   ·rw[if_pos hlt]
    exact⟨.inr h'.1,fun c hc=>hc.elim (fun z=>by have:=h.2 c z;omega) (h'.2 c)⟩
   ·rw[if_neg hlt]
    exact⟨.inl h.1,fun c hc=>hc.elim (h.2 c) (fun z=>by have:=h'.2 c z;omega)⟩
noncomputable def Dr.turn (x:Dr):Dr:=⟨x.b,x.l,x.a,x.t⟩
noncomputable def Mc.turn (m:Mc):Mc:=⟨m.L,m.R,m.en,m.bg,m.ds.map Dr.turn⟩
noncomputable def qC (row:List (Option Int)):List D:=row.map qd
theorem az5 (row:List (Option Int)):(qC row).length=row.length:=aI ..
theorem ak3:∀ l:List Int,qj (l.map D.int)=some l
 | []=>rfl
 | a::l=>by rw[aL];unfold qj;rw[ak3 l];rfl
theorem ap3:∀(l:List Int) (a:Int),(l.foldl min a=a\/l.foldl min a∈l)/\l.foldl min a<=a/\∀ y∈l,l.foldl min a<=y
 | [],a=>⟨.inl rfl,et _,fun y hy=>by cases hy⟩
 | b::l,a=>by
  obtain⟨C,J,G⟩:=ap3 l (min a b)
  rw[cu]
  refine⟨?_,by omega,fun y hy=>?_⟩
  ·rcases C with h|h
   ·rw[h]
    rcases i7 a b with z|z
    ·left;omega
    ·right;rw[show min a b=b by omega];exact az ..
   ·exact .inr (ao _ h)
  ·rcases aC.mp hy with z|z
   ·rw[z];omega
   ·exact G y z
theorem aE6 (l:List Int):ab9 (fun c=>c∈l) (minI l):=by
 cases l with
 | nil=>exact fun c hc=>by cases hc
 | cons a l =>
  obtain⟨G,C,J⟩:=ap3 l a
  refine⟨?_,fun y hy=>?_⟩
  ·rcases G with h|h
   ·rw[h];exact az ..
   ·exact ao _ h
  ·rcases aC.mp hy with z|z
   ·rw[z];exact C
   ·exact J y z
theorem bf0 (l:List Int)(s:Sto):mkD .min (l.map D.int) .non s=.ok (qd (minI l)) s:=by
 unfold mkD
 simp only[ak3]
 cases minI l<;>rfl
end DV
end
local macro_rules | `(tactic| tbr_iter [$xs,*]) => `(tactic| simp -implicitDefEqProofs only [DV.zT, DV.zZ, DV.ex_asg, DV.ex_ite, DV.ex_ret, DV.ex_ex, DV.ex_for, DV.ex_whl, DV.ex_setIx, DV.ex_cont, DV.ex_pass, DV.ex_und, DV.z8, DV.ev_cst, DV.ev_bin, DV.ev_not, DV.ev_cmp, DV.ev_and, DV.ev_or, DV.ev_ite, DV.ev_tup, DV.ev_lst, DV.ev_ix, DV.ev_call, DV.ev_bi, DV.ev_mk, DV.ev_mkD, DV.ev_mks, DV.ev_mkDs, DV.ev_meth, DV.ev_isN, DV.ev_notN, DV.evs_nil, DV.evs_cons, DV.evas_nil, DV.evas_ex, DV.evI_seq, DV.evI_rng1, DV.evL_seq, DV.Cn_bl, DV.Cn_int, DV.Cn_non, DV.Cn_str, DV.R.bind_ok, DV.zO, DV.bindT_tup, DV.setVs_nil, DV.setVs_cons, DV.setV_s, DV.setV_0, DV.unsetV_s, DV.unsetV_0, DV.qc, DV.z9, Option.map_some, Option.bind_some, DV.qp, DV.zU, DV.nxt_ret, DV.nxt_cont, DV.fin_ret, DV.fin_next, DV.add_int, DV.sub_int, DV.lt_int, DV.le_int, DV.gt_int, DV.ge_int, DV.eq_int, DV.ne_int, DV.alloc_eq, DV.tru_bl, if_true, if_false, Bool.false_eq_true, decide_true, decide_false, Bool.not_true, Bool.not_false, $[$xs:term],*])
noncomputable section
namespace DV
noncomputable def gdO (m:Nat)(f:Nat->Nat->Option Int):D:=gdD m fun i j=>qd (f i j)
theorem an5 (o:Option Int):(qd o).ncl=true:=by cases o<;>rfl
theorem qJ {m:Nat}{f:Nat->Nat->Option Int}(n:Nat):(gdO m f).bnd n=true:=aJ7 (fun i j n=>ad7 _ n) n
theorem au5 {m:Nat}{f:Nat->Nat->Option Int}:(gdO m f).ncl=true:=by
 unfold gdO gdD D.ncl
 refine ae3 fun d hd=>?_
 obtain⟨i,_,rfl⟩:=aO.mp hd
 unfold D.ncl
 refine ae3 fun d hd=>?_
 obtain⟨j,_,rfl⟩:=aO.mp hd
 exact an5 _
noncomputable def rowO (m:Nat)(f:Nat->Option Int):List D:=(av m).map fun j=>qd (f j)
theorem ay7 {m:Nat}{f:Nat->Option Int}:(rowO m f).length=m:=by unfold rowO;simp
theorem aT7 {m j:Nat}{f:Nat->Option Int}(h:j<m):(rowO m f)[j]?=some (qd (f j)):=by unfold rowO;rw[aG,bR h];rfl
theorem qu {m i:Nat}{f:Nat->Nat->Option Int}(h:i<m)(s:Sto):ixM (gdO m f) (.int (i:Int)) s=.ok (.tup (rowO m (f i))) s:=ix_tup (by rw[aG,bR h];rfl)
theorem z0 {m j:Nat}{f:Nat->Option Int}(h:j<m)(s:Sto):ixM (.tup (rowO m f)) (.int (j:Int)) s=.ok (qd (f j)) s:=ix_tup (aT7 h)
theorem qw {m:Nat}{f:Nat->Nat->Option Int}{s:Sto}:bi .len [gdO m f] s=.ok (.int m) s:=by unfold gdO gdD;rw[aL2];simp
theorem ar5 {m:Nat}{f g:Nat->Nat->Option Int}(h:∀ i j,i<m->j<m->f i j=g i j):gdO m f=gdO m g:=by
 unfold gdO gdD
 congr 1
 refine cO fun i hi=>?_
 congr 1
 exact cO fun j hj=>by show qd (f i j)=qd (g i j);rw[h i j (bv.mp hi) (bv.mp hj)]
noncomputable def addO:Option Int->Option Int->Option Int
 | some a,some b=>some (a+b)
 | _,_=>none
theorem ai0:∀ l:List (Option Int),(qC l).filterMap (fun d=>if d=D.non then none else some d)=(l.filterMap id).map D.int
 | []=>rfl
 | o::l=>by
  have h:=ai0 l
  unfold qC at h ⊢
  cases o with
  | none=>rw[aL,bn,bn];simpa using h
  | some i=>rw[aL,bn,bn];simpa using h
theorem aT8 {P:Pr}[Has P aa9](n:Nat){s:Sto}{q:Nat}{l:List (Option Int)}(hq:s[q]?=some (.lst (qC l)))(hl:l.length<=1000):(aa1 P (n+1)).call "least" [.ref q] s=.ok (qd (minI (l.filterMap id))) s:=by
 have z:(aa1 P (n+1)).call "least" [.ref q] s=_:=zw aa9 (n:=n) rfl
 rw[z,show(cH some [D.ref q]++ax aa9.vs none)=[some (D.ref q)]from rfl]
 have y:aF8 (.ref q) s=.ok ⟨qC l,[q]⟩ s:=by simp only[aF8,hq]
 obtain⟨ρ1,s1,e1,rfl,_⟩:=am2 (ok:=fun s1=>chk s s1 [q]) (g:=bp9 (aa1 P n) (.one 0) (.notN (.var 0)) (.var 0)) (fun ρ u=>u=s/\∃ x,ρ=[x]) (fun d=>if d=D.non then none else some d) (qC l) [none] s ⟨rfl,none,rfl⟩ (fun _ u h=>by obtain⟨rfl,_⟩:=h;simp[chk]) (by
  rintro d hd ρ u ⟨rfl,x,rfl⟩
  refine⟨[some d],u,?_,rfl,_,rfl⟩
  unfold bp9
  by_cases hn:d=.non
  ·tbr_iter [hn]
  ·tbr_iter [hn])
 rw[ai0]at e1
 simp -implicitDefEqProofs only[aa9]
 tbr_iter [aE1,y,if_pos (show(qC l).length<=LIM by rw[az5];unfold LIM;omega),show qD [some (D.ref q)] [none]=[none]from rfl,e1,bf0]
 exact aF4
theorem aT0 {P:Pr}[Has P ab3](n:Nat)(a b:Option Int)(s:Sto):(aa1 P (n+1)).call "added" [qd a,qd b] s=.ok (qd (addO a b)) s:=by
 have h:(aa1 P (n+1)).call "added" [qd a,qd b] s=_:=zw ab3 (n:=n) rfl
 rw[h,show(cH some [qd a,qd b]++ax ab3.vs none)=[some (qd a),some (qd b)]from rfl]
 simp -implicitDefEqProofs only[ab3]
 cases a with
 | none=>tbr_iter [zt,show(D.non=D.non)=True from eq_self _];exact ag9
 | some a=>cases b with
  | none=>tbr_iter [zt,zx,show(D.non=D.non)=True from eq_self _,show(D.int a=D.non)=False from eq_false (by nofun)];exact ag9
  | some b=>tbr_iter [zx,show(D.int a=D.non)=False from eq_false (by nofun),show(D.int b=D.non)=False from eq_false (by nofun)];exact ap9
noncomputable def prO (m:Nat)(f g:Nat->Nat->Option Int)(i j:Nat):Option Int:=minI (((av m).map fun k=>addO (f i k) (g k j)).filterMap id)
theorem ay3 {s:Sto}(hs:s.all O.ncl=true){m i:Nat}{W:Nat->Nat->D}(h:∀ i j,(W i j).ncl=true):(s++[O.lst ((av i).map fun i=>D.tup ((av m).map fun j=>W i j))]).all O.ncl=true:=by
 refine ao4 hs (ae3 fun d hd=>?_)
 obtain⟨x,_,rfl⟩:=aO.mp hd
 unfold D.ncl
 exact ae3 fun d hd=>by obtain⟨x,_,rfl⟩:=aO.mp hd;exact h _ _
section
variable {P:Pr} [Has P aa8]
theorem aY4 [Has P ab5][HasL P aa5](n:Nat){m:Nat}(J:m<=5){s:Sto}(hs:s.all O.ncl=true) :
  (aa1 P (n+3)).call "plain" [.int m] s=.ok (gdO m fun i j=>if i=j then some 0 else none) s:=by
 have G:(aa1 P (n+3)).call "plain" [.int m] s=_:=zw ab5 (n:=n+2) rfl
 have C:=aN1 (P:=P) (n+1) (m:=m) (by omega) (d:=.clo "plain.0" []) (s:=s) (W:=fun i j=>qd (if i=j then some 0 else none)) (fun _ _ n=>ad7 _ n) (fun i j hi hj=>by
  generalize z:s++[O.lst ((av i).map fun i=>D.tup ((av m).map fun j=>qd (if i=j then some 0 else none)))]=S
  have y:S.all O.ncl=true:=by rw[<-z];exact ay3 hs (W:=fun i j=>qd (if i=j then some 0 else none)) (fun _ _=>an5 _)
  refine(aI7 aa5 (n:=n) rfl rfl (by rw[y];rfl)).trans ?_
  show(ev (aa1 P n) aa5.body [some (.int i),some (.int j)] S).bind (zH S)=_
  simp -implicitDefEqProofs only[aa5]
  by_cases h:i=j
  ·tbr_iter [show((i:Int)=(j:Int))=True from eq_true (by omega),if_pos h,zx];exact ap9
  ·tbr_iter [show((i:Int)=(j:Int))=False from eq_false (by omega),if_neg h,zt];exact ag9)
 rw[G,show(cH some [D.int m]++ax ab5.vs none)=[some (D.int m)]from rfl]
 simp -implicitDefEqProofs only[ab5]
 tbr_iter [az2]
 rw[az1 (cs:=[]) _ rfl]
 have e:gdD m (fun i j=>qd (if i=j then some 0 else none))=gdO m (fun i j=>if i=j then some 0 else none):=rfl
 tbr_iter [C,e,if_pos (show((gdO m fun i j=>if i=j then some 0 else none).ncl&&s.all O.ncl)=true by rw[au5,hs];rfl)]
 exact zz qJ (by nofun)
theorem aw2 [Has P aa9][Has P ab3][Has P aa6][HasL P aa2](n:Nat){m:Nat}(hm:m<=5)(f g:Nat->Nat->Option Int){s:Sto}(hs:s.all O.ncl=true) :
  (aa1 P (n+4)).call "product" [gdO m f,gdO m g] s=.ok (gdO m (prO m f g)) s:=by
 have y:(aa1 P (n+4)).call "product" [gdO m f,gdO m g] s=_:=zw aa6 (n:=n+3) rfl
 have J:=aN1 (P:=P) (n+2) (m:=m) (by omega) (d:=.clo "product.0" [.int m,gdO m f,gdO m g]) (s:=s) (W:=fun i j=>qd (prO m f g i j)) (fun _ _ n=>ad7 _ n) (fun i j hi hj=>by
  generalize Y:s++[O.lst ((av i).map fun i=>D.tup ((av m).map fun j=>qd (prO m f g i j)))]=S
  have z:S.all O.ncl=true:=by rw[<-Y];exact ay3 hs (W:=fun i j=>qd (prO m f g i j)) (fun _ _=>an5 _)
  refine(aI7 aa2 (n:=n+1) rfl rfl (by rw[z];simp[D.nclL,D.ncl,au5])).trans ?_
  show(ev (aa1 P (n+1)) aa2.body [some (.int i),some (.int j),some (.int m),some (gdO m f),some (gdO m g)] S).bind (zH S)=_
  obtain⟨ρ1,s1,e1,rfl,_⟩:=ag2 (ok:=fun s1=>chk S s1 []) (g:=ah1 (aa1 P (n+1)) (.one 0) (.call "added" (.ex (.ix (.ix (.var 1) (.var 2)) (.var 0)) (.ex (.ix (.ix (.var 3) (.var 0)) (.var 4)) .nil)))) (fun ρ u=>u=S/\∃ x,ρ=[x,some (gdO m f),some (.int i),some (gdO m g),some (.int j)]) (fun k=>qd (addO (f i k) (g k j))) m [none,some (gdO m f),some (.int i),some (gdO m g),some (.int j)] S ⟨rfl,none,rfl⟩ (fun _ _ _=>rfl) (by
   rintro k hk ρ u ⟨rfl,x,rfl⟩
   refine⟨[some (.int k),some (gdO m f),some (.int i),some (gdO m g),some (.int j)],u,?_,rfl,_,rfl⟩
   unfold ah1
   tbr_iter [qu hi,qu hk,z0 hk,z0 hj,aT0 n])
  have C:((av m).map fun k=>qd (addO (f i k) (g k j)))=qC ((av m).map fun k=>addO (f i k) (g k j)):=by unfold qC;rw[gZ];rfl
  rw[C]at e1
  have h:∀ q (s:Sto),mk .list q s=.ok (.ref s.length) (s++[.lst q]):=fun _ _=>rfl
  have G:=aT8 (P:=P) n (s:=s1++[O.lst (qC ((av m).map fun k=>addO (f i k) (g k j)))]) (q:=s1.length) (l:=(av m).map fun k=>addO (f i k) (g k j)) (by rw[aB (ai _)];simp) (by simp;omega)
  simp -implicitDefEqProofs only[aa2]
  tbr_iter [af9,zQ (s:=s1) (i:=(m:Int)) (by unfold W62;omega) (by unfold W62;omega),if_pos (show(z6 0 (m:Int)).length<=LIM by rw[zq];unfold LIM;omega),show qD [some (D.int (i:Int)),some (D.int (j:Int)),some (D.int (m:Int)),some (gdO m f),some (gdO m g)] [none,some 3,some 0,some 4,some 1]=[none,some (gdO m f),some (.int i),some (gdO m g),some (.int j)]from rfl,e1,h,G]
  exact qy (ad7 _) (aB0 _))
 rw[y,show(cH some [gdO m f,gdO m g]++ax aa6.vs none)=[some (gdO m f),some (gdO m g),none]from rfl]
 simp -implicitDefEqProofs only[aa6]
 tbr_iter [qw,az2]
 rw[az1 (cs:=[.int m,gdO m f,gdO m g]) _ rfl]
 have e:gdD m (fun i j=>qd (prO m f g i j))=gdO m (prO m f g):=rfl
 tbr_iter [J,e,if_pos (show((gdO m (prO m f g)).ncl&&s.all O.ncl)=true by rw[au5,hs];rfl)]
 exact zz qJ (by nofun)
end
theorem ab9.low {S:Int->Prop}{l:List Int}(C:∀ x∈l,S x)(z:∀ c,S c->∃ x∈l,x<=c):ab9 S (minI l):=by
 have h:=aE6 l
 cases e:minI l with
 | none =>
  rw[e]at h
  exact fun c hc=>by obtain⟨x,hx,_⟩:=z c hc;exact h x hx
 | some i =>
  rw[e]at h
  refine⟨C i h.1,fun c hc=>?_⟩
  obtain⟨x,hx,y⟩:=z c hc
  exact Int.le_trans (h.2 x hx) y
theorem aj2 {m:Nat}{A B:Nat->Nat->Int->Prop}{f g:Nat->Nat->Option Int}(z:∀ i j,i<m->j<m->ab9 (A i j) (f i j))(C:∀ i j,i<m->j<m->ab9 (B i j) (g i j)){i j:Nat}(hi:i<m)(hj:j<m) :
  ab9 (fun c=>∃ k,k<m/\∃ a b,A i k a/\B k j b/\c=a+b) (prO m f g i j):=by
 unfold prO
 refine ab9.low (fun x hx=>?_) fun c hc=>?_
 ·obtain⟨o,ho,e⟩:=cc.mp hx
  obtain⟨k,hk,rfl⟩:=aO.mp ho
  have hk:=bv.mp hk
  have y:=z i k hi hk
  have h:=C k j hk hj
  cases e1:f i k with
  | none=>rw[e1]at e;cases e
  | some a =>
   cases e2:g k j with
   | none=>rw[e1,e2]at e;cases e
   | some b =>
    rw[e1]at y;rw[e2]at h
    rw[e1,e2]at e
    cases e
    exact⟨k,hk,a,b,y.1,h.1,rfl⟩
 ·obtain⟨k,hk,a,b,ha,hb,rfl⟩:=hc
  have y:=z i k hi hk
  have h:=C k j hk hj
  cases e1:f i k with
  | none=>rw[e1]at y;exact absurd ha (y a)
  | some a' =>
   cases e2:g k j with
   | none=>rw[e2]at h;exact absurd hb (h b)
   | some b' =>
    rw[e1]at y;rw[e2]at h
    refine⟨a'+b',cc.mpr ⟨some (a'+b'),aO.mpr ⟨k,bv.mpr hk,by rw[e1,e2];rfl⟩,rfl⟩,?_⟩
    have:=y.2 a ha
    have:=h.2 b hb
    omega
section
variable {P:Pr} [Has P aa8] [Has P aa9] [Has P ql] [Has P qk] [Has P zB] [HasL P zn]
end
theorem bP3 {s:Sto}{o:O}:(s++[o])[s.length]?=some o:=by rw[aB (ai _)];simp
section
variable {P:Pr} [Has P aa8] [Has P aa9] [Has P ab3] [Has P ql] [Has P qk] [Has P zB] [HasL P zn] [Has P ab5] [HasL P aa5] [Has P aa6] [HasL P aa2] [Has P qe]
end
theorem aM4 {ρ:Env}{i:Nat}{d:D}(h:ρ[i]?=some (some d))(s:Sto):aA7 ρ i s=.ok d s:=by unfold aA7;rw[h]
structure Gd (ns:List Int)(r:Nat)(u:Sto):Prop where
 scr:u[0]?=some (.ro (ns.map D.int))
 ncl:u.all O.ncl=true
 bag:∃ b,u[r]?=some (zL b)
 r0:r≠0
theorem Gd.put {ns:List Int}{r:Nat}{u:Sto}(h:Gd ns r u)(b:Nat×Nat):Gd ns r (u.set r (zL b)):=⟨by rw[bj h.r0];exact h.scr,bd7 h.ncl rfl,bc5 (bw0 h.bag),h.r0⟩
theorem Gd.snoc {ns:List Int}{r:Nat}{u:Sto}(h:Gd ns r u){o:O}(ho:o.ncl=true):Gd ns r (u++[o]):=⟨am9 h.scr,ao4 h.ncl ho,bg3 h.bag,h.r0⟩
theorem an9 {f:D->D->Option Bool}:∀ {l:List D},(∀ d∈l,f d d=some true)->eqL f l l=some true
 | [],_=>rfl
 | d::l,h=>by
  show(match f d d,eqL f l l with|some x,some y=>some (x&&y)|_,_=>none)=_
  rw[h d (az ..),an9 fun x hx=>h x (ao _ hx)];rfl
theorem aW9 {s:Sto}{n:Nat}(o:Option Int):eqv s n (qd o) (qd o)=some true:=by
 cases o<;>cases n<;>simp[eqv,ad4,aC5]
theorem be7 {s:Sto}{m:Nat}{f:Nat->Nat->Option Int}:eqv s DEEP (gdO m f) (gdO m f)=some true:=by
 show eqL (eqv s 29) _ _=_
 refine an9 fun d hd=>?_
 obtain⟨i,_,rfl⟩:=aO.mp hd
 show eqL (eqv s 28) _ _=_
 refine an9 fun d hd=>?_
 obtain⟨j,_,rfl⟩:=aO.mp hd
 exact aW9 _
theorem bz1 {s:Sto}{m:Nat}{f:Nat->Nat->Option Int}:qB .eq (gdO m f) (gdO m f) s=.ok (.bl true) s:=by
 show(match eqv s DEEP (gdO m f) (gdO m f)with|some r=>R.ok (D.bl r) s|none=>.bad)=_
 rw[be7]
noncomputable def bK4:Ss:=(.cons (.ite (.and (.notN (.var 3)) (.or (.not (.bi .isInt (.cons (.var 3) .nil))) (.bi .isBool (.cons (.var 3) .nil)))) (.cons (.ret (.cst (.bl false))) .nil) .nil) .nil)
theorem aT5 {P:Pr}[Has P ab7](n:Nat){m:Nat}(hm:m<=5)(f:Nat->Nat->Option Int)(s:Sto):(aa1 P (n+1)).call "_law_same" [gdO m f,gdO m f] s=.ok (.bl true) s:=by
 have e0:(aa1 P (n+1)).call "_law_same" [gdO m f,gdO m f] s=_:=zw ab7 (n:=n) rfl
 rw[e0,show(cH some [gdO m f,gdO m f]++ax ab7.vs none)=[some (gdO m f),some (gdO m f),none,none]from rfl]
 have tT:∀ l s,bi .isTup [.tup l] s=.ok (.bl true) s:=fun _ _=>rfl
 have tG:∀ s,bi .isTup [gdO m f] s=.ok (.bl true) s:=fun _=>rfl
 simp -implicitDefEqProofs only[ab7]
 tbr_iter [tG,qw,show((m:Int)=(m:Int))=True from eq_self _,zQ (s:=s) (i:=(m:Int)) (by unfold W62;omega) (by unfold W62;omega)]
 rw[R.bind_assoc]
 refine al9 (fun k ρ t=>t=s/\∃ C h,ρ=[some (gdO m f),some (gdO m f),C,h]) ⟨rfl,none,none,rfl⟩ (fun _ _ _ _ _=>rfl) ?_ ?_
 ·rintro i d ρ t hi ⟨rfl,C,h,rfl⟩
  have z:=(z7 hi).1
  rw[(z7 hi).2]
  have key:=qi (ok:=fun s1=>chk t s1 []) (g:=turn (aa1 P n) (.one 3) bK4) (fun k ρ u=>u=t/\∃ h,ρ=[some (gdO m f),some (gdO m f),some (.int (i:Int)),h]) (rowO m (f i)) 0 [some (gdO m f),some (gdO m f),some (.int (i:Int)),h] t ⟨rfl,h,rfl⟩ (fun _ _ _ _ _=>rfl) (by
   rintro j d ρ u hj ⟨rfl,G,rfl⟩
   unfold rowO at hj
   rw[aG]at hj
   obtain⟨q,_,rfl⟩:=dh.mp hj
   refine⟨[some (gdO m f),some (gdO m f),some (.int (i:Int)),some (qd (f i q))],u,.inl ?_,rfl,_,rfl⟩
   unfold turn bK4
   cases f i q with
   | none=>tbr_iter [zt]
   | some y=>tbr_iter [zx,show(D.int y=D.non)=False from eq_false (by nofun),aN5,aE5])
  obtain⟨ρ',s',J,rfl,G,rfl⟩:=key
  have Y:aF8 (.tup (rowO m (f i))) s'=.ok ⟨rowO m (f i),[]⟩ s':=rfl
  refine aS6 (ρ:=[some (gdO m f),some (gdO m f),some (.int (i:Int)),G]) (s:=s') ?_ ⟨rfl,_,_,rfl⟩
  unfold turn
  tbr_iter [qu z,tT,aL2,ay7,qw,show((m:Int)=(m:Int))=True from eq_self _,Y]
  unfold bK4 at J
  rw[J]
  tbr_iter []
 ·rintro ρ t ⟨rfl,C,h,rfl⟩
  tbr_iter [bz1]
  exact aV3
section
variable {P:Pr} [Has P aa8] [Has P aa9] [Has P ab3] [Has P ql] [Has P qk] [Has P zB] [HasL P zn] [Has P ab5] [HasL P aa5] [Has P aa6] [HasL P aa2] [Has P qe]
 [Has P ao2] [Has P ac2] [Has P bl7] [Has P aP8] [Has P bt8] [Has P ab7] [Has P aw3] [Has P aN9]
end
section
variable {P:Pr} [Has P ai3] [Has P ap5] [Has P zR]
variable [Has P aa8] [Has P aa9] [Has P ab3] [Has P ql] [Has P qk] [Has P zB] [HasL P zn] [Has P ab5] [HasL P aa5] [Has P aa6] [HasL P aa2] [Has P qe] [Has P bl2]
end
def bR7 (m:Nat)(f:Nat->Nat->Int):Prop:=EqG m (pr m f f) f
section
variable {P:Pr} [Has P aa8] [Has P zu] [HasL P zl] [Has P qG]
variable [Has P ak8] [Has P ah0] [HasL P qF] [HasC P "FREE" (.int 0)] [HasC P "UNBOUND" (.int 2)] [HasC P "NONE" (.int 3)]
end
section
variable {P:Pr} [Has P aa8] [Has P zu] [HasL P zl] [Has P qG] [Has P qE]
end
section
variable {P:Pr} [Has P aG3]
variable [Has P au0]
end
section
variable {m:Nat} (hm:1<=m) {g:Nat->Nat->Int} (hg:InG m g) (hst:bR7 m g)
include hm hg hst
end
section
variable {P:Pr} [Has P aG3] [Has P aa8] [Has P zu] [HasL P zl] [Has P qG] [Has P ak8] [Has P ah0] [HasL P qF] [HasC P "FREE" (.int 0)] [HasC P "UNBOUND" (.int 2)] [HasC P "NONE" (.int 3)] [Has P qE] [Has P av1] [Has P bg6]
variable [Has P bE3] [Has P au0] [Has P aP4]
end
theorem be3 {P:Pr}{n:Nat}{x:String}{d:D}[HasC P x d](ρ:Env)(s:Sto):ev (aa1 P n) (.glob x) ρ s=.ok d s:=by
 show(match(aa1 P n).con x with|some d=>R.ok d s|none=>.bad)=_
 rw[bg1 (v:=d)]
noncomputable def un (i j:Nat):Int:=if i=j then 0 else 3
section
variable {m:Nat} (hm:1<=m)
end
section
variable {P:Pr} [Has P aa8] [Has P ad8] [HasL P qt] [HasC P "FREE" (.int 0)] [HasC P "NONE" (.int 3)]
variable [Has P ab2] [Has P zu] [HasL P zl]
variable [Has P ae8] [HasC P "sign_product" (.fn "sign_product")]
end
section
variable {P:Pr} [Has P ah9] [Has P bc0] [Has P aJ1]
end
section
variable {P:Pr} [Has P bE3] [Has P aG3] [Has P au0] [Has P bD3] [Has P ah9] [Has P bc0] [Has P aJ1] [Has P bo9] [Has P aN7] [Has P aa8] [Has P ab2] [Has P ad8] [HasL P qt] [Has P zu] [HasL P zl] [Has P ae8] [HasC P "FREE" (.int 0)] [HasC P "NONE" (.int 3)] [HasC P "sign_product" (.fn "sign_product")]
end
section
variable {P:Pr} [HasC P "FREE" (.int 0)] [HasC P "SOME" (.int 1)] [HasC P "NONE" (.int 3)] [Has P aM0]
variable [Has P aa8] [Has P aQ0] [HasL P ar0]
variable [Has P aa9] [Has P ab3] [Has P ql] [Has P qk] [Has P zB] [HasL P zn] [Has P ab5] [HasL P aa5] [Has P aa6] [HasL P aa2] [Has P qe] [Has P at9]
variable [Has P ai3] [Has P ap5] [Has P zR] [Has P aC9]
end
inductive Rst where
 | let_ (c:Nat)|pair (i j:Nat)|times (i n:Nat)
noncomputable def Rst.d:Rst->D
 | .let_ c=>.tup [.str [108,101,116,116,101,114],.str [c]]
 | .pair i j=>.tup [.str [112,97,105,114],.int i,.int j]
 | .times i n=>.tup [.str [116,105,109,101,115],.int i,.int n]
theorem rp2 {i j:Nat}{s:Sto}:ixM (Rst.pair i j).d (.int 2) s=.ok (.int j) s:=rfl
section
variable {P:Pr} [Has P ax4] [Has P ar7] [HasL P af2] [HasL P af1] [HasL P af0]
end
section
variable {P:Pr} [Has P ax4] [Has P ar7] [HasL P af2] [HasL P af1] [HasL P af0] [Has P aw1] [Has P am1]
end
section
variable {α:Type} (d:α) (fl:Nat->α) (fp:α->α->α) (ft:α->Nat->α)
end
theorem aD6 {P:Pr}[Has P ab2](n:Nat)(W:Nat->D)(h:String){s:Sto}(hb:∀ k n,(W k).bnd n=true)(hr:∀ k r,W k≠.ref r)(J:∀ a b,(aa1 P n).call h [W a,W b] s=.ok (W (a+b)) s)(many:Nat) :
  (aa1 P (n+1)).call "raised" [W 1,.int many,W 0,.fn h] s=.ok (W many) s:=by
 have e0:(aa1 P (n+1)).call "raised" [W 1,.int many,W 0,.fn h] s=_:=zw ab2 (n:=n) rfl
 have key:∀ a b,apV (aa1 P n) (.fn h) [W a,W b] s=.ok (W (a+b)) s:=J
 rw[e0,show(cH some [W 1,.int many,W 0,.fn h]++ax ab2.vs none)=[some (W 1),some (.int many),some (W 0),some (.fn h),none,none,none]from rfl]
 simp -implicitDefEqProofs only[ab2]
 simp -implicitDefEqProofs only[zT,zZ,ex_asg,z8,qc,z9,R.bind_ok,zO,setV_s,setV_0,bQ,qp,zU,ex_whl]
 rw[R.bind_assoc]
 refine aA2 (fun k ρ t=>∃(a b left:Nat),left=k/\a+b*left=many/\ρ=[some (W 1),some (.int many),some (W 0),some (.fn h),some (W a),some (W b),some (.int left)]/\t=s) (fun ρ t=>∃(b:Nat) (x:Option D),ρ=[some (W 1),some (.int many),some (W 0),some (.fn h),some (W many),some (W b),x]/\t=s) many ⟨0,1,many,rfl,by omega,rfl,rfl⟩ ?_ ?_
 ·rintro k ρ t ⟨a,b,left,rfl,hab,rfl,rfl⟩
  simp -implicitDefEqProofs only[ev_cmp,z8,ev_cst,Cn_int,qc,z9,R.bind_ok,gt_int,aM1]
  by_cases hl:(0:Int)<(left:Int)
  ·simp only[hl,decide_true,if_true]
   have z:qo .fdiv (.int left) (.int 2) t=.ok (.int ((left / 2:Nat):Int)) t:=by rw[ao0 (by decide) (by decide)];simp
   have C:qo .mod (.int left) (.int 2) t=.ok (.int ((left % 2:Nat):Int)) t:=by rw[ai2 (by decide)];simp
   obtain⟨y,ha',e1⟩:∃ y:Nat,y+b*(2*(left / 2))=many/\ex (aa1 P n) (.ite (.cmp .eq (.bin .mod (.var 6) (.cst (.int 2))) (.cst (.int 1))) (.cons (.asg (.one 4) (.callV 3 (.cons (.var 4) (.cons (.var 5) .nil)))) .nil) .nil) [some (W 1),some (.int many),some (W 0),some (.fn h),some (W a),some (W b),some (.int left)] t=.ok (.next [some (W 1),some (.int many),some (W 0),some (.fn h),some (W y),some (W b),some (.int left)]) t:=by
    by_cases ho:((left % 2:Nat):Int)=1
    ·refine⟨a+b,?_,?_⟩
     ·have:left=2*(left / 2)+1:=by omega
      rw[this,fZ]at hab
      have e2:2*((2*(left / 2)+1) / 2)=2*(left / 2):=by omega
      omega
     ·simp -implicitDefEqProofs only[ex_ite,ev_cmp,ev_bin,z8,ev_cst,Cn_int,qc,z9,R.bind_ok,C,eq_int,ho,decide_true,tru_bl,if_true,zT,zZ,ex_asg]
      rw[am7 (d:=.fn h) _ rfl]
      simp -implicitDefEqProofs only[evs_cons,evs_nil,z8,qc,z9,R.bind_ok,key a b,zO,setV_s,setV_0,bQ,qp,zU,zZ]
    ·refine⟨a,?_,?_⟩
     ·have:left=2*(left / 2):=by omega
      rw[<-this];exact hab
     ·simp -implicitDefEqProofs only[ex_ite,ev_cmp,ev_bin,z8,ev_cst,Cn_int,qc,z9,R.bind_ok,C,eq_int,ho,decide_false,tru_bl,if_false,bz,zZ]
   have e2:∃ G:Nat,y+G*(left / 2)=many/\exs (aa1 P n) (.cons (.asg (.one 6) (.bin .fdiv (.var 6) (.cst (.int 2)))) (.cons (.ite (.cmp .gt (.var 6) (.cst (.int 0))) (.cons (.asg (.one 5) (.callV 3 (.cons (.var 5) (.cons (.var 5) .nil)))) .nil) .nil) .nil)) [some (W 1),some (.int many),some (W 0),some (.fn h),some (W y),some (W b),some (.int left)] t=.ok (.next [some (W 1),some (.int many),some (W 0),some (.fn h),some (W y),some (W G),some (.int ((left / 2:Nat):Int))]) t:=by
    by_cases hl2:(0:Int)<((left / 2:Nat):Int)
    ·refine⟨b+b,?_,?_⟩
     ·rw[<-ha',Nat.add_mul,<-gu,gW b 2,gu];omega
     ·simp -implicitDefEqProofs only[zT,ex_asg,ev_bin,z8,ev_cst,Cn_int,qc,z9,R.bind_ok,z,zO,setV_s,setV_0,bQ,qp,zU,ex_ite,ev_cmp,gt_int,hl2,decide_true,tru_bl,if_true,zZ]
      rw[am7 (d:=.fn h) _ rfl]
      simp -implicitDefEqProofs only[evs_cons,evs_nil,z8,qc,z9,R.bind_ok,key b b,zO,setV_s,setV_0,bQ,qp,zU,zZ]
    ·refine⟨b,?_,?_⟩
     ·have:left / 2=0:=by omega
      rw[this]at ha' ⊢
      exact ha'
     ·simp -implicitDefEqProofs only[zT,ex_asg,ev_bin,z8,ev_cst,Cn_int,qc,z9,R.bind_ok,z,zO,setV_s,setV_0,bQ,qp,zU,ex_ite,ev_cmp,gt_int,hl2,decide_false,tru_bl,if_false,bz,zZ]
   obtain⟨G,Y,e2⟩:=e2
   have e3:exs (aa1 P n) (.cons (.ite (.cmp .eq (.bin .mod (.var 6) (.cst (.int 2))) (.cst (.int 1))) (.cons (.asg (.one 4) (.callV 3 (.cons (.var 4) (.cons (.var 5) .nil)))) .nil) .nil) (.cons (.asg (.one 6) (.bin .fdiv (.var 6) (.cst (.int 2)))) (.cons (.ite (.cmp .gt (.var 6) (.cst (.int 0))) (.cons (.asg (.one 5) (.callV 3 (.cons (.var 5) (.cons (.var 5) .nil)))) .nil) .nil) .nil))) [some (W 1),some (.int many),some (W 0),some (.fn h),some (W a),some (W b),some (.int left)] t=.ok (.next [some (W 1),some (.int many),some (W 0),some (.fn h),some (W y),some (W G),some (.int ((left / 2:Nat):Int))]) t:=by
    rw[zT,e1,R.bind_ok,zU,e2]
   rw[e3]
   exact⟨left / 2,by omega,y,G,left / 2,rfl,Y,rfl,rfl⟩
  ·simp only[hl,decide_false,if_false,bz]
   have h0:left=0:=by omega
   subst h0
   have:a=many:=by omega
   subst this
   exact⟨b,_,rfl,trivial⟩
 ·rintro ρ t ⟨b,x,rfl,rfl⟩
  simp -implicitDefEqProofs only[zU,zT,zZ,ex_ret,z8,qc,z9,R.bind_ok,nxt_ret,fin_ret]
  exact zz (hb many) (hr many)
section
variable {P:Pr} [Has P aa8] [Has P aa9] [Has P ab3] [Has P ab5] [HasL P aa5] [Has P aa6] [HasL P aa2] [Has P ab2] [Has P ac3] [HasC P "product" (.fn "product")]
end
noncomputable def WS (m:Nat)(f:Nat->Nat->Option Int):Nat->Nat->Nat->Int->Prop
 | 0,i,j,c=>i=j/\c=0
 | k+1,i,j,c=>∃ q,q<m/\∃ a b,f i q=some a/\WS m f k q j b/\c=a+b
noncomputable def pwO (m:Nat)(f:Nat->Nat->Option Int):Nat->Nat->Nat->Option Int
 | 0=>fun i j=>if i=j then some 0 else none
 | k+1=>prO m f (pwO m f k)
theorem ag4 (o:Option Int):ab9 (fun c=>o=some c) o:=by
 cases o with
 | none=>intro c h;cases h
 | some i=>exact⟨rfl,fun c h=>by cases h;exact et _⟩
theorem ad5 {m:Nat}{f:Nat->Nat->Option Int}:∀ k {i j:Nat},i<m->j<m->ab9 (WS m f k i j) (pwO m f k i j)
 | 0,i,j,hi,hj=>by
  show ab9 (WS m f 0 i j) (if i=j then some 0 else none)
  by_cases h:i=j
  ·rw[if_pos h];exact⟨⟨h,rfl⟩,fun c hc=>by have:=hc.2;omega⟩
  ·rw[if_neg h];exact fun c hc=>h hc.1
 | k+1,i,j,hi,hj=>aj2 (A:=fun i q c=>f i q=some c) (fun i j _ _=>ag4 _) (fun i j hi hj=>ad5 k hi hj) hi hj
theorem aM7 {m:Nat}{f:Nat->Nat->Option Int}{b j:Nat}:∀(a:Nat) {i:Nat} {c:Int},i<m->(WS m f (a+b) i j c↔∃ k,k<m/\∃ x y,WS m f a i k x/\WS m f b k j y/\c=x+y)
 | 0,i,c,hi=>by
  rw[be]
  constructor
  ·intro h;exact⟨i,hi,0,c,⟨rfl,rfl⟩,h,by omega⟩
  ·rintro⟨k,_,x,y,⟨rfl,rfl⟩,h,e⟩
   have:c=y:=by omega
   rw[this];exact h
 | a+1,i,c,hi=>by
  rw[Nat.succ_add]
  constructor
  ·rintro⟨q,hq,x,y,G,h2,e⟩
   obtain⟨k,hk,J,y',C,z,e2⟩:=(aM7 a hq).mp h2
   exact⟨k,hk,x+J,y',⟨q,hq,x,J,G,C,rfl⟩,z,by omega⟩
  ·rintro⟨k,hk,x,y,⟨q,hq,x1,Y,G,C,e1⟩,z,e⟩
   exact⟨q,hq,x1,Y+y,G,(aM7 a hq).mpr ⟨k,hk,Y,y,C,z,rfl⟩,by omega⟩
noncomputable def pwD (m:Nat)(f:Nat->Nat->Option Int)(k:Nat):D:=gdO m (pwO m f k)
theorem aO3 {m:Nat}{f:Nat->Nat->Option Int}(a b:Nat):gdO m (prO m (pwO m f a) (pwO m f b))=pwD m f (a+b) :=
 ar5 fun i j hi hj=>(aj2 (fun i j hi hj=>ad5 a hi hj) (fun i j hi hj=>ad5 b hi hj) hi hj).eq (ad5 (a+b) hi hj) fun c=>(aM7 a hi).symm
theorem ba7 {m:Nat}{f:Nat->Nat->Option Int}:pwD m f 1=gdO m f :=
 ar5 fun i j hi hj=>(ad5 1 hi hj).eq (ag4 (f i j)) fun c=>by
  constructor
  ·rintro⟨q,hq,a,b,h,⟨rfl,rfl⟩,e⟩
   rw[h];congr 1;omega
  ·intro h
   exact⟨j,hj,c,0,h,⟨rfl,rfl⟩,by omega⟩
section
variable {P:Pr} [Has P aa8] [Has P aa9] [Has P ab3] [Has P ab5] [HasL P aa5] [Has P aa6] [HasL P aa2] [Has P ab2] [Has P ac3] [HasC P "product" (.fn "product")]
theorem aN4 (n:Nat){m:Nat}(y:m<=5)(f:Nat->Nat->Option Int)(many:Nat){s:Sto}(hs:s.all O.ncl=true) :
  (aa1 P (n+6)).call "power" [gdO m f,.int many] s=.ok (pwD m f many) s:=by
 have C:(aa1 P (n+6)).call "power" [gdO m f,.int many] s=_:=zw ac3 (n:=n+5) rfl
 have e1:=aD6 (P:=P) (n+4) (fun a=>pwD m f a) "product" (s:=s) (fun _ n=>qJ n) (fun _ _ h=>by cases h) (fun a b=>by
  rw[pwD,pwD,aw2 (P:=P) n y _ _ hs,aO3]) many
 rw[show pwD m f 1=gdO m f from ba7]at e1
 have e2:=aY4 (P:=P) (n+2) y hs
 have g1:=fun ρ s=>be3 (P:=P) (n:=n+5) (x := "product") (d:=.fn "product") ρ s
 have z:bi .len [gdO m f] s=.ok (.int m) s:=qw
 rw[C,show(cH some [gdO m f,D.int many]++ax ac3.vs none)=[some (gdO m f),some (.int many)]from rfl,show ac3.body=(.cons (.ret (.call "raised" (.ex (.var 0) (.ex (.var 1) (.ex (.call "plain" (.ex (.bi .len (.cons (.var 0) .nil)) .nil)) (.ex (.glob "product") .nil)))))) .nil)from rfl]
 tbr_iter [z,e2,g1]
 rw[show(gdO m fun i j=>if i=j then some 0 else none)=pwD m f 0 from rfl,e1]
 tbr_iter []
 exact zz (fun n=>qJ n) (by nofun)
end
noncomputable def lpO (f g:Nat->Nat->Option Int)(i j:Nat):Nat->Option Int
 | 0=>none
 | k+1=>minO (lpO f g i j k) (addO (f i k) (g k j))
theorem aD9 (a b:Option Int):ab9 (fun c=>∃ x y,a=some x/\b=some y/\c=x+y) (addO a b):=by
 cases a with
 | none=>rintro c ⟨x,y,h,_⟩;cases h
 | some a=>cases b with
  | none=>rintro c ⟨x,y,_,h,_⟩;cases h
  | some b=>exact⟨⟨a,b,rfl,rfl,rfl⟩,fun c hc=>by obtain⟨x,y,C,z,e⟩:=hc;cases C;cases z;omega⟩
theorem aB4 {f g:Nat->Nat->Option Int}{i j:Nat}:∀ m,ab9 (fun c=>∃ k,k<m/\∃ a b,f i k=some a/\g k j=some b/\c=a+b) (lpO f g i j m)
 | 0=>by rintro c ⟨k,hk,_⟩;exact absurd hk (Nat.not_lt_zero _)
 | m+1=>((aB4 m).or (aD9 (f i m) (g m j))).congr fun c=>by
  constructor
  ·rintro(⟨k,hk,h⟩|h)
   ·exact⟨k,by omega,h⟩
   ·exact⟨m,by omega,h⟩
  ·rintro⟨k,hk,h⟩
   by_cases hkm:k=m
   ·subst hkm;exact .inr h
   ·exact .inl ⟨k,by omega,h⟩
theorem bI6 {f g:Nat->Nat->Option Int}{m i j:Nat}(hi:i<m)(hj:j<m):lpO f g i j m=prO m f g i j :=
 (aB4 m).eq (aj2 (A:=fun i k a=>f i k=some a) (B:=fun k j b=>g k j=some b) (fun i j _ _=>ag4 _) (fun i j _ _=>ag4 _) hi hj) fun c=>Iff.rfl
theorem bo7 {f:Nat->Option Int}{j:Nat}{s:Sto}(hj:j<1000):qo .add (.tup (rowO j f)) (.tup [qd (f j)]) s=.ok (.tup (rowO (j+1) f)) s:=by
 rw[aK8 (by rw[ay7];unfold LIM;simp;omega)]
 unfold rowO
 rw[fF,cy];rfl
noncomputable def pIn:Ss:=(.cons (.ite (.and (.notN (.ix (.ix (.var 0) (.var 3)) (.var 7))) (.notN (.ix (.ix (.var 1) (.var 7)) (.var 5)))) (.cons (.ite (.or (.isN (.var 6)) (.cmp .lt (.bin .add (.ix (.ix (.var 0) (.var 3)) (.var 7)) (.ix (.ix (.var 1) (.var 7)) (.var 5))) (.var 6))) (.cons (.asg (.one 6) (.bin .add (.ix (.ix (.var 0) (.var 3)) (.var 7)) (.ix (.ix (.var 1) (.var 7)) (.var 5)))) .nil) .nil) .nil) .nil) .nil)
noncomputable def bF2:Ss:=(.cons (.asg (.one 6) (.cst .non)) (.cons (.for_ (.one 7) (.rng1 (.bi .len (.cons (.var 0) .nil))) pIn) (.cons (.asg (.one 4) (.bin .add (.var 4) (.tup (.cons (.var 6) .nil)))) .nil)))
noncomputable def bF6:Ss:=(.cons (.asg (.one 4) (.tup .nil)) (.cons (.for_ (.one 5) (.rng1 (.bi .len (.cons (.var 0) .nil))) bF2) (.cons (.ex (.meth .append (.var 2) (.cons (.var 4) .nil))) .nil)))
theorem bN1:ab0.body=(.cons (.asg (.one 2) (.lst .nil)) (.cons (.for_ (.one 3) (.rng1 (.bi .len (.cons (.var 0) .nil))) bF6) (.cons (.ret (.mk .tuple (.seq (.var 2)))) .nil))):=rfl
theorem bC4 {F:Fns}{m i j k:Nat}{f g:Nat->Nat->Option Int}(hi:i<m)(hj:j<m)(hk:k<m)(o:Option Int)(z y C:Option D)(t:Sto) :
  turn F (.one 7) pIn (.int k) [some (gdO m f),some (gdO m g),z,some (.int i),y,some (.int j),some (qd o),C] t=.ok (.next [some (gdO m f),some (gdO m g),z,some (.int i),y,some (.int j),some (qd (minO o (addO (f i k) (g k j)))),some (.int k)]) t:=by
 unfold turn pIn
 cases e1:f i k with
 | none=>cases o<;>tbr_iter [qu hi,z0 hk,e1,zt,addO,minO,show(D.non=D.non)=True from eq_self _]
 | some a =>
  cases e2:g k j with
  | none=>cases o<;>tbr_iter [qu hi,z0 hk,qu hk,z0 hj,e1,e2,zt,zx,addO,minO,show(D.non=D.non)=True from eq_self _,show(D.int a=D.non)=False from eq_false (by nofun)]
  | some b =>
   cases o with
   | none=>tbr_iter [qu hi,z0 hk,qu hk,z0 hj,e1,e2,zt,zx,addO,minO,show(D.non=D.non)=True from eq_self _,show(D.int a=D.non)=False from eq_false (by nofun),show(D.int b=D.non)=False from eq_false (by nofun)]
   | some c =>
    by_cases h:a+b<c
    ·tbr_iter [qu hi,z0 hk,qu hk,z0 hj,e1,e2,zt,zx,addO,minO,show(D.int c=D.non)=False from eq_false (by nofun),show(D.int a=D.non)=False from eq_false (by nofun),show(D.int b=D.non)=False from eq_false (by nofun),h]
    ·tbr_iter [qu hi,z0 hk,qu hk,z0 hj,e1,e2,zt,zx,addO,minO,show(D.int c=D.non)=False from eq_false (by nofun),show(D.int a=D.non)=False from eq_false (by nofun),show(D.int b=D.non)=False from eq_false (by nofun),h]
theorem bc1 {F:Fns}{m i j:Nat}{f g:Nat->Nat->Option Int}(hm:m<=5)(hi:i<m)(hj:j<m)(h Y z J:Option D)(t:Sto) :
  ∃ x,turn F (.one 5) bF2 (.int j) [some (gdO m f),some (gdO m g),h,some (.int i),some (.tup (rowO j (prO m f g i))),J,Y,z] t=.ok (.next [some (gdO m f),some (gdO m g),h,some (.int i),some (.tup (rowO (j+1) (prO m f g i))),some (.int j),some (qd (prO m f g i j)),x]) t:=by
 have key:=qi (ok:=fun s1=>chk t s1 []) (g:=turn F (.one 7) pIn) (fun k ρ u=>u=t/\∃ x,ρ=[some (gdO m f),some (gdO m g),h,some (.int i),some (.tup (rowO j (prO m f g i))),some (.int j),some (qd (lpO f g i j k)),x]) (z6 0 (m:Int)) 0 [some (gdO m f),some (gdO m g),h,some (.int i),some (.tup (rowO j (prO m f g i))),some (.int j),some D.non,z] t ⟨rfl,_,rfl⟩ (fun _ _ _ _ _=>rfl) (by
  rintro k d ρ u hk ⟨rfl,x,rfl⟩
  have C:=z7 hk
  obtain⟨y,rfl⟩:=C
  rw[be]
  exact⟨_,_,.inl (bC4 hi hj y _ _ _ _ _),rfl,_,rfl⟩)
 obtain⟨ρ',s',e,rfl,x,rfl⟩:=key
 rw[be,zq,bI6 hi hj]at e
 refine⟨x,?_⟩
 unfold turn bF2
 have G:=zQ (s:=s') (i:=(m:Int)) (by unfold W62;omega) (by unfold W62;omega)
 tbr_iter [qw,G]
 rw[e]
 tbr_iter [bo7 (show j<1000 by omega)]
theorem bm5 {F:Fns}{m i:Nat}{f g:Nat->Nat->Option Int}(hm:m<=5)(hi:i<m)(s:Sto)(x3 x4 G J C:Option D) :
  ∃ x y z,turn F (.one 3) bF6 (.int i) [some (gdO m f),some (gdO m g),some (.ref s.length),x3,x4,G,J,C] (s++[.lst ((av i).map fun i=>D.tup (rowO m (prO m f g i)))])=.ok (.next [some (gdO m f),some (gdO m g),some (.ref s.length),some (.int i),some (.tup (rowO m (prO m f g i))),x,y,z]) (s++[.lst ((av (i+1)).map fun i=>D.tup (rowO m (prO m f g i)))]):=by
 generalize ht:s++[O.lst ((av i).map fun i=>D.tup (rowO m (prO m f g i)))]=t
 have key:=qi (ok:=fun s1=>chk t s1 []) (g:=turn F (.one 5) bF2) (fun j ρ u=>u=t/\∃ x y z,ρ=[some (gdO m f),some (gdO m g),some (.ref s.length),some (.int i),some (.tup (rowO j (prO m f g i))),x,y,z]) (z6 0 (m:Int)) 0 [some (gdO m f),some (gdO m g),some (.ref s.length),some (.int i),some (.tup []),G,J,C] t ⟨rfl,_,_,_,rfl⟩ (fun _ _ _ _ _=>rfl) (by
  rintro j d ρ u hj ⟨rfl,x,y,z,rfl⟩
  have Y:=z7 hj
  obtain⟨h,rfl⟩:=Y
  rw[be]
  obtain⟨z',e⟩:=bc1 (F:=F) (f:=f) (g:=g) hm hi h (some (.ref s.length)) y z x u
  exact⟨_,_,.inl e,rfl,_,_,_,rfl⟩)
 obtain⟨ρ',s',e,rfl,x,y,z,rfl⟩:=key
 rw[be,zq]at e
 refine⟨x,y,z,?_⟩
 unfold turn bF6
 have hr:=zQ (s:=s') (i:=(m:Int)) (by unfold W62;omega) (by unfold W62;omega)
 tbr_iter [qw,hr]
 rw[e]
 have ha:=ax8 (s:=s) (l:=(av i).map fun i=>D.tup (rowO m (prO m f g i))) (v:=D.tup (rowO m (prO m f g i))) (by unfold LIM;simp;omega)
 rw[ht]at ha
 tbr_iter [ha,fF,cy,aL,cK]
theorem ag8 {P:Pr}[Has P ab0](n:Nat){m:Nat}(Y:m<=5)(f g:Nat->Nat->Option Int)(s:Sto) :
  (aa1 P (n+1)).call "_law_product" [gdO m f,gdO m g] s=.ok (gdO m (prO m f g)) s:=by
 have G:(aa1 P (n+1)).call "_law_product" [gdO m f,gdO m g] s=_:=zw ab0 (n:=n) rfl
 have key:=qi (ok:=fun s1=>chk (s++[O.lst []]) s1 []) (g:=turn (aa1 P n) (.one 3) bF6) (fun i ρ u=>u=s++[.lst ((av i).map fun i=>D.tup (rowO m (prO m f g i)))]/\∃ a b x y z,ρ=[some (gdO m f),some (gdO m g),some (.ref s.length),a,b,x,y,z]) (z6 0 (m:Int)) 0 [some (gdO m f),some (gdO m g),some (.ref s.length),none,none,none,none,none] (s++[.lst []]) ⟨rfl,_,_,_,_,_,rfl⟩ (fun _ _ _ _ _=>rfl) (by
  rintro i d ρ u hi ⟨rfl,a,b,x,y,z,rfl⟩
  have C:=z7 hi
  obtain⟨h,rfl⟩:=C
  rw[be]
  obtain⟨x',y',z',e⟩:=bm5 (F:=aa1 P n) (f:=f) (g:=g) Y h s a b x y z
  exact⟨_,_,.inl e,rfl,_,_,_,_,_,rfl⟩)
 obtain⟨ρ',s',e,rfl,a,b,x,y,z,rfl⟩:=key
 rw[be,zq]at e
 rw[G,show(cH some [gdO m f,gdO m g]++ax ab0.vs none)=[some (gdO m f),some (gdO m g),none,none,none,none,none,none]from rfl,bN1]
 have J:=zQ (s:=s++[O.lst []]) (i:=(m:Int)) (by unfold W62;omega) (by unfold W62;omega)
 tbr_iter [qw,J]
 rw[e]
 have h0:(s++[O.lst ((av m).map fun i=>D.tup (rowO m (prO m f g i)))])[s.length]?=some (.lst ((av m).map fun i=>D.tup (rowO m (prO m f g i)))):=by rw[aB (ai _)];simp
 tbr_iter [bb2,h0,mk]
 exact qy (d:=gdO m (prO m f g)) (fun n=>qJ n) (by nofun)
theorem bn3 (k:Nat):k<2^bitsN (k:Int):=by
 unfold bitsN
 by_cases h:(k:Int)=0
 ·rw[if_pos h];have:k=0:=by omega
  rw[this];decide
 ·rw[if_neg h,gL];exact Nat.lt_log2_self
theorem bi0 {k:Nat}(h:k<10^61):bitsN (k:Int)<=203:=by
 unfold bitsN
 by_cases h0:(k:Int)=0
 ·rw[if_pos h0];omega
 ·rw[if_neg h0,gL]
  have hk:k≠0:=by omega
  have:k.log2<203:=(Nat.log2_lt hk).mpr (ah h (by decide))
  omega
theorem ay5 {a:Nat}{s:Sto}:qo .band (.int (a:Int)) (.int 1) s=.ok (.int ((a % 2:Nat):Int)) s:=by
 show(if 0<=(a:Int)/\(1:Int)=1 then pur (.int ((a:Int) % 2))else bad) s=_
 rw[if_pos ⟨by omega,rfl⟩];rfl
theorem aP1 {a k:Nat}{s:Sto}:qo .shr (.int (a:Int)) (.int (k:Int)) s=.ok (.int ((a / 2^k:Nat):Int)) s:=by
 show(if 0<=(k:Int)then pur (.int ((a:Int) / 2^(k:Int).toNat))else bad) s=_
 rw[if_pos (by omega),di]
 have:((a:Int) / 2^k)=((a / 2^k:Nat):Int):=by norm_cast
 rw[this];rfl
noncomputable def wLp:Ss:=(.cons (.asg (.one 3) (.call "_law_product" (.ex (.var 3) (.ex (.var 3) .nil)))) (.cons (.ite (.cmp .eq (.bin .band (.bin .shr (.var 1) (.var 4)) (.cst (.int 1))) (.cst (.int 1))) (.cons (.asg (.one 3) (.call "_law_product" (.ex (.var 3) (.ex (.var 0) .nil)))) .nil) .nil) .nil))
noncomputable def wUn:L:=(.comp (.one 0) (.rng1 (.var 2)) (.mk .tuple (.comp (.one 0) (.rng1 (.var 1)) (.ix (.lst (.cons (.cst .non) (.cons (.cst (.int 0)) .nil))) (.bi .int (.cons (.cmp .eq (.var 1) (.var 0)) .nil))) [none,some 0])) [none,some 2])
theorem bM2:ac7.body=(.cons (.asg (.one 2) (.bi .len (.cons (.var 0) .nil))) (.cons (.asg (.one 3) (.mk .tuple wUn)) (.cons (.for_ (.one 4) (.seq (.rev (.lrng (.bitl (.var 1))))) wLp) (.cons (.ret (.var 3)) .nil)))):=rfl
theorem bE5 {P:Pr}[Has P ab0](n:Nat){m:Nat}(y:m<=5){f:Nat->Nat->Option Int}(many k:Nat)(z C:Option D)(t:Sto) :
  turn (aa1 P (n+1)) (.one 4) wLp (.int k) [some (gdO m f),some (.int many),z,some (pwD m f (many / 2^(k+1))),C] t=.ok (.next [some (gdO m f),some (.int many),z,some (pwD m f (many / 2^k)),some (.int k)]) t:=by
 have e1:∀ q,(aa1 P (n+1)).call "_law_product" [pwD m f q,pwD m f q] t=.ok (pwD m f (q+q)) t:=fun q=>by rw[pwD,ag8 (P:=P) n y,aO3]
 have e2:∀ q,(aa1 P (n+1)).call "_law_product" [pwD m f q,gdO m f] t=.ok (pwD m f (q+1)) t:=fun q=>by rw[<-ba7,pwD,pwD,ag8 (P:=P) n y,aO3]
 have hd:many / 2^(k+1)=many / 2^k / 2:=by rw[Nat.div_div_eq_div_mul,jb]
 unfold turn wLp
 generalize many / 2^(k+1)=q at hd
 by_cases h:many / 2^k % 2=1
 ·have hq:q+q+1=many / 2^k:=by omega
  tbr_iter [e1,aP1,ay5,h,e2,hq,show(((1:Nat):Int)=1)=True from eq_self _]
 ·have hq:q+q=many / 2^k:=by omega
  tbr_iter [e1,aP1,ay5,show(((many / 2^k % 2:Nat):Int)=1)=False from eq_false (by omega),hq]
theorem bB0 {F:Fns}{m:Nat}(hm:m<=5){f:Nat->Nat->Option Int}(Y x1 J C:Option D)(s:Sto) :
  ∃ T,ev F (.mk .tuple wUn) [Y,x1,some (.int m),J,C] s=.ok (pwD m f 0) (s++T):=by
 have G:∀ s:Sto,aE8 (.int (m:Int)) s=.ok ⟨z6 0 (m:Int),[]⟩ s:=fun s=>zQ (by unfold W62;omega) (by unfold W62;omega)
 have hl:(z6 0 (m:Int)).length<=LIM:=by rw[zq];unfold LIM;omega
 have row:∀ i:Nat,∀ u:Sto,∀ x:Option D,∃ T,ah1 F (.one 0) (.mk .tuple (.comp (.one 0) (.rng1 (.var 1)) (.ix (.lst (.cons (.cst .non) (.cons (.cst (.int 0)) .nil))) (.bi .int (.cons (.cmp .eq (.var 1) (.var 0)) .nil))) [none,some 0])) (.int (i:Int)) [x,some (.int m)] u=.ok (some (.tup (rowO m (pwO m f 0 i))),[some (.int (i:Int)),some (.int m)]) (u++T):=by
  intro i u x
  obtain⟨ρ1,s1,e1,⟨T,rfl⟩,_⟩:=ag2 (ok:=fun s1=>chk u s1 []) (g:=ah1 F (.one 0) (.ix (.lst (.cons (.cst .non) (.cons (.cst (.int 0)) .nil))) (.bi .int (.cons (.cmp .eq (.var 1) (.var 0)) .nil)))) (fun ρ v=>(∃ T,v=u++T)/\∃ x,ρ=[x,some (.int (i:Int))]) (fun j=>qd (pwO m f 0 i j)) m [none,some (.int (i:Int))] u ⟨⟨[],by simp⟩,none,rfl⟩ (fun _ _ _=>rfl) (by
   rintro j hj ρ v ⟨⟨T,rfl⟩,y,rfl⟩
   refine⟨[some (.int (j:Int)),some (.int (i:Int))],(u++T)++[.lst [.non,.int 0]],?_,⟨T++[.lst [.non,.int 0]],by simp⟩,_,rfl⟩
   have g0:((u++T)++[O.lst [D.non,.int 0]])[(u++T).length]?=some (.lst [.non,.int 0]):=by simp
   generalize u++T=z at g0 ⊢
   have i1:ixM (.ref z.length) (.int 1) (z++[O.lst [D.non,.int 0]])=.ok (.int 0) (z++[O.lst [D.non,.int 0]]):=aL1 (j:=1) g0 rfl
   have i0:ixM (.ref z.length) (.int 0) (z++[O.lst [D.non,.int 0]])=.ok .non (z++[O.lst [D.non,.int 0]]):=aL1 (j:=0) g0 rfl
   unfold ah1
   by_cases h:i=j
   ·have e:pwO m f 0 i j=some 0:=if_pos h
    tbr_iter [show((i:Int)=(j:Int))=True from eq_true (by omega),aY5,i1,e,zx]
   ·have e:pwO m f 0 i j=none:=if_neg h
    tbr_iter [show((i:Int)=(j:Int))=False from eq_false (by omega),aY5,i0,e,zt])
  refine⟨T,?_⟩
  unfold ah1
  tbr_iter [af9,G,if_pos hl,show qD [some (.int (i:Int)),some (.int (m:Int))] [none,some 0]=[none,some (.int (i:Int))]from rfl,e1,show ∀ q (s:Sto),mk .tuple q s=.ok (.tup q) s from fun _ _=>rfl]
  rfl
 obtain⟨ρ1,s1,e1,⟨T,rfl⟩,_⟩:=ag2 (ok:=fun s1=>chk s s1 []) (g:=ah1 F (.one 0) (.mk .tuple (.comp (.one 0) (.rng1 (.var 1)) (.ix (.lst (.cons (.cst .non) (.cons (.cst (.int 0)) .nil))) (.bi .int (.cons (.cmp .eq (.var 1) (.var 0)) .nil))) [none,some 0]))) (fun ρ v=>(∃ T,v=s++T)/\∃ x,ρ=[x,some (.int (m:Int))]) (fun i=>.tup (rowO m (pwO m f 0 i))) m [none,some (.int (m:Int))] s ⟨⟨[],by simp⟩,none,rfl⟩ (fun _ _ _=>rfl) (by
  rintro i hi ρ v ⟨⟨T,rfl⟩,y,rfl⟩
  obtain⟨T',e⟩:=row i (s++T) y
  exact⟨_,_,e,⟨T++T',by simp⟩,_,rfl⟩)
 refine⟨T,?_⟩
 unfold wUn
 tbr_iter [af9,G,if_pos hl,show qD [Y,x1,some (.int (m:Int)),J,C] [none,some 2]=[none,some (.int (m:Int))]from rfl,e1,show ∀ q (s:Sto),mk .tuple q s=.ok (.tup q) s from fun _ _=>rfl]
 rfl
theorem aO2 {P:Pr}[Has P ab0][Has P ac7](n:Nat){m:Nat}(J:m<=5)(f:Nat->Nat->Option Int){many:Nat}(hk:many<10^61)(s:Sto) :
  (aa1 P (n+2)).call "_law_power" [gdO m f,.int many] s=.ok (pwD m f many) s:=by
 have e0:(aa1 P (n+2)).call "_law_power" [gdO m f,.int many] s=_:=zw ac7 (n:=n+1) rfl
 obtain⟨T,G⟩:=bB0 (F:=aa1 P (n+1)) (f:=f) J (some (gdO m f)) (some (.int many)) none none s
 have hb:=bi0 hk
 have hl:=bn3 many
 generalize hbe:bitsN (many:Int)=b at hb hl
 generalize hS:s++T=S at G
 have g1:(S++[O.lst (z6 0 (b:Int))])[S.length]?=some (.lst (z6 0 (b:Int))):=by simp
 have C:bn8 (.ref S.length) (S++[O.lst (z6 0 (b:Int))])=.ok (.ref (S.length+1)) (S++[.lst (z6 0 (b:Int)),.lst (z6 0 (b:Int)).reverse]):=by
  unfold bn8;simp only[g1];rw[alloc_eq];simp
 have hq:aF8 (.ref (S.length+1)) (S++[.lst (z6 0 (b:Int)),.lst (z6 0 (b:Int)).reverse])=.ok ⟨(z6 0 (b:Int)).reverse,[S.length+1]⟩ (S++[.lst (z6 0 (b:Int)),.lst (z6 0 (b:Int)).reverse]):=by
  have:(S++[O.lst (z6 0 (b:Int)),.lst (z6 0 (b:Int)).reverse])[S.length+1]?=some (.lst (z6 0 (b:Int)).reverse):=by rw[aB (by omega)];simp
  simp only[aF8,this]
 have hr:aK9 (.int (b:Int)) S=.ok (.ref S.length) (S++[.lst (z6 0 (b:Int))]):=by
  show(if 0<=(b:Int)/\(b:Int)<=1000000 then ab8 (O.lst (z6 0 (b:Int))) S else R.bad)=_;rw[if_pos (by omega)];rfl
 have z:aG2 (.int (many:Int)) S=.ok (.int (b:Int)) S:=by show R.ok (D.int ((bitsN (many:Int):Nat):Int)) S=_;rw[hbe]
 generalize hU:S++[O.lst (z6 0 (b:Int)),.lst (z6 0 (b:Int)).reverse]=U at C hq
 have key:=qi (ok:=fun s1=>chk U s1 [S.length+1]) (g:=turn (aa1 P (n+1)) (.one 4) wLp) (fun i ρ u=>u=U/\∃ x,ρ=[some (gdO m f),some (.int many),some (.int m),some (pwD m f (many / 2^(b - i))),x]) (z6 0 (b:Int)).reverse 0 [some (gdO m f),some (.int many),some (.int m),some (pwD m f 0),none] U ⟨rfl,none,by rw[Nat.sub_zero,Nat.div_eq_of_lt hl]⟩ (fun _ _ _ _ h=>by rw[h.1];simp[chk]) (by
  rintro i d ρ u hi ⟨rfl,x,rfl⟩
  have y:i<b:=by have:=(ae.mp hi).1;rwa [b7,zq]at this
  rw[fK (by rw[zq];exact y),zq]at hi
  have Y:=z7 hi
  have h3:=Y.2
  subst h3
  rw[be]
  have e:=bE5 (P:=P) n J (f:=f) many (b - 1 - i) (some (.int (m:Int))) x u
  rw[show b - 1 - i+1=b - i by omega,show b - 1 - i=b - (i+1)by omega]at e
  rw[show b - 1 - i=b - (i+1)by omega]
  exact⟨_,_,.inl e,rfl,_,rfl⟩)
 obtain⟨ρ',s',e,rfl,x,rfl⟩:=key
 rw[be,b7,zq,ja,Nat.pow_zero,Nat.div_one]at e
 rw[e0,show(cH some [gdO m f,D.int many]++ax ac7.vs none)=[some (gdO m f),some (.int many),none,none,none]from rfl,bM2]
 tbr_iter [qw,G,by2,show ∀ ρ s,ev (aa1 P (n+1)) (.lrng (.bitl (.var 1))) ρ s=((aA7 ρ 1 s).bind fun x s=>aG2 x s).bind fun x s=>aK9 x s from fun _ _=>rfl,z,hr,C,hq]
 rw[e]
 tbr_iter []
 rw[<-hU,<-hS,ef]
 exact qy (fun n=>qJ n) (by nofun)
theorem be9 (l:List (Option Int)):qC l=rowO l.length fun j=>(l[j]?).getD none:=by
 unfold qC rowO
 refine eZ (by simp) fun i h y=>?_
 have hi:i<l.length:=by simpa using h
 simp[aj hi]
theorem bp7 {k:Nat}(R:List (List (Option Int)))(y:∀ l∈R,l.length=k)(hk:R.length=k):D.tup (R.map fun l=>D.tup (qC l))=gdO k fun i j=>(((R[i]?).getD [])[j]?).getD none:=by
 unfold gdO gdD
 congr 1
 refine eZ (by simp[hk]) fun i h z=>?_
 have hi:i<R.length:=by simpa using h
 rw[hX,hX,List.getElem_range,be9,y _ (hV hi)]
 simp only[aj hi,Option.getD_some]
 rfl
noncomputable def bE7:Ss:=(.cons (.asg (.one 7) (.cst .non)) (.cons (.ite (.cmp .gt (.call "_law_take" (.ex (.var 0) (.ex (.cst (.int 3)) .nil))) (.cst (.int 0))) (.cons (.asg (.one 7) (.call "_law_take" (.ex (.var 0) (.ex (.var 2) .nil)))) .nil) .nil) (.cons (.asg (.one 5) (.bin .add (.var 5) (.tup (.cons (.var 7) .nil)))) .nil)))
noncomputable def bG1:Ss:=(.cons (.asg (.one 5) (.tup .nil)) (.cons (.for_ (.one 6) (.rng1 (.var 1)) bE7) (.cons (.ex (.meth .append (.var 3) (.cons (.var 5) .nil))) .nil)))
theorem bH4:ac8.body=(.cons (.asg (.one 2) (.ix (.lst (.cons (.cst (.int 6)) (.cons (.cst (.int 6)) (.cons (.bin .pow (.cst (.int 10)) (.cst (.int 9))) (.cons (.bin .pow (.cst (.int 10)) (.cst (.int 60))) .nil))))) (.call "_law_take" (.ex (.var 0) (.ex (.cst (.int 4)) .nil))))) (.cons (.asg (.one 3) (.lst .nil)) (.cons (.for_ (.one 4) (.rng1 (.var 1)) bG1) (.cons (.ret (.mk .tuple (.seq (.var 3)))) .nil)))):=rfl
section
variable {P:Pr} [Has P ac2]
theorem bm3 (n:Nat){s t:Sto}{r:Nat}(G:r<s.length)(b:Nat×Nat){g:Int}(g0:0<g)(g1:g<=10^90){l:List (Option Int)}(hl:l.length<=5)(d:D)(x1 J C x6 Y:Option D) :
  ∃(o:Option Int) (b':Nat×Nat),turn (aa1 P (n+1)) (.one 6) bE7 d [some (.ref r),x1,some (.int g),J,C,some (.tup (qC l)),x6,Y] (s.set r (zL b)++t)=.ok (.next [some (.ref r),x1,some (.int g),J,C,some (.tup (qC (l++[o]))),some d,some (qd o)]) (s.set r (zL b')++t):=by
 have y:∀(o:Option Int) (s:Sto),qo .add (.tup (qC l)) (.tup [qd o]) s=.ok (.tup (qC (l++[o]))) s:=fun o s=>by
  rw[aK8 (by rw[az5];unfold LIM;simp;omega)]
  unfold qC
  rw[cy];rfl
 obtain⟨k,z,hk,e1⟩:=aw0 (P:=P) n (t:=t) G b 3 (by decide) (by decide)
 unfold turn bE7
 by_cases h:(0:Int)<(k:Int)
 ·obtain⟨q,b2,_,e2⟩:=aw0 (P:=P) n (t:=t) G z g g0 g1
  refine⟨some (q:Int),b2,?_⟩
  have c:=y (some (q:Int))
  rw[zx]at c
  tbr_iter [e1,h,e2,c,zx]
 ·refine⟨none,z,?_⟩
  have c:=y none
  rw[zt]at c
  tbr_iter [e1,h,c,zt]
theorem bi3 (n:Nat){s:Sto}{o1:O}{r:Nat}(hr:r<s.length)(b:Nat×Nat){g:Int}(g0:0<g)(g1:g<=10^90){k:Nat}(hk:k<=5){Z:List (List (Option Int))}(hR:Z.length<=5)(d:D)(x4 x5 Y J:Option D) :
  ∃(l:List (Option Int)) (h:Nat×Nat) (y5 z y:Option D),l.length=k/\turn (aa1 P (n+1)) (.one 4) bG1 d [some (.ref r),some (.int k),some (.int g),some (.ref (s.length+1)),x4,x5,Y,J] (s.set r (zL b)++[o1,.lst (Z.map fun l=>D.tup (qC l))])=.ok (.next [some (.ref r),some (.int k),some (.int g),some (.ref (s.length+1)),some d,y5,z,y]) (s.set r (zL h)++[o1,.lst ((Z++[l]).map fun l=>D.tup (qC l))]):=by
 have key:=qi (ok:=fun s1=>chk (s.set r (zL b)++[o1,.lst (Z.map fun l=>D.tup (qC l))]) s1 []) (g:=turn (aa1 P (n+1)) (.one 6) bE7) (fun j ρ u=>j<=k->∃(l:List (Option Int)) (h:Nat×Nat) (z y:Option D),l.length=j/\ρ=[some (.ref r),some (.int k),some (.int g),some (.ref (s.length+1)),some d,some (.tup (qC l)),z,y]/\u=s.set r (zL h)++[o1,.lst (Z.map fun l=>D.tup (qC l))]) (z6 0 (k:Int)) 0 [some (.ref r),some (.int k),some (.int g),some (.ref (s.length+1)),some d,some (.tup []),Y,J] (s.set r (zL b)++[o1,.lst (Z.map fun l=>D.tup (qC l))]) (fun _=>⟨[],b,_,_,rfl,rfl,rfl⟩) (fun _ _ _ _ _=>rfl) (by
  rintro j d' ρ u hj C
  have a0:=(z7 hj).1
  rw[be]at C
  obtain⟨l,h,z,y,hl,rfl,rfl⟩:=C (by omega)
  obtain⟨o,b2,e⟩:=bm3 (P:=P) n (t:=[o1,.lst (Z.map fun l=>D.tup (qC l))]) hr h g0 g1 (l:=l) (by omega) d' (some (.int (k:Int))) (some (.ref (s.length+1))) (some d) z y
  exact⟨_,_,.inl e,fun _=>⟨_,_,_,_,by rw[aR,hl,be];rfl,rfl,rfl⟩⟩)
 obtain⟨ρ',s',e,C⟩:=key
 obtain⟨l,h,z,y,hl,rfl,rfl⟩:=C (by rw[zq];omega)
 rw[zq,be]at hl
 refine⟨l,h,some (.tup (qC l)),z,y,hl,?_⟩
 have ha:meth .append (.ref (s.length+1)) [D.tup (qC l)] (s.set r (zL h)++[o1,.lst (Z.map fun l=>D.tup (qC l))])=.ok .non (s.set r (zL h)++[o1,.lst ((Z++[l]).map fun l=>D.tup (qC l))]):=by
  rw[al2 (l:=Z.map fun l=>D.tup (qC l)) (by rw[aB (by simp)];simp) (by unfold LIM;simp;omega)]
  congr 1
  rw[io,if_neg (by simp)]
  simp
 unfold turn bG1
 have G:∀ u:Sto,aE8 (.int (k:Int)) u=.ok ⟨z6 0 (k:Int),[]⟩ u:=fun u=>zQ (by unfold W62;omega) (by unfold W62;omega)
 tbr_iter [G]
 rw[e]
 tbr_iter [ha]
theorem aq9 [Has P ac8](n:Nat){s:Sto}{r:Nat}(hs:∃ b,s[r]?=some (zL b)){k:Nat}(hk:k<=5) :
  ∃(f:Nat->Nat->Option Int) (b:Nat×Nat),(aa1 P (n+2)).call "_law_table" [.ref r,.int k] s=.ok (gdO k f) (s.set r (zL b)):=by
 have e0:(aa1 P (n+2)).call "_law_table" [.ref r,.int k] s=_:=zw ac8 (n:=n+1) rfl
 obtain⟨b0,G⟩:=hs
 have hr:r<s.length:=(ae.mp G).1
 have same:s=s.set r (zL b0):=by
  have e:s[r]=zL b0:=(ae.mp G).2
  rw[<-e,fM]
 obtain⟨q,z,hq,e1⟩:=aw0 (P:=P) n (t:=[.lst [.int 6,.int 6,.int 1000000000,.int 1000000000000000000000000000000000000000000000000000000000000]]) hr b0 4 (by decide) (by decide)
 obtain⟨g,g0,g1,eg⟩:∃ g:Int,0<g/\g<=10^90/\([D.int 6,.int 6,.int 1000000000,.int 1000000000000000000000000000000000000000000000000000000000000]:List D)[q]?=some (.int g):=by
  have h4:q<4:=by omega
  match q,h4 with
  | 0,_=>exact⟨6,by decide,by decide,rfl⟩
  | 1,_=>exact⟨6,by decide,by decide,rfl⟩
  | 2,_=>exact⟨1000000000,by decide,by decide,rfl⟩
  | 3,_=>exact⟨1000000000000000000000000000000000000000000000000000000000000,by decide,by decide,rfl⟩
 have ix:ixM (.ref s.length) (.int (q:Int)) (s.set r (zL z)++[.lst [.int 6,.int 6,.int 1000000000,.int 1000000000000000000000000000000000000000000000000000000000000]])=.ok (.int g) (s.set r (zL z)++[.lst [.int 6,.int 6,.int 1000000000,.int 1000000000000000000000000000000000000000000000000000000000000]]):=aL1 (by rw[aB (by simp)];simp) eg
 rw[<-same]at e1
 have p9:∀ u:Sto,qo .pow (.int 10) (.int 9) u=.ok (.int 1000000000) u:=fun u=>by simp[aj5]
 have a1:∀ u:Sto,qo .pow (.int 10) (.int 60) u=.ok (.int 1000000000000000000000000000000000000000000000000000000000000) u:=fun u=>by simp[aj5]
 have a0:∀ u:Sto,aE8 (.int (k:Int)) u=.ok ⟨z6 0 (k:Int),[]⟩ u:=fun u=>zQ (by unfold W62;omega) (by unfold W62;omega)
 rw[e0,show(cH some [D.ref r,D.int k]++ax ac8.vs none)=[some (.ref r),some (.int k),none,none,none,none,none,none]from rfl,bH4]
 tbr_iter [p9,a1]
 generalize O.lst [D.int 6,.int 6,.int 1000000000,.int 1000000000000000000000000000000000000000000000000000000000000]=o1 at e1 ix ⊢
 have key:=qi (ok:=fun s1=>chk (s.set r (zL z)++[o1,.lst []]) s1 []) (g:=turn (aa1 P (n+1)) (.one 4) bG1) (fun i ρ u=>i<=k->∃(Z:List (List (Option Int))) (C:Nat×Nat) (x4 x5 x6 Y:Option D),Z.length=i/\(∀ l∈Z,l.length=k)/\ρ=[some (.ref r),some (.int k),some (.int g),some (.ref (s.length+1)),x4,x5,x6,Y]/\u=s.set r (zL C)++[o1,.lst (Z.map fun l=>D.tup (qC l))]) (z6 0 (k:Int)) 0 [some (.ref r),some (.int k),some (.int g),some (.ref (s.length+1)),none,none,none,none] (s.set r (zL z)++[o1,.lst []]) (fun _=>⟨[],z,_,_,_,_,rfl,by nofun,rfl,rfl⟩) (fun _ _ _ _ _=>rfl) (by
  rintro i d ρ u hi J
  have a2:=(z7 hi).1
  rw[be]at J
  obtain⟨Z,C,x4,x5,x6,Y,hR,y,rfl,rfl⟩:=J (by omega)
  obtain⟨l,b2,y5,y6,y7,hl,e⟩:=bi3 (P:=P) n (o1:=o1) hr C g0 g1 hk (Z:=Z) (by omega) d x4 x5 x6 Y
  refine⟨_,_,.inl e,fun _=>⟨Z++[l],b2,_,_,_,_,by rw[aR,hR,be];rfl,fun x hx=>?_,rfl,rfl⟩⟩
  rcases cq.mp hx with h|h
  ·exact y x h
  ·rw[cj.mp h];exact hl)
 obtain⟨ρ',s',e,J⟩:=key
 obtain⟨Z,C,x4,x5,x6,Y,hR,y,rfl,rfl⟩:=J (by rw[zq];omega)
 rw[zq,be]at hR
 refine⟨fun i j=>(((Z[i]?).getD [])[j]?).getD none,C,?_⟩
 rw[e1]
 have l2:(s.set r (zL z)++[o1]).length=s.length+1:=by simp
 tbr_iter [ix,a0,l2,ef,List.singleton_append]
 rw[e]
 have h0:(s.set r (zL C)++[o1,.lst (Z.map fun l=>D.tup (qC l))])[s.length+1]?=some (.lst (Z.map fun l=>D.tup (qC l))):=by rw[aB (by simp)];simp
 tbr_iter [bb2,h0,mk,bp7 Z y hR]
 exact as8 (fun n=>qJ n) (by nofun) rfl
end
noncomputable def c8 (i:Nat):S:=.ite (.not (.call "_law_same" (.ex (.call "power" (.ex (.var i) (.ex (.var 4) .nil))) (.ex (.call "_law_power" (.ex (.var i) (.ex (.var 4) .nil))) .nil)))) (.cons (.ret (.cst (.bl false))) .nil) .nil
noncomputable def l8:S:=.for_ (.one 4) (.seq (.lst (.cons (.call "_law_take" (.ex (.var 2) (.ex (.cst (.int 10)) .nil))) (.cons (.call "_law_take" (.ex (.var 2) (.ex (.bin .pow (.cst (.int 10)) (.cst (.int 60))) .nil))) (.cons (.cst (.int 0)) (.cons (.cst (.int 1)) .nil)))))) (.cons (c8 3) .nil)
noncomputable def i8:S:=.ite (.cmp .eq (.var 1) (.cst (.int 0))) (.cons (.asg (.one 5) (.call "_law_table" (.ex (.var 2) (.ex (.bin .add (.cst (.int 4)) (.call "_law_take" (.ex (.var 2) (.ex (.cst (.int 2)) .nil)))) .nil)))) (.cons (.asg (.one 4) (.call "_law_take" (.ex (.var 2) (.ex (.cst (.int 13)) .nil)))) (.cons (c8 5) .nil))) .nil
noncomputable def b8:Ss:=(.cons (.asg (.one 2) (.call "_law_bag" (.ex (.var 0) (.ex (.var 1) .nil)))) (.cons (.asg (.one 3) (.call "_law_table" (.ex (.var 2) (.ex (.bin .add (.cst (.int 1)) (.call "_law_take" (.ex (.var 2) (.ex (.cst (.int 3)) .nil)))) .nil)))) (.cons l8 (.cons i8 .nil))))
theorem bt7:ab1.body=(.cons (.for_ (.one 1) (.rng1 (.bin .add (.bi .min2 (.cons (.bi .len (.cons (.var 0) .nil)) (.cons (.cst (.int 3)) .nil))) (.cst (.int 1)))) b8) (.cons (.ret (.cst (.bl true))) .nil)):=rfl
section
variable {P:Pr} [Has P aa8] [Has P aa9] [Has P ab3] [Has P ab5] [HasL P aa5] [Has P aa6] [HasL P aa2] [Has P ab2] [Has P ac3] [HasC P "product" (.fn "product")] [Has P ao2] [Has P ac2] [Has P ac8] [Has P ab0] [Has P ab7] [Has P ac7] [Has P ab1]
theorem br2 (n:Nat){m:Nat}(h:m<=5){f:Nat->Nat->Option Int}{q:Nat}(hq:q<10^61){s:Sto}(hs:s.all O.ncl=true){ρ:Env}{i:Nat}(hi:ρ[i]?=some (some (gdO m f)))(z:ρ[4]?=some (some (.int (q:Int)))):ex (aa1 P (n+6)) (c8 i) ρ s=.ok (.next ρ) s:=by
 have e1:=aN4 (P:=P) n h f q hs
 have e2:=aO2 (P:=P) (n+4) h f hq s
 have y:(aa1 P (n+6)).call "_law_same" [pwD m f q,pwD m f q] s=.ok (.bl true) s:=aT5 (P:=P) (n+5) h (pwO m f q) s
 unfold c8
 tbr_iter [aM4 hi,aM4 z,e1,e2,y]
theorem bK7 (n:Nat){ns:List Int}{r:Nat}{S:Sto}(G:Gd ns r S){m:Nat}(hm:m<=5){f:Nat->Nat->Option Int}(C x1 x4 z:Option D) :
  ∃(u:Sto) (y4:Option D),Gd ns r u/\ex (aa1 P (n+6)) l8 [C,x1,some (.ref r),some (gdO m f),x4,z] S=.ok (.next [C,x1,some (.ref r),some (gdO m f),y4,z]) u:=by
 obtain⟨a,Y,ha,e3⟩:=ae6 (P:=P) (n+5) G.bag 10 (by decide) (by decide)
 have G3:=G.put Y
 obtain⟨c,b4,hc,e4⟩:=ae6 (P:=P) (n+5) G3.bag 1000000000000000000000000000000000000000000000000000000000000 (by decide) (by decide)
 have G4:=G3.put b4
 generalize S.set r (zL Y)=S3 at *
 generalize S3.set r (zL b4)=S4 at *
 have G5:=G4.snoc (o:=.lst [.int (a:Int),.int (c:Int),.int 0,.int 1]) rfl
 have g5:(S4++[O.lst [.int (a:Int),.int (c:Int),.int 0,.int 1]])[S4.length]?=some (.lst [.int (a:Int),.int (c:Int),.int 0,.int 1]):=bP3
 have J:∀ u:Sto,qo .pow (.int 10) (.int 60) u=.ok (.int 1000000000000000000000000000000000000000000000000000000000000) u:=fun u=>by simp[aj5]
 generalize hU:S4++[O.lst [.int (a:Int),.int (c:Int),.int 0,.int 1]]=U at *
 have key:=qi (ok:=fun s1=>chk U s1 [S4.length]) (g:=turn (aa1 P (n+6)) (.one 4) (.cons (c8 3) .nil)) (fun i ρ u=>u=U/\∃ y,ρ=[C,x1,some (.ref r),some (gdO m f),y,z]) [.int (a:Int),.int (c:Int),.int 0,.int 1] 0 [C,x1,some (.ref r),some (gdO m f),x4,z] U ⟨rfl,_,rfl⟩ (fun _ _ _ _ h=>by rw[h.1];simp[chk]) (by
  rintro i d ρ u hi ⟨rfl,y,rfl⟩
  obtain⟨q,hq,rfl⟩:∃ q:Nat,q<10^61/\d=.int (q:Int):=by
   have:=aX hi
   simp only[aC,bM,or_false]at this
   rcases this with h|h|h|h
   ·exact⟨a,by omega,h⟩
   ·exact⟨c,by omega,h⟩
   ·exact⟨0,by decide,h⟩
   ·exact⟨1,by decide,h⟩
  have e:=br2 (P:=P) n hm (f:=f) hq G5.ncl (ρ:=[C,x1,some (.ref r),some (gdO m f),some (.int (q:Int)),z]) (i:=3) rfl rfl
  refine⟨[C,x1,some (.ref r),some (gdO m f),some (.int (q:Int)),z],u,.inl ?_,rfl,_,rfl⟩
  unfold turn
  tbr_iter [e])
 obtain⟨ρ',s',e,rfl,y,rfl⟩:=key
 refine⟨s',y,G5,?_⟩
 have sq:aF8 (.ref S4.length) s'=.ok ⟨[.int (a:Int),.int (c:Int),.int 0,.int 1],[S4.length]⟩ s':=by simp only[aF8,g5]
 unfold l8
 tbr_iter [e3,J,e4,hU,sq]
 exact e
theorem bN0 (n:Nat){ns:List Int}{r:Nat}{S:Sto}(G:Gd ns r S)(j:Nat)(z y x4 x5:Option D) :
  ∃(u:Sto) (y4 y5:Option D),Gd ns r u/\ex (aa1 P (n+6)) i8 [z,some (.int (j:Int)),some (.ref r),y,x4,x5] S=.ok (.next [z,some (.int (j:Int)),some (.ref r),y,y4,y5]) u:=by
 by_cases h:(j:Int)=0
 ·obtain⟨k,C,hk,e1⟩:=ae6 (P:=P) (n+5) G.bag 2 (by decide) (by decide)
  have G1:=G.put C
  obtain⟨f,b2,e2⟩:=aq9 (P:=P) (n+4) G1.bag (k:=4+k) (by omega)
  have G2:=G1.put b2
  obtain⟨q,J,hq,e3⟩:=ae6 (P:=P) (n+5) G2.bag 13 (by decide) (by decide)
  have Y:=G2.put J
  generalize S.set r (zL C)=S1 at *
  generalize S1.set r (zL b2)=S2 at *
  generalize S2.set r (zL J)=S3 at *
  have e:=br2 (P:=P) n (m:=4+k) (by omega) (f:=f) (q:=q) (ah (show q<13 by omega) (by decide)) Y.ncl (ρ:=[z,some (.int (j:Int)),some (.ref r),y,some (.int (q:Int)),some (gdO (4+k) f)]) (i:=5) rfl rfl
  refine⟨S3,some (.int (q:Int)),some (gdO (4+k) f),Y,?_⟩
  unfold i8
  tbr_iter [h,e1,show(4:Int)+(k:Int)=((4+k:Nat):Int)from by omega,e2,e3]
  rw[h]at e
  tbr_iter [e]
 ·refine⟨S,x4,x5,G,?_⟩
  unfold i8
  tbr_iter [h]
theorem bM3 (n:Nat):bG6 P (n+7):=by
 intro ns hl
 have e0:(aa1 P (n+7)).call "law" [.ref 0] [.ro (ns.map D.int)]=_:=zw ab1 (n:=n+6) rfl
 rw[e0,bt7,show(cH some [D.ref 0]++ax ab1.vs none)=[some (.ref 0),none,none,none,none,none]from rfl]
 have a0:([.ro (ns.map D.int)]:Sto)[0]?=some (.ro (ns.map D.int)):=rfl
 have y:bi .len [.ref 0] [.ro (ns.map D.int)]=.ok (.int ns.length) [.ro (ns.map D.int)]:=by rw[bb8 a0,aI]
 have hk:(if 3<(ns.length:Int)then 3 else(ns.length:Int))+1=((min ns.length 3+1:Nat):Int):=by omega
 tbr_iter [y,aX4,hk]
 rw[zQ (by unfold W62;omega) (by unfold W62;omega)]
 simp only[R.bind_ok]
 rw[R.bind_assoc]
 refine az7 (W:=Yes) (fun j ρ t=>t[0]?=some (.ro (ns.map D.int))/\t.all O.ncl=true/\∃ x1 x2 Y C z,ρ=[some (.ref 0),x1,x2,Y,C,z]) ⟨rfl,by
   simp only[dA,i5,eN];exact aS7,_,_,_,_,_,rfl⟩ (fun _ _ _ _ _=>rfl) ?_ ?_
 ·rintro j d ρ t hj ⟨G,hn,x1,x2,Y,C,z,rfl⟩
  have hd:=(z7 hj).2
  subst hd
  have a1:0<t.length:=(ae.mp G).1
  have h:=bz7 (P:=P) (n+5) ns j t 0 G hl
  have J:Gd ns t.length (t++[zL (bp1 ns j)]):=⟨am9 G,ao4 hn rfl,⟨_,bP3⟩,by omega⟩
  generalize t++[zL (bp1 ns j)]=S at h J
  generalize t.length=r at h J
  obtain⟨k,b1,hk,e1⟩:=ae6 (P:=P) (n+5) J.bag 3 (by decide) (by decide)
  have G1:=J.put b1
  obtain⟨f,b2,e2⟩:=aq9 (P:=P) (n+4) G1.bag (k:=1+k) (by omega)
  have G2:=G1.put b2
  obtain⟨u,y4,G3,e3⟩:=bK7 (P:=P) n G2 (m:=1+k) (by omega) (f:=f) (some (.ref 0)) (some (.int (j:Int))) C z
  obtain⟨v,z4,z5,G4,e4⟩:=bN0 (P:=P) n G3 j (some (.ref 0)) (some (gdO (1+k) f)) y4 z
  refine aS6 (ρ:=[some (.ref 0),some (.int (j:Int)),some (.ref r),some (gdO (1+k) f),z4,z5]) (s:=v) ?_ ⟨G4.scr,G4.ncl,_,_,_,_,_,rfl⟩
  unfold turn b8
  tbr_iter [h,e1,show(1:Int)+(k:Int)=((1+k:Nat):Int)from by omega,e2,e3,e4]
 ·rintro ρ t ⟨G,hn,x1,x2,Y,C,z,rfl⟩
  tbr_iter []
  exact aK6 _ _
end
end DV
end
local macro_rules | `(tactic| walk_at "sc") => `(tactic| exact ⟨rfl, rfl, rfl, by decide +kernel, rfl, by decide +kernel, by decide +kernel⟩)
local macro_rules | `(tactic| walk_at "df") => `(tactic| (dsimp only; exact ⟨_, _, _, _, _, _, _, _, _, _, by k_is, by k_is, by k_is, by k_is⟩))
noncomputable section
namespace My
open PySem L2
noncomputable def top (i:Nat):Stmt:=PySem.Challenge.pw_leasttolls_k08_powers_of_tables.main.body.getD i (.Pass ⟨0,0,0,0⟩)
theorem bN5:aL8 ["i", "j"]:=fun params h _ _ _ _ _ _ _ _ us hl=>by
 obtain⟨args,rfl,ha⟩:=aj6 h
 revert us
 refine bd2 ?_
 intro z G
 rcases args with _|⟨⟨y,_,_⟩,_|⟨⟨C,_,_⟩,_|⟨_,_⟩⟩⟩
 all_goals simp only[aL,cK,List.cons.injEq,and_true,and_false,reduceCtorEq]at ha
 obtain⟨rfl,rfl⟩:=ha
 exact⟨rfl,fun _ _=>rfl⟩
noncomputable def af6:List Str:=["plain", "product"]
noncomputable abbrev bb4:Stmt:=top 1
noncomputable abbrev ay8:Stmt:=top 2
noncomputable abbrev aH4:Stmt:=top 4
noncomputable abbrev aK2:Stmt:=top 5
noncomputable abbrev aQ1:Stmt:=top 6
noncomputable abbrev ah2:Stmt:=top 7
noncomputable abbrev aJ9:Stmt:=top 8
noncomputable abbrev al4:Stmt:=top 10
noncomputable abbrev ai9:Stmt:=top 11
noncomputable abbrev af3:Stmt:=top 12
noncomputable abbrev ad2:Stmt:=top 13
noncomputable abbrev ah3:Stmt:=top 14
noncomputable abbrev ae9:Stmt:=top 15
noncomputable abbrev aq5:Stmt:=top 16
noncomputable def tb:List (String×j9×Stmt):=[("grid",DV.aa8,bb4),("raised",DV.ab2,ay8),("least",DV.aa9,aH4),("added",DV.ab3,aK2),("plain",DV.ab5,aQ1),("product",DV.aa6,ah2),("power",DV.ac3,aJ9),("_law_bag",DV.ao2,al4),("_law_take",DV.ac2,ai9),("_law_table",DV.ac8,af3),("_law_product",DV.ab0,ad2),("_law_same",DV.ab7,ah3),("_law_power",DV.ac7,ae9),("law",DV.ab1,aq5)]
noncomputable def bK5:List (String×jl):=[("product",.fn "product")]
noncomputable def bR8:List (String×j8):=[("plain.0",DV.aa5),("product.0",DV.aa2)]
noncomputable def tbl:List (String×j9):=tb.map fun p=>(p.1,p.2.1)
noncomputable def P:jy:=⟨fun f=>tbl.lookup f,fun f=>bR8.lookup f,fun x=>bK5.lookup x⟩
instance:DV.HasL P DV.aa5:=⟨rfl⟩
instance:DV.HasL P DV.aa2:=⟨rfl⟩
instance:DV.HasC P "product" (.fn "product"):=⟨rfl⟩
instance:DV.Has P DV.aa8:=⟨rfl⟩
instance:DV.Has P DV.ab2:=⟨rfl⟩
instance:DV.Has P DV.aa9:=⟨rfl⟩
instance:DV.Has P DV.ab3:=⟨rfl⟩
instance:DV.Has P DV.ab5:=⟨rfl⟩
instance:DV.Has P DV.aa6:=⟨rfl⟩
instance:DV.Has P DV.ac3:=⟨rfl⟩
instance:DV.Has P DV.ao2:=⟨rfl⟩
instance:DV.Has P DV.ac2:=⟨rfl⟩
instance:DV.Has P DV.ac8:=⟨rfl⟩
instance:DV.Has P DV.ab0:=⟨rfl⟩
instance:DV.Has P DV.ab7:=⟨rfl⟩
instance:DV.Has P DV.ac7:=⟨rfl⟩
instance:DV.Has P DV.ab1:=⟨rfl⟩
theorem bz0:DT af6 P "grid" DV.aa8 bb4:=⟨["size", "entry", "rows", "i"],["size", "entry"],by walk_at "sc",rfl,rfl,fun _ _ _ _ _ _=>bd2 (fun _ _=>rfl),.inl (by decide +kernel)⟩
theorem aV8:DT af6 P "raised" DV.ab2 ay8:=⟨["one", "many", "plain_one", "times", "answer", "square", "left"],["one", "many", "plain_one", "times"],by walk_at "sc",rfl,rfl,fun _ _ _ _ _ _=>bd4 (fun _ _ _ _=>rfl),.inl (by decide +kernel)⟩
theorem bl5:DT af6 P "least" DV.aa9 aH4:=⟨["prices"],["prices"],by walk_at "sc",rfl,rfl,fun _ _ _ _ _ _=>bd1 (fun _=>rfl),.inl (by decide +kernel)⟩
theorem bh0:DT af6 P "added" DV.ab3 aK2:=⟨["one", "other"],["one", "other"],by walk_at "sc",rfl,rfl,fun _ _ _ _ _ _=>bd2 (fun _ _=>rfl),.inl (by decide +kernel)⟩
theorem bi2:DT af6 P "plain" DV.ab5 aQ1:=⟨["n"],["n"],by walk_at "sc",rfl,rfl,fun _ _ _ _ _ _=>bd1 (fun _=>rfl),.inr ⟨by decide,[("plain.0",DV.aa5,["i", "j"],[])],by decide +kernel,by decide +kernel,fun p h=>by
 simp only[aC,bM,or_false]at h
 rcases h with rfl
 ·exact⟨rfl,bN5⟩⟩⟩
theorem aI4:DT af6 P "product" DV.aa6 ah2:=⟨["one", "other", "size"],["one", "other"],by walk_at "sc",rfl,rfl,fun _ _ _ _ _ _=>bd2 (fun _ _=>rfl),.inr ⟨by decide,[("product.0",DV.aa2,["i", "j"],["size", "one", "other"])],by decide +kernel,by decide +kernel,fun p h=>by
 simp only[aC,bM,or_false]at h
 rcases h with rfl
 ·exact⟨rfl,bN5⟩⟩⟩
theorem bi8:DT af6 P "power" DV.ac3 aJ9:=⟨["table", "many"],["table", "many"],by walk_at "sc",rfl,rfl,fun _ _ _ _ _ _=>bd2 (fun _ _=>rfl),.inl (by decide +kernel)⟩
theorem aD7:DT af6 P "_law_bag" DV.ao2 al4:=⟨["_law_script", "_law_at", "_law_cell", "_law_mix", "_law_k"],["_law_script", "_law_at"],by walk_at "sc",rfl,rfl,fun _ _ _ _ _ _=>bd2 (fun _ _=>rfl),.inl (by decide +kernel)⟩
theorem av5:DT af6 P "_law_take" DV.ac2 ai9:=⟨["_law_bag_here", "_law_many", "_law_digit", "_law_number", "_law_room"],["_law_bag_here", "_law_many"],by walk_at "sc",rfl,rfl,fun _ _ _ _ _ _=>bd2 (fun _ _=>rfl),.inl (by decide +kernel)⟩
theorem aq0:DT af6 P "_law_table" DV.ac8 af3:=⟨["_law_bag_here", "_law_n", "_law_great", "_law_rows", "_law_i", "_law_row", "_law_j", "_law_entry"],["_law_bag_here", "_law_n"],by walk_at "sc",rfl,rfl,fun _ _ _ _ _ _=>bd2 (fun _ _=>rfl),.inl (by decide +kernel)⟩
theorem aj9:DT af6 P "_law_product" DV.ab0 ad2:=⟨["_law_one", "_law_other", "_law_rows", "_law_i", "_law_row", "_law_j", "_law_least", "_law_k"],["_law_one", "_law_other"],by walk_at "sc",rfl,rfl,fun _ _ _ _ _ _=>bd2 (fun _ _=>rfl),.inl (by decide +kernel)⟩
theorem au3:DT af6 P "_law_same" DV.ab7 ah3:=⟨["_law_found", "_law_due", "_law_i", "_law_entry"],["_law_found", "_law_due"],by walk_at "sc",rfl,rfl,fun _ _ _ _ _ _=>bd2 (fun _ _=>rfl),.inl (by decide +kernel)⟩
theorem at6:DT af6 P "_law_power" DV.ac7 ae9:=⟨["_law_table_here", "_law_many", "_law_n", "_law_found", "_law_k"],["_law_table_here", "_law_many"],by walk_at "sc",rfl,rfl,fun _ _ _ _ _ _=>bd2 (fun _ _=>rfl),.inl (by decide +kernel)⟩
theorem bb6:FnScope ["_law_script", "_law_at", "_law_bag_here", "_law_table_here", "_law_many", "_law_wide"] ["_law_script"] (defScope aq5):=by walk_at "sc"
theorem bB6:mSs ⟨["_law_script", "_law_at", "_law_bag_here", "_law_table_here", "_law_many", "_law_wide"],defScope aq5,fun _ _ _=>false⟩ DV.ab1.body (zD aq5)=true:=by decide +kernel
theorem bB3:bP4 "law" aq5 ["_law_script"]:=fun _ _ _ _ _ _=>bd1 fun _=>rfl
theorem bJ9:DT af6 P "law" DV.ab1 aq5:=⟨_,_,bb6,rfl,rfl,bB3,.inl bB6⟩
theorem bG3:∀ p∈tb,DT af6 P p.1 p.2.1 p.2.2:=by
 intro p h
 unfold tb at h
 simp only[aC,bM,or_false]at h
 rcases h with rfl|rfl|rfl|rfl|rfl|rfl|rfl|rfl|rfl|rfl|rfl|rfl|rfl|rfl
 ·exact bz0
 ·exact aV8
 ·exact bl5
 ·exact bh0
 ·exact bi2
 ·exact aI4
 ·exact bi8
 ·exact aD7
 ·exact av5
 ·exact aq0
 ·exact aj9
 ·exact au3
 ·exact at6
 ·exact bJ9
theorem bt0 {l:cn}{w:World}{K:ab}{h:Heap}{mg:Str->Option Value}{fa:Addr}(X:K.In h)(G:h.Ns a8 mg)(C:mg "law"=some (.ref fa))(hD:∀ p∈tb,bQ1 K p.1 p.2.2)(hz:∀ x∈bNames,dm K a8 x=some none)
  (hT:∀ x∈af6,(aZ K x).isSome=true) (tnd:decide (((bc6 af6 K).map (·.1)).Nodup)=true)
  : ∃ Y:bp,(∀(s:ac) (v:Value),ip s Y ⟨[v],[]⟩ [("_law_script",v)])/\∀ y:Heap,K.In y->y.Ns a8 mg->BM mg y->bf9 K af6 y->FnOk l.prog w K mg y CX0 45 fa Y ["_law_script"] (spB af6 K):=by
 have hP:PrOk (aQ4 af6 P K) (bq7 af6 K) P mg:=by
  refine⟨fun f d h=>aA0 (tbl:=tbl) (fun p z=>?_) f d h,fun x d h=>aJ0 (tbl:=bK5) ?_ x d h,fun x hx=>PySem.W.mg_none_of X G (hz x hx),bM7 X G,bG8,of_decide_eq_true tnd⟩
  ·obtain⟨r,J,rfl⟩:=aO.mp z
   exact good_of X G hT (hD r J) (bG3 r J)
  ·intro p z
   unfold bK5 at z
   simp only[aC,bM,or_false]at z
   subst z
   ·obtain⟨_,_,_,_,_,_,_,_,_,_,a,l,_⟩:=hD ("product",DV.aa6,ah2) (by unfold tb;simp)
    exact br9 X G a l
 obtain⟨f,od,an,sl,oc,kV,dc,pm,cd,ct,a,l0,c,k⟩:=hD ("law",DV.ab1,aq5) (by unfold tb;simp)
 have e:=C.symm.trans (cT X G a)
 cases e
 have F:=ba4 (st:=aq5) l0 c k
 refine⟨_,fun s v=>.of_eq rfl,fun y _ _ bm hk=>(bB1 hP (ba8 hT bm hk) 13 (aI1 hP (ba8 hT bm hk) 13) (d:=DV.ab1) (f := "law") rfl ⟨F,cT X G a,F.binds bB3⟩ bb6 rfl rfl bB6 aK0).imp (fun vs H Q E q=>bz3 (fun ns h=>DV.bM3 (P:=P) 7 ns h) vs H Q E (aX7 hT q))⟩
end My
end
open PySem PySem.W PyProof.Rows
set_option maxRecDepth 100000 in
set_option maxHeartbeats 0 in
theorem PySem.Challenge.cw_leasttolls_k08_powers_of_tables_holds : PySem.Challenge.rw_leasttolls_k08_powers_of_tables.Holds := by
 refine My.GT.2 ?_
 delta My.GT
 dsimp only
 k_fill
 refine L2.aK3 (l:=PySem.Challenge.rw_leasttolls_k08_powers_of_tables) (n:=63) (k:=45) (x := "_law_script") (sp:=L2.spB My.af6) My.af6 rfl (by decide) rfl ⟨rfl,by decide,by decide⟩ (fun w h Y=>⟨PySem.W.km_in_of Y,PySem.W.km_tabs_of Y⟩) (fun w=>?R) (fun w=>?NT) ?F (fun K H a ns hl hB hS hF=>L2.bD5 hl hB hS hF)
 case R=>kernel_rfl
 case NT=>kernel_rfl
 case F =>
  intro w mg fa h KX G hmg
  refine' My.bt0 KX G hmg ?hD ?hz  ?hT ?tnd
  case hD =>
   intro p hp
   unfold My.tb at hp
   simp only[aC,bM,or_false]at hp
   rcases hp with rfl|rfl|rfl|rfl|rfl|rfl|rfl|rfl|rfl|rfl|rfl|rfl|rfl|rfl
   all_goals walk_at "df"
  case hz =>
   intro x hx
   unfold L2.bNames at hx
   simp only[aC,bM,or_false]at hx
   rcases hx with rfl|rfl|rfl|rfl|rfl|rfl|rfl|rfl|rfl|rfl|rfl|rfl|rfl|rfl|rfl|rfl|rfl|rfl<;>k_is
  case hT =>
   intro x hx
   simp only[My.af6,aC,bM,or_false]at hx
   rcases hx with rfl|rfl<;>kernel_rfl
  (case tnd=>kernel_rfl)
