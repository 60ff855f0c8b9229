import PyProof.Rows.All
import Wide.All
import OpenK.AllK
import Wide.FinOn
import PyProof.EqAt
import PyProof.EqKinds
import PyProof.TupleCall
import PyProof.MinMaxWalk
import PyProof.WalkInts
import PyProof.NeKinds
import PyProof.SliceStr2
import PyProof.StrBlockI
import PyProof.MaxThree
import PyProof.ZipIter
import PyProof.Draws
import PyProof.EnumMake
import PyProof.ListMulRoad
import PyProof.Rows.StrRev
import PyProof.DictItems
import PyProof.ListRange
import PyProof.AutoIntG2
import PyProof.FactsAll.int_6
import KE.KMinKey
import PyProof.Rows.TupDisplay
import PyProof.Rows.CatchBare
import KE.KTryMore
import PyProof.RulesAs
import PyProof.StrOps
import KE.KDictList
import PyProof.Rows.SortShell
import KE.KDictLaws
import KE.KDictSum
import KE.IntBitsLaws
import KE.KIntText
import PyProof.CallStr
import PyProof.StrBlockL
import PyProof.StrLawsChain
import PyProof.StrLawsTight
import PyProof.Rows.StrItems
import PySem.Challenge.RW_leasttolls_k05_all_tolls
set_option bootstrap.genMatcherCode false
set_option genSizeOf false
set_option compiler.extract_closed false
set_option Elab.async false
set_option linter.all false
set_option maxRecDepth 100000
set_option maxHeartbeats 4000000
open List renaming getElem?_eq_some_iff->ac,getElem?_eq_getElem->ag,mem_cons_of_mem->ao,mem_cons_self->ar,size_toArray->av,getElem?_set_ne->aw,mem_cons->ay,length_map->az,length_append->aC,getElem?_map->aE,replicate->aF,mem_of_getElem?->aG,length_cons->aI,getElem?_set_self->aJ,length_set->aK,append_assoc->aM,mem_append->aN,mem_singleton->aO,getElem?_append_left->aR,map_cons->aU,lookup_cons->aZ,mem_append_right->a7,take_of_length_le->a8,mem_map->bf,all_eq_true->bh,range->bj,pairwise_cons->bp,append_nil->bt,take_append_getElem->bu,mem_map_of_mem->bw,getElem?_append_right->bz,extract_eq_take_drop->bD,replicate_succ->bH,mem_iff_getElem->bI,length_take->bK,length_singleton->bO,take_append_drop->bP,drop_zero->bQ,getElem?_replicate->bU,pairwise_append->bV,filterMap_cons->cf,getElem?_eq_none->cg,take_length->cr,set_set->cw,not_mem_nil->cG,getD_eq_getElem?_getD->cL,getElem?_take->cN,drop_eq_getElem_cons->cQ,flatten_cons->cV,mem_of_mem_take->cX,reverse_reverse->cY,map_map->c0,mem_range->c8,lookup->de,getElem?_drop->di,mem_filter->dn,nodup_cons->dq,foldl_cons->dr,find?_cons->dt,set_append->dv,all_cons->dz,perm_append_comm->dB,mem_of_mem_drop->dM,mem_filterMap->dZ,length_eq_zero_iff->ee,reverse_cons->et,drop_of_length_le->eF,mem_append_left->eU,getElem?_of_mem->e7,length_nil->fh,getElem?_range->fq,map_nil->fw,drop_drop->fK,filterMap_map->fM,nodup_nil->fN,take_zero->fO,pairwise_iff_getElem->fQ,drop_sublist->fY,reverse_perm->fZ,any_cons->gk,cons_append->gr,mem_reverse->gy,drop_eq_nil_of_le->gY,pairwise_lt_range->gZ,of_mem_zip->g9,nil_append->hE,getElem?_toArray->ic,set_getElem_self->ii,set_append_right->il,reverse_append->iK,map_congr_left->iL,take_sublist->jn,drop_reverse->ju,length_range->jy,pairwise_map->jz,any_eq_true->jD,take_left'->jO,foldl->jW,forIn_nil->jX,drop_take->j3,take_take->j4,set_comm->km,all_map->kC,all_nil->kE,length->kH
open PySem renaming Shared->ae,wpAny_bind->aq,Program->aD,sizeLine->aL,Around->aP,starEach->aV,wpAny_pure->aW,mem_of_lookup->be,bootBuiltins->bq,cellsFrom->bv,mainGlobals->bG,wpAny_mono->bS,FuncData->bT,binaryOp->b7,NameKind->cx,wpAny_newObj_type->cA,backTo->cD,sizeLine_eq->cF,assignEach->cH,wpAny_Call_Name_kw->cK,wpAny_passesOwn->cR,keywordEach->cS,attributeBase->c5,wpAny_truthy_bool->dC,foldedSetIterable->dD,wpAny_rule->dL,wpAny_call_entry->dP,Keyword->dX,isTrue->dY,compareOp->d8,backToKw->eg,wpAny_Call_method->eD,sysModules->eK,swapsWith->eM,Arguments->eO,pushCells->eP,wpAny_holding->eS,relabel->eT,Paired->e9,letOwnedTupleGo->fc,pushCells_keeps->fe,codeAny_mono->fu,wpAny_binaryOp_repeat_ref->fP,wpAny_pyIter_list->fT,wpAny_comprehension_free->gj,noFill_tuple_add->gp,wpAny_callSpecial?_slot->gu,builtinsNs->gD,holding->gF,assign->gG,codeAny->gI,typeIs_int->gM,call_meets->gN,codeAny_compStart_list->gQ,call_meetsIn->gR,wpAny_execs_nil->g6,wpAny_field->ip,strIterType->iq,getMethod->iz,callerA->iA,valueAt->iB,wpAny_standAt->iM,swappedStores->iO,behindInMarks->iP,seq_tuple_add->iQ,wpAny_pyIter_tuple->iW,Result->iZ,Within->jd,standAt->je,wpAny_assign_Name->jg,concat_meets->jo,seqIndex_neg->jp,notedBy->jr,ItemsOf->jw,seqSlot_of->jF,seqIndex_of->jH,BindsTo->jP,argBest->jQ,call->jR,IsTupleKey->jS,wpAny_Name->jT,wpAny_load->jU,PlainAttrs->jV,KeyKind->kh,pyIter->kA
open PySem.W renaming Frag->af,tabIn->br,findIn->bF,kia_one->bJ,emptyDict->bM,keepIn->b8,kitOne->b9,CodeHd->cz,instObj->cB,fnOf->dg,OpenLaw->dk,plainGet->eN,plainGet_of->fj,callWith_K0->fm,nsIn->fA,lookIn->fD,callWith_K->fF,codeIn->fG,methodObj->fR,hasDictIn->fU,mg_of->gn,cellsFrom_some->gK,takerIn->g7,makesIn->g8,methodCall_KW->hX,tabObj->iw,kitx_tuple->i0,isFn->jh,plainOver->ji,specialIn->jj,kitx_list->jk,handedIn->jB,codeHdIn->jE,kdl_dict->jG,takesIn->jK,kla_fn->jY,exmOne->j8,TabsAt->j9,noTabs->ka,WalkO->ke,mroIn->ki,fnX->kI
open Nat renaming le_refl->ah,le_trans->aj,lt_of_lt_of_le->aA,ne_of_lt->aB,lt_irrefl->bZ,zero_add->ce,le_succ->cT,lt_succ_self->c9,lt_succ_of_lt->dF,zero_le->dJ,lt_or_ge->dS,add_le_add_left->fo,sub_self->fy,le_of_succ_le->fX,lt_trichotomy->gb,zero_testBit->gC,le_of_lt->gE,ne_of_gt->gH,le_of_eq->gJ,add_comm->gP,add_zero->gW,pow_le_pow_right->iy,eq_zero_or_pos->i7,mul_comm->jq,le_of_not_lt->jC,mul_add->jJ,min_eq_left->jM,testBit_or->kb
open Bool renaming and_eq_true->ai,false_ne_true->aQ,false_eq_true->bn,or_eq_true->bR,and_eq_true_iff->dH,true_and->dW,or_eq_false_iff->eV,eq_iff_iff->hW,and_true->iR,false_or->kj
open PySem.Heap renaming get?_push_of_some->ak,lt_size->aH,get?_push_size->aX,size_push->cJ,get?_update_other->dh,SameBut->dQ,get?_push_ne->eG,size_update->eR,get?_update_self->hZ,ExtBut->jI
open PyProof.Rows renaming wpS_bind->am,wpS_pure->ax,pendingOf->a9,SortSt->bC,wpS_forRange->bE,failedOf->bW,kindOf->cb,wpS_mono->cW,wpS_modify->dj,oneType'->du,mirror->dN,wpS_get->eE,seqObj->eQ,callWith_type1->ft,wpS_lift->fJ,AllBare->fS,IntsAre->fW,wpS_reverse->ga,envOfC->gh,SortedTo->gz,subscriptTail_builtinR->gL,get?_update_seq->hR,K_mirror_equal->ir,setArr->i9,pairsOf_size->jv,sortedHeap->j7
open Option.some renaming inj->au
open Array renaming getElem?_eq_getElem->aS,toList_append->aY,length_toList->bc,toList_extract->bX,getElem?_toList->ci,perm_iff_toList_perm->cO,toList_reverse->cZ,toList_push->dG,toArray_toList->eW,getElem?_eq_some_iff->fL,getElem?_extract->gU,append_assoc->iV,size_extract->i8,toList->jf,back?->kK,push->kN
open PySem.Builtin.SmallTypes renaming nextOf->bL
open Int renaming toNat_natCast->bN,le_trans->cu,le_refl->cy,le_of_lt->cE,natCast_nonneg->cI,toNat_of_nonneg->c7,lt_or_le->dR,zero_add->eJ,mul_le_mul_of_nonneg_left->eZ,fdiv_eq_ediv_of_nonneg->fC,one_mul->gc,not_lt->i6,lt_of_lt_of_le->ja,ofNat_lt->jt,sub_zero->jx,add_zero->jA,natCast_mul->jL
open PySem.Calls renaming callWith_builtin->cc,spliced_cons->cq,evalArgs_plain->cU,spliced_nil->dE,Name_function_global->fB
open False renaming elim->cj
open Ne renaming symm->cC
open PySem.F renaming slot_tuple_iterator_next->cM,plainAttrs_dict->db,slot_dict_get->dA,slot_NoneType_hash->dI,args_tuple_add_2->dT,slot_int_rmul->d6,entry_tuple_add->d9,slot_tuple_add->el,slot_tuple_mul->eC,args_tuple_iterator_next_1->fg,slot_dict_setdefault->fi,entry_tuple_iterator_next->fx,slot_dict_update->gm,slot_tuple_rmul->gv,plain_list_iadd->gA,plainAttrs_list->gB,slot_list_reverse->gO,entry_dict_get->gT,slot_list_append->h9,type_dict_get->ie,args_int_rmul_2->io,slot_int_index->iH,entry_int_rmul->iI,fills_int_mul->i3
open PySem.Str renaming ofString->cP
open PySem.Obj renaming mapSeq->c6,data_mapFields->i4
open PySem.Paired renaming length->dw,snoc->kJ
open PySem.Builtin.List renaming listTooLong->dU
open Option renaming isSome_some->d7,map_eq_some_iff->eA,isSome_iff_exists->gi,map_some->hV,isSome_none->jc
open Classical renaming propDecidable->ed
open PySem.Builtin renaming bitNot->eI,bitOr->gg,bitAnd->j2
open PySem.SeqAt.EqAt renaming same->e8,none_int->iC,none_str->iD,int_none->iE,str_none->iG,int_str->iT,str_int->iU,of_refs->jb
open PySem.Builtin.Tuple renaming tupleTooMany->fI,tupleItemsOf->jZ,tupleIsExact->j0
open PySem.W.OpenLaw renaming wellSaid->gd
open PySem.SeqAt renaming EqAt->gX,RcNeAt->kD,RcAt->kP
open PySem.PassesOwn renaming never->hU
open List.Perm renaming append_left->ig
open PySem.Around renaming under_plainId->iu,under->jl
open PySem.Heap.SameBut renaming update->iJ
open PySem.Code renaming isFrame->jm,frames->kG
open Array.Perm renaming refl->jN
open PySem.Builtin.Str renaming tooLong->kc
open PySem.Value renaming isStrOf->kg,isInt->kF
open Function renaming comp->kl
open List.Pairwise renaming imp_of_mem->ko,filter->kL
open PySem.Builtin.Range renaming rangeSize->kq
open PyProof.Rows.IsTup renaming new->kr
open PySem.StrLaws renaming found_one->kt
open PySem.W.OpenRow renaming toRowW->kz
open Nat.succ renaming inj->kB
open PySem.W.Looks renaming here->kM
open PyProof.Rows.SortSt renaming mk'->kO
abbrev yA:=List (PySem.Addr×PySem.Obj)
abbrev yB:=List (PySem.Str×PySem.Addr)
abbrev yC:=PySem.Str->Option PySem.Value
abbrev yD:=List (Option Nat)
abbrev yE:=Array (Option PySem.Value)
abbrev yF:=List (PySem.Addr×PySem.Addr)
abbrev yG:=List PySem.Value
abbrev yH:=List PySem.Str
abbrev yI:=Option PySem.Addr
abbrev yJ:=Array PySem.Value
abbrev yK:=List PySem.Expr
abbrev yL:=List PySem.Stmt
noncomputable section
namespace L2
open PySem PySem.Spec PyProof.Rows
theorem head_of {l:dk}{q:aD}{loose:yH}{H:PySem.W.Hook}{N:Nat}{d:DefRec}{h:List (Str×Expr)}
  (left:PySem.W.LeftO l.row.prog q loose (fun s=>PySem.W.xlAt q [] s&&PySem.W.recOk (PySem.W.RowW.records (kz l.row)) s) H.obs H.val N)
  (y:PySem.W.defOf q l.row.name=some (d,h)) (hp:l.row.prog.theDef l.row.name=some (d.params,d.body,d.scope)) (hk:PySem.W.kwWritten? d.params.kwonlyargs d.params.kw_defaults=some h) (z:(!l.row.writes||l.row.records.isEmpty)=true)
  (k1:l.row.wellSaid=true) (ok:(PySem.W.chainsOk q&&PySem.W.opensWell l.row.prog&&(PySem.W.frees l.row.toRowW&&l.row.within.isEmpty))=true) (hb:l.row.prog.bare) (hw:l.row.toRowW.promised)
  (call:ke q loose (PySem.W.XL q []) H.says l.row.toRowW d h fun f vs=>jR f vs):l.row.Holds :=
 PySem.W.holds_open left H.of H.keeps (fun s e=>PySem.W.xl_of s (dH.mp e).1) PySem.W.XL.keeps y hp hk (fun s e=>PySem.W.recFacts_of (dH.mp e).2) z k1 ok hb hw call
end L2
end
noncomputable section
namespace My
open PySem L2
noncomputable def nmS:Stmt->Bool
 | .Assign [.Name x _] _ _=>decide (x=("__name__":Str))
 | _=>false
noncomputable def vq:aD:={ PySem.Challenge.pw_leasttolls_k05_all_tolls with main:={ (PySem.Challenge.pw_leasttolls_k05_all_tolls).main with body:=(PySem.Challenge.pw_leasttolls_k05_all_tolls).main.body.filter fun s=>!nmS s } }
inductive IsL:dk->Prop|mk:IsL PySem.Challenge.rw_leasttolls_k05_all_tolls
theorem bM9 {l:dk}(h:IsL l):PySem.Challenge.rw_leasttolls_k05_all_tolls=l:=by cases h;rfl
noncomputable def lwp:{ l:dk // IsL l }:=by
 refine⟨?p,?h⟩
 case h =>
  have e:PySem.Challenge.rw_leasttolls_k05_all_tolls=?p:=by
   conv=>lhs;reduce
  exact e▸IsL.mk
theorem ws1:gd lwp.1=true:=by k_qdec
theorem ws:gd PySem.Challenge.rw_leasttolls_k05_all_tolls=true:=by
 rw[bM9 lwp.2];exact ws1
end My
end
section
open PySem PySem.W PyProof.Rows
local macro_rules | `(tactic| o_head $H) => `(tactic| refine L2.head_of (q := My.vq) (loose := []) (H := $H) (N := 4000) (fun w => by kernel_rfl) (by rfl) (by rfl) (by rfl) rfl (by assumption) (by decide +kernel) ⟨rfl, rfl, rfl, rfl, rfl, by decide +kernel⟩ ?_ ?_)
set_option maxRecDepth 100000 in
set_option maxHeartbeats 0 in
noncomputable def My.GT:{ G:Prop // G->PySem.Challenge.rw_leasttolls_k05_all_tolls.Holds }:=by
 refine⟨?G,?h⟩
 case h =>
  intro g
  w_on;refine holds_law My.ws fun said=>?_;k_head;(focus w_witness2)
  exact g
end
noncomputable section
namespace L2
open PySem PySem.Spec PyProof.Rows
noncomputable abbrev Key:=Sum Int Str
noncomputable def ax4:Key->Value->Bool
 | .inl k,v=>kF k v
 | .inr x,v=>kg x v
noncomputable def bX8 (w:World):Key->Int
 | .inl k=>hashInt k
 | .inr x=>hashStr w x
theorem ze:∀ {k:Key} {v:Value},ax4 k v=true->(∃ i t,k=Sum.inl i/\v=Value.int i t)\/(∃ x t,k=Sum.inr x/\v=Value.str x t)
 | .inl i,v,h=>by
  obtain⟨t,e⟩:=Value.isInt_shape (k:=i) (v:=v) h
  exact .inl ⟨i,t,rfl,e⟩
 | .inr x,v,h=>by
  obtain⟨t,e⟩:=Value.isStrOf_shape (x:=x) (v:=v) h
  exact .inr ⟨x,t,rfl,e⟩
theorem aP8 (i:Int)(t:Tok):ax4 (.inl i) (.int i t)=true:=by simp[ax4,kF]
theorem aM5 (x:Str)(t:Tok):ax4 (.inr x) (.str x t)=true:=by simp[ax4,kg]
theorem bM2 (a b:Int):decide ((Sum.inl a:Key)=Sum.inl b)=(a==b):=by
 by_cases e:a=b
 .subst e;simp
 .have h:¬(Sum.inl a:Key)=Sum.inl b:=fun q=>e (Sum.inl.inj q)
  rw[decide_eq_false h]
  exact(beq_eq_false_iff_ne.mpr e).symm
theorem bB6 (a b:Str):decide ((Sum.inr a:Key)=Sum.inr b)=decide (a=b):=by
 by_cases e:a=b
 .subst e;simp
 .have h:¬(Sum.inr a:Key)=Sum.inr b:=fun q=>e (Sum.inr.inj q)
  rw[decide_eq_false h,decide_eq_false e]
theorem bF0 (a:Int)(b:Str):decide ((Sum.inl a:Key)=Sum.inr b)=false:=decide_eq_false (fun q=>nomatch q)
theorem by7 (a:Str)(b:Int):decide ((Sum.inr a:Key)=Sum.inl b)=false:=decide_eq_false (fun q=>nomatch q)
noncomputable def zl (prog:aD)(w:World):kh prog w Key where
 is:=ax4
 hash:=bX8 w
 inj:=fun v a b ha hb=>by
  rcases ze ha with⟨i,t,rfl,rfl⟩|⟨x,t,rfl,rfl⟩
  .rcases ze hb with⟨j,u,rfl,e⟩|⟨y,u,rfl,e⟩
   .injection e with e1 _;rw[e1]
   .exact nomatch e
  .rcases ze hb with⟨j,u,rfl,e⟩|⟨y,u,rfl,e⟩
   .exact nomatch e
   .injection e with e1 _;rw[e1]
 byValue:=fun k v h=>by
  rcases ze h with⟨i,t,rfl,rfl⟩|⟨x,t,rfl,rfl⟩<;>rfl
 pyHash:=fun hv h=>by
  rcases ze hv with⟨i,t,rfl,rfl⟩|⟨x,t,rfl,rfl⟩
  .exact wpAny_pyHash_int h
  .exact wpAny_pyHash_str h
 eqBool:=fun hu hv h=>by
  rcases ze hu with⟨i,t,rfl,rfl⟩|⟨x,t,rfl,rfl⟩
  .rcases ze hv with⟨j,u,rfl,rfl⟩|⟨y,u,rfl,rfl⟩
   .rw[bM2]at h;exact wpAny_eqBool_int h
   .rw[bF0]at h;exact iT i t y u _ _ _ _ h
  .rcases ze hv with⟨j,u,rfl,rfl⟩|⟨y,u,rfl,rfl⟩
   .rw[by7]at h;exact iU x t j u _ _ _ _ h
   .rw[bB6]at h;exact wpAny_eqBool_str h
 «strs»:=fun k x t v h=>by
  rcases ze h with⟨i,u,rfl,e⟩|⟨y,u,rfl,e⟩
  .exact nomatch e
  .injection e with e1 _
   subst e1
   cases v<;>rfl
theorem ay3 (prog:aD)(w:World)(i:Int)(t:Tok):(zl prog w).is (.inl i) (.int i t)=true:=aP8 i t
theorem ay5 (prog:aD)(w:World)(x:Str)(t:Tok):(zl prog w).is (.inr x) (.str x t)=true:=aM5 x t
noncomputable abbrev FK:=Option Key
noncomputable def fIs:FK->Value->Bool
 | none,v=>match v with|.none=>true|_=>false
 | some k,v=>ax4 k v
noncomputable def fH (w:World):FK->Int
 | none=>0xFCA86420
 | some k=>bX8 w k
theorem zM {v:Value}(h:fIs none v=true):v=.none:=by
 cases v with
 | none=>rfl
 | _=>exact nomatch h
theorem aK6 {P:aD}{w:World}{A:aP}{E:Value->ae->Prop}{s:ae}{Q:Int->ae->Prop}(h:Q 0xFCA86420 { s with toks:=s.toks+1 }):wpAny (model P w) A (PySem.pyHash .none) Q E s:=by
 have hT:s.TypeIs .none "NoneType":=rfl
 unfold PySem.pyHash pyHashByItsType
 refine aq (wpAny_cRoomFor_byValue rfl ?_)
 refine aq (wpAny_specialOf hT dI.lookup ?_)
 show wpAny _ _ (if(some (Value.builtin "NoneType.__hash__")==some Value.none)=true then _ else _) Q E s
 rw[if_neg (by rw[beq_builtin_none];exact aQ)]
 refine aq (wpAny_specialOf hT dI.lookup ?_)
 show wpAny _ _ (callSpecialIfBoundUnlessNone? .none "__hash__" _ >>= _) Q E s
 refine aq (wpAny_callSpecialIfBoundUnlessNone?_slot hT dI (dP dI hT F.entry_NoneType_hash
   (show wpAny _ _ (retInt 0xFCA86420) _ _ s from wpAny_ret_mkInt ?_) (F.args_NoneType_hash_1 _)))
 show wpAny _ _ (if _ then _ else _) Q E _
 rw[if_pos (by decide)]
 exact aW h
noncomputable def aG3 (prog:aD)(w:World):kh prog w FK where
 is:=fIs
 hash:=fH w
 inj:=fun v a b ha hb=>by
  cases a with
  | none =>
   cases zM ha
   cases b with
   | none=>rfl
   | some k=>rcases ze hb with⟨_,_,_,e⟩|⟨_,_,_,e⟩<;>exact nomatch e
  | some k =>
   cases b with
   | none=>cases zM hb;rcases ze ha with⟨_,_,_,e⟩|⟨_,_,_,e⟩<;>exact nomatch e
   | some j=>exact congrArg some ((zl prog w).inj v k j ha hb)
 byValue:=fun k v h=>by
  cases k with
  | none=>cases zM h;rfl
  | some k=>exact(zl prog w).byValue k v h
 pyHash:=fun {A E s k v Q} hv h=>by
  cases k with
  | none=>cases zM hv;exact aK6 h
  | some k=>exact(zl prog w).pyHash (k:=k) hv h
 eqBool:=fun {A E s a b u v Q} hu hv h=>by
  cases a with
  | none =>
   cases zM hu
   cases b with
   | none=>cases zM hv;exact e8 _ prog w E Q h
   | some k =>
    rcases ze hv with⟨i,t,rfl,rfl⟩|⟨x,t,rfl,rfl⟩
    .exact iC i t _ _ _ _ h
    .exact iD x t _ _ _ _ h
  | some k =>
   cases b with
   | none =>
    cases zM hv
    rcases ze hu with⟨i,t,rfl,rfl⟩|⟨x,t,rfl,rfl⟩
    .exact iE i t _ _ _ _ h
    .exact iG x t _ _ _ _ h
   | some j =>
    refine(zl prog w).eqBool (a:=k) (b:=j) hu hv ?_
    have e:decide (k=j)=decide (some k=some j):=by simp
    rw[e];exact h
 «strs»:=fun k x t v h=>by
  cases k with
  | none=>exact nomatch zM h
  | some k=>exact(zl prog w).strs k x t v h
noncomputable abbrev NI:=Sum FK (List FK)
section
variable (P:aD) (w:World)
noncomputable def NIs (h:Heap):NI->Value->Prop
 | .inl f,v=>fIs f v=true
 | .inr l,v=>∃ b,v=.ref b/\jS (aG3 P w) h l b
def bV0 (h:Heap)(ks:List NI)(a:Addr):Prop:=∃ o its n,h.get? a=some o/\o.cls=.type "tuple"/\o.data=.seq its n/\e9 (NIs P w h) ks its.toList
end
section
variable {P:aD} {w:World} {h h':Heap}
theorem NIs.inj {x y:NI}{v:Value}(hx:NIs P w h x v)(hy:NIs P w h y v):x=y:=by
 cases x with
 | inl f =>
  cases y with
  | inl g=>exact congrArg Sum.inl ((aG3 P w).inj v f g hx hy)
  | inr l =>
   obtain⟨b,rfl,_⟩:=hy
   exact absurd ((aG3 P w).byValue f _ hx) (by nofun)
 | inr l =>
  obtain⟨b,rfl,hb⟩:=hx
  cases y with
  | inl g=>exact absurd ((aG3 P w).byValue g _ hy) (by nofun)
  | inr m =>
   obtain⟨c,e,hc⟩:=hy
   cases e
   exact congrArg Sum.inr (hb.inj hc)
theorem NIs.all_inj:∀ {x y:List NI} {vs:yG},e9 (NIs P w h) x vs->e9 (NIs P w h) y vs->x=y
 | _,_,_,.nil,.nil=>rfl
 | _,_,_,.cons a p,.cons b q=>by rw[a.inj b,NIs.all_inj p q]
theorem bV0.inj {a:Addr}{x y:List NI}(hx:bV0 P w h x a)(hy:bV0 P w h y a):x=y:=by
 obtain⟨o,i,n,e,_,d,p⟩:=hx
 obtain⟨G,B,J,e',_,d',z⟩:=hy
 rw[e]at e';cases e'
 rw[d]at d';cases d'
 exact NIs.all_inj p z
theorem NIs.keep {x:NI}{v:Value}(k:∀ b l,jS (aG3 P w) h l b->jS (aG3 P w) h' l b)(hx:NIs P w h x v):NIs P w h' x v:=by
 cases x with
 | inl f=>exact hx
 | inr l=>obtain⟨b,e,p⟩:=hx;exact⟨b,e,k _ _ p⟩
end
inductive V where
 | non|bl (b:Bool)|int (i:Int)|str (x:Str)|byt (b:Array UInt8)|flt (b:UInt64)|ref (a:Addr)|ty (n:String)
 deriving DecidableEq
noncomputable def RelV:V->Value->Prop
 | .non,u=>u=Value.none
 | .bl b,u=>u=Value.bool b
 | .int i,u=>∃ t,u=Value.int i t
 | .str x,u=>∃ t,u=Value.str x t
 | .byt b,u=>∃ t,u=Value.bytes b t
 | .flt b,u=>∃ t,u=Value.float b t
 | .ref a,u=>u=Value.ref a
 | .ty n,u=>u=Value.type n
abbrev Vals:List V->List Value->Prop:=e9 RelV
theorem Vals.length {h:List V}{us:yG}(r:Vals h us):h.length=us.length:=dw r
theorem Vals.get:∀ {h:List V} {us:yG} {i:Nat} {x:V},Vals h us->h[i]?=some x->∃ u,us[i]?=some u/\RelV x u
 | _,_,_,_,.nil,e=>by simp at e
 | _,_,0,_,.cons r _,e=>by simp at e;subst e;exact⟨_,rfl,r⟩
 | _,_,i+1,x,.cons _ t,e=>by
  obtain⟨u,z,y⟩:=Vals.get (i:=i) (x:=x) t (by simpa using e)
  exact⟨u,by simpa using z,y⟩
theorem Vals.set {x:V}{u:Value}(r:RelV x u):∀ {h:List V} {us:yG} (i:Nat),Vals h us->Vals (h.set i x) (us.set i u)
 | _,_,_,.nil=>.nil
 | _,_,0,.cons _ t=>.cons r t
 | _,_,i+1,.cons q t=>.cons q (Vals.set r i t)
theorem Vals.append:∀ {h ys:List V} {us ws:yG},Vals h us->Vals ys ws->Vals (h++ys) (us++ws)
 | _,_,_,_,.nil,s=>s
 | _,_,_,_,.cons r t,s=>.cons r (Vals.append t s)
theorem Vals.take:∀ {h:List V} {us:yG} (n:Nat),Vals h us->Vals (h.take n) (us.take n)
 | _,_,0,_=>.nil
 | _,_,_+1,.nil=>.nil
 | _,_,n+1,.cons r t=>.cons r (Vals.take n t)
theorem Vals.drop:∀ {h:List V} {us:yG} (n:Nat),Vals h us->Vals (h.drop n) (us.drop n)
 | _,_,0,r=>r
 | _,_,_+1,.nil=>.nil
 | _,_,n+1,.cons _ t=>Vals.drop n t
noncomputable def ar8:Option V->Option Value->Prop
 | some v,some u=>RelV v u
 | none,none=>True
 | _,_=>False
def KV {κ:Type}:List (κ×V)->List (κ×Value)->Prop:=e9 fun(p:κ×V) (q:κ×Value)=>p.1=q.1/\RelV p.2 q.2
noncomputable def kV:Key->V
 | .inl i=>.int i
 | .inr x=>.str x
inductive HO where
 | lst (xs:List V)
 | tup (xs:List V)
 | dK (kvs:List (Key×V))
 | ins (Cc dx:Addr) (fs:List (Str×V))
 | own (x:Addr)
 | xd (fs:List (Str×V))
 | met (f x:Addr)
 | rng (lo hi:Int)
 | frz (o:Obj) (u:HO)
 | tbl (ps:yJ)
 | ext (C:Heap->Prop)
noncomputable abbrev Hp:=Addr->Option HO
noncomputable def fV:FK->V
 | none=>.non
 | some k=>kV k
noncomputable def NAt (H:Hp):NI->V->Prop
 | .inl f,v=>v=fV f
 | .inr l,v=>∃ c,v=.ref c/\H c=some (.tup (l.map fV))
def NK (H:Hp)(k:List NI)(b:Addr):Prop:=∃ xs,H b=some (.tup xs)/\e9 (NAt H) k xs
theorem NAt.mono {H H':Hp}{k:NI}{v:V}(z:∀ b y,H b=some (.tup y)->H' b=some (.tup y))(h:NAt H k v):NAt H' k v:=by
 cases k with
 | inl f=>exact h
 | inr l=>obtain⟨c,e,q⟩:=h;exact⟨c,e,z _ _ q⟩
theorem NK.mono {H H':Hp}{k:List NI}{b:Addr}(B:∀ b y,H b=some (.tup y)->H' b=some (.tup y))(h:NK H k b):NK H' k b:=let⟨y,e,p⟩:=h;⟨y,B _ _ e,Paired.mono (fun _ _ z=>z.mono B) p⟩
noncomputable def upd (H:Hp)(a:Addr)(o:HO):Hp:=fun b=>if b=a then some o else H b
theorem zp {H:Hp}{a:Addr}{o:HO}:upd H a o a=some o:=by unfold upd;rw[if_pos rfl]
theorem zb {H:Hp}{a b:Addr}{o:HO}(h:b≠a):upd H a o b=H b:=by unfold upd;rw[if_neg h]
theorem zo {H:Hp}{a b:Addr}{o:HO}(h:H a=some o)(h':H b=none):a≠b:=by
 intro e;subst e;rw[h]at h';cases h'
section
variable (P:aD) (w:World)
noncomputable def aa7 (H:Hp)(h:Heap)(a:Addr):HO->Prop
 | .lst xs=>xs.length<=aL/\∃(its:yG) (n:Nat),Vals xs its/\h.get? a=some { cls:=.type "list",data:=.seq its.toArray n }
 | .tup xs=>xs.length<=aL/\∃ its:List Value,Vals xs its/\IsTup h a its.toArray
 | .dK kvs=>kvs.length<=aL/\(a==eK)=false/\∃ vs,KV kvs vs/\h.DictOf (zl P w) a vs
 | .ins Cc dx fs=>H dx=some (.own a)/\fs.length<=1000/\dx≠a/\h.get? a=some (cB Cc dx) /\
   ∃ mA,h.Ns1 dx mA/\(∀ f,ar8 (fs.lookup f) (mA f))/\jd mA (fs.map (·.1))
 | .own _=>∃ o,h.get? a=some o
 | .xd fs=>∃ mA,h.Ns1 a mA/\∀ f,ar8 (fs.lookup f) (mA f)
 | .rng lo hi=>∃ t u v,h.get? a=some { cls:=.type "range",data:=.fields #[.int lo t,.int hi u,.int 1 v] }
 | .frz o u=>h.get? a=some o/\aa7 H h a u
 | .tbl ps=>h.get? a=some { cls:=.none,data:=.fields ps }
 | .met f x=>h.get? a=some (fR (.ref f) (.ref x))
 | .ext C=>C h/\(∃ o,h.get? a=some o)/\∀ h1 h2:Heap,C h1->(∀ o,h1.get? a=some o->h2.get? a=some o)->C h2
def HOk (H:Hp)(h:Heap):Prop:=∀ a o,H a=some o->aa7 P w H h a o
end
section
variable {P:aD} {w:World} {H H':Hp} {h h':Heap} {a:Addr} {o:HO}
theorem aa7.lt (x:aa7 P w H h a o):a<h.objs.size:=by
 cases o with
 | lst xs=>obtain⟨_,_,_,_,e⟩:=x;exact aH e
 | tup xs=>obtain⟨_,_,_,p⟩:=x;exact p.lt
 | dK kvs=>obtain⟨_,_,_,_,o,_,_,e,_⟩:=x;exact aH e
 | ins Cc dx fs=>obtain⟨_,_,_,e,_⟩:=x;exact aH e
 | own y=>obtain⟨_,e⟩:=x;exact aH e
 | xd fs=>obtain⟨_,⟨_,_,_,e,_⟩,_⟩:=x;exact aH e
 | rng lo hi=>obtain⟨_,_,_,e⟩:=x;exact aH e
 | frz ob u=>obtain⟨e,_⟩:=x;exact aH e
 | tbl ps=>exact aH (show h.get? a=some _ from x)
 | met f y=>exact aH (show h.get? a=some _ from x)
 | ext C=>obtain⟨_,⟨_,e⟩,_⟩:=x;exact aH e
theorem e9.mapP {α β:Type}{F G:α->β->Prop}:∀ {h:List α} {y:List β},e9 F h y->(∀ a b,F a b->G a b)->e9 G h y
 | _,_,.nil,_=>.nil
 | _,_,.cons r t,f=>.cons (f _ _ r) (e9.mapP t f)
theorem aa7.stay (x:aa7 P w H h a o)(k:∀ b u,(b=a\/H b=some (.own a))->h.get? b=some u->h'.get? b=some u)
  (ho:∀ b,H b=some (.own a)->H' b=some (.own a)) (J:∀ b B,H b=some (.tup B)->H' b=some (.tup B)):aa7 P w H' h' a o:=by
 induction o with
 | lst B=>obtain⟨z,its,n,r,e⟩:=x;exact⟨z,its,n,r,k _ _ (.inl rfl) e⟩
 | tup B=>obtain⟨z,its,r,ob,e,c⟩:=x;exact⟨z,its,r,ob,k _ _ (.inl rfl) e,c⟩
 | dK kvs=>obtain⟨z,y,vs,r,ob,es,ep,e,c⟩:=x;exact⟨z,y,vs,r,ob,es,ep,k _ _ (.inl rfl) e,c⟩
 | ins Cc dx fs =>
  obtain⟨d,z,ne,e,G,⟨od,es,ep,e2,c⟩,r⟩:=x
  exact⟨ho _ d,z,ne,k _ _ (.inl rfl) e,G,⟨od,es,ep,k _ _ (.inr d) e2,c⟩,r⟩
 | own y=>obtain⟨ob,e⟩:=x;exact⟨ob,k _ _ (.inl rfl) e⟩
 | xd fs=>obtain⟨G,⟨od,es,ep,e,c⟩,r⟩:=x;exact⟨G,⟨od,es,ep,k _ _ (.inl rfl) e,c⟩,r⟩
 | rng lo hi=>obtain⟨t,u,v,e⟩:=x;exact⟨t,u,v,k _ _ (.inl rfl) e⟩
 | frz ob u ih=>obtain⟨e,q⟩:=x;exact⟨k _ _ (.inl rfl) e,ih q⟩
 | tbl ps =>
  have e:h.get? a=some { cls:=.none,data:=.fields ps }:=x
  show h'.get? a=some { cls:=.none,data:=.fields ps }
  exact k a _ (.inl rfl) e
 | met f y =>
  have e:h.get? a=some (fR (.ref f) (.ref y)):=x
  show h'.get? a=some (fR (.ref f) (.ref y))
  exact k a _ (.inl rfl) e
 | ext C=>obtain⟨p,⟨o,e⟩,st⟩:=x;exact⟨st _ _ p fun o q=>k _ _ (.inl rfl) q,⟨o,k _ _ (.inl rfl) e⟩,st⟩
theorem HOk.lt (x:HOk P w H h)(e:H a=some o):a<h.objs.size:=(x a o e).lt
theorem HOk.fresh (x:HOk P w H h)(e:h.objs.size<=a):H a=none:=by
 cases q:H a with
 | none=>rfl
 | some u=>exact absurd (aA (x.lt q) e) (bZ _)
theorem HOk.kept (x:HOk P w H h)(k:∀ b u,h.get? b=some u->h'.get? b=some u):HOk P w H h':=fun a o e =>
 (x a o e).stay (fun b u _ q=>k b u q) (fun _ q=>q) fun _ _ q=>q
theorem HOk.laid (x:HOk P w H h)(k:∀ b u,h.get? b=some u->h'.get? b=some u)(hp:h.objs.size<=a)(new:aa7 P w (upd H a o) h' a o):HOk P w (upd H a o) h':=fun b u e=>by
 have hn:=x.fresh hp
 by_cases hb:b=a
 .subst hb;rw[zp]at e;cases e;exact new
 .rw[zb hb]at e
  exact(x b u e).stay (fun c v _ q=>k c v q) (fun c q=>by rw[zb (zo q hn)];exact q) fun c y q=>by rw[zb (zo q hn)];exact q
end
def Rd (H:Hp)(a:Addr)(u:HO):Prop:=H a=some u\/∃ o,H a=some (.frz o u)
theorem Rd.ok {P:aD}{w:World}{H:Hp}{h:Heap}{a:Addr}{u:HO}(r:Rd H a u)(x:HOk P w H h):aa7 P w H h a u:=by
 rcases r with r|⟨o,r⟩
 .exact x a u r
 .obtain⟨_,q⟩:=x a _ r
  exact q
noncomputable def Mut:Option HO->Prop
 | some (.lst _)=>True
 | some (.dK _)=>True
 | some (.ins _ _ _)=>True
 | some (.ext _)=>True
 | _=>False
section
variable {P:aD} {w:World} {H:Hp} {h h':Heap} {x e:Addr} {o':HO}
theorem HOk.write (ok:HOk P w H h)(mu:Mut (H x))(he:e=x\/H e=some (.own x))(k:∀ b u,b≠e->h.get? b=some u->h'.get? b=some u)(Z:∃ u,h'.get? e=some u)
  (new:aa7 P w (upd H x o') h' x o'):HOk P w (upd H x o') h':=fun b u q=>by
 have B:∀ c y,H c=some (.own y)->c≠x:=fun c y r z=>by subst z;rw[r]at mu;exact mu
 have G:∀ c J,H c=some (.tup J)->c≠x:=fun c J r z=>by subst z;rw[r]at mu;exact mu
 by_cases hb:b=x
 .subst hb;rw[zp]at q;cases q;exact new
 .rw[zb hb]at q
  by_cases hbe:b=e
  .have q':H b=some (.own x):=by
    rcases he with z|z
    .exact absurd (hbe.trans z) hb
    .rw[hbe];exact z
   rw[q]at q';cases q'
   obtain⟨v,hv⟩:=Z
   exact⟨v,by rw[hbe];exact hv⟩
  .refine(ok b u q).stay (fun c v hc r=>k c v ?_ r) (fun c r=>by rw[zb (B c b r)];exact r) fun c J r=>by rw[zb (G c J r)];exact r
   rcases hc with rfl|hc
   .exact hbe
   .rintro rfl
    rcases he with z|z
    .exact B c b hc z
    .rw[hc]at z;cases z;exact hb rfl
end
structure Un (fs ex:List Addr)(H H':Hp)(h h':Heap):Prop where
 keep:∀ b o,h.get? b=some o->H b=none->b ∉ fs->b ∉ ex->h'.get? b=some o
 slot:∀ b o,h.get? b=some o->H b=none->b∈fs->b ∉ ex->∃ sl,h'.get? b=some { o with slots:=sl }
 free:∀ b o,h.get? b=some o->H b=none->b ∉ ex->H' b=none
 there:∀ b o,h.get? b=some o->b ∉ ex->∃ o',h'.get? b=some o'
 tups:∀ b xs,H b=some (.tup xs)->H' b=some (.tup xs)
 frzs:∀ b o u,H b=some (.frz o u)->H' b=some (.frz o u)
 tbls:∀ b ps,H b=some (.tbl ps)->∃ more,H' b=some (.tbl (ps++more))
section
variable {fs fs' ex ex':List Addr} {H H1 H2:Hp} {h h1 h2 h':Heap} {a x e:Addr} {o:HO}
theorem Un.any (u:Un fs ex H H1 h h1){b:Addr}{ob:Obj}(q:h.get? b=some ob)(n:H b=none)(hx:b ∉ ex):∃ sl,h1.get? b=some { ob with slots:=sl }:=by
 by_cases hb:b∈fs
 .exact u.slot b ob q n hb hx
 .exact⟨ob.slots,u.keep b ob q n hb hx⟩
theorem Un.kept (k:∀ b u,h.get? b=some u->h'.get? b=some u):Un fs ex H H h h' :=
 ⟨fun b ob q _ _ _=>k b ob q,fun b ob q _ _ _=>⟨ob.slots,k b ob q⟩,fun _ _ _ n _=>n,fun b ob q _=>⟨ob,k b ob q⟩,fun _ _ q=>q,fun _ _ _ q=>q,fun _ ps q=>⟨#[],by rw[q];simp⟩⟩
theorem Un.refl:Un fs ex H H h h:=Un.kept fun _ _ q=>q
theorem Un.laid (k:∀ b u,h.get? b=some u->h'.get? b=some u)(hp:h.objs.size<=a)(hn:H a=none):Un fs ex H (upd H a o) h h' where
 keep:=fun b u q _ _ _=>k b u q
 slot:=fun b u q _ _ _=>⟨u.slots,k b u q⟩
 free:=fun b u q n _=>by rw[zb (aB (aA (aH q) hp))];exact n
 there:=fun b u q _=>⟨u,k b u q⟩
 tups:=fun b y q=>by rw[zb (zo q hn)];exact q
 frzs:=fun b u y q=>by rw[zb (zo q hn)];exact q
 tbls:=fun b ps q=>⟨#[],by rw[zb (zo q hn),q];simp⟩
theorem Un.write (mu:Mut (H x))(he:e=x\/H e=some (.own x))(k:∀ b u,b≠e->h.get? b=some u->h'.get? b=some u)(y:∃ u,h'.get? e=some u):Un fs ex H (upd H x o) h h':=by
 have hx:∀ b,H b=none->b≠x:=fun b n z=>by subst z;rw[n]at mu;exact mu
 have hb:∀ b,H b=none->b≠e:=fun b n z=>by
  subst z
  rcases he with r|r
  .exact hx b n r
  .rw[n]at r;cases r
 have hm:∀ b u,H b=some u->¬ Mut (some u)->b≠x:=fun b u q G z=>by subst z;rw[q]at mu;exact G mu
 refine⟨fun b u q n _ _=>k b u (hb b n) q,fun b u q n _ _=>⟨u.slots,k b u (hb b n) q⟩,fun b u q n _=>by rw[zb (hx b n)];exact n,fun b u q _=>?_,
  fun b B q=>by rw[zb (hm b _ q fun z=>z)];exact q,fun b u B q=>by rw[zb (hm b _ q fun z=>z)];exact q,fun b ps q=>⟨#[],by rw[zb (hm b _ q fun z=>z),q];simp⟩⟩
 by_cases hbe:b=e
 .subst hbe;exact y
 .exact⟨u,k b u hbe q⟩
end
noncomputable def trk (h:Heap)(H:Hp):List Addr:=(bj h.objs.size).filter fun a=>(H a).isSome
noncomputable def aU3 (h:Heap)(H:Hp):Heap:=PySem.W.hideAll h (trk h H)
theorem aL0 (h:Heap)(H:Hp):(aU3 h H).objs.size=h.objs.size:=PySem.W.hideAll_size _ _
theorem af8 {h:Heap}{H:Hp}{b:Addr}{o:Obj}(e:h.get? b=some o)(n:H b=none):(aU3 h H).get? b=some o :=
 PySem.W.hideAll_get _ e fun hm=>by
  have q:(H b).isSome=true:=(dn.mp hm).2
  rw[n]at q;simp at q
theorem br4 {h:Heap}{H:Hp}{b:Addr}{o:Obj}(e:(aU3 h H).get? b=some o):h.get? b=some o/\H b=none:=by
 have e':h.get? b=some o:=PySem.W.of_hideAll (trk h H) e
 refine⟨e',?_⟩
 cases q:H b with
 | none=>rfl
 | some x =>
  have hm:b∈trk h H:=dn.mpr ⟨c8.mpr (aH e'),by simp[q]⟩
  have z:(aU3 h H).get? b=none:=PySem.W.hideAll_none (trk h H) hm
  rw[z]at e;cases e
noncomputable def bv3 (g h:Heap)(L:Addr):List (Addr×Obj):=(bj h.objs.size).filterMap fun a=>if a=L\/(g.get? a).isSome=true then none else(h.get? a).map fun o=>(a,o)
noncomputable def rest (g h:Heap)(L d:Addr):List (Addr×Obj):=(bv3 g h L).filter fun p=>decide (p.1≠d)
structure Mod (K:af)(mg:yC)(base:Heap):Prop where
 kin:K.In base
 glob:base.Ns bG mg
 blt:∃ mb,base.Ns gD mb/\∀ x:Str,x ≠ "__name__"->mb x=bq x
 nolimit:base.NoLimit
structure Cx where
 prog:aD
 w:World
 K:af
 mg:Str->Option Value
 base:Heap
 A:aP
 N:List Str
 s₀:ae
 H₀:Hp
 env:Env
 outer:List Env
 stack:List Env
 ex:List Addr
 fn:Str->Bool
 calm:Bool
 pn:List (Addr×Obj)
 xe:Value->ae->Prop
noncomputable def frs (l:List Env):List Addr:=l.filterMap (·.frame)
noncomputable abbrev Cx.fs (X:Cx):List Addr:=frs X.outer
def Vis (sc:Scope)(x:Str):Prop:=sc.names.lookup x=some .local\/sc.names.lookup x=some .cell\/sc.names.lookup x=some .free
def Loc (sc:Scope)(x:Str):Prop:=sc.names.lookup x=some .local\/sc.names.lookup x=some .cell
def Look (env:Env)(h:Heap)(m:yC)(x:Str)(u:Value):Prop :=
 (env.kindOf x=some .local/\m x=some u)\/((env.kindOf x=some .cell\/env.kindOf x=some .free)/\∃ c,env.cells.lookup x=some c/\h.IsCell c (some u))
structure Cx.Ok (X:Cx):Prop where
 mod:Mod X.K X.mg X.base
 kind:X.env.scope.kind=.function
 glob:X.env.globals=bG
 blt:X.env.builtins=gD
 above:X.s₀.heap.objs.size<=X.env.locals
 inj:∀ x y c,X.env.cells.lookup x=some c->X.env.cells.lookup y=some c->x=y
 has:∀ x,(X.env.kindOf x=some .cell\/X.env.kindOf x=some .free)->∃ c,X.env.cells.lookup x=some c
 cab:∀ x c,X.fn x=true->X.env.cells.lookup x=some c->X.s₀.heap.objs.size<=c
 hd:X.calm=true->X.A.handled=none
 frames:X.A.frames=some X.stack
 stk:X.stack=X.outer\/(X.stack=X.env::X.outer/\X.env.frame=some X.env.locals)
 exf:∀ b∈X.ex,b≠X.env.locals/\∀ x c,X.env.cells.lookup x=some c->c≠b
 bs:∀ b o,X.base.get? b=some o->X.s₀.heap.get? b=some o/\X.H₀ b=none
 bsz:X.base.objs.size<=X.s₀.heap.objs.size
 noex:∀ b o,X.base.get? b=some o->b ∉ X.ex
 exfs:∀ b∈X.ex,b ∉ X.fs
 funs:X.s₀.heap.FunFrames X.base X.outer
 frf:∀ b∈X.fs,X.H₀ b=none
structure Inv (X:Cx)(pins:yA)(W:List (Option V))(H:Hp)(s:ae):Prop where
 ok:X.Ok
 os:s.os=X.s₀.os
 bare:fS s.gens
 base:Un X.fs X.ex X.H₀ H X.s₀.heap s.heap
 loc:∃ m,s.heap.Ns X.env.locals m/\∀(i:Nat) (x:Str) (v:V),X.N[i]?=some x->W[i]?=some (some v)->Vis X.env.scope x->∃ u,RelV v u/\Look X.env s.heap m x u
 cell:∀ x c,X.env.cells.lookup x=some c->∃ v,s.heap.IsCell c v
 free:H X.env.locals=none
 freeC:∀ x c,X.env.cells.lookup x=some c->H c=none
 pin:∀ p∈X.pn++pins,s.heap.get? p.1=some p.2/\H p.1=none/\p.1≠X.env.locals/\p.1 ∉ X.fs/\∀ v,p.2.data≠.cell v
 hok:HOk X.prog X.w H s.heap
 len:W.length=X.N.length
section
variable {X:Cx} {pins:yA} {W:List (Option V)} {H H':Hp} {s:ae} {h':Heap}
theorem Cx.Ok.nofr (ok:X.Ok){b:Addr}{o:Obj}(e:X.base.get? b=some o):b ∉ X.fs:=fun hb=>by
 have:=(ok.funs.mem hb).1
 rw[e]at this;cases this
theorem Inv.bs (I:Inv X pins W H s):∀ b o,X.base.get? b=some o->s.heap.get? b=some o/\H b=none:=fun b o e =>
 ⟨I.base.keep b o (I.ok.bs b o e).1 (I.ok.bs b o e).2 (I.ok.nofr e) (I.ok.noex b o e),I.base.free b o (I.ok.bs b o e).1 (I.ok.bs b o e).2 (I.ok.noex b o e)⟩
theorem Inv.bk (I:Inv X pins W H s):∀ b o,X.base.get? b=some o->s.heap.get? b=some o:=fun b o e=>(I.bs b o e).1
theorem Inv.mod (I:Inv X pins W H s):Mod X.K X.mg X.base:=I.ok.mod
theorem Inv.kIn (I:Inv X pins W H s):X.K.In s.heap:=I.ok.mod.kin.keeps I.bk
theorem Inv.nolimit (I:Inv X pins W H s):s.heap.NoLimit:=I.ok.mod.nolimit.keeps I.bk
theorem Inv.lt (I:Inv X pins W H s):X.env.locals<s.heap.objs.size:=let⟨_,hn,_⟩:=I.loc;hn.lt
theorem Inv.sz (I:Inv X pins W H s):X.s₀.heap.objs.size<=s.heap.objs.size:=aj I.ok.above (gE I.lt)
theorem Inv.nofs (I:Inv X pins W H s){a:Addr}(h:s.heap.objs.size<=a):a ∉ X.fs:=fun hb=>by
 obtain⟨_,o,ho,_⟩:=I.ok.funs.mem hb
 exact absurd (aA (aH ho) (aj I.sz h)) (bZ _)
theorem Inv.cne (I:Inv X pins W H s):∀ x c,X.env.cells.lookup x=some c->c≠X.env.locals:=fun x c e z=>by
 obtain⟨v,o,ho,hd⟩:=I.cell x c e
 obtain⟨m,⟨B,es,ep,y,h,_⟩,_⟩:=I.loc
 rw[z,y]at ho;cases ho;rw[h]at hd;cases hd
theorem Inv.funs (I:Inv X pins W H s):s.heap.FunFrames X.base X.outer:=by
 have all:∀(l:List Env),(∀ b∈frs l,b∈X.fs)->X.s₀.heap.FunFrames X.base l->s.heap.FunFrames X.base l:=by
  intro l
  induction l with
  | nil=>intro _ _;trivial
  | cons env r ih =>
   intro hs B
   obtain⟨hk,⟨L,o,y,hn,ho,hd⟩,hr⟩:=B
   have h:L∈X.fs:=hs L (by unfold frs;rw[cf,y];exact ar)
   obtain⟨sl,e⟩:=I.base.slot L o ho (I.ok.frf L h) h fun z=>I.ok.exfs L z h
   exact⟨hk,⟨L,_,y,hn,e,hd⟩,ih (fun b hb=>hs b (by unfold frs;rw[cf,y];exact ao _ hb)) hr⟩
 exact all X.outer (fun _ hb=>hb) I.ok.funs
theorem Inv.stack (I:Inv X pins W H s):s.heap.FunFrames X.base X.stack:=by
 rcases I.ok.stk with e|⟨e,h⟩
 .rw[e];exact I.funs
 .rw[e]
  obtain⟨m,hn,_⟩:=I.loc
  refine .cons (by rw[I.ok.kind];decide) h hn ?_ I.funs
  exact Heap.get?_none_of_le (aj I.ok.bsz I.ok.above)
theorem Inv.stkSub (I:Inv X pins W H s):∀ b∈frs X.stack,b∈X.env.locals::X.fs:=fun b hb=>by
 rcases I.ok.stk with e|⟨e,h⟩
 .rw[e]at hb;exact ao _ hb
 .rw[e]at hb
  unfold frs at hb
  rw[cf,h]at hb
  exact hb
theorem Inv.stkFree (I:Inv X pins W H s):∀ b∈frs X.stack,H b=none:=fun b hb=>by
 rcases ay.mp (I.stkSub b hb)with e|hb
 .rw[e];exact I.free
 .obtain⟨_,o,ho,_⟩:=I.ok.funs.mem hb
  exact I.base.free b o ho (I.ok.frf b hb) fun z=>I.ok.exfs b z hb
theorem Inv.step {g':Array GenState}{t':Nat}{d':Drawn}{ch:List Addr}(I:Inv X pins W H s)
  (B:∀ b∈ch,(b∈X.ex\/X.s₀.heap.objs.size<=b)/\b≠X.env.locals/\(∀ x c,X.env.cells.lookup x=some c->c≠b)/\∀ p∈X.pn++pins,p.1≠b)
  (keep:∀ b o,b≠X.env.locals->b ∉ X.fs->b ∉ ch->s.heap.get? b=some o->H b=none->h'.get? b=some o)
  (slot:∀ b o,b≠X.env.locals->b∈X.fs->b ∉ ch->s.heap.get? b=some o->H b=none->∃ sl,h'.get? b=some { o with slots:=sl }) (free:∀ b o,b ∉ ch->s.heap.get? b=some o->H b=none->H' b=none)
  (there:∀ b o,b ∉ ch->s.heap.get? b=some o->∃ Z,h'.get? b=some Z)
  (tups:∀ b J,H b=some (.tup J)->H' b=some (.tup J)) (frzs:∀ b o u,H b=some (.frz o u)->H' b=some (.frz o u)) (tbls:∀ b ps,H b=some (.tbl ps)->∃ more,H' b=some (.tbl (ps++more)))
  (ns:∀ m,s.heap.Ns X.env.locals m->h'.Ns X.env.locals m) (hok:HOk X.prog X.w H' h') (hg:fS g') :
  Inv X pins W H' { s with heap:=h',gens:=g',drawn:=d',toks:=t' }:=by
 have a0:∀ b o,X.s₀.heap.get? b=some o->b≠X.env.locals:=fun b o e=>aB (aA (aH e) I.ok.above)
 have G:∀ b o,X.s₀.heap.get? b=some o->b ∉ X.ex->b ∉ ch:=fun b o e hx hb=>by
  rcases(B b hb).1 with z|z
  .exact hx z
  .exact absurd (aA (aH e) z) (bZ _)
 have y:∀ x c,X.env.cells.lookup x=some c->∀ v,s.heap.IsCell c v->h'.IsCell c v:=fun x c e v ⟨o,ho,hd⟩=>by
  have h:c ∉ ch:=fun z=>(B c z).2.2.1 x c e rfl
  by_cases hc:c∈X.fs
  .obtain⟨sl,q⟩:=slot c o (I.cne x c e) hc h ho (I.freeC x c e)
   exact⟨_,q,hd⟩
  .exact⟨o,keep c o (I.cne x c e) hc h ho (I.freeC x c e),hd⟩
 refine⟨I.ok,I.os,hg,⟨fun b o e n hb hx=>?_,fun b o e n hb hx=>?_,fun b o e n hx=>?_,fun b o e hx=>?_,fun b J e=>tups b J (I.base.tups b J e),fun b o J e=>frzs b o J (I.base.frzs b o J e),fun b ps e=>?_⟩,?_,fun x c e=>?_,?_,fun x c e=>?_,fun p hp=>?_,hok,I.len⟩
 .exact keep b o (a0 b o e) hb (G b o e hx) (I.base.keep b o e n hb hx) (I.base.free b o e n hx)
 .obtain⟨sl,e1⟩:=I.base.slot b o e n hb hx
  obtain⟨a1,e2⟩:=slot b _ (a0 b o e) hb (G b o e hx) e1 (I.base.free b o e n hx)
  exact⟨a1,e2⟩
 .obtain⟨Z,e1⟩:=I.base.there b o e hx
  exact free b Z (G b o e hx) e1 (I.base.free b o e n hx)
 .obtain⟨Z,e1⟩:=I.base.there b o e hx
  exact there b Z (G b o e hx) e1
 .obtain⟨m1,e1⟩:=I.base.tbls b ps e
  obtain⟨m2,e2⟩:=tbls b _ e1
  exact⟨m1++m2,by rw[e2,iV]⟩
 .obtain⟨m,hn,hl⟩:=I.loc
  refine⟨m,ns m hn,fun i x v e1 e2 e3=>?_⟩
  obtain⟨u,r,l⟩:=hl i x v e1 e2 e3
  refine⟨u,r,?_⟩
  rcases l with l|⟨k,c,e,z⟩
  .exact .inl l
  .exact .inr ⟨k,c,e,y x c e _ z⟩
 .obtain⟨v,z⟩:=I.cell x c e
  exact⟨v,y x c e v z⟩
 .obtain⟨m,⟨o,_,_,ho,_⟩,_⟩:=I.loc
  exact free _ o (fun z=>(B _ z).2.1 rfl) ho I.free
 .obtain⟨v,o,ho,hd⟩:=I.cell x c e
  exact free c o (fun z=>(B c z).2.2.1 x c e rfl) ho (I.freeC x c e)
 .obtain⟨e,n,ne,nf,d⟩:=I.pin p hp
  have h:p.1 ∉ ch:=fun z=>(B p.1 z).2.2.2 p hp rfl
  exact⟨keep p.1 p.2 ne nf h e n,free p.1 p.2 h e n,ne,nf,d⟩
theorem Inv.un {t':Nat}(I:Inv X pins W H s)(u:Un X.fs [] H H' s.heap h')(hok:HOk X.prog X.w H' h'):Inv X pins W H' { s with heap:=h',toks:=t' }:=by
 obtain⟨m,⟨o,es,ep,ho,r⟩,_⟩:=id I.loc
 obtain⟨sl,G⟩:=u.any ho I.free (by simp)
 exact I.step (g':=s.gens) (d':=s.drawn) (ch:=[]) (fun _ z=>nomatch z) (fun b o _ hb _ e n=>u.keep b o e n hb (by simp)) (fun b o _ hb _ e n=>u.slot b o e n hb (by simp)) (fun b o _ e n=>u.free b o e n (by simp)) (fun b o _ e=>u.there b o e (by simp)) u.tups u.frzs u.tbls (fun m' hm=>by
  obtain⟨Z,y,B,h,J⟩:=hm
  rw[ho]at h;cases h
  exact⟨_,y,B,G,J⟩) hok I.bare
theorem Inv.call {g':Array GenState}{t':Nat}{d':Drawn}{ch:List Addr}(I:Inv X pins W H s)(u:Un (frs X.stack) ch H H' s.heap h')(hok:HOk X.prog X.w H' h')(hg:fS g')
  (y:∀ b∈ch,(b∈X.ex\/X.s₀.heap.objs.size<=b)/\b≠X.env.locals/\(∀ x c,X.env.cells.lookup x=some c->c≠b)/\∀ p∈X.pn++pins,p.1≠b) :
  Inv X pins W H' { s with heap:=h',gens:=g',drawn:=d',toks:=t' }:=by
 obtain⟨m,⟨o,es,ep,ho,r⟩,_⟩:=id I.loc
 obtain⟨sl,G⟩:=u.any ho I.free fun z=>(y _ z).2.1 rfl
 exact I.step (ch:=ch) y (fun b o G hb hc e n=>u.keep b o e n (fun z=>(ay.mp (I.stkSub b z)).elim G hb) hc) (fun b o _ _ hc e n=>u.any e n hc) (fun b o hc e n=>u.free b o e n hc) (fun b o hc e=>u.there b o e hc) u.tups u.frzs u.tbls (fun m' hm=>by
  obtain⟨o',B,J,h,Z⟩:=hm
  rw[ho]at h;cases h
  exact⟨_,B,J,G,Z⟩) hok hg
theorem Inv.turned {t':Nat}{it:Addr}(I:Inv X pins W H s)(k:∀ b o,b≠it->s.heap.get? b=some o->h'.get? b=some o)(hn:H it=none)(y:it≠X.env.locals)
  (J:it∈X.ex\/X.s₀.heap.objs.size<=it) (B:∀ x c,X.env.cells.lookup x=some c->c≠it) (G:∀ p∈X.pn++pins,p.1≠it):Inv X pins W H { s with heap:=h',toks:=t' }:=by
 have h:∀ b u,H b=some u->b≠it:=fun b u e z=>by rw[z,hn]at e;cases e
 refine I.step (g':=s.gens) (d':=s.drawn) (ch:=[it]) (fun b hb=>?_) (fun b o _ _ hc e _=>k b o (fun z=>hc (by simp[z])) e) (fun b o _ _ hc e _=>⟨o.slots,k b o (fun z=>hc (by simp[z])) e⟩) (fun _ _ _ _ n=>n)
  (fun b o hc e=>⟨o,k b o (fun z=>hc (by simp[z])) e⟩) (fun _ _ e=>e) (fun _ _ _ e=>e) (fun b ps e=>⟨#[],by rw[e];simp⟩) (fun m hm=>?_) (fun b u e=>?_) I.bare
 .have e:b=it:=by simpa using hb
  subst e
  exact⟨J,y,B,G⟩
 .obtain⟨o,es,ep,ho,r⟩:=hm
  exact⟨o,es,ep,k _ o (cC y) ho,r⟩
 .refine(I.hok b u e).stay (fun c v hc q=>k c v ?_ q) (fun _ q=>q) fun _ _ q=>q
  rcases hc with z|z
  .rw[z];exact h b u e
  .exact h c _ z
theorem Inv.tok (I:Inv X pins W H s)(t:Nat):Inv X pins W H { s with toks:=t }:=I.un (h':=s.heap) (t':=t) Un.refl I.hok
theorem Inv.kept {t':Nat}(I:Inv X pins W H s)(k:∀ b u,s.heap.get? b=some u->h'.get? b=some u):Inv X pins W H { s with heap:=h',toks:=t' }:=I.un (Un.kept k) (I.hok.kept k)
theorem Inv.laid {a:Addr}{o:HO}{t':Nat}(I:Inv X pins W H s)(k:∀ b u,s.heap.get? b=some u->h'.get? b=some u)(hp:s.heap.objs.size<=a)(new:aa7 X.prog X.w (upd H a o) h' a o) :
  Inv X pins W (upd H a o) { s with heap:=h',toks:=t' }:=I.un (Un.laid k hp (I.hok.fresh hp)) (I.hok.laid k hp new)
theorem Inv.write {x e:Addr}{o:HO}{t':Nat}(I:Inv X pins W H s)(mu:Mut (H x))(he:e=x\/H e=some (.own x))(k:∀ b u,b≠e->s.heap.get? b=some u->h'.get? b=some u)(h:∃ u,h'.get? e=some u)
  (new:aa7 X.prog X.w (upd H x o) h' x o):Inv X pins W (upd H x o) { s with heap:=h',toks:=t' }:=I.un (Un.write mu he k h) (I.hok.write mu he k h new)
theorem Inv.pins_of {y:yA}(I:Inv X pins W H s)(h:∀ p∈y,s.heap.get? p.1=some p.2/\H p.1=none/\p.1≠X.env.locals/\p.1 ∉ X.fs/\∀ v,p.2.data≠.cell v):Inv X y W H s :=
 ⟨I.ok,I.os,I.bare,I.base,I.loc,I.cell,I.free,I.freeC,fun p hp=>(aN.mp hp).elim (fun z=>I.pin p (eU _ z)) (h p),I.hok,I.len⟩
theorem aC5 {N:yH}(hN:N.Nodup){i j:Nat}{x:Str}(a:N[i]?=some x)(b:N[j]?=some x):i=j:=by
 obtain⟨y,e1⟩:=ac.mp a
 obtain⟨h,e2⟩:=ac.mp b
 exact(List.getElem_inj hN).mp (e1.trans e2.symm)
theorem au0 {M:Model}{A:aP}{E:Value->ae->Prop}{i:Nat}{x:Str}{v:V}{u:Value}{Q:Unit->ae->Prop}(I:Inv X pins W H s)(hN:X.N.Nodup)(hi:X.N[i]?=some x)(hx:Loc X.env.scope x)(r:RelV v u)
  (h:∀ s',Inv X pins (W.set i (some v)) H s'->(∃ a,dQ a s.heap s'.heap/\(a=X.env.locals\/X.env.cells.lookup x=some a))->Q () s') (hf:X.fn x=true\/X.env.scope.names.lookup x=some .local:=by first|exact .inl rfl|exact .inr rfl|assumption):wpAny M A (storeName X.env x u) Q E s:=by
 obtain⟨m,hn,hl⟩:=id I.loc
 have Z:(X.env.scope.kind==.class||(X.env.scope.kind==.module&&X.env.locals != X.env.globals))=false:=by rw[I.ok.kind];rfl
 have a2:i < W.length:=by rw[I.len];exact(ac.mp hi).1
 have cne:=I.cne
 have B:∀ {a:Addr} {h':Heap},(∃ o,s.heap.get? a=some o/\H a=none)->dQ a s.heap h'->HOk X.prog X.w H h':=fun {a h'} ha hs b ob e=>by
  obtain⟨_,_,G⟩:=ha
  refine(I.hok b ob e).stay (fun c w' hc q=>(hs.2 c ?_).trans q) (fun _ q=>q) fun _ _ q=>q
  rintro rfl
  rcases hc with rfl|hc
  .rw[G]at e;cases e
  .rw[G]at hc;cases hc
 rcases hx with hk|hk
 .refine wpAny_storeName_local hk hn (fun h' a5 hs=>?_) Z
  obtain⟨oL,_,_,a4,_⟩:=id hn
  refine h _ ⟨I.ok,I.os,I.bare,⟨fun b o e n hb hx=>?_,fun b o e n hb hx=>?_,I.base.free,fun b o e hx=>?_,I.base.tups,I.base.frzs,I.base.tbls⟩,⟨_,a5,fun j y v' e1 e2 e3=>?_⟩,fun y c e=>?_,I.free,I.freeC,fun p hp=>?_,B ⟨oL,a4,I.free⟩ hs,by simpa using I.len⟩ ⟨_,hs,.inl rfl⟩
  .exact(hs.2 b (aB (aA (aH e) I.ok.above))).trans (I.base.keep b o e n hb hx)
  .obtain⟨sl,e1⟩:=I.base.slot b o e n hb hx
   exact⟨sl,(hs.2 b (aB (aA (aH e) I.ok.above))).trans e1⟩
  .obtain⟨o',e1⟩:=I.base.there b o e hx
   exact⟨o',(hs.2 b (aB (aA (aH e) I.ok.above))).trans e1⟩
  .by_cases hj:j=i
   .subst hj
    rw[hi]at e1;cases e1
    rw[aJ a2]at e2
    cases e2
    exact⟨u,r,.inl ⟨hk,by simp⟩⟩
   .rw[aw (cC hj)]at e2
    obtain⟨u',r',q⟩:=hl j y v' e1 e2 e3
    refine⟨u',r',?_⟩
    rcases q with⟨k,e⟩|⟨k,c,e,z⟩
    .refine .inl ⟨k,?_⟩
     have:y≠x:=fun e=>hj (aC5 hN e1 (e▸hi))
     simp[this,e]
    .exact .inr ⟨k,c,e,z.sameBut hs (cne y c e)⟩
  .obtain⟨w',z⟩:=I.cell y c e
   exact⟨w',z.sameBut hs (cne y c e)⟩
  .obtain⟨e,n,ne,nf,d⟩:=I.pin p hp
   exact⟨(hs.2 p.1 ne).trans e,n,ne,nf,d⟩
 .have J:X.fn x=true:=by
   rcases hf with z|z
   .exact z
   .rw[z]at hk;cases hk
  obtain⟨c,hc⟩:=I.ok.has x (.inl hk)
  obtain⟨w',z⟩:=I.cell x c hc
  refine wpAny_storeName_cell I.ok.kind hk hc z (fun h' a0 hs=>?_)
  obtain⟨oc,a3,a1⟩:=id z
  refine h { s with heap:=h' } ⟨I.ok,I.os,I.bare,⟨fun b o e n hb hx=>?_,fun b o e n hb hx=>?_,I.base.free,fun b o e hx=>?_,I.base.tups,I.base.frzs,I.base.tbls⟩,⟨m,hn.sameBut hs (cC (cne x c hc)),fun j y v' e1 e2 e3=>?_⟩,fun y c' e=>?_,I.free,I.freeC,fun p hp=>?_,B ⟨oc,a3,I.freeC x c hc⟩ hs,by simpa using I.len⟩ ⟨c,hs,.inr hc⟩
  .exact(hs.2 b (aB (aA (aH e) (I.ok.cab x c J hc)))).trans (I.base.keep b o e n hb hx)
  .obtain⟨sl,e1⟩:=I.base.slot b o e n hb hx
   exact⟨sl,(hs.2 b (aB (aA (aH e) (I.ok.cab x c J hc)))).trans e1⟩
  .obtain⟨o',e1⟩:=I.base.there b o e hx
   exact⟨o',(hs.2 b (aB (aA (aH e) (I.ok.cab x c J hc)))).trans e1⟩
  .by_cases hj:j=i
   .subst hj
    rw[hi]at e1;cases e1
    rw[aJ a2]at e2
    cases e2
    exact⟨u,r,.inr ⟨.inl hk,c,hc,a0⟩⟩
   .rw[aw (cC hj)]at e2
    obtain⟨u',r',q⟩:=hl j y v' e1 e2 e3
    refine⟨u',r',?_⟩
    rcases q with q|⟨k,c',e,z'⟩
    .exact .inl q
    .refine .inr ⟨k,c',e,z'.sameBut hs ?_⟩
     rintro rfl
     exact hj (aC5 hN e1 (I.ok.inj _ _ _ e hc▸hi))
  .by_cases hcc:c'=c
   .subst hcc;exact⟨_,a0⟩
   .obtain⟨w2,z2⟩:=I.cell y c' e
    exact⟨w2,z2.sameBut hs hcc⟩
  .obtain⟨e,n,ne,nf,d⟩:=I.pin p hp
   refine⟨(hs.2 p.1 ?_).trans e,n,ne,nf,d⟩
   intro q
   rw[q,a3]at e
   have q':oc=p.2:=au e
   exact d w' (by rw[<-q'];exact a1)
theorem aA4 {M:Model}{A:aP}{E:Value->ae->Prop}{i:Nat}{x:Str}{v:V}{u:Value}{Q:Unit->ae->Prop}(I:Inv X pins W H s)(hN:X.N.Nodup)(B:X.N[i]?=some x)(hx:Loc X.env.scope x)(r:RelV v u)
  (h:∀ s',Inv X pins (W.set i (some v)) H s'->Q () s') (z:X.fn x=true\/X.env.scope.names.lookup x=some .local:=by first|exact .inl rfl|exact .inr rfl|assumption):wpAny M A (storeName X.env x u) Q E s :=
 au0 I hN B hx r (fun s' y _=>h s' y) z
theorem Inv.call' {s':ae}{ch:List Addr}(I:Inv X pins W H s)(ho:s'.os=s.os)(u:Un (frs X.stack) ch H H' s.heap s'.heap)(hok:HOk X.prog X.w H' s'.heap)(hg:fS s'.gens)
  (h:∀ b∈ch,(b∈X.ex\/X.s₀.heap.objs.size<=b)/\b≠X.env.locals/\(∀ x c,X.env.cells.lookup x=some c->c≠b)/\∀ p∈X.pn++pins,p.1≠b):Inv X pins W H' s':=by
 obtain⟨h',g',d',t',y⟩:=s'
 have e:y=s.os:=ho
 subst e
 exact I.call (g':=g') (t':=t') (d':=d') u hok hg h
end
abbrev XK:=Value->Option Addr->Hp->Prop
noncomputable abbrev St:=List (Option V)
abbrev VK:=V->Hp->Prop
abbrev TE:=St->Hp->VK->Prop
abbrev TT:=St->Hp->(Bool->Hp->Prop)->Prop
abbrev TA:=St->Hp->(List V->Hp->Prop)->Prop
structure Ends where
 nx:St->Hp->Prop
 rt:VK
 bk:St->Hp->Prop:=fun _ _=>False
 ct:St->Hp->Prop:=fun _ _=>False
abbrev TS:=Ends->St->Hp->Prop
def EP (X:Cx)(pins:yA)(W:St)(Q:VK)(u:Value)(s':ae):Prop:=∃ v H',Inv X pins W H' s'/\RelV v u/\Q v H'
def TP (X:Cx)(pins:yA)(W:St)(Q:Bool->Hp->Prop)(b:Bool)(s':ae):Prop:=∃ H',Inv X pins W H' s'/\Q b H'
def AP (X:Cx)(pins:yA)(W:St)(Q:List V->Hp->Prop)(us:yG)(s':ae):Prop:=∃ vs H',Inv X pins W H' s'/\Vals vs us/\Q vs H'
def SP (X:Cx)(pins:yA)(D:Ends)(f:Flow)(s':ae):Prop :=
 match f with
 | .next=>∃ W' H',Inv X pins W' H' s'/\D.nx W' H'
 | .brk=>∃ W' H',Inv X pins W' H' s'/\D.bk W' H'
 | .cont=>∃ W' H',Inv X pins W' H' s'/\D.ct W' H'
 | .ret u=>∃ v W' H',Inv X pins W' H' s'/\RelV v u/\D.rt v H'
def PE (X:Cx)(e:Expr)(t:TE):Prop :=
 ∀(pins:yA) (s:ae) (W:St) (H:Hp) (Q:VK),Inv X pins W H s->t W H Q->wpAny (model X.prog X.w) X.A (eval e X.env) (EP X pins W Q) X.xe s
def PT (X:Cx)(e:Expr)(t:TT):Prop :=
 ∀(pins:yA) (s:ae) (W:St) (H:Hp) (Q:Bool->Hp->Prop),Inv X pins W H s->t W H Q->wpAny (model X.prog X.w) X.A (dY e X.env (eval e X.env)) (TP X pins W Q) X.xe s
def PW (X:Cx)(e:Expr)(t:TT):Prop :=
 ∀(whole:Sem Value) (pins:yA) (s:ae) (W:St) (H:Hp) (Q:Bool->Hp->Prop),Inv X pins W H s->t W H Q->wpAny (model X.prog X.w) X.A (dY e X.env whole) (TP X pins W Q) X.xe s
theorem PW.pt {X:Cx}{e:Expr}{t:TT}(h:PW X e t):PT X e t:=h _
def PA (X:Cx)(es:yK)(t:TA):Prop :=
 ∀(pos:Pos) (pins:yA) (s:ae) (W:St) (H:Hp) (Q:List V->Hp->Prop),Inv X pins W H s->t W H Q->wpAny (model X.prog X.w) X.A (spliced (cD pos (aV es X.env))) (AP X pins W Q) X.xe s
def PS (X:Cx)(st:Stmt)(t:TS):Prop :=
 ∀(pins:yA) (s:ae) (W:St) (H:Hp) (D:Ends),Inv X pins W H s->t D W H->wpAny (model X.prog X.w) X.A (exec st X.env) (SP X pins D) X.xe s
def PSs (X:Cx)(st:yL)(t:TS):Prop :=
 ∀(pins:yA) (s:ae) (W:St) (H:Hp) (D:Ends),Inv X pins W H s->t D W H->wpAny (model X.prog X.w) X.A (execs st X.env) (SP X pins D) X.xe s
theorem thn {α:Type}{t:Sem α}{Q y:α->ae->Prop}{M:Model}{A:aP}{E:Value->ae->Prop}{s:ae}(h:wpAny M A t Q E s)(z:∀ a s,Q a s->y a s):wpAny M A t y E s:=bS h z fun _ _ x=>x
section
variable {X:Cx}
theorem bin {a b:Expr}{J tb:TE}(ha:PE X a J)(hb:PE X b tb){z:yA}{s:ae}{W:St}{H:Hp}{R:V->V->Hp->Prop}(I:Inv X z W H s)(h:J W H fun x G=>tb W G fun y B=>R x y B)
  {α:Type} {Q:α->ae->Prop} {f:Value->Value->Sem α}
  (hf:∀ v u s2 x y B,Inv X z W B s2->RelV x v->RelV y u->R x y B->wpAny (model X.prog X.w) X.A (f v u) Q X.xe s2) :
  wpAny (model X.prog X.w) X.A (eval a X.env) (fun v s₁=>wpAny (model X.prog X.w) X.A (eval b X.env) (fun u Z=>wpAny (model X.prog X.w) X.A (f v u) Q X.xe Z) X.xe s₁) X.xe s:=by
 refine thn (ha z s W H _ I h) fun v s1 ⟨x,G,I1,r1,q1⟩=>?_
 refine thn (hb z s1 W G _ I1 q1) fun u s2 ⟨y,B,I2,r2,q2⟩=>?_
 exact hf v u s2 x y B I2 r1 r2 q2
def bX2 (i:Nat):TE:=fun W H Q=>∃ v,W[i]?=some (some v)/\Q v H
def tC (v:V):TE:=fun _ H Q=>Q v H
theorem bz7 {i:Nat}{x:Str}{pos:Pos}(hN:X.N[i]?=some x)(hv:Vis X.env.scope x)(hd:(x==("__debug__":Str))=false:=by decide)(z:(x==("__classdict__":Str))=false:=by decide):PE X (.Name x pos) (bX2 i):=by
 intro y s W H Q I h
 obtain⟨v,e,h⟩:=h
 obtain⟨m,hn,B⟩:=I.loc
 obtain⟨u,r,l⟩:=B i x v hN e hv
 have fin:EP X y W Q u s:=⟨v,H,I,r,h⟩
 rcases l with⟨hk,hm⟩|⟨hk,c,hc,hcell⟩
 .exact jT (wpAny_loadName_local I.ok.kind hk hn hm fin) hd
 .rcases hk with hk|hk
  .exact jT (wpAny_loadName_cell I.ok.kind hk hc hcell fin) hd
  .exact jT (wpAny_loadName_free I.ok.kind hk hc hcell fin z) hd
theorem bz5 {i j pos}:PE X (.Constant (.int i) j pos) (tC (.int i)):=fun _ _ _ H _ I h=>wpAny_Constant_int ⟨.int i,H,I.tok _,⟨_,rfl⟩,h⟩
theorem bT4 {b j pos}:PE X (.Constant (.bool b) j pos) (tC (.bl b)):=fun _ _ _ H _ I h=>Constant_bool ⟨.bl b,H,I,rfl,h⟩
theorem bC2 {j pos}:PE X (.Constant .none j pos) (tC .non):=fun _ _ _ H _ I h=>Constant_none ⟨.non,H,I,rfl,h⟩
theorem bH5 {x j pos}:PE X (.Constant (.str x) j pos) (tC (.str x)):=fun _ _ _ H _ I h=>Calls.Constant_str ⟨.str x,H,I.tok _,⟨_,rfl⟩,h⟩
def Gl (X:Cx)(x:Str):Prop:=X.env.kindOf x=some .globalImplicit
theorem ah0 {E:Value->ae->Prop}{y:yA}{s:ae}{W:St}{H:Hp}{x:Str}{u:Value}{pos:Pos}{Q:Value->ae->Prop}(I:Inv X y W H s)(hg:Gl X x)(hm:X.mg x=some u)(h:Q u s)
  (hd:(x==("__debug__":Str))=false:=by decide):wpAny (model X.prog X.w) X.A (eval (.Name x pos) X.env) Q E s :=
 fB I.ok.kind hg (Calls.loadGlobal_global (by rw[I.ok.glob];exact I.mod.glob.keeps I.bk) hm h) hd
theorem aB2 {E:Value->ae->Prop}{y:yA}{s:ae}{W:St}{H:Hp}{x:Str}{u:Value}{pos:Pos}{Q:Value->ae->Prop}(I:Inv X y W H s)(hg:Gl X x)(hm:X.mg x=none)(hv:bq x=some u)(h:Q u s)
  (hn:x ≠ "__name__":=by decide) (hd:(x==("__debug__":Str))=false:=by decide):wpAny (model X.prog X.w) X.A (eval (.Name x pos) X.env) Q E s:=by
 obtain⟨G,B,z⟩:=I.mod.blt
 exact fB I.ok.kind hg (Calls.loadGlobal_builtin (by rw[I.ok.glob];exact I.mod.glob.keeps I.bk) hm (by rw[I.ok.blt];exact B.keeps I.bk) ((z x hn).trans hv) h) hd
theorem bq9 {x:Str}{v:V}{u:Value}{pos:Pos}(hg:Gl X x)(hm:X.mg x=some u)(r:RelV v u)(hd:(x==("__debug__":Str))=false:=by decide):PE X (.Name x pos) (tC v) :=
 fun _ _ _ H _ I h=>ah0 I hg hm ⟨v,H,I,r,h⟩ hd
theorem bp2 {x:Str}{v:V}{u:Value}{pos:Pos}(hg:Gl X x)(hm:X.mg x=none)(hv:bq x=some u)(r:RelV v u)(hn:x ≠ "__name__":=by decide)(hd:(x==("__debug__":Str))=false:=by decide):PE X (.Name x pos) (tC v) :=
 fun _ _ _ H _ I h=>aB2 I hg hm hv ⟨v,H,I,r,h⟩ hn hd
variable {a b:Expr} {ta tb:TE} {pos:Pos}
def tB (t:TE):TT:=fun W H Q=>t W H fun x H1=>∃ c,x=.bl c/\Q c H1
theorem by5 {e:Expr}{t:TE}(h:PE X e t)(he:∀ y,dY e X.env y=(do let v <- y;je e.pos;gF [v] (truthy v)):=by intro _;rfl):PT X e (tB t):=by
 intro z s W H Q I hw
 refine isTrue_plain (thn (h z s W H _ I hw) fun v s1 ⟨x,G,B,r1,q1⟩=>?_) (he _)
 obtain⟨d,rfl,q⟩:=q1
 cases r1
 exact dC ⟨G,B,q⟩
variable {tA tB':TT} {rest:yK}
def bX5 (t u:TT):TT:=fun W H Q=>t W H fun c H1=>if c=true then u W H1 Q else Q false H1
def tOr (t u:TT):TT:=fun W H Q=>t W H fun c H1=>if c=true then Q true H1 else u W H1 Q
def bX7 (t:TT):TT:=fun W H Q=>t W H fun c H1=>Q (!c) H1
theorem bp3 (ha:PT X a tA):PW X (.BoolOp .And [a] pos) tA:=by
 intro z y s W H Q I h
 refine isTrue_and (thn (ha y s W H Q I h) fun c s1 e=>?_)
 cases c with
 | true=>exact isTrue_and_nil e
 | false=>exact e
theorem bC6 (ha:PT X a tA):PW X (.BoolOp .Or [a] pos) tA:=by
 intro z y s W H Q I h
 refine isTrue_or (thn (ha y s W H Q I h) fun c s1 e=>?_)
 cases c with
 | false=>exact isTrue_or_nil e
 | true=>exact e
theorem bg1 (ha:PT X a tA)(hb:PW X (.BoolOp .And (b::rest) pos) tB'):PW X (.BoolOp .And (a::b::rest) pos) (bX5 tA tB'):=by
 intro G y s W H Q I h
 refine isTrue_and (thn (ha y s W H _ I h) fun c s1 ⟨B,z,q1⟩=>?_)
 cases c with
 | true=>exact hb G y s1 W B Q z q1
 | false=>exact⟨B,z,q1⟩
theorem bG8 (ha:PT X a tA)(hb:PW X (.BoolOp .Or (b::rest) pos) tB'):PW X (.BoolOp .Or (a::b::rest) pos) (tOr tA tB'):=by
 intro G y s W H Q I h
 refine isTrue_or (thn (ha y s W H _ I h) fun c s1 ⟨B,z,q1⟩=>?_)
 cases c with
 | true=>exact⟨B,z,q1⟩
 | false=>exact hb G y s1 W B Q z q1
theorem bA9 (ha:PT X a tA):PT X (.UnaryOp .Not a pos) (bX7 tA):=by
 intro y s W H Q I h
 exact isTrue_not (ha y s W H (fun c z=>Q (!c) z) I h)
def bB1 (ta tb:TE):TE:=fun W H Q=>ta W H fun x H1=>∃ c,x=.bl c/\if c=true then tb W H1 Q else Q (.bl false) H1
def bY0 (ta tb:TE):TE:=fun W H Q=>ta W H fun x H1=>∃ c,x=.bl c/\if c=true then Q (.bl true) H1 else tb W H1 Q
def bN3 (ta:TE):TE:=fun W H Q=>ta W H fun x H1=>∃ c,x=.bl c/\Q (.bl (!c)) H1
theorem bg9 {op}{t:TE}(h:PE X a t):PE X (.BoolOp op [a] pos) t:=fun y s W H Q I hw=>BoolOp_one (h y s W H Q I hw)
theorem bg6 (ha:PE X a ta)(hb:PE X (.BoolOp .And (b::rest) pos) tb):PE X (.BoolOp .And (a::b::rest) pos) (bB1 ta tb):=by
 intro y s W H Q I h
 refine BoolOp_and (thn (ha y s W H _ I h) fun v s1 ⟨x,B,z,r1,q1⟩=>?_)
 obtain⟨c,rfl,q1⟩:=q1
 cases r1
 refine dC ?_
 cases c with
 | true=>exact hb y s1 W B Q z q1
 | false=>exact⟨.bl false,B,z,rfl,q1⟩
theorem bA8 (ha:PE X a ta)(hb:PE X (.BoolOp .Or (b::rest) pos) tb):PE X (.BoolOp .Or (a::b::rest) pos) (bY0 ta tb):=by
 intro y s W H Q I h
 refine BoolOp_or (thn (ha y s W H _ I h) fun v s1 ⟨x,B,z,r1,q1⟩=>?_)
 obtain⟨c,rfl,q1⟩:=q1
 cases r1
 refine dC ?_
 cases c with
 | false=>exact hb y s1 W B Q z q1
 | true=>exact⟨.bl true,B,z,rfl,q1⟩
theorem bI3 (ha:PE X a ta):PE X (.UnaryOp .Not a pos) (bN3 ta):=by
 intro y s W H Q I h
 refine UnaryOp_ (thn (ha y s W H _ I h) fun v s1 ⟨x,B,z,r1,q1⟩=>?_)
 obtain⟨c,rfl,q1⟩:=q1
 cases r1
 exact not_of (dC ⟨.bl (!c),B,z,rfl,q1⟩)
def tIf (t:TT)(ta tb:TE):TE:=fun W H Q=>t W H fun c H1=>if c=true then ta W H1 Q else tb W H1 Q
theorem bd9 {c:Expr}(hc:PT X c tA)(ha:PE X a ta)(hb:PE X b tb):PE X (.IfExp c a b pos) (tIf tA ta tb):=by
 intro y s W H Q I h
 refine wpAny_IfExp (thn (hc y s W H _ I h) fun d s1 ⟨B,z,q1⟩=>?_)
 cases d with
 | true=>exact ha y s1 W B Q z q1
 | false=>exact hb y s1 W B Q z q1
end
def SqL (K:af)(H:Hp)(a:Addr)(xs:List V):Prop :=
 Rd H a (.lst xs) \/
  ∃(o:Obj) (its:yJ) (n:Nat),K.lookup a=some o/\o.cls=.type "list"/\o.dict=none/\o.data=.seq its n/\its.size<=aL/\Vals xs its.toList
def SqT (K:af)(H:Hp)(a:Addr)(xs:List V):Prop :=
 Rd H a (.tup xs) \/
  ∃(o:Obj) (its:yJ) (n:Nat),K.lookup a=some o/\o.cls=.type "tuple"/\o.data=.seq its n/\its.size<=aL/\Vals xs its.toList
noncomputable def ca6:Value->Option V
 | .none=>some .non
 | .bool b=>some (.bl b)
 | .int i _=>some (.int i)
 | .str x _=>some (.str x)
 | .bytes b _=>some (.byt b)
 | .float b _=>some (.flt b)
 | .ref a=>some (.ref a)
 | .type n=>some (.ty n)
 | _=>none
theorem RelV.abs {x:V}{u:Value}(r:RelV x u):ca6 u=some x:=by
 cases x with
 | non=>cases r;rfl
 | bl _=>cases r;rfl
 | int _=>obtain⟨t,rfl⟩:=r;rfl
 | str _=>obtain⟨t,rfl⟩:=r;rfl
 | byt _=>obtain⟨t,rfl⟩:=r;rfl
 | flt _=>obtain⟨t,rfl⟩:=r;rfl
 | ref _=>cases r;rfl
 | ty _=>cases r;rfl
theorem RelV.inj {x y:V}{u:Value}(r:RelV x u)(q:RelV y u):x=y:=au (r.abs.symm.trans q.abs)
theorem Vals.inj:∀ {h ys:List V} {us:yG},Vals h us->Vals ys us->h=ys
 | _,_,_,.nil,.nil=>rfl
 | _,_,_,.cons r t,.cons r' t'=>by rw[r.inj r',Vals.inj t t']
section
variable {X:Cx} {pins:yA} {W:St} {H:Hp} {s:ae} {a:Addr} {xs ys:List V}
theorem SqL.of {K:af}(h:H a=some (.lst xs)):SqL K H a xs:=.inl (.inl h)
theorem SqT.of {K:af}(h:H a=some (.tup xs)):SqT K H a xs:=.inl (.inl h)
theorem Inv.list (I:Inv X pins W H s)(h:SqL X.K H a xs):∃ its:List Value,Vals xs its/\PlainL s.heap a its.toArray/\xs.length<=aL:=by
 rcases h with h|⟨o,its,n,hk,hc,hd,hs,hz,r⟩
 .obtain⟨z,its,n,r,e⟩:=h.ok I.hok
  exact⟨its,r,⟨_,n,e,rfl,rfl,rfl⟩,z⟩
 .refine⟨its.toList,r,⟨o,n,I.kIn a o hk,hc,hd,by simpa using hs⟩,?_⟩
  have e:=r.length
  simp only[bc]at e
  lia
theorem Inv.tuple (I:Inv X pins W H s)(h:SqT X.K H a xs):∃ its:List Value,Vals xs its/\IsTup s.heap a its.toArray/\xs.length<=aL:=by
 rcases h with h|⟨o,its,n,hk,hc,hs,hz,r⟩
 .obtain⟨z,its,r,p⟩:=h.ok I.hok
  exact⟨its,r,p,z⟩
 .refine⟨its.toList,r,⟨o,I.kIn a o hk,hc,n,by simpa using hs⟩,?_⟩
  have e:=r.length
  simp only[bc]at e
  omega
theorem Inv.list_inj (I:Inv X pins W H s)(h:SqL X.K H a xs)(h':SqL X.K H a ys):xs=ys:=by
 obtain⟨its,r,⟨o,n,e,_,_,d⟩,_⟩:=I.list h
 obtain⟨its',y,⟨z,B,e',_,_,d'⟩,_⟩:=I.list h'
 rw[e]at e';cases e'
 rw[d]at d'
 injection d' with d1 _
 have:its=its':=by simpa using congrArg jf d1
 subst this
 exact r.inj y
theorem Inv.tuple_inj (I:Inv X pins W H s)(h:SqT X.K H a xs)(h':SqT X.K H a ys):xs=ys:=by
 obtain⟨its,r,⟨o,e,_,n,d⟩,_⟩:=I.tuple h
 obtain⟨its',y,⟨z,e',_,B,d'⟩,_⟩:=I.tuple h'
 rw[e]at e';cases e'
 rw[d]at d'
 injection d' with d1 _
 have:its=its':=by simpa using congrArg jf d1
 subst this
 exact r.inj y
end
noncomputable abbrev Cx.wish (X:Cx)(E:Value->ae->Prop):Cx:={ X with xe:=E }
noncomputable abbrev Cx.nox (X:Cx):Cx:=X.wish fun _ _=>False
theorem Cx.Ok.wish {X:Cx}(ok:X.Ok)(E:Value->ae->Prop):(X.wish E).Ok :=
 ⟨ok.mod,ok.kind,ok.glob,ok.blt,ok.above,ok.inj,ok.has,ok.cab,ok.hd,ok.frames,ok.stk,ok.exf,ok.bs,ok.bsz,ok.noex,ok.exfs,ok.funs,ok.frf⟩
theorem Cx.Ok.unwish {X:Cx}{E:Value->ae->Prop}(ok:(X.wish E).Ok):X.Ok :=
 ⟨ok.mod,ok.kind,ok.glob,ok.blt,ok.above,ok.inj,ok.has,ok.cab,ok.hd,ok.frames,ok.stk,ok.exf,ok.bs,ok.bsz,ok.noex,ok.exfs,ok.funs,ok.frf⟩
section
variable {X:Cx} {pins:yA} {W:St} {H:Hp} {s:ae} {E:Value->ae->Prop}
theorem Inv.wish (I:Inv X pins W H s)(E:Value->ae->Prop):Inv (X.wish E) pins W H s:=⟨I.ok.wish E,I.os,I.bare,I.base,I.loc,I.cell,I.free,I.freeC,I.pin,I.hok,I.len⟩
theorem Inv.unwish (I:Inv (X.wish E) pins W H s):Inv X pins W H s:=⟨I.ok.unwish,I.os,I.bare,I.base,I.loc,I.cell,I.free,I.freeC,I.pin,I.hok,I.len⟩
theorem SP.unwish {D:Ends}{f:Flow}{s':ae}(h:SP (X.wish E) pins D f s'):SP X pins D f s':=by
 cases f with
 | next=>obtain⟨W',H',I,q⟩:=h;exact⟨W',H',I.unwish,q⟩
 | brk=>obtain⟨W',H',I,q⟩:=h;exact⟨W',H',I.unwish,q⟩
 | cont=>obtain⟨W',H',I,q⟩:=h;exact⟨W',H',I.unwish,q⟩
 | ret u=>obtain⟨v,W',H',I,r,q⟩:=h;exact⟨v,W',H',I.unwish,r,q⟩
theorem PSs.nox {st:yL}{t:TS}(h:PSs X.nox st t):PSs X st t:=fun y s W H D I hw =>
 bS (h y s W H D (I.wish _) hw) (fun _ _ q=>q.unwish) fun _ _ z=>cj z
end
section
variable {X:Cx} {st:Stmt} {rest:yL} {t u:TS} {e:Expr} {te:TE} {pos:Pos}
def bA5:TS:=fun D W H=>D.nx W H
noncomputable def bY1 (t u:TS):TS:=fun D W H=>t { D with nx:=u D } W H
theorem bu8:PSs X [] bA5:=fun _ _ W H _ I h=>g6 ⟨W,H,I,h⟩
theorem aZ7 (G:PS X st t)(B:PSs X rest u):PSs X (st::rest) (bY1 t u):=by
 intro y s W H D I h
 refine wpAny_execs_cons (thn (G y s W H { D with nx:=u D } I h) fun f s1 q=>?_)
 cases f with
 | next =>
  obtain⟨W',H',z,q⟩:=q
  exact B y s1 W' H' D z q
 | ret v=>exact q
 | brk=>exact q
 | cont=>exact q
theorem Inv.quiet {h:yA}{W:St}{H:Hp}{s:ae}(I:Inv X h W H s):interactive X.env=false:=by simp[interactive,I.ok.kind]
def bI0 (te:TE):TS:=fun D W H=>te W H fun _ H1=>D.nx W H1
theorem bo3 (he:PE X e te)(hs:eM e none pos.line X.env=pure false:=by rfl):PS X (.Expr e pos) (bI0 te):=by
 intro y s W H D I h
 exact wpAny_Expr_any (thn (he y s W H _ I h) fun v s1 ⟨x,B,z,r1,q1⟩=>⟨W,B,z,q1⟩) I.quiet hs
def bX3 (te:TE):TS:=fun D W H=>te W H D.rt
theorem bI1 (he:PE X e te):PS X (.Return (some e) pos) (bX3 te):=by
 intro y s W H D I h
 exact wpAny_Return_some (thn (he y s W H _ I h) fun v s1 ⟨x,B,z,r1,q1⟩=>⟨x,W,B,z,r1,q1⟩)
def bV9 (c:TT)(t u:TS):TS:=fun D W H=>c W H fun b H1=>if b=true then t D W H1 else u D W H1
theorem bU5 {c:Expr}{a b:yL}{z:TT}(hc:PT X c z)(ha:PSs X a t)(hb:PSs X b u):PS X (.If c a b pos) (bV9 z t u):=by
 intro y s W H D I h
 refine wpAny_If (thn (hc y s W H _ I h) fun d s1 ⟨G,B,q1⟩=>?_)
 cases d with
 | true=>exact ha y s1 W G D B q1
 | false=>exact hb y s1 W G D B q1
end
abbrev TG:=V->St->Hp->(St->Hp->Prop)->Prop
abbrev TGs:=List V->St->Hp->(St->Hp->Prop)->Prop
def PG (X:Cx)(target:Expr)(t:TG):Prop :=
 ∀(pins:yA) (s:ae) (W:St) (H:Hp) (v:V) (u:Value) (Q:St->Hp->Prop),Inv X pins W H s->RelV v u->t v W H Q ->
  wpAny (model X.prog X.w) X.A (gG target X.env u) (fun _ s'=>∃ W' H',Inv X pins W' H' s'/\Q W' H') X.xe s
def PGs (X:Cx)(ts:yK)(t:TGs):Prop :=
 ∀(pins:yA) (s:ae) (W:St) (H:Hp) (vs:List V) (us:yG) (Q:St->Hp->Prop),Inv X pins W H s->Vals vs us->t vs W H Q ->
  wpAny (model X.prog X.w) X.A (assignInOrder ((cH ts X.env).map (·.2)) us) (fun _ s'=>∃ W' H',Inv X pins W' H' s'/\Q W' H') X.xe s
abbrev bN7:=V->V->V->Hp->(Hp->Prop)->Prop
def bR4 (X:Cx)(t:bN7):Prop :=
 ∀(pins:yA) (s:ae) (W:St) (H:Hp) (o i v:V) (ov iv u:Value) (Q:Hp->Prop),Inv X pins W H s->RelV o ov->RelV i iv->RelV v u->t o i v H Q ->
  wpAny (model X.prog X.w) X.A (setItem ov iv u) (fun _ s'=>∃ H',Inv X pins W H' s'/\Q H') X.xe s
section
variable {X:Cx} {pos:Pos}
def at3 (i:Nat):TG:=fun v W H Q=>Q (W.set i (some v)) H
theorem aP6 {i:Nat}{x:Str}(hN:X.N.Nodup)(G:X.N[i]?=some x)(hx:Loc X.env.scope x)(B:X.fn x=true\/X.env.scope.names.lookup x=some .local:=by first|exact .inl rfl|exact .inr rfl|assumption):PG X (.Name x pos) (at3 i):=by
 intro y s W H v u Q I r h
 exact jg (aA4 I hN G hx r (fun s' z=>⟨_,H,z,h⟩) B)
def bW3:TGs:=fun vs W H Q=>vs=[]/\Q W H
def bz0 (t:TG)(u:TGs):TGs:=fun vs W H Q=>∃ v r,vs=v::r/\t v W H fun W' H'=>u r W' H' Q
theorem bv2:PGs X [] bW3:=by
 intro y s W H vs us Q I r h
 obtain⟨e,h⟩:=h
 subst e
 cases r
 exact assignInOrder_nil ⟨W,H,I,h⟩
theorem aZ0 {e:Expr}{es:yK}{t:TG}{u:TGs}(J:PG X e t)(B:PGs X es u)
  (hs:(cH (e::es) X.env).map (·.2)=gG e X.env::(cH es X.env).map (·.2):=by rfl):PGs X (e::es) (bz0 t u):=by
 intro y s W H vs us Q I r h
 obtain⟨v,Z,e1,h⟩:=h
 subst e1
 cases r with
 | cons r rr =>
  rw[hs]
  refine assignInOrder_cons (thn (J y s W H _ _ _ I r h) fun _ s1 ⟨W1,G,z,q1⟩=>?_)
  exact B y s1 W1 G _ _ Q z rr q1
def bS7 (K:af)(n:Nat)(t:TGs):TG:=fun v W H Q=>∃ a xs,v=.ref a/\SqT K H a xs/\xs.length=n/\t xs W H Q
theorem bL9 {es:yK}{k:Nat}{t:TGs}{n:Nat}(hc:X.calm=true)(h:PGs X es t)
  (hn:(cH es X.env).length=n:=by rfl) (z:(cH es X.env).findIdx? (·.1)=none:=by rfl):PG X (.Tuple es k pos) (bS7 X.K n t):=by
 intro y s W H v u Q I r hw
 obtain⟨a,J,e1,hq,G,hw⟩:=hw
 subst e1
 cases r
 obtain⟨its,rv,Z,hz⟩:=I.tuple hq
 refine assign_Tuple_tuple (I.ok.hd hc) Z (by simp[hn,<-G,rv.length]) z fun h' hx=>?_
 have B:Inv X y W H { s with heap:=h' }:=I.kept (t':=s.toks) fun b o e=>hx b o (aB (aH e)) e
 exact h y _ W H J _ Q B (by simpa using rv) hw
def bX6 (to ti:TE)(t:bN7):TG:=fun v W H Q=>to W H fun o H1=>ti W H1 fun i H2=>t o i v H2 fun H3=>Q W H3
theorem bK5 {o i:Expr}{G B:TE}{t:bN7}(ho:PE X o G)(hi:PE X i B)(hs:bR4 X t)
  (ha:∀ v,gG (.Subscript o i pos) X.env v=(do
   let ov <- gF [v] (eval o X.env)
   let iv <- gF [v,ov] (eval i X.env)
   je pos
   gF [v,ov,iv] (setItem ov iv v)
   release [v,ov,iv] []):=by intro _;rfl):PG X (.Subscript o i pos) (bX6 G B t):=by
 intro z s W H v u Q I r h
 rw[ha]
 refine aq (eS (thn (ho z s W H _ I h) fun ov s1 ⟨x,H1,J,r1,q1⟩=>?_))
 refine aq (eS (thn (hi z s1 W H1 _ J q1) fun iv s2 ⟨y,H2,Z,r2,q2⟩=>?_))
 refine aq (iM (aq (eS (thn (hs z s2 W H2 x y v ov iv u _ Z r1 r2 r q2) fun _ s3 ⟨H3,I3,q3⟩=>?_))))
 exact wpAny_release ⟨W,H3,I3,q3⟩
def bc1 (te:TE)(g:TG):TS:=fun D W H=>te W H fun x H1=>g x W H1 D.nx
theorem bi5 {tg e:Expr}{z:TE}{g:TG}(he:PE X e z)(hg:PG X tg g)(hs:swapsWithSole [tg] e pos.line X.env=pure false:=by rfl)(hw:iO [tg] e X.env=pure none:=by rfl)
  (J:(cH [tg] X.env).map (·.2)=[gG tg X.env]:=by rfl):PS X (.Assign [tg] e pos) (bc1 z g):=by
 intro y s W H D I h
 refine wpAny_Assign_stores (thn (he y s W H _ I h) fun v s1 ⟨x,G,B,r1,q1⟩=>?_) hs hw
 rw[J]
 exact thn (hg y s1 W G x v _ B r1 q1) fun _ s2 q=>q
theorem bh6 {i:Nat}{x:Str}{e:Expr}{G:TE}{z:Pos}(hN:X.N.Nodup)(hi:X.N[i]?=some x)(hx:Loc X.env.scope x)(he:PE X e G)(hs:eM e (some (.Name x z)) pos.line X.env=pure false:=by rfl)(hf:X.fn x=true\/X.env.scope.names.lookup x=some .local:=by first|exact .inl rfl|exact .inr rfl|assumption) :
  PS X (.Assign [.Name x z] e pos) (bc1 G (at3 i)):=by
 intro B s W H D I h
 refine wpAny_Assign_Name (thn (he B s W H _ I h) fun v s1 ⟨y,J,Z,r1,q1⟩=>?_) hs
 exact aA4 Z hN hi hx r1 (fun s2 I2=>⟨_,J,I2,q1⟩) hf
end
section
variable {X:Cx} {pos:Pos}
def bg4 (c:TT)(tb:TS):TS:=fun D W H=>∃ Ww:Nat->St->Hp->Prop,(∃ m,Ww m W H)/\∀ m W H,Ww m W H ->
 c W H fun b H1=>if b=true then ∃ N:St->Hp->Prop,(∀ W' H',N W' H'->∃ m',m'<m/\Ww m' W' H')/\tb { D with nx:=N,ct:=N,bk:=D.nx } W H1 else D.nx W H1
theorem aW7 {c:Expr}{body:yL}{tc:TT}{tb:TS}(hp:PassesOwn (model X.prog X.w) X.A X.env X.xe)(hc:PT X c tc)(hb:PSs X body tb):PS X (.While c body [] pos) (bg4 tc tb):=by
 intro y s W H D I h
 obtain⟨Ww,⟨m0,w0⟩,turn⟩:=h
 refine wpAny_While (codeAny_whileLoop (fun n s'=>∃ W' H',Inv X y W' H' s'/\Ww n W' H') ?_ m0 ⟨W,H,I,w0⟩)
 rintro n s1 ⟨W1,H1,I1,w1⟩
 refine cR hp (thn (hc y s1 W1 H1 _ I1 (turn n W1 H1 w1)) fun b s2 ⟨H2,Z,q2⟩=>?_)
 cases b with
 | true =>
  obtain⟨N,hN,q2⟩:=q2
  rw[if_pos rfl]
  refine cR hp (thn (hb y s2 W1 H2 _ Z q2) fun f s3 q3=>?_)
  cases f with
  | next =>
   obtain⟨W3,z,G,J⟩:=q3
   obtain⟨m',hm,B⟩:=hN W3 z J
   exact⟨m',hm,W3,z,G,B⟩
  | cont =>
   obtain⟨W3,z,G,J⟩:=q3
   obtain⟨m',hm,B⟩:=hN W3 z J
   exact⟨m',hm,W3,z,G,B⟩
  | brk=>exact q3
  | ret v=>exact q3
 | false =>
  rw[if_neg aQ]
  exact g6 ⟨W1,H2,Z,q2⟩
end
structure It where
 go:Nat->Hp->Prop
 yld:Nat->Hp->V->Hp->Prop
 stop:Nat->Hp->Prop
def FpOk (X:Cx)(pins:yA)(H:Hp)(b:Addr):Prop :=
 H b=none/\b≠X.env.locals/\b ∉ X.fs/\(b∈X.ex\/X.s₀.heap.objs.size<=b)/\(∀ x c,X.env.cells.lookup x=some c->c≠b)/\∀ p∈X.pn++pins,p.1≠b
theorem Inv.fpOk {X:Cx}{h:yA}{W:St}{H H':Hp}{s:ae}{b:Addr}(I:Inv X h W H s)(hb:s.heap.objs.size<=b)(hn:H' b=none):FpOk X h H' b:=by
 refine⟨hn,gH (aA I.lt hb),I.nofs hb,.inr (aj I.sz hb),fun x c e z=>?_,fun p hp z=>?_⟩
 .obtain⟨v,q⟩:=I.cell x c e
  exact absurd (aA q.lt (by rw[z];exact hb)) (bZ _)
 .exact absurd (aA (aH (I.pin p hp).1) (by rw[z];exact hb)) (bZ _)
structure Turn (P:aD)(w:World)(K:af)(tg:Expr)(J:It)(fp:List Addr)(it:Addr)(tn:Nat->Heap->Prop):Prop where
 mem:it∈fp
 obj:∀ i h,tn i h->∀ b∈fp,∃ o,h.get? b=some o/\∀ v,o.data≠.cell v
 keep:∀ i h h',tn i h->(∀ b∈fp,∀ o,h.get? b=some o->h'.get? b=some o)->tn i h'
 item:∀(X:Cx),X.prog=P->X.w=w->X.K=K->X.calm=true->∀(i:Nat) (pins:yA) (s:ae) (W:St) (H:Hp) (E:Value->ae->Prop),Inv X pins W H s->(∀ b∈fp,FpOk X pins H b)->tn i s.heap->J.go i H ->
  wpAny (model P w) X.A (pyNext (.ref it)) (fun r s1=>∃ u,r=some u /\
   wpAny (model P w) X.A (fc tg (.ref it) u) (fun _ s2=>∃ x H',Inv X pins W H' s2/\RelV x u/\J.yld i H x H'/\tn (i+1) s2.heap/\∀ b∈fp,H' b=none) E s1) E s
 done:∀(X:Cx),X.prog=P->X.w=w->X.K=K->X.calm=true->∀(i:Nat) (pins:yA) (s:ae) (W:St) (H:Hp) (E:Value->ae->Prop),Inv X pins W H s->(∀ b∈fp,FpOk X pins H b)->tn i s.heap->J.stop i H ->
  wpAny (model P w) X.A (pyNext (.ref it)) (fun r s1=>r=none/\Inv X pins W H s1) E s
 self:∀(A:aP) (i:Nat) (s:ae) (Q:Value->ae->Prop) (E:Value->ae->Prop),tn i s.heap->Q (.ref it) s->wpAny (model P w) A (kA (.ref it)) Q E s
abbrev TI:=St->Hp->(It->Hp->Prop)->Prop
def PIE (X:Cx)(pins:yA)(W:St)(tg:Expr)(R:It->Hp->Prop)(itv:Value)(s2:ae):Prop :=
 ∃(it:Addr) (fp:List Addr) (tn:Nat->Heap->Prop) (J:It) (H':Hp),itv=.ref it/\Inv X pins W H' s2/\Turn X.prog X.w X.K tg J fp it tn/\tn 0 s2.heap/\(∀ b∈fp,FpOk X pins H' b)/\R J H'
def PI (X:Cx)(tg iter:Expr)(wi:TI):Prop :=
 ∀(pins:yA) (s:ae) (W:St) (H:Hp) (R:It->Hp->Prop),Inv X pins W H s->wi W H R ->
  wpAny (model X.prog X.w) X.A (eval iter X.env) (fun v s1=>wpAny (model X.prog X.w) X.A (kA v) (PIE X pins W tg R) X.xe s1) X.xe s
theorem aP9 {M : Model} {A : Around} {E : Value -> Shared -> Prop} {s : Shared} {tg : Expr} {it : Addr} {u : Value} {o : Obj} {n : String} {vs : Array Value} {Q : Unit -> Shared -> Prop} (ho : s.heap.get? it = some o) (hc : o.cls = .type n) (hd : o.data = .fields vs)
    (hn : ["enumerate", "zip", "dict_itemiterator", "dict_reverseitemiterator", "odict_iterator", "itertools.zip_longest", "itertools.pairwise"].contains n = false) (hQ : Q () s) : wpAny M A (fc tg (.ref it) u) Q E s := by
  unfold fc
  cases tg <;> first
    | exact aW hQ
    | (cases u <;> first
        | exact aW hQ
        | (refine aq (jU ho ?_)
           rw[hc, hd]
           show wpAny M A (if(["enumerate", "zip", "dict_itemiterator", "dict_reverseitemiterator", "odict_iterator", "itertools.zip_longest", "itertools.pairwise"].contains n && vs[0]? == some (rawInt _)) = true then _ else _) Q E s
           rw[if_neg (by intro h; rw[hn, Bool.false_and]at h; cases h)]
           exact aW hQ))
noncomputable def Itl (K:af)(a:Addr):It :=
 ⟨fun i H=>∃ xs x,SqL K H a xs/\xs[i]?=some x,fun i H x H'=>H'=H/\∀ xs,SqL K H a xs->xs[i]?=some x,fun i H=>∃ xs,SqL K H a xs/\xs.length<=i⟩
noncomputable def Itt (K:af)(a:Addr):It :=
 ⟨fun i H=>∃ xs x,SqT K H a xs/\xs[i]?=some x,fun i H x H'=>H'=H/\∀ xs,SqT K H a xs->xs[i]?=some x,fun i H=>∃ xs,SqT K H a xs/\xs.length<=i⟩
noncomputable def Itr (lo:Int)(n:Nat):It:=⟨fun i _=>i<n,fun i H x H'=>H'=H/\x=.int (lo+i),fun i _=>n<=i⟩
theorem aR9 {P:aD}{w:World}{K:af}{tg:Expr}(a it:Addr):Turn P w K tg (Itl K a) [it] it (fun i h=>h.IsListIter it a i) where
 mem:=by simp
 obj:=fun i h st b hb=>by
  have e:b=it:=by simpa using hb
  subst e
  obtain⟨o,e,c,d⟩:=st
  exact⟨o,e,fun v z=>by rw[d]at z;cases z⟩
 keep:=fun i h h' st k=>st.at fun o e=>k it (by simp) o e
 item:=by
  intro X hP hw J hc i y s W H E I G st hg
  subst hP hw J
  obtain⟨xs,x,hq,hx⟩:=hg
  obtain⟨its,rv,p,hz⟩:=I.list hq
  obtain⟨u,hu,ru⟩:=rv.get hx
  obtain⟨f0,f1,f2,f3,f4,Z⟩:=G it (by simp)
  refine wpAny_pyNext_list_item st p.isList (x:=u) (by simpa using hu) fun h' B sb=>?_
  have I1:Inv X y W H { s with heap:=h' }:=I.turned (t':=s.toks) (fun b o hb e=>(sb.2 b hb).trans e) f0 f1 f3 f4 Z
  obtain⟨o,e,c,d⟩:=id B
  exact⟨u,rfl,aP9 (s:={ s with heap:=h' }) e c d (by decide) ⟨x,H,I1,ru,⟨rfl,fun ys hy=>by rw[I.list_inj hy hq];exact hx⟩,B,fun b hb=>(G b hb).1⟩⟩
 done:=by
  intro X hP hw J hc i y s W H E I G st hg
  subst hP hw J
  obtain⟨xs,hq,hx⟩:=hg
  obtain⟨its,rv,p,hz⟩:=I.list hq
  obtain⟨f0,f1,f2,f3,f4,Z⟩:=G it (by simp)
  have hl:=rv.length
  exact wpAny_pyNext_list_end (I.ok.hd hc) st p.isList (by simp;lia) fun h' eb=>⟨rfl,I.turned (t':=s.toks) (fun b o hb e=>eb b o hb e) f0 f1 f3 f4 Z⟩
 self:=fun _ _ _ _ _ st h=>wpAny_pyIter_listiter st h
theorem aE4 {P:aD}{w:World}{K:af}{tg:Expr}(a it:Addr):Turn P w K tg (Itt K a) [it] it (fun i h=>h.IsTupleIter it a i) where
 mem:=by simp
 obj:=fun i h st b hb=>by
  have e:b=it:=by simpa using hb
  subst e
  obtain⟨o,e,c,d⟩:=st
  exact⟨o,e,fun v z=>by rw[d]at z;cases z⟩
 keep:=fun i h h' st k=>st.at fun o e=>k it (by simp) o e
 item:=by
  intro X hP hw J hc i y s W H E I G st hg
  subst hP hw J
  obtain⟨xs,x,hq,hx⟩:=hg
  obtain⟨its,rv,p,hz⟩:=I.tuple hq
  obtain⟨u,hu,ru⟩:=rv.get hx
  obtain⟨f0,f1,f2,f3,f4,Z⟩:=G it (by simp)
  refine wpAny_pyNext_tuple_item st (show s.heap.IsTuple a its.toArray from p) (x:=u) (by simpa using hu) fun h' B sb=>?_
  have I1:Inv X y W H { s with heap:=h' }:=I.turned (t':=s.toks) (fun b o hb e=>(sb.2 b hb).trans e) f0 f1 f3 f4 Z
  obtain⟨o,e,c,d⟩:=id B
  exact⟨u,rfl,aP9 (s:={ s with heap:=h' }) e c d (by decide) ⟨x,H,I1,ru,⟨rfl,fun ys hy=>by rw[I.tuple_inj hy hq];exact hx⟩,B,fun b hb=>(G b hb).1⟩⟩
 done:=by
  intro X hP hw J hc i y s W H E I G st hg
  subst hP hw J
  obtain⟨xs,hq,hx⟩:=hg
  obtain⟨its,rv,p,hz⟩:=I.tuple hq
  obtain⟨f0,f1,f2,f3,f4,Z⟩:=G it (by simp)
  have hl:=rv.length
  exact wpAny_pyNext_tuple_end (I.ok.hd hc) st (show s.heap.IsTuple a its.toArray from p) (by simp;omega) fun h' eb=>⟨rfl,I.turned (t':=s.toks) (fun b o hb e=>eb b o hb e) f0 f1 f3 f4 Z⟩
 self:=fun _ _ _ _ _ st h=>wpAny_pyIter_tupleiter st h
theorem aG7 {P:aD}{w:World}{K:af}{tg:Expr}(it:Addr)(J:Int)(n:Nat):Turn P w K tg (Itr J n) [it] it (fun i h=>IsRangeIter h it (J+(i:Nat)*1) ((n:Int) - (i:Nat)) 1) where
 mem:=by simp
 obj:=fun i h st b hb=>by
  have e:b=it:=by simpa using hb
  subst e
  exact⟨_,st,fun v z=>by
   have z':Data.fields _=Data.cell v:=z
   cases z'⟩
 keep:=fun i h h' st k=>k it (by simp) _ st
 item:=by
  intro X hP hw Z hc i y s W H E I G st hg
  subst hP hw Z
  obtain⟨f0,f1,f2,f3,f4,f5⟩:=G it (by simp)
  have Ww:=Walks.range (prog:=X.prog) (w:=X.w) (I.ok.hd hc) it J 1 n
  refine Ww.item i s _ _ hg st fun v h' tk hv B kk=>?_
  obtain⟨t,rfl⟩:=hv
  have I1:Inv X y W H { s with heap:=h',toks:=tk }:=I.turned (fun b o hb e=>kk b o (by simpa using hb) e) f0 f1 f3 f4 f5
  refine⟨_,rfl,aP9 (s:={ s with heap:=h',toks:=tk }) (n := "range_iterator") B rfl rfl (by decide) ⟨.int (J+i),H,I1,⟨t,?_⟩,⟨rfl,rfl⟩,B,fun b hb=>(G b hb).1⟩⟩
  rw[Int.mul_one]
 done:=by
  intro X hP hw Z hc i y s W H E I G st hg
  subst hP hw Z
  obtain⟨f0,f1,f2,f3,f4,f5⟩:=G it (by simp)
  exact wpAny_pyNext_range_end (I.ok.hd hc) st (by have:n<=i:=hg;lia) fun h' eb=>⟨rfl,I.turned (t':=s.toks) (fun b o hb e=>eb b o hb e) f0 f1 f3 f4 f5⟩
 self:=fun _ _ _ _ _ st h=>wpAny_pyIter_rangeiter st h
section
variable {X:Cx} {tg:Expr}
def bq1 (K:af)(tl:TE):TI:=fun W H R=>tl W H fun x H1=>∃ a,x=.ref a/\(∃ xs,SqL K H1 a xs)/\R (Itl K a) H1
def bQ3 (K:af)(tl:TE):TI:=fun W H R=>tl W H fun x H1=>∃ a,x=.ref a/\(∃ xs,SqT K H1 a xs)/\R (Itt K a) H1
theorem bp1 {l:Expr}{tl:TE}(B:PE X l tl):PI X tg l (bq1 X.K tl):=by
 intro y s W H R I h
 refine thn (B y s W H _ I h) fun v s1 ⟨x,G,z,r1,q1⟩=>?_
 obtain⟨a,e,⟨J,hq⟩,q⟩:=q1
 subst e
 cases r1
 obtain⟨its,rv,p,hz⟩:=z.list hq
 refine fT p.isList ?_
 refine⟨s1.heap.objs.size,[s1.heap.objs.size],_,_,G,rfl,z.kept (t':=s1.toks) fun b o e=>ak _ e,aR9 a _,⟨_,aX _ rfl,rfl,rfl⟩,fun b hb=>?_,q⟩
 have e:b=s1.heap.objs.size:=by simpa using hb
 subst e
 exact z.fpOk (ah _) (z.hok.fresh (ah _))
theorem bI5 {l:Expr}{tl:TE}(B:PE X l tl):PI X tg l (bQ3 X.K tl):=by
 intro y s W H R I h
 refine thn (B y s W H _ I h) fun v s1 ⟨x,G,z,r1,q1⟩=>?_
 obtain⟨a,e,⟨J,hq⟩,q⟩:=q1
 subst e
 cases r1
 obtain⟨its,rv,p,hz⟩:=z.tuple hq
 refine iW (show s1.heap.IsTuple a its.toArray from p) ?_
 refine⟨s1.heap.objs.size,[s1.heap.objs.size],_,_,G,rfl,z.kept (t':=s1.toks) fun b o e=>ak _ e,aE4 a _,⟨_,aX _ rfl,rfl,rfl⟩,fun b hb=>?_,q⟩
 have e:b=s1.heap.objs.size:=by simpa using hb
 subst e
 exact z.fpOk (ah _) (z.hok.fresh (ah _))
theorem aV8 {z:yA}{W:St}{H:Hp}{s:ae}{R:It->Hp->Prop}{E:Value->ae->Prop}{h y:Int}{t u v:Tok}{tk:Nat}(I:Inv X z W H s)(h1:-(2^62)<=h)(G:h<2^62)(Z:-(2^62)<=y)(J:y<2^62)
  (q:R (Itr h (y - h).toNat) H):wpAny (model X.prog X.w) X.A (kA (.ref s.heap.objs.size)) (PIE X z W tg R) E { s with heap:=s.heap.push { cls:=.type "range",data:=.fields #[.int h t,.int y u,.int 1 v] },toks:=tk }:=by
 refine wpAny_pyIter_range (IsRange.new ..) (small_one h1 G Z J) ?_
 have B:Inv X z W H { s with heap:=s.heap.push { cls:=.type "range",data:=.fields #[.int h t,.int y u,.int 1 v] },toks:=tk }:=I.kept fun b o e=>ak _ e
 refine⟨(s.heap.push { cls:=.type "range",data:=.fields #[.int h t,.int y u,.int 1 v] }).objs.size,[(s.heap.push { cls:=.type "range",data:=.fields #[.int h t,.int y u,.int 1 v] }).objs.size],_,_,H,rfl,
  B.kept (t':=tk) fun b o e=>ak _ e,aG7 _ h (y - h).toNat,?_,fun b hb=>?_,q⟩
 .have e1:h+((0:Nat):Int)*1=h:=by simp
  have e2:(((y - h).toNat:Nat):Int) - ((0:Nat):Int)=kq h y 1:=by rw[rangeSize_one];split<;>lia
  show IsRangeIter _ _ (h+((0:Nat):Int)*1) ((((y - h).toNat:Nat):Int) - ((0:Nat):Int)) 1
  rw[e1,e2]
  exact aX _ rfl
 .have e:b=(s.heap.push { cls:=.type "range",data:=.fields #[.int h t,.int y u,.int 1 v] }).objs.size:=by simpa using hb
  subst e
  exact B.fpOk (ah _) (B.hok.fresh (ah _))
def bL7 (ta:TA):TI:=fun W H R=>ta W H fun vs H1=>∃ j:Int,vs=[.int j]/\-(2^62)<=j/\j<2^62/\R (Itr 0 j.toNat) H1
theorem aP1 {a:Expr}{z:TA}{p pos:Pos}(hg:Gl X "range")(hm:X.mg "range"=none)(ha:PA X [a] z)(hs:aV [a] X.env=[(false,eval a X.env)]:=by rfl):PI X tg (.Call (.Name "range" p) [a] [] pos) (bL7 z):=by
 intro y s W H R I h
 refine Call_ (aB2 I hg hm boot_range (ft (thn (ha pos y s W H _ I h) fun us s1 ⟨vs,G,B,r1,q1⟩=>?_) hs rfl))
 obtain⟨j,e,q1,q2,q⟩:=q1
 subst e
 cases r1 with
 | cons r rr =>
  cases rr
  obtain⟨t,rfl⟩:=r
  exact call_range_1 (aV8 B (by lia) (by lia) q1 q2 (by simpa using q))
def bU2 (wi:TI)(g:TG)(tb:TS):TS:=fun D W H=>wi W H fun J H1=>∃ Ww:Nat->Nat->St->Hp->Prop,(∃ m,Ww 0 m W H1)/\∀ i m W H,Ww i m W H ->
 (J.stop i H/\D.nx W H)\/(J.go i H/\∃ N:St->Hp->Prop,(∀ W' H',N W' H'->∃ m',m'<m/\Ww (i+1) m' W' H')/\∀ x H',J.yld i H x H'->g x W H' fun W2 H2=>tb { D with nx:=N,ct:=N,bk:=D.nx } W2 H2)
noncomputable def as5 (fp:List Addr)(h:Heap):List (Addr×Obj):=fp.filterMap fun b=>(h.get? b).map fun o=>(b,o)
theorem qt {y:List Addr}{h:Heap}{b:Addr}{o:Obj}(hb:b∈y)(e:h.get? b=some o):(b,o)∈as5 y h:=dZ.mpr ⟨b,hb,by rw[e];rfl⟩
theorem aT2 {y:List Addr}{h:Heap}{p:Addr×Obj}(hp:p∈as5 y h):p.1∈y/\h.get? p.1=some p.2:=by
 obtain⟨b,hb,e⟩:=dZ.mp hp
 cases q:h.get? b with
 | none=>rw[q]at e;cases e
 | some o =>
  rw[q]at e
  have e':(b,o)=p:=au e
  subst e'
  exact⟨hb,q⟩
theorem Inv.pinned {h:yA}{W:St}{H:Hp}{s:ae}{y:List Addr}(I:Inv X h W H s)(Z:∀ b∈y,FpOk X h H b)(ho:∀ b∈y,∃ o,s.heap.get? b=some o/\∀ v,o.data≠.cell v):Inv X (h++as5 y s.heap) W H s :=
 I.pins_of fun p hp=>(aN.mp hp).elim (fun z=>I.pin p (a7 _ z)) fun z=>by
  obtain⟨hb,e⟩:=aT2 z
  obtain⟨B,G,J,_⟩:=Z p.1 hb
  obtain⟨o,e',d⟩:=ho p.1 hb
  rw[e]at e';cases e'
  exact⟨e,B,G,J,d⟩
theorem Inv.unpinned {h pl:yA}{W:St}{H:Hp}{s:ae}(I:Inv X (h++pl) W H s):Inv X h W H s:=I.pins_of fun p hp=>I.pin p (a7 _ (eU _ hp))
theorem bg7 {iter:Expr}{body:yL}{wi:TI}{g:TG}{tb:TS}{pos:Pos}(hp:PassesOwn (model X.prog X.w) X.A X.env X.xe)(hc:X.calm=true)(hi:PI X tg iter wi)(hg:PG X tg g)(hb:PSs X body tb)
  (hs:∀ x,dD iter X.env x=pure x:=by intro _;rfl):PS X (.For tg iter body [] pos) (bU2 wi g tb):=by
 intro y s W H D I h
 refine wpAny_For (thn (hi y s W H _ I h) fun v s1 h1=>thn h1 fun a6 s2 h2=>?_) hs
 obtain⟨it,fp,tn,J,H2,e,I2,T,a4,f2,Ww,⟨m0,w0⟩,turn⟩:=h2
 subst e
 have z:∀ {H':Hp},(∀ b∈fp,H' b=none)->∀ b∈fp,FpOk X y H' b:=fun hn b hb=>⟨hn b hb,(f2 b hb).2⟩
 refine codeAny_forLoop_any (fun n s'=>∃ i W' H',Inv X y W' H' s'/\tn i s'.heap/\(∀ b∈fp,H' b=none)/\Ww i n W' H') ?_ m0 ⟨0,W,H2,I2,a4,fun b hb=>(f2 b hb).1,w0⟩
 rintro n s3 ⟨i,W3,H3,I3,a1,a2,w3⟩
 rcases turn i n W3 H3 w3 with⟨stop,qn⟩|⟨go,N,hN,step⟩
 .refine cR hp (thn (T.done X rfl rfl rfl hc i y s3 W3 H3 X.xe I3 (z a2) a1 stop) fun r s4 ⟨hr,I4⟩=>?_)
  subst hr
  exact g6 ⟨W3,H3,I4,qn⟩
 .refine cR hp (thn (T.item X rfl rfl rfl hc i y s3 W3 H3 X.xe I3 (z a2) a1 go) fun r s4 ⟨u,hr,h4⟩=>?_)
  subst hr
  refine cR hp (thn h4 fun _ s5 ⟨x,H5,I5,r5,y5,a0,a5⟩=>?_)
  have a3:=I5.pinned (z a5) (T.obj _ _ a0)
  refine cR hp (thn (hg _ s5 W3 H5 x u _ a3 r5 (step x H5 y5)) fun _ s6 ⟨W6,H6,I6,q6⟩=>?_)
  refine cR hp (thn (hb _ s6 W6 H6 _ I6 q6) fun f s7 q7=>?_)
  have B:∀ {W7:St} {Z:Hp},Inv X (y++as5 fp s5.heap) W7 Z s7->N W7 Z->∃ m,m<n/\∃ i W' H',Inv X y W' H' s7/\tn i s7.heap/\(∀ b∈fp,H' b=none)/\Ww i m W' H':=fun {W7 Z} G n7=>by
   obtain⟨m',hm,w7⟩:=hN W7 Z n7
   refine⟨m',hm,i+1,W7,Z,G.unpinned,T.keep _ _ _ a0 fun b hb o e=>(G.pin (b,o) (a7 _ (a7 _ (qt hb e)))).1,fun b hb=>?_,w7⟩
   obtain⟨o,e,d⟩:=T.obj _ _ a0 b hb
   exact(G.pin (b,o) (a7 _ (a7 _ (qt hb e)))).2.1
  cases f with
  | next=>obtain⟨W7,Z,G,n7⟩:=q7;exact B G n7
  | cont=>obtain⟨W7,Z,G,n7⟩:=q7;exact B G n7
  | brk=>obtain⟨W7,Z,G,q7⟩:=q7;exact⟨W7,Z,G.unpinned,q7⟩
  | ret v=>obtain⟨x7,W7,Z,G,r7,q7⟩:=q7;exact⟨x7,W7,Z,G.unpinned,r7,q7⟩
end
abbrev R2:=V->V->Hp->VK->Prop
def OpR (X:Cx)(f:Value->Value->Sem Value)(r:R2):Prop :=
 ∀(pins:yA) (s:ae) (W:St) (H:Hp) (x y:V) (v u:Value) (Q:VK),Inv X pins W H s->RelV x v->RelV y u->r x y H Q ->
  wpAny (model X.prog X.w) X.A (f v u) (EP X pins W Q) X.xe s
def aa9 (X:Cx)(f:Value)(r:List V->Hp->VK->Prop):Prop :=
 ∀(pins:yA) (s:ae) (W:St) (H:Hp) (xs:List V) (us:yG) (Q:VK),Inv X pins W H s->Vals xs us->r xs H Q ->
  wpAny (model X.prog X.w) X.A (call f us) (EP X pins W Q) X.xe s
def tOp (r:R2)(ta tb:TE):TE:=fun W H Q=>ta W H fun x H1=>tb W H1 fun y H2=>r x y H2 Q
def rI (Cc:Int->Int->Prop)(g:Int->Int->V):R2:=fun x y H Q=>∃ i j,x=.int i/\y=.int j/\Cc i j/\Q (g i j) H
def rI0 (g:Int->Int->V):R2:=fun x y H Q=>∃ i j,x=.int i/\y=.int j/\Q (g i j) H
section
variable {X:Cx} {a b c:Expr} {ta tb tc:TE} {pos:Pos}
theorem bP3 (ha:PE X a ta)(hb:PE X b tb){z:yA}{s:ae}{W:St}{H:Hp}{R:V->V->Hp->Prop}(I:Inv X z W H s)
  (h:ta W H fun x G=>tb W G fun y B=>R x y B) {Q:Value->ae->Prop} {f:Value->Value->Sem Value}
  (hf:∀ v u s2 x y B,Inv X z W B s2->RelV x v->RelV y u->R x y B->wpAny (model X.prog X.w) X.A (f v u) Q X.xe s2) :
  wpAny (model X.prog X.w) X.A (eval a X.env) (fun v s₁=>wpAny (model X.prog X.w) X.A (eval b X.env) (fun u J=>wpAny (model X.prog X.w) X.A (f v u) Q X.xe J) X.xe s₁) X.xe s:=by
 refine thn (ha z s W H _ I h) fun v s1 ⟨x,G,Z,r1,q1⟩=>?_
 refine thn (hb z s1 W G _ Z q1) fun u s2 ⟨y,B,I2,r2,q2⟩=>?_
 exact hf v u s2 x y B I2 r1 r2 q2
theorem bS9 {op:Operator}{r:R2}(ho:OpR X (b7 op) r)(ha:PE X a ta)(hb:PE X b tb):PE X (.BinOp a op b pos) (tOp r ta tb):=by
 intro z s W H Q I h
 exact wpAny_BinOp (bP3 ha hb I h fun v u s2 x y J Z G B q=>ho z s2 W J x y v u Q Z G B q)
theorem opI {f:Value->Value->Sem Value}{Cc:Int->Int->Prop}{g:Int->Int->Int}
  (z:∀(i j:Int) (t u:Tok) (s:ae) (Q:Value->ae->Prop) (E:Value->ae->Prop),Cc i j->Q (.int (g i j) s.toks) { s with toks:=s.toks+1 }->wpAny (model X.prog X.w) X.A (f (.int i t) (.int j u)) Q E s) :
  OpR X f (rI Cc fun i j=>.int (g i j)):=by
 intro B s W H x y v u Q I J G h
 obtain⟨i,j,rfl,rfl,hc,q⟩:=h
 obtain⟨t,rfl⟩:=J
 obtain⟨t',rfl⟩:=G
 exact z i j t t' s _ _ hc ⟨.int (g i j),H,I.tok _,⟨_,rfl⟩,q⟩
theorem bX9 {f:Value->Value->Sem Value}{g:Int->Int->Int}
  (z:∀(i j:Int) (t u:Tok) (s:ae) (Q:Value->ae->Prop) (E:Value->ae->Prop),Q (.int (g i j) s.toks) { s with toks:=s.toks+1 }->wpAny (model X.prog X.w) X.A (f (.int i t) (.int j u)) Q E s) :
  OpR X f (rI0 fun i j=>.int (g i j)):=by
 intro B s W H x y v u Q I J G h
 obtain⟨i,j,rfl,rfl,q⟩:=h
 obtain⟨t,rfl⟩:=J
 obtain⟨t',rfl⟩:=G
 exact z i j t t' s _ _ ⟨.int (g i j),H,I.tok _,⟨_,rfl⟩,q⟩
theorem bT9 {f:Value->Value->Sem Value}{g:Int->Int->Bool}
  (z:∀(i j:Int) (t u:Tok) (s:ae) (Q:Value->ae->Prop) (E:Value->ae->Prop),Q (.bool (g i j)) s->wpAny (model X.prog X.w) X.A (f (.int i t) (.int j u)) Q E s) :
  OpR X f (rI0 fun i j=>.bl (g i j)):=by
 intro B s W H x y v u Q I J G h
 obtain⟨i,j,rfl,rfl,q⟩:=h
 obtain⟨t,rfl⟩:=J
 obtain⟨t',rfl⟩:=G
 exact z i j t t' s _ _ ⟨.bl (g i j),H,I,rfl,q⟩
def ca1 (i j:Int):Prop:=0<=j/\j<=1000000/\i.natAbs<2^64
def bN8 (i j:Int):Prop:=(-(2^64)<i/\i<2^64)\/(-(2^64)<j/\j<2^64)
theorem bN8.ok {i j:Int}(h:bN8 i j):IntMulOk i j:=by
 rcases h with⟨z,y⟩|⟨z,y⟩
 .exact .of_left (intBits_le_64 z y)
 .exact .of_right (intBits_le_64 z y)
theorem aF6 (k:Nat):(0:Int)<=2^k:=by
 rw[two_pow_cast]
 exact cI _
theorem bH3:OpR X (b7 .Add) (rI0 fun i j=>.int (i+j)):=bX9 fun _ _ _ _ _ _ _ q=>add_int q
theorem bC1:OpR X (b7 .Mod) (rI (fun _ j=>0<j) fun i j=>.int (i % j)):=opI fun i j _ _ _ _ _ hc q=>by
 have h:(0:Int)<j:=hc
 exact mod_int' (by lia) (by rw[Int.fmod_eq_emod_of_nonneg i (by lia)];exact q)
theorem bK3:OpR X (b7 .Pow) (rI ca1 fun i j=>.int (i^j.toNat)):=opI fun _ _ _ _ _ _ _ hc q=>pow_int_small hc.1 hc.2.1 hc.2.2 q
theorem bD9:OpR X (b7 .RShift) (rI (fun _ j=>0<=j) fun i j=>.int (i / 2^j.toNat)):=opI fun i j _ _ _ _ _ hc q =>
 rshift_int hc (by rw[fC i (aF6 _)];exact q)
theorem bP2:OpR X (b7 .BitOr) (rI0 fun i j=>.int (gg i j)):=bX9 fun _ _ _ _ _ _ _ q=>or_int q
end
section
variable {X:Cx} {a b c:Expr} {ta tb tc:TE} {pos:Pos}
theorem bS4:OpR X (d8 .Lt) (rI0 fun i j=>.bl (decide (i<j))):=bT9 fun _ _ _ _ _ _ _ q=>lt_int q
theorem bT0:OpR X (d8 .LtE) (rI0 fun i j=>.bl (decide (i<=j))):=bT9 fun _ _ _ _ _ _ _ q=>le_int q
theorem bP1:OpR X (d8 .Gt) (rI0 fun i j=>.bl (decide (j<i))):=bT9 fun _ _ _ _ _ _ _ q=>gt_int q
theorem bn2 {op:CmpOp}{r:R2}(ho:OpR X (d8 op) r)(ha:PE X a ta)(hb:PE X b tb)(hm:iP op b=false):PE X (.Compare a [op] [b] pos) (tOp r ta tb):=by
 intro z s W H Q I h
 exact wpAny_Compare1 (bP3 ha hb I h fun v u s2 x y J Z G B q=>ho z s2 W J x y v u Q Z G B q) hm
def bE9 (t:TE):TT:=fun W H Q=>t W H fun x H'=>∃ k,x=.bl k/\Q k H'
theorem bl3 {op:CmpOp}{r:R2}(ho:OpR X (d8 op) r)(ha:PE X a ta)(hb:PE X b tb)(hm:iP op b=false):PT X (.Compare a [op] [b] pos) (bE9 (tOp r ta tb)):=by
 intro B s W H Q I h
 refine wpAny_isTrue_Compare1 (thn (ha B s W H _ I h) fun v s1 ⟨x,H1,G,r1,q1⟩=>thn (hb B s1 W H1 _ G q1) fun u s2 ⟨y,Z,J,r2,q2⟩ =>
  thn (ho B s2 W Z x y v u _ J r1 r2 q2) fun c s3 ⟨z,H3,I3,r3,k,e,q3⟩=>?_) hm
 subst e
 cases r3
 exact dC ⟨H3,I3,q3⟩
theorem ai3:(aL:Nat)<2^63:=by rw[cF];decide
theorem aI4:OpR X (b7 .Add) (fun x y H Q=>∃ i j,x=.str i/\y=.str j/\i.length+j.length<=aL/\Q (.str (i++j)) H):=by
 intro z s W H x y v u Q I G B h
 obtain⟨i,j,rfl,rfl,hz,q⟩:=h
 obtain⟨t,rfl⟩:=G
 obtain⟨t',rfl⟩:=B
 exact add_str (fun t' tk=>⟨.str (i++j),H,I.tok _,⟨_,rfl⟩,q⟩) hz
theorem qy {x:V}{us:yG}(r:Vals [x] us):∃ u,us=[u]/\RelV x u:=by
 cases r with
 | cons r1 r2=>cases r2;exact⟨_,rfl,r1⟩
theorem bC7 {x y:V}{us:yG}(r:Vals [x,y] us):∃ u h,us=[u,h]/\RelV x u/\RelV y h:=by
 cases r with
 | cons r1 r2 =>
  cases r2 with
  | cons r3 r4=>cases r4;exact⟨_,_,rfl,r1,r3⟩
theorem bf0:aa9 X (.builtin "abs") (fun z H Q=>∃ i,z=[.int i]/\Q (.int (if i<0 then -i else i)) H):=by
 intro y s W H z us Q I r h
 obtain⟨i,rfl,q⟩:=h
 obtain⟨u,rfl,t,rfl⟩:=qy r
 exact call_abs_int fun u tk=>⟨.int (if i<0 then -i else i),H,I.tok _,⟨_,rfl⟩,q⟩
theorem aP4 (hc:X.calm=true):aa9 X (.builtin "min") (fun z H Q=>∃ i j,z=[.int i,.int j]/\Q (.int (if j<i then j else i)) H):=by
 intro y s W H z us Q I r h
 obtain⟨i,j,rfl,q⟩:=h
 obtain⟨u,B,rfl,⟨t,rfl⟩,⟨t',rfl⟩⟩:=bC7 r
 refine min_two_ints (I.ok.hd hc) fun h' tk k=>⟨_,H,I.kept k,?_,q⟩
 by_cases hj:j<i
 .rw[if_pos hj,if_pos hj];exact⟨_,rfl⟩
 .rw[if_neg hj,if_neg hj];exact⟨_,rfl⟩
theorem aO5:aa9 X (.type "int") (fun y H Q=>(∃ i,y=[.int i]/\Q (.int i) H)\/∃ k,y=[.bl k]/\Q (.int (if k then 1 else 0)) H):=by
 intro z s W H y us Q I r h
 rcases h with⟨i,rfl,q⟩|⟨k,rfl,q⟩
 .obtain⟨u,rfl,t,rfl⟩:=qy r
  exact call_int_int ⟨.int i,H,I,⟨_,rfl⟩,q⟩
 .obtain⟨u,rfl,r1⟩:=qy r
  cases r1
  exact call_int_bool ⟨.int (if k then 1 else 0),H,I.tok _,⟨_,rfl⟩,q⟩
end
structure ObjM (h:Heap)(x dx Cc:Addr)(mA:yC):Prop where
 obj:h.get? x=some (cB Cc dx)
 ns:h.Ns1 dx mA
 ne:dx≠x
theorem aL6 {h:Heap}{G:Addr}{J:yC}(n:h.Ns1 G J):∃ od,h.get? G=some od/\∀ name,fD name od=some (J name):=by
 obtain⟨o,es,ep,ho,hd,hk,_,hm⟩:=n
 refine⟨o,ho,fun name=>?_⟩
 have e:=hm name
 unfold nsFind findBy at e
 rw[<-Array.find?_toList]at e
 unfold fD
 rw[hd]
 dsimp only
 split
 .rename_i y q
  rw[q]at e
  exact congrArg some e
 .rename_i q
  rw[q]at e
  have a:es.toList.any (·.refKey)=false:=by
   rw[List.any_eq_false]
   intro y hy
   obtain⟨z,t,B⟩:=hk y (Array.mem_toList_iff.mp hy)
   simp[DictEntry.refKey,B]
  have Z:¬ es.toList.any (·.refKey)=true:=by rw[a];exact aQ
  rw[if_neg Z]
  exact congrArg some e
theorem ObjM.look {h:Heap}{x y Cc:Addr}{z:yC}(I:ObjM h x y Cc z):∃ od,PySem.W.InstAt h x (cB Cc y) Cc (some od)/\∀ name,fD name od=some (z name) :=
 let⟨od,ho,hl⟩:=aL6 I.ns
 ⟨od,⟨I.obj,rfl,rfl,ho⟩,hl⟩
section
variable {prog:aD} {w:World} {A:aP} {E:Value->ae->Prop} {s:ae} {K:af} {x dx Cc f:Addr} {mA:yC} {name:Str} {v:Value}
theorem bq3 {y:Bool}{Q:Value->ae->Prop}(X:K.In s.heap)(I:ObjM s.heap x dx Cc mA)(hg:eN K Cc name=true)(z:fU K Cc=true)
  (ha:bF K (.ref Cc) name=some none) (hv:mA name=some v) (hv':jB v=true) (h:Q v { s with toks:=s.toks+1 }) :
  wpAny (model prog w) A (getAttr (.ref x) name y) Q E s:=by
 obtain⟨od,J,B⟩:=I.look
 exact PySem.W.get_value X J (fj hg).1 (PySem.W.findObj_own z ha rfl (by rw[B,hv])) hv' h
theorem aX8 {pl:Sem Bool}{Q:Value×List Value->ae->Prop}(X:K.In s.heap)(I:ObjM s.heap x dx Cc mA)(hg:eN K Cc name=true)
  (B:bF K (.ref Cc) name=some (some (.ref f))) (y:jh K (.ref f)=true) (hv:mA name=none) (h:Q (.ref f,[.ref x]) s) :
  wpAny (model prog w) A (iz (.ref x) name pl) Q E s:=by
 obtain⟨od,J,z⟩:=I.look
 exact PySem.W.method_fn X J (fj hg).1 (fj hg).2 B (beq_iff_eq.mp y) (by show(fD name od).map (·.isSome)=some false;rw[z,hv];rfl) h
theorem br6 {ns:yH}{Q:Unit->ae->Prop}(X:K.In s.heap)(I:ObjM s.heap x dx Cc mA)
  (hs:bF K (.ref Cc) "__setattr__"=some (some (.builtin "object.__setattr__"))) (hp:ji K Cc=true) (ht:g7 K Cc name=some none) (hh:fU K Cc=true)
  (hw:jd mA ns) (hsz:ns.length<=aL)
  (h:∀ h',ObjM h' x dx Cc (fun y=>if y=name then some v else mA y)->dQ dx s.heap h'->Q () { s with heap:=h',toks:=s.toks+2 }) :
  wpAny (model prog w) A (setAttr (.ref x) name v) Q E s:=by
 obtain⟨od,J,hl⟩:=I.look
 refine PySem.W.set_plain X J hs (PySem.W.osa_open (s:={ s with toks:=s.toks+1 }) (r:=none) X J hp ht fun b=>?_)
 obtain⟨cd,hc,G⟩:=PySem.W.any_some hh
 have hx:s.heap.get? x=some ⟨.ref Cc,some dx,.plain,#[]⟩:=I.obj
 refine aq (aW (aq (aq (wpAny_loadPart hx (aq (kM (s:={ s with toks:=s.toks+1 }) (PySem.W.looks_clsIn X hc) ?_))))))
 rw[G]
 refine aW (a:=some dx) (aq (aW (aq ?_)))
 refine wpAny_nsSet1 (s:={ s with toks:=s.toks+1 }) I.ns fun h' B z=>?_
 obtain⟨oD,a2,a3,Z,a1,a0⟩:=B.count (PySem.Within.cons name v hw)
 refine aq (wpAny_lookBehind Z (by rw[a1];exact pastItsLine_dict (aj a0 (by rw[aI];lia))) ?_)
 exact aW (h _ ⟨(z.2 _ (cC I.ne)).trans I.obj,B,I.ne⟩ z)
theorem aX5 {R:iZ->ae->Prop}{vs:yG}{y:List (Str×Value)}(X:K.In s.heap)(hm:g8 K Cc=true)
  (B:bF K (.ref Cc) "__init__"=some (some (.ref f))) (z:PySem.W.typeIn K (.ref f)=some (.type "function"))
  (h:gI (model prog w) (A.under (.builtin "type.__call__" ⟨.ref Cc::vs,y⟩)) (.call (.ref f) ⟨.ref (s.heap.objs.size+1)::vs,y⟩) (PySem.W.InitBack (s.heap.objs.size+1) R)
   { s with heap:=(s.heap.push bM).push (cB Cc s.heap.objs.size) }) :
  gI (model prog w) A (.call (.ref Cc) ⟨vs,y⟩) R s:=by
 obtain⟨G,g,d,t,os⟩:=s
 exact PySem.W.make_core (PySem.W.makes_of X hm) (PySem.W.looks_findIn X B) (fun self=>PySem.W.bind_fn X self z) (.inl rfl) h
end
noncomputable def ai6 (f:Str)(v:V):List (Str×V)->List (Str×V)
 | []=>[(f,v)]
 | (g,x)::r=>if g=f then(g,v)::r else(g,x)::ai6 f v r
theorem aj0 (f g:Str)(v:V):∀ fs:List (Str×V),(ai6 f v fs).lookup g=if g=f then some v else fs.lookup g
 | []=>by
  show de g [(f,v)]=_
  by_cases h:g=f
  .have hb:(g==f)=true:=beq_iff_eq.mpr h
   simp only[de,hb,if_pos h]
  .have hb:(g==f)=false:=beq_eq_false_iff_ne.mpr h
   simp only[de,hb,if_neg h]
 | (k,x)::r=>by
  have y:=aj0 f g v r
  rw[show ai6 f v ((k,x)::r)=(if k=f then(k,v)::r else(k,x)::ai6 f v r)from rfl]
  by_cases hk:k=f
  .rw[if_pos hk]
   by_cases h:g=k
   .have hb:(g==k)=true:=beq_iff_eq.mpr h
    simp only[de,hb,if_pos (h.trans hk)]
   .have hb:(g==k)=false:=beq_eq_false_iff_ne.mpr h
    simp only[de,hb,if_neg (fun e:g=f=>h (e.trans hk.symm))]
  .rw[if_neg hk]
   by_cases h:g=k
   .have hb:(g==k)=true:=beq_iff_eq.mpr h
    simp only[de,hb,if_neg (fun e:g=f=>hk (h.symm.trans e))]
   .have hb:(g==k)=false:=beq_eq_false_iff_ne.mpr h
    simp only[de,hb]
    exact y
theorem ai5 (f:Str)(v:V):∀ fs:List (Str×V),f∈(ai6 f v fs).map (·.1)/\∀ g,g∈fs.map (·.1)->g∈(ai6 f v fs).map (·.1)
 | []=>⟨by simp[ai6],fun g h=>by simp at h⟩
 | (k,x)::r=>by
  obtain⟨z,y⟩:=ai5 f v r
  rw[show ai6 f v ((k,x)::r)=(if k=f then(k,v)::r else(k,x)::ai6 f v r)from rfl]
  by_cases hk:k=f
  .rw[if_pos hk]
   subst hk
   exact⟨by simp,fun g h=>by simpa using h⟩
  .rw[if_neg hk]
   refine⟨?_,fun g h=>?_⟩
   .rw[aU]
    exact ao _ z
   .rw[aU]at h ⊢
    rcases ay.mp h with e|e
    .exact ay.mpr (.inl e)
    .exact ao _ (y g e)
theorem ah1 (f:Str)(v:V):∀ fs:List (Str×V),(ai6 f v fs).length<=fs.length+1
 | []=>by simp[ai6]
 | (k,x)::r=>by
  have h:=ah1 f v r
  rw[show ai6 f v ((k,x)::r)=(if k=f then(k,v)::r else(k,x)::ai6 f v r)from rfl]
  by_cases hk:k=f
  .rw[if_pos hk,aI,aI];lia
  .rw[if_neg hk,aI,aI];lia
theorem ar8.some_of {v:V}{o:Option Value}(r:ar8 (some v) o):∃ u,o=some u/\RelV v u:=by
 cases o with
 | none=>exact(show False from r).elim
 | some u=>exact⟨u,rfl,r⟩
theorem ar8.none_of {o:Option Value}(r:ar8 none o):o=none:=by
 cases o with
 | none=>rfl
 | some u=>exact(show False from r).elim
theorem aR0 {v:V}{u:Value}(r:RelV v u):jB u=true:=by
 cases v with
 | non=>cases(show u=Value.none from r);rfl
 | bl b=>cases(show u=Value.bool b from r);rfl
 | int i=>obtain⟨t,e⟩:=(show ∃ t,u=Value.int i t from r);cases e;rfl
 | str x=>obtain⟨t,e⟩:=(show ∃ t,u=Value.str x t from r);cases e;rfl
 | byt b=>obtain⟨t,e⟩:=(show ∃ t,u=Value.bytes b t from r);cases e;rfl
 | flt b=>obtain⟨t,e⟩:=(show ∃ t,u=Value.float b t from r);cases e;rfl
 | ref a=>cases(show u=Value.ref a from r);rfl
 | ty n=>cases(show u=Value.type n from r);rfl
section
variable {P:aD} {w:World} {H H':Hp} {h h':Heap} {a Cc dx:Addr} {fs fs':List (Str×V)}
theorem am9 (hok:HOk P w H h)(e:H a=some (.ins Cc dx fs)):∃ y,ObjM h a dx Cc y/\(∀ f,ar8 (fs.lookup f) (y f))/\jd y (fs.map (·.1))/\fs.length<=1000/\H dx=some (.own a):=by
 obtain⟨d,z,ne,ob,y,n,r,q⟩:=(show aa7 P w H h a (.ins Cc dx fs)from hok a _ e)
 exact⟨y,⟨ob,n,ne⟩,r,q,z,d⟩
end
structure Cls (K:af)(Cc:Addr):Prop where
 pg:eN K Cc Str.empty=true
 hd:fU K Cc=true
 po:ji K Cc=true
 sa:bF K (.ref Cc) "__setattr__"=some (some (.builtin "object.__setattr__"))
theorem Cls.get {K:af}{Cc:Addr}(c:Cls K Cc)(f:Str):eN K Cc f=true:=c.pg
def NoAttr (K:af)(Cc:Addr)(f:Str):Prop:=bF K (.ref Cc) f=some none
theorem NoAttr.taker {K:af}{Cc:Addr}{f:Str}(n:NoAttr K Cc f):g7 K Cc f=some none:=by
 unfold g7
 rw[show bF K (.ref Cc) f=some none from n]
 rfl
structure Meth (K:af)(Cc:Addr)(m:Str)(f:Addr):Prop where
 at_:bF K (.ref Cc) m=some (some (.ref f))
 fn:jh K (.ref f)=true
 kp:b8 K (.ref f)=true
section
variable {X:Cx} {pins:yA} {W:St} {H:Hp} {s:ae} {a Cc dx:Addr} {fs:List (Str×V)} {f:Str} {v:V} {A:aP} {E:Value->ae->Prop}
theorem aE3 {b:Bool}{Q:Value->ae->Prop}(I:Inv X pins W H s)(e:H a=some (.ins Cc dx fs))(c:Cls X.K Cc)(n:NoAttr X.K Cc f)(l:fs.lookup f=some v)
  (h:∀ u s',Inv X pins W H s'->RelV v u->Q u s'):wpAny (model X.prog X.w) A (getAttr (.ref a) f b) Q E s:=by
 obtain⟨z,O,r,_,_,_⟩:=am9 I.hok e
 obtain⟨u,hu,y⟩:=ar8.some_of (v:=v) (o:=z f) (by rw[<-l];exact r f)
 exact bq3 I.kIn O (c.get f) c.hd n hu (aR0 y) (h u _ (I.tok _) y)
theorem al1 {m:Str}{g:Addr}{pl:Sem Bool}{Q:Value×List Value->ae->Prop}(I:Inv X pins W H s)(e:H a=some (.ins Cc dx fs))(c:Cls X.K Cc)(k:Meth X.K Cc m g)(l:fs.lookup m=none)
  (h:Q (.ref g,[.ref a]) s):wpAny (model X.prog X.w) A (iz (.ref a) m pl) Q E s:=by
 obtain⟨y,O,r,_,_,_⟩:=am9 I.hok e
 have hn:y m=none:=ar8.none_of (by rw[<-l];exact r m)
 exact aX8 I.kIn O (c.get m) k.at_ k.fn hn h
theorem aI6 {y:V}{u:Value}{Q:Unit->ae->Prop}(I:Inv X pins W H s)(e:H a=some (.ins Cc dx fs))(c:Cls X.K Cc)(n:NoAttr X.K Cc f)(hl:fs.length<1000)(Z:RelV y u)
  (h:∀ s',Inv X pins W (upd H a (.ins Cc dx (ai6 f y fs))) s'->Q () s'):wpAny (model X.prog X.w) A (setAttr (.ref a) f u) Q E s:=by
 obtain⟨G,O,r,J,_,ho⟩:=am9 I.hok e
 have hz:(fs.map (·.1)).length<=aL:=by rw[az,cF];lia
 refine br6 I.kIn O c.sa c.po n.taker c.hd J hz fun h' B sb=>h _ ?_
 have hd:∃ o,h'.get? dx=some o:=let⟨o,_,_,e',_⟩:=B.ns;⟨o,e'⟩
 refine I.write (x:=a) (e:=dx) (by rw[e];exact True.intro) (.inr ho) (fun b q hb z=>(sb.2 b hb).trans z) hd ?_
 refine⟨by rw[zb O.ne];exact ho,?_,O.ne,B.obj,_,B.ns,fun g=>?_,fun g hg=>?_⟩
 .have:=ah1 f y fs;lia
 .show ar8 ((ai6 f y fs).lookup g) (if g=f then some u else G g)
  rw[aj0]
  by_cases q:g=f
  .rw[if_pos q,if_pos q];exact Z
  .rw[if_neg q,if_neg q];exact r g
 .by_cases q:g=f
  .rw[q];exact(ai5 f y fs).1
  .refine(ai5 f y fs).2 g (J g fun z=>hg ?_)
   show(if g=f then some u else G g)=none
   rw[if_neg q];exact z
theorem Inv.made (I:Inv X pins W H s):Inv X pins W (upd (upd H s.heap.objs.size (.own (s.heap.objs.size+1))) (s.heap.objs.size+1) (.ins Cc s.heap.objs.size []))
  { s with heap:=(s.heap.push bM).push (cB Cc s.heap.objs.size) }:=by
 have e1:(s.heap.push bM).get? s.heap.objs.size=some bM:=aX s.heap rfl
 have e2:((s.heap.push bM).push (cB Cc s.heap.objs.size)).get? (s.heap.objs.size+1)=some (cB Cc s.heap.objs.size):=by
  have:=aX (s.heap.push bM) (o:=cB Cc s.heap.objs.size) rfl
  rwa [cJ]at this
 have h:(s.heap.push bM).Ns s.heap.objs.size (fun _=>none):=⟨bM,#[],_,e1,rfl,(fun e he=>absurd he (by simp)),fun _=>rfl⟩
 have z:=I.laid (a:=s.heap.objs.size) (o:=.own (s.heap.objs.size+1)) (h':=s.heap.push bM) (t':=s.toks) (fun b u q=>ak _ q) (ah _) ⟨_,e1⟩
 refine z.laid (a:=s.heap.objs.size+1) (o:=.ins Cc s.heap.objs.size []) (t':=s.toks) (fun b u q=>ak _ q) (gJ (cJ _ _)) ?_
 have ne:s.heap.objs.size≠s.heap.objs.size+1:=aB (c9 _)
 refine⟨by rw[zb ne,zp],dJ _,ne,e2,fun _=>none,(Heap.Ns1.of_empty h).at fun o q=>ak _ q,fun _=>True.intro,fun y hy=>absurd rfl hy⟩
theorem bt6 {prog:aD}{w:World}{env:Env}{e:Expr}{f:Str}{pos:Pos}{s:ae}{Q:Value->ae->Prop}(hb:c5 e f env (eval e env)=eval e env)
  (h:wpAny (model prog w) A (eval e env) (fun o y=>wpAny (model prog w) A (getAttr o f true) Q E y) E s):wpAny (model prog w) A (eval (.Attribute e f pos) env) Q E s :=
 Attribute_any_ h (by rw[arm_eval_Attribute,hb])
end
def bY9 (K:af)(ta:TE)(f:Str):TE:=fun W H Q=>ta W H fun x H1=>∃ a Cc dx fs v,x=.ref a/\H1 a=some (.ins Cc dx fs)/\Cls K Cc/\NoAttr K Cc f/\fs.lookup f=some v/\Q v H1
def ca2 (K:af)(ta tv:TE)(f:Str):TS:=fun D W H=>tv W H fun y H1=>ta W H1 fun x H2=>∃ a Cc dx fs,x=.ref a/\H2 a=some (.ins Cc dx fs)/\Cls K Cc/\NoAttr K Cc f/\fs.length<1000 /\
 D.nx W (upd H2 a (.ins Cc dx (ai6 f y fs)))
section
variable {X:Cx} {o e value:Expr} {f:Str} {pos pos' tpos:Pos} {ta tv:TE}
theorem bD7 (he:PE X e ta)(hb:c5 e f X.env (eval e X.env)=eval e X.env):PE X (.Attribute e f pos) (bY9 X.K ta f):=by
 intro y s W H Q I h
 refine bt6 hb (thn (he y s W H _ I h) fun u s1 ⟨x,J,z,G,a,Cc,dx,fs,v,ex,Z,c,n,l,q⟩=>?_)
 subst ex
 obtain rfl:u=Value.ref a:=G
 exact aE3 z Z c n l fun u' s2 B ru=>⟨v,J,B,ru,q⟩
theorem bF9 (ha:PE X o ta)(hv:PE X value tv)(hs:eM value (some (.Attribute o f pos')) pos.line X.env=pure false):PS X (.Assign [.Attribute o f pos'] value pos) (ca2 X.K ta tv f):=by
 intro z s W H D I h
 refine plainObj_wpAny_Assign_Attribute (thn (hv z s W H _ I h) fun u s1 ⟨y,H1,G,B,q⟩=>thn (ha z s1 W H1 _ G q) fun ov s2 ⟨x,H2,J,Z,a,Cc,dx,fs,ex,ea,c,n,l,q2⟩=>?_) hs
 subst ex
 obtain rfl:ov=Value.ref a:=Z
 exact aI6 J ea c n l B fun s3 I3=>⟨W,_,I3,q2⟩
end
section
variable {X:Cx} {pins:yA} {W:St} {H:Hp} {s:ae} {A:aP} {E:Value->ae->Prop} {Q:Value->ae->Prop} {c:Value} {b:Bool}
inductive TyOf (K:af)(H:Hp):V->Value->Prop where
 | non:TyOf K H .non (.type "NoneType")
 | bl (x:Bool):TyOf K H (.bl x) (.type "bool")
 | int (i:Int):TyOf K H (.int i) (.type "int")
 | str (x:Str):TyOf K H (.str x) (.type "str")
 | flt (x:UInt64):TyOf K H (.flt x) (.type "float")
 | lst {a:Addr} {xs:List V} (e:H a=some (.lst xs)):TyOf K H (.ref a) (.type "list")
 | frz {a:Addr} {o:Obj} {xs:List V} (e:H a=some (.frz o (.lst xs))):TyOf K H (.ref a) (.type "list")
 | tup {a:Addr} {xs:List V} (e:H a=some (.tup xs)):TyOf K H (.ref a) (.type "tuple")
 | dK {a:Addr} {kvs:List (Key×V)} (e:H a=some (.dK kvs)):TyOf K H (.ref a) (.type "dict")
 | ins {a Cc dx:Addr} {fs:List (Str×V)} (e:H a=some (.ins Cc dx fs)) (cl:Cls K Cc) (ha:bF K (.ref Cc) "__class__"=some (some (.builtin "object.__class__")))
   (hn:jj K (.builtin "object.__class__") "__get__"=some (some (.builtin "getset_descriptor.__get__"))) (htk:jK K (.builtin "object.__class__")=some true)
   (hm:ki K Cc (.type "object")=some true):TyOf K H (.ref a) (.ref Cc)
theorem qi {x:V}{u t:Value}(I:Inv X pins W H s)(B:RelV x u)(ty:TyOf X.K H x t)(e:b9 X.K t c=some b)(h:∀ tk,Q (.bool b) { s with toks:=tk }) :
  wpAny (model X.prog X.w) A (call (.builtin "isinstance") [u,c]) Q E s:=by
 cases ty with
 | non=>cases(show u=Value.none from B);exact bJ PySem.W.kitx_none I.kIn True.intro e (fun z=>nomatch z) h
 | bl y=>cases(show u=Value.bool y from B);exact bJ PySem.W.kitx_bool I.kIn True.intro e (fun z=>nomatch z) h
 | int i=>obtain⟨t,q⟩:=(show ∃ t,u=Value.int i t from B);cases q;exact bJ PySem.W.kitx_int I.kIn True.intro e (fun z=>nomatch z) h
 | str y=>obtain⟨t,q⟩:=(show ∃ t,u=Value.str y t from B);cases q;exact bJ PySem.W.kitx_str I.kIn True.intro e (fun z=>nomatch z) h
 | flt y=>obtain⟨t,q⟩:=(show ∃ t,u=Value.float y t from B);cases q;exact bJ PySem.W.kitx_float I.kIn True.intro e (fun z=>nomatch z) h
 | @lst a xs ea =>
  cases(show u=Value.ref a from B)
  obtain⟨_,_,n,_,G⟩:=(show aa7 X.prog X.w H s.heap a (.lst xs)from I.hok a _ ea)
  exact bJ jk I.kIn ⟨_,G,rfl⟩ e (fun z=>nomatch z) h
 | @frz a ob xs ea =>
  cases(show u=Value.ref a from B)
  obtain⟨_,_,_,n,_,G⟩:=(show aa7 X.prog X.w H s.heap a (.frz ob (.lst xs))from I.hok a _ ea)
  exact bJ jk I.kIn ⟨_,G,rfl⟩ e (fun z=>nomatch z) h
 | @tup a xs ea =>
  cases(show u=Value.ref a from B)
  obtain⟨_,_,_,p⟩:=(show aa7 X.prog X.w H s.heap a (.tup xs)from I.hok a _ ea)
  obtain⟨o,G,Z,_⟩:=p
  exact bJ i0 I.kIn ⟨o,G,Z⟩ e (fun z=>nomatch z) h
 | @dK a kvs ea =>
  cases(show u=Value.ref a from B)
  obtain⟨_,_,vs,_,p⟩:=(show aa7 X.prog X.w H s.heap a (.dK kvs)from I.hok a _ ea)
  obtain⟨o,es,ep,G,Z,_⟩:=p
  exact bJ PySem.W.kitx_dict I.kIn ⟨o,G,Z.1⟩ e (fun z=>nomatch z) h
 | @ins a Cc dx fs ea cl ha hn htk hm =>
  cases(show u=Value.ref a from B)
  obtain⟨mA,O,_⟩:=am9 I.hok ea
  obtain⟨od,J,_⟩:=O.look
  exact bJ (PySem.W.kitx_own (cl.get _) cl.hd ha hn htk hm) I.kIn J e (fun z=>nomatch z) h
end
structure Room (k:Nat)(A:aP):Prop where
 hd:A.handled=none
 dp:A.depth+3*k+5<recursionLimit
 un:A.units+16*k+200<cLine
theorem Room.mono {j k:Nat}{A:aP}(r:Room k A)(h:j<=k):Room j A:=⟨r.hd,by have:=r.dp;lia,by have:=r.un;lia⟩
theorem Room.deeper {k:Nat}{A:aP}(r:Room (k+1) A)(env:Env):Room k (A.deeper env) :=
 ⟨r.hd,by have:=r.dp;show A.depth+1+3*k+5<_;lia,by have:=r.un;show A.units+3+16*k+200<_;lia⟩
theorem Room.in1 {k:Nat}{A:aP}(r:Room (k+1) A):Room k A.in1 :=
 ⟨r.hd,by have:=r.dp;show A.depth+3*k+5<_;lia,by have:=r.un;show A.units+1+16*k+200<_;lia⟩
theorem aH8 {A:aP}{Cc:Addr}{us:yG}{h:List (Str×Value)}:(A.under (.builtin "type.__call__" ⟨.ref Cc::us,h⟩)).depth=A.depth+1:=by
 first|rfl|simp[jl,Code.weight,Code.isCreation,Code.isGuard,Code.isCaller,kG,jm,guardIds]
theorem aI1 {A:aP}{Cc:Addr}{us:yG}{h:List (Str×Value)}:(A.under (.builtin "type.__call__" ⟨.ref Cc::us,h⟩)).units=A.units+1:=by
 first|rfl|simp[jl,Code.cUnits,kG,jm]
theorem Room.make {k:Nat}{A:aP}(r:Room (k+1) A)(Cc:Addr)(us:yG)(h:List (Str×Value)):Room k (A.under (.builtin "type.__call__" ⟨.ref Cc::us,h⟩)) :=
 ⟨r.hd,by have:=r.dp;rw[aH8];lia,by have:=r.un;rw[aI1];lia⟩
theorem Room.depth {k:Nat}{A:aP}(r:Room k A):A.depth<recursionLimit:=by have:=r.dp;lia
theorem Room.units {k:Nat}{A:aP}(r:Room k A):A.units+64<cLine:=by have:=r.un;lia
theorem Room.units0 {k:Nat}{A:aP}(r:Room k A):A.units<cLine:=by have:=r.un;lia
def aM0:TA:=fun _ H Q=>Q [] H
def aF5 (ta:TE)(tr:TA):TA:=fun W H Q=>ta W H fun x H1=>tr W H1 fun xs H2=>Q (x::xs) H2
section
variable {X:Cx} {e:Expr} {es:yK} {te:TE} {t:TA} {pos:Pos}
theorem ac0:PA X [] aM0:=fun _ _ _ _ H Q I h=>dE ⟨[],H,I,.nil,h⟩
theorem zI (ha:PE X e te)(hr:PA X es t)(hs:aV (e::es) X.env=(false,eval e X.env)::aV es X.env:=by rfl):PA X (e::es) (aF5 te t):=by
 intro pos y s W H Q I h
 rw[hs]
 show wpAny _ _ (spliced ((false,eval e X.env)::cD pos (aV es X.env))) _ _ s
 refine cq (thn (ha y s W H _ I h) fun u s1 ⟨x,H1,J,r1,q1⟩=>?_)
 exact thn (hr pos y s1 W H1 _ J q1) fun us s2 ⟨z,B,Z,G,q2⟩=>⟨x::z,B,Z,.cons r1 G,q2⟩
def bW7 (t:TA):TE:=fun W H Q=>t W H fun xs H1=>xs.length<=aL/\∀ p,H1 p=none->Q (.ref p) (upd H1 p (.tup xs))
def ca7 (t:TA):TE:=fun W H Q=>t W H fun xs H1=>xs.length<=aL/\∀ p,H1 p=none->Q (.ref p) (upd H1 p (.lst xs))
theorem bL2 {x1}(h:PA X es t):PE X (.Tuple es x1 pos) (bW7 t):=by
 intro y s W H Q I hq
 refine wpAny_Tuple_spliced (thn (h pos y s W H _ I hq) fun us s1 ⟨J,G,B,r,z,q⟩=>⟨by rw[<-r.length];exact z,?_⟩)
 have Z:G s1.heap.objs.size=none:=B.hok.fresh (ah _)
 refine⟨.ref s1.heap.objs.size,upd G s1.heap.objs.size (.tup J),B.laid (t':=s1.toks) (fun b u e=>ak _ e) (ah _) ?_,rfl,q _ Z⟩
 exact⟨z,us,r,⟨_,aX _ rfl,rfl,_,rfl⟩⟩
theorem bi7 (h:PA X es t):PE X (.List es pos) (ca7 t):=by
 intro y s W H Q I hq
 refine wpAny_List_spliced (thn (h pos y s W H _ I hq) fun us s1 ⟨J,G,B,r,z,q⟩=>⟨by rw[<-r.length];exact z,?_⟩)
 have Z:G s1.heap.objs.size=none:=B.hok.fresh (ah _)
 refine⟨.ref s1.heap.objs.size,upd G s1.heap.objs.size (.lst J),B.laid (t':=s1.toks) (fun b u e=>ak _ e) (ah _) ?_,rfl,q _ Z⟩
 exact⟨z,us,0,r,aX _ rfl⟩
end
abbrev Sp:=List V->Hp->VK->XK->Prop
abbrev CXT:=List Env->Hp->ae->XK->Value->ae->Prop
structure Env0 (P:aD)(w:World)(K:af)(mg:yC)(base:Heap)(A:aP)(outer:List Env)(s:ae)(H:Hp):Prop where
 frames:A.frames=some outer
 mod:Mod K mg base
 bs:∀ b o,base.get? b=some o->s.heap.get? b=some o/\H b=none
 bsz:base.objs.size<=s.heap.objs.size
 funs:s.heap.FunFrames base outer
 frf:∀ b∈frs outer,H b=none
 hok:HOk P w H s.heap
 bare:fS s.gens
def CE (outer:List Env)(P:aD)(w:World)(H:Hp)(s:ae)(Q:VK)(u:Value)(s':ae):Prop :=
 ∃ v H',s'.os=s.os/\fS s'.gens/\Un (frs outer) [] H H' s.heap s'.heap/\HOk P w H' s'.heap/\RelV v u/\Q v H'
def CR (CX:CXT)(outer:List Env)(P:aD)(w:World)(H:Hp)(s:ae)(Q:VK)(E:XK)(r:iZ)(s':ae):Prop :=
 match r with
 | .ok (.ret u)=>CE outer P w H s Q u s'
 | .ok _=>False
 | .error e=>CX outer H s E e s'
structure FnOk (P:aD)(w:World)(K:af)(mg:yC)(base:Heap)(CX:CXT)(k:Nat)(f:Addr)(fd:bT)(ps:yH)(sp:Sp):Prop where
 len:∀ vs H Q E,sp vs H Q E->vs.length=ps.length
 run:∀(A:aP) (outer:List Env) (s:ae) (H:Hp) (args:Args) (us:yG) (vs:List V) (Q:VK) (E:XK),Room k A->Env0 P w K mg base A outer s H->jP s fd args (ps.zip us)->Vals vs us->sp vs H Q E ->
  gI (model P w) A (.call (.ref f) args) (CR CX outer P w H s Q E) s
theorem FnOk.imp {P:aD}{w:World}{K:af}{B:yC}{base:Heap}{J:CXT}{k:Nat}{f:Addr}{G:bT}{ps:yH}{sp z:Sp}(F:FnOk P w K B base J k f G ps sp)
  (h:∀ vs H Q E,z vs H Q E->sp vs H Q E):FnOk P w K B base J k f G ps z :=
 ⟨fun vs H Q E q=>F.len vs H Q E (h _ _ _ _ q),fun A y s H args us vs Q E hr he hb hv hs=>F.run A y s H args us vs Q E hr he hb hv (h _ _ _ _ hs)⟩
theorem Env0.make {P:aD}{w:World}{K:af}{y:yC}{base:Heap}{A:aP}{h:List Env}{s:ae}{H:Hp}(e:Env0 P w K y base A h s H)(Cc:Addr)(us:yG)(z:List (Str×Value)) :
  Env0 P w K y base (A.under (.builtin "type.__call__" ⟨.ref Cc::us,z⟩)) h s H:=⟨by first|exact e.frames|(simpa [jl,Code.envs,jm,pushEnvs]using e.frames),e.mod,e.bs,e.bsz,e.funs,e.frf,e.hok,e.bare⟩
section
variable {X:Cx} {pins:yA} {W:St} {H:Hp} {s s':ae}
theorem Inv.env0 (I:Inv X pins W H s):Env0 X.prog X.w X.K X.mg X.base X.A X.stack s H :=
 ⟨I.ok.frames,I.ok.mod,I.bs,aj I.ok.bsz I.sz,I.stack,I.stkFree,I.hok,I.bare⟩
theorem Inv.after {Q:VK}{u:Value}(I:Inv X pins W H s)(h:CE X.stack X.prog X.w H s Q u s'):EP X pins W Q u s':=by
 obtain⟨v,H',os,bare,un,hok,r,q⟩:=h
 obtain⟨B,g,d,t,y⟩:=s'
 obtain rfl:y=s.os:=os
 exact⟨v,H',I.call (h':=B) (g':=g) (d':=d) (t':=t) (ch:=[]) un hok bare (fun b z=>absurd z (by simp)),r,q⟩
end
def aE7 (sp:Sp)(dvs:List V)(E:XK)(t:TA):TE:=fun W H Q=>t W H fun vs H1=>sp (vs++dvs) H1 Q E
def aX1 (Cc:Addr)(m:Str)(sp:Sp)(dvs:List V)(E:XK)(ta:TE)(t:TA):TE:=fun W H Q=>ta W H fun x H1=>∃ a dx fs,x=.ref a/\H1 a=some (.ins Cc dx fs)/\fs.lookup m=none /\
 t W H1 fun vs H2=>sp (x::(vs++dvs)) H2 Q E
def aK8 (Cc:Addr)(sp:Sp)(dvs:List V)(E:XK)(t:TA):TE:=fun W H Q=>t W H fun vs H1=>∀ x dx,H1 x=none->H1 dx=none->dx≠x ->
 sp (.ref x::(vs++dvs)) (upd (upd H1 dx (.own x)) x (.ins Cc dx [])) (fun v H2=>v=.non/\Q (.ref x) H2) E
def Binds (K:af)(fd:bT)(ps:yH)(ds:yG):Prop :=
 ∀(s:ae) (us:yG),K.In s.heap->(us++ds).length=ps.length->jP s fd ⟨us,[]⟩ (ps.zip (us++ds))
theorem Binds.all {K:af}{z:bT}{ps:yH}(h:∀ us:List Value,us.length=ps.length->bindArgs z ⟨us,[]⟩=pure (ps.zip us)):Binds K z ps []:=fun s us _ y=>by
 rw[bt]at y ⊢
 exact .of_eq (h us y)
def ad3 (CX:CXT)(X:Cx)(E:XK):Prop:=∀(pins:yA) (W:St) (H:Hp) (s:ae) (e:Value) (s':ae),Inv X pins W H s->CX X.stack H s E e s'->X.xe e s'
section
variable {X:Cx} {CX:CXT} {k:Nat} {f Cc:Addr} {fd:bT} {ps:yH} {sp:Sp} {dvs:List V} {ds:yG} {E:XK} {x m:Str} {p pos apos:Pos} {e o:Expr} {es:yK} {ta:TE} {t:TA}
theorem aD8 {y:yA}{W:St}{H:Hp}{s:ae}{Q:VK}{us:yG}{vs:List V}(F:FnOk X.prog X.w X.K X.mg X.base CX k f fd ps sp)(hr:Room k X.A)(hb:Binds X.K fd ps ds)(hd:Vals dvs ds)(hx:ad3 CX X E)
  (I:Inv X y W H s) (r:Vals vs us) (h:sp (vs++dvs) H Q E):wpAny (model X.prog X.w) X.A (call (.ref f) us) (EP X y W Q) X.xe s:=by
 have z:Vals (vs++dvs) (us++ds):=r.append hd
 have B:(us++ds).length=ps.length:=by rw[<-z.length];exact F.len _ _ _ _ h
 refine wpAny_call (fu (F.run X.A X.stack s H ⟨us,[]⟩ (us++ds) (vs++dvs) Q E hr I.env0 (hb s us I.kIn B) z h) fun r s' hq=>?_)
 cases r with
 | error e=>exact hx y W H s e s' I hq
 | ok fl =>
  cases fl with
  | ret u=>exact I.after hq
  | next=>exact cj hq
  | brk=>exact cj hq
  | cont=>exact cj hq
theorem bo2 (F:FnOk X.prog X.w X.K X.mg X.base CX k f fd ps sp)(hr:Room k X.A)(hg:Gl X x)(hm:X.mg x=some (.ref f))(hk:b8 X.K (.ref f)=true)(hb:Binds X.K fd ps ds)(hd:Vals dvs ds)(hx:ad3 CX X E)
  (ha:PA X (e::es) t) (B:(x==("__debug__":Str))=false:=by decide) (he:aV (e::es) X.env=(false,eval e X.env)::aV es X.env:=by rfl) (z:(cD pos (aV es X.env)).any (·.1)=false:=by rfl) :
  PE X (.Call (.Name x p) (e::es) [] pos) (aE7 sp dvs E t):=by
 intro y s W H Q I h
 refine cK (ah0 I hg hm ?_ B)
 refine fF (h₀:=X.base) I.ok.mod.kin hk (thn (ha pos y s W H _ I h) fun us s1 ⟨vs,J,G,r,q⟩=>⟨G.kIn,?_⟩) he z
 exact aD8 F hr hb hd hx G r q
theorem bc7 (F:FnOk X.prog X.w X.K X.mg X.base CX k f fd ps sp)(hr:Room k X.A)(hg:Gl X x)(hm:X.mg x=some (.ref f))(hk:b8 X.K (.ref f)=true)(hb:Binds X.K fd ps ds)(hd:Vals dvs ds)(hx:ad3 CX X E)
  (y:(x==("__debug__":Str))=false:=by decide):PE X (.Call (.Name x p) [] [] pos) (aE7 sp dvs E aM0):=by
 intro z s W H Q I h
 refine cK (ah0 I hg hm ?_ y)
 exact fm I.kIn hk (aD8 (us:=[]) F hr hb hd hx I .nil h)
theorem bq2 {pl:Sem Bool}(he:PE X o ta)(c:Cls X.K Cc)(hm:Meth X.K Cc m f)(F:FnOk X.prog X.w X.K X.mg X.base CX k f fd ps sp)(hr:Room k X.A)(hb:Binds X.K fd ps ds)(hd:Vals dvs ds)(hx:ad3 CX X E)(ha:PA X (e::es) t)
  (B:aV (e::es) X.env=(false,eval e X.env)::aV es X.env:=by rfl) (z:(cD pos (aV es X.env)).any (·.1)=false:=by rfl)
  (ht:eval (.Call (.Attribute o m apos) (e::es) [] pos) X.env=(do
   let ov <- eval o X.env
   je apos.atName
   let(f,first) <- gF [ov] (iz ov m pl)
   callWith pos f first (cD pos (aV (e::es) X.env)) (eg pos (cS [] X.env))):=by rfl) :
  PE X (.Call (.Attribute o m apos) (e::es) [] pos) (aX1 Cc m sp dvs E ta t):=by
 intro y s W H Q I h
 refine hX (pl:=pl) (thn (he y s W H _ I h) fun u s1 ⟨x,H1,G,Z,a,dx,fs,ex,ea,l,q⟩=>?_) ht
 subst ex
 obtain rfl:u=Value.ref a:=Z
 refine al1 G ea c hm l ?_
 refine fF (first:=[.ref a]) (h₀:=X.base) I.ok.mod.kin hm.kp (thn (ha pos y s1 W H1 _ G q) fun us s2 ⟨vs,H2,J,r,q2⟩=>⟨J.kIn,?_⟩) B z
 exact aD8 (us:=.ref a::us) (vs:=.ref a::vs) F hr hb hd hx J (.cons rfl r) q2
theorem ba6 {pl:Sem Bool}(he:PE X o ta)(c:Cls X.K Cc)(hm:Meth X.K Cc m f)(F:FnOk X.prog X.w X.K X.mg X.base CX k f fd ps sp)(hr:Room k X.A)(hb:Binds X.K fd ps ds)(hd:Vals dvs ds)(hx:ad3 CX X E)
  (G:eval (.Call (.Attribute o m apos) [] [] pos) X.env=(do
   let ov <- eval o X.env
   je apos.atName
   let(f,first) <- gF [ov] (iz ov m pl)
   callWith pos f first (cD pos (aV [] X.env)) (eg pos (cS [] X.env))):=by rfl) :
  PE X (.Call (.Attribute o m apos) [] [] pos) (aX1 Cc m sp dvs E ta aM0):=by
 intro y s W H Q I h
 refine hX (pl:=pl) (thn (he y s W H _ I h) fun u s1 ⟨x,H1,z,B,a,Z,fs,ex,J,l,q⟩=>?_) G
 subst ex
 obtain rfl:u=Value.ref a:=B
 refine al1 z J c hm l ?_
 exact fm (first:=[.ref a]) z.kIn hm.kp (aD8 (us:=[.ref a]) (vs:=[.ref a]) F hr hb hd hx z (.cons rfl .nil) q)
structure Mk (K:af)(Cc f:Addr):Prop where
 makes:g8 K Cc=true
 init:bF K (.ref Cc) "__init__"=some (some (.ref f))
 fn:jh K (.ref f)=true
 kp:b8 K (.ref Cc)=true
theorem aC4 {y:yA}{W:St}{H:Hp}{s:ae}{Q:VK}{us:yG}{vs:List V}(M:Mk X.K Cc f)(F:FnOk X.prog X.w X.K X.mg X.base CX k f fd ps sp)(hr:Room (k+1) X.A)(hb:Binds X.K fd ps ds)(hd:Vals dvs ds)
  (hx:ad3 CX X E) (I:Inv X y W H s) (r:Vals vs us)
  (h:∀ x G,H x=none->H G=none->G≠x->sp (.ref x::(vs++dvs)) (upd (upd H G (.own x)) x (.ins Cc G [])) (fun v H2=>v=.non/\Q (.ref x) H2) E) :
  wpAny (model X.prog X.w) X.A (call (.ref Cc) us) (EP X y W Q) X.xe s:=by
 have hq:=h (s.heap.objs.size+1) s.heap.objs.size (I.hok.fresh (cT _)) (I.hok.fresh (ah _)) (aB (c9 _))
 have B:=Inv.made (Cc:=Cc) I
 have J:Vals (V.ref (s.heap.objs.size+1)::(vs++dvs)) (Value.ref (s.heap.objs.size+1)::(us++ds)):=.cons rfl (r.append hd)
 have Z:(Value.ref (s.heap.objs.size+1)::us++ds).length=ps.length:=by
  have e:=J.length
  rw[F.len _ _ _ _ hq]at e
  exact e.symm
 refine wpAny_call (aX5 (f:=f) I.kIn M.makes M.init (beq_iff_eq.mp M.fn) (fu (F.run _ X.stack _ _ ⟨Value.ref (s.heap.objs.size+1)::us,[]⟩ (Value.ref (s.heap.objs.size+1)::(us++ds)) _ _ E (hr.make Cc us [])
  (B.env0.make Cc us []) (hb _ (Value.ref (s.heap.objs.size+1)::us) B.kIn Z) J hq) fun r s' z=>?_))
 cases r with
 | error e=>exact hx y W _ _ e s' B z
 | ok fl =>
  cases fl with
  | ret u =>
   obtain⟨v,H',I3,rv,ev,q3⟩:=B.after z
   subst ev
   exact⟨rv,⟨V.ref (s.heap.objs.size+1),H',I3,rfl,q3⟩⟩
  | next=>exact cj z
  | brk=>exact cj z
  | cont=>exact cj z
theorem bm4 (M:Mk X.K Cc f)(F:FnOk X.prog X.w X.K X.mg X.base CX k f fd ps sp)(hr:Room (k+1) X.A)(hg:Gl X x)(hm:X.mg x=some (.ref Cc))(hb:Binds X.K fd ps ds)(hd:Vals dvs ds)(hx:ad3 CX X E)
  (ha:PA X (e::es) t) (B:(x==("__debug__":Str))=false:=by decide) (he:aV (e::es) X.env=(false,eval e X.env)::aV es X.env:=by rfl) (z:(cD pos (aV es X.env)).any (·.1)=false:=by rfl) :
  PE X (.Call (.Name x p) (e::es) [] pos) (aK8 Cc sp dvs E t):=by
 intro y s W H Q I h
 refine cK (ah0 I hg hm ?_ B)
 refine fF (h₀:=X.base) I.ok.mod.kin M.kp (thn (ha pos y s W H _ I h) fun us s1 ⟨vs,J,G,r,q⟩=>⟨G.kIn,?_⟩) he z
 exact aC4 M F hr hb hd hx G r q
theorem aX2 (M:Mk X.K Cc f)(F:FnOk X.prog X.w X.K X.mg X.base CX k f fd ps sp)(hr:Room (k+1) X.A)(hg:Gl X x)(hm:X.mg x=some (.ref Cc))(hb:Binds X.K fd ps ds)(hd:Vals dvs ds)(hx:ad3 CX X E)
  (y:(x==("__debug__":Str))=false:=by decide):PE X (.Call (.Name x p) [] [] pos) (aK8 Cc sp dvs E aM0):=by
 intro z s W H Q I h
 refine cK (ah0 I hg hm ?_ y)
 exact fm I.kIn M.kp (aC4 (us:=[]) M F hr hb hd hx I .nil h)
end
section
variable {X:Cx} {CX:CXT} {k:Nat} {f Cc:Addr} {fd:bT} {ps ks:yH} {sp:Sp} {E:XK} {x m:Str} {p pos apos kpos:Pos} {e o:Expr} {es:yK} {kws:List dX} {te ta:TE} {t tk:TA} {nm:Option Str}
variable {g:List Value->List Value->List Value} {gV:List V->List V->List V}
end
structure FnScope (N P:yH)(sc:Scope):Prop where
 kind:sc.kind=.function
 co:sc.isCoroutine=false
 gen:sc.isGenerator=false
 nd:N.Nodup
 pre:N.take P.length=P
 par:∀ x∈P,sc.names.lookup x=some .local\/sc.names.lookup x=some .cell
 nofree:∀ y∈sc.names,y.2≠.free
theorem as4 {cb:Str->Option cx}{x:Str}:∀ {binds:List (Str×Value)} {m:yC},(∀ v,(x,v) ∉ binds)->bindL cb binds m x=m x
 | [],_,_=>rfl
 | (n,v)::r,m,h=>by
  unfold bindL
  rw[as4 fun w hw=>h w (ao _ hw)]
  split
  .have:x≠n:=by rintro rfl;exact h v ar
   simp[this]
  .rfl
theorem au3 {cb:Str->Option cx}{x:Str}:∀ {binds:List (Str×Value)} {m:yC},(∀ v,(x,v) ∉ binds)->bindC cb binds m x=m x
 | [],_,_=>rfl
 | (n,v)::r,m,h=>by
  unfold bindC
  rw[au3 fun w hw=>h w (ao _ hw)]
  split
  .rfl
  .have:x≠n:=by rintro rfl;exact h v ar
   simp[this]
theorem as8 {cb:Str->Option cx}{x:Str}{v:Value}:∀ {P:yH} {vs:yG} {i:Nat} {m:yC},P.Nodup->P[i]?=some x->vs[i]?=some v->cb x=some .local ->
  bindL cb (P.zip vs) m x=some v
 | [],_,_,_,_,h,_,_=>by simp at h
 | _::_,[],_,_,_,_,h,_=>by simp at h
 | p::P,w::vs,0,m,nd,h1,h2,hk=>by
  simp at h1 h2;subst h1;subst h2
  show bindL cb ((p,w)::P.zip vs) m p=_
  unfold bindL
  rw[as4 fun v hv=>(dq.mp nd).1 (g9 hv).1,if_pos hk]
  simp
 | p::P,w::vs,i+1,m,nd,h1,h2,hk=>by
  show bindL cb ((p,w)::P.zip vs) m x=_
  unfold bindL
  exact as8 (i:=i) (dq.mp nd).2 (by simpa using h1) (by simpa using h2) hk
theorem as2 {cb:Str->Option cx}{x:Str}{v:Value}:∀ {P:yH} {vs:yG} {i:Nat} {m:yC},P.Nodup->P[i]?=some x->vs[i]?=some v->cb x≠some .local ->
  bindC cb (P.zip vs) m x=some v
 | [],_,_,_,_,h,_,_=>by simp at h
 | _::_,[],_,_,_,_,h,_=>by simp at h
 | p::P,w::vs,0,m,nd,h1,h2,hk=>by
  simp at h1 h2;subst h1;subst h2
  show bindC cb ((p,w)::P.zip vs) m p=_
  unfold bindC
  rw[au3 fun v hv=>(dq.mp nd).1 (g9 hv).1,if_neg hk]
  simp
 | p::P,w::vs,i+1,m,nd,h1,h2,hk=>by
  show bindC cb ((p,w)::P.zip vs) m x=_
  unfold bindC
  exact as2 (i:=i) (dq.mp nd).2 (by simpa using h1) (by simpa using h2) hk
noncomputable def af3 (N:yH)(vs:List V):St:=vs.map some++aF (N.length - vs.length) none
noncomputable def bh7 (CX:CXT)(P:aD)(w:World)(K:af)(mg:yC)(base:Heap)(N:yH)(qual:Str)(scope:Scope)(f:Addr)(cd:Value)(A:aP)(outer:List Env)(s:ae)(H:Hp)(E:XK):Cx where
 prog:=P
 w:=w
 K:=K
 mg:=mg
 base:=base
 A:=A.deeper (gh qual scope s.heap.objs.size f cd)
 N:=N
 s₀:=s
 H₀:=H
 env:=gh qual scope s.heap.objs.size f cd
 outer:=outer
 stack:=gh qual scope s.heap.objs.size f cd::outer
 ex:=[]
 calm:=true
 fn:=fun _=>true
 pn:=[]
 xe:=fun e s'=>wpAny (model P w) (A.deeper (gh qual scope s.heap.objs.size f cd)) (leaving (gh qual scope s.heap.objs.size f cd) e) (fun _ s''=>CX outer H s E e s'') (fun e' s''=>CX outer H s E e' s'') s'
theorem af9 {sc:Scope}{n:Nat}{x:Str}(h:sc.names.lookup x=some .cell):∃ c,(bv n sc.names []).lookup x=some c:=by
 have q:=gK sc.names n [] (.inl h)
 exact gi.mp q
theorem aM8 {CX:CXT}{P:aD}{w:World}{K:af}{mg:yC}{base:Heap}{N ps:yH}{qual:Str}{scope:Scope}{f:Addr}{cd:Value}{A:aP}{B:List Env}{s s1:ae}{H:Hp}{E:XK}{us:yG}{vs:List V}
  (S:FnScope N ps scope) (hd:A.handled=none) (J:Env0 P w K mg base A B s H) (hl:vs.length=ps.length) (r:Vals vs us)
  (x:InCallC s s.heap.objs.size (bindL (gh qual scope s.heap.objs.size f cd).kindOf (ps.zip us) fun _=>none) (bv (s.heap.objs.size+1) scope.names []) (bindC (gh qual scope s.heap.objs.size f cd).kindOf (ps.zip us) fun _=>none) s1) :
  Inv (bh7 CX P w K mg base N qual scope f cd A B s H E) [] (af3 N vs) H s1:=by
 have a1:ps.length<=N.length:=by have:=congrArg kH S.pre;rw[bK]at this;lia
 obtain⟨h1,tk,rfl,hk⟩:=x.done
 have Z:∀ b:Addr,b ∉ (bh7 CX P w K mg base N qual scope f cd A B s H E).ex:=fun b z=>absurd (show b∈([]:List Addr)from z) (by simp)
 refine⟨⟨J.mod,S.kind,rfl,rfl,ah _,fun y z c h1 G=>?_,fun y hy=>?_,fun y c _ h=>?_,fun _=>hd,Around.frames_deeper J.frames,.inr ⟨rfl,rfl⟩,fun b z=>absurd z (Z b),J.bs,J.bsz,fun b _ _=>Z b,fun b z=>absurd z (Z b),J.funs,J.frf⟩,
  rfl,J.bare,Un.kept hk,⟨_,x.toInCall.ns,fun i y v h1 G h3=>?_⟩,fun y c h=>⟨_,x.cell y c h⟩,J.hok.fresh (ah _),fun y c h=>?_,fun p hp=>absurd (show p∈([]:yA)from hp) (by simp),J.hok.kept hk,?_⟩
 .exact name_of_addr x.apart (be h1) (be G)
 .have hy:scope.names.lookup y=some .cell\/scope.names.lookup y=some .free:=hy
  rcases hy with hy|hy
  .exact af9 hy
  .exact absurd rfl (S.nofree _ (be hy))
 .exact gE (x.above y c (be h))
 .have hi:i<vs.length:=by
   unfold af3 at G
   by_cases hi:i<vs.length
   .exact hi
   .rw[bz (by simpa using hi)]at G
    rw[bU]at G
    split at G<;>cases G
  have ha:vs[i]?=some v:=by
   unfold af3 at G
   rw[aR (by simpa using hi),aE]at G
   cases e:vs[i]? with
   | none=>rw[e]at G;cases G
   | some a=>rw[e]at G;cases G;rfl
  obtain⟨u,hu,rv⟩:=r.get ha
  have hp:ps[i]?=some y:=by
   rw[<-S.pre,List.getElem?_take_of_lt (by lia)];exact h1
  have a0:ps.Nodup:=by rw[<-S.pre];exact S.nd.sublist (jn _ _)
  refine⟨u,rv,?_⟩
  rcases S.par y (aG hp)with k|k
  .exact .inl ⟨k,as8 a0 hp hu k⟩
  .obtain⟨c,e⟩:=af9 (n:=s.heap.objs.size+1) k
   refine .inr ⟨.inl k,c,e,?_⟩
   have q:=x.cell y c e
   rw[as2 a0 hp hu (by show scope.names.lookup y≠_;rw[k];decide)]at q
   exact q
 .exact J.hok.fresh (gE (x.above y c (be h)))
 .unfold af3
  show _=N.length
  rw[aC,az,List.length_replicate]
  lia
theorem bR7 {CX:CXT}{P:aD}{w:World}{K:af}{mg:yC}{base:Heap}{k:Nat}{f:Addr}{name qual:Str}{params:eO}{body:yL}{scope:Scope}{dV kV Z pm z ct oc:Value}{an od:yI}
  {a3:yE} {N ps:yH} {sp:Sp} (lk:K.lookup f=some ⟨oc,od,.func (dg name qual params body scope dV kV Z pm an z ct),a3⟩) (a1:fG K z qual=true) (S:FnScope N ps scope)
  (len:∀ vs H Q E,sp vs H Q E->vs.length=ps.length)
  (B:∀(A:aP) (h:List Env) (s:ae) (H:Hp) (vs:List V) (Q:VK) (E:XK),Room k (A.deeper (gh qual scope s.heap.objs.size f z))->sp vs H Q E ->
   ∃ t,PSs (bh7 CX P w K mg base N qual scope f z A h s H E) body t/\t { nx:=fun _ H'=>Q .non H',rt:=Q } (af3 N vs) H) :
  FnOk P w K mg base CX (k+1) f (dg name qual params body scope dV kV Z pm an z ct) ps sp:=by
 refine⟨len,fun A h s H args us vs Q E hr e0 hb r a0=>?_⟩
 have hl:=len _ _ _ _ a0
 have KX:K.In s.heap:=e0.mod.kin.keeps fun b o e=>(e0.bs b o e).1
 have a2:s.heap.NoLimit:=e0.mod.nolimit.keeps fun b o e=>(e0.bs b o e).1
 have G:∀ y∈ps.zip us,scope.names.lookup y.1=some .local\/(scope.names.lookup y.1=some .cell/\((bv (s.heap.objs.size+1) scope.names []).lookup y.1).isSome=true):=fun⟨n,v⟩ hy=>by
  rcases S.par n (g9 hy).1 with q|q
  .exact .inl q
  .exact .inr ⟨q,gK _ _ _ (.inl q)⟩
 refine codeAny_call_function hr.depth (KX _ _ lk) rfl S.co S.gen rfl (PySem.W.codeRec_of KX a1) (hb _ _ _ _ ?_)
 refine wpAny_newFunctionEnv_cells S.kind G fun env he s1 x=>?_
 subst he
 refine⟨a2.keeps x.toInCall.keep,codeAny_func ?_⟩
 obtain⟨t,ht,hq⟩:=B A h s H vs Q E (hr.deeper _) a0
 have I:Inv (bh7 CX P w K mg base N qual scope f z A h s H E) [] (af3 N vs) H s1:=aM8 S hr.hd e0 hl r x
 refine bS (ht [] s1 (af3 N vs) H _ I hq) (fun fl s' hs=>?_) fun e s' hs=>hs
 have fin:∀ {W':St} {H':Hp} {v:V} {u:Value},Inv (bh7 CX P w K mg base N qual scope f z A h s H E) [] W' H' s'->RelV v u->Q v H'->CE h P w H s Q u s' :=
  fun {W' H' v u} J rv q=>⟨v,H',J.os,J.bare,J.base,J.hok,rv,q⟩
 cases fl with
 | ret u =>
  obtain⟨v,W',H',J,rv,q⟩:=hs
  exact fin J rv q
 | next =>
  obtain⟨W',H',J,q⟩:=hs
  exact fin (v:=V.non) (u:=Value.none) J rfl q
 | brk =>
  obtain⟨_,_,_,q⟩:=hs
  exact cj q
 | cont =>
  obtain⟨_,_,_,q⟩:=hs
  exact cj q
section
variable {X:Cx} {x:Str} {p pos:Pos} {e:Expr} {es:yK} {t:TA} {id T:String} {r:List V->Hp->VK->Prop}
def tCB (r:List V->Hp->VK->Prop)(t:TA):TE:=fun W H Q=>t W H fun vs H1=>r vs H1 Q
theorem ad1 (hc:aa9 X (.builtin id) r)(hg:Gl X x)(hm:X.mg x=none)(hv:bq x=some (.builtin id))(ha:PA X (e::es) t)(hn:x ≠ "__name__":=by decide)(B:(x==("__debug__":Str))=false:=by decide)
  (he:aV (e::es) X.env=(false,eval e X.env)::aV es X.env:=by rfl) (z:(cD pos (aV es X.env)).any (·.1)=false:=by rfl):PE X (.Call (.Name x p) (e::es) [] pos) (tCB r t):=by
 intro y s W H Q I h
 refine cK (aB2 I hg hm hv ?_ hn B)
 exact PyProof.Rows.callWith_builtin1 (thn (ha pos y s W H _ I h) fun us s1 ⟨vs,J,G,r1,q1⟩=>hc y s1 W J vs us Q G r1 q1) he z
theorem ae1 (hc:aa9 X (.type T) r)(hg:Gl X x)(hm:X.mg x=none)(hv:bq x=some (.type T))(ha:PA X (e::es) t)(hn:x ≠ "__name__":=by decide)(B:(x==("__debug__":Str))=false:=by decide)
  (he:aV (e::es) X.env=(false,eval e X.env)::aV es X.env:=by rfl) (z:(cD pos (aV es X.env)).any (·.1)=false:=by rfl):PE X (.Call (.Name x p) (e::es) [] pos) (tCB r t):=by
 intro y s W H Q I h
 refine cK (aB2 I hg hm hv ?_ hn B)
 exact ft (thn (ha pos y s W H _ I h) fun us s1 ⟨vs,J,G,r1,q1⟩=>hc y s1 W J vs us Q G r1 q1) he z
end
end L2
end
noncomputable section
namespace HT
open PySem PyProof.Rows
section
open PySem.SeqAt
open PySem.AutoSeq1 (wpAny_loadPart')
open PySem.MeetsSeq PySem.MeetsSeq2 PySem.MeetsSeq3
end
section
variable {prog:aD} {w:World} {A:aP} {E:Value->ae->Prop} {s:ae}
theorem cat_tup {t b:Addr}{vs ws:yG}{Q:Value->ae->Prop}(ht:IsTup s.heap t vs.toArray)(hb:IsTup s.heap b ws.toArray)(hv:vs≠[])
  (h1:ws=[]->Q (.ref t) s) (h2:ws≠[]->Q (.ref s.heap.objs.size) { s with heap:=s.heap.push { cls:=.type "tuple",data:=.seq (vs++ws).toArray } })
  (hsz:vs.length+ws.length<=aL):wpAny (model prog w) A (b7 .Add (.ref t) (.ref b)) Q E s:=by
 obtain⟨⟨cls,dd,data,sl⟩,ho,hc,n,hd⟩:=id ht
 obtain⟨⟨a0,y,J,G⟩,h,B,Z,z⟩:=id hb
 simp only at hc hd B z
 subst hc hd B z
 have e:vs.toArray++ws.toArray=(vs++ws).toArray:=by simp
 by_cases hw:ws=[]
 .exact jo ⟨_,ho,rfl⟩ ⟨_,h,rfl⟩ gp iQ el d9 (dT _ _)
   (tuple_addW1 t b vs.toArray ws.toArray n Z dd y sl G (by simpa using hv) (by simp[hw])) ⟨ho,h,h1 hw⟩
 .refine jo ⟨_,ho,rfl⟩ ⟨_,h,rfl⟩ gp iQ el d9 (dT _ _)
   (tuple_addW2 t b vs.toArray ws.toArray n Z dd y sl G (by simpa using hv) (by simpa using hw) (by rw[av,av];exact hsz)) ⟨ho,h,?_⟩
  rw[e]
  exact h2 hw
end
end HT
noncomputable section
namespace L2
open PySem PySem.Spec PyProof.Rows
abbrev TO:=St->Hp->(Option Int->Hp->Prop)->Prop
theorem ak9 {ns:List Int}:∀ {us:yG},Vals (ns.map V.int) us->fW us ns:=by
 induction ns with
 | nil=>intro us r;rw[fw]at r;cases r;exact .nil
 | cons n ns ih =>
  intro us r
  rw[aU]at r
  cases r with
  | cons r1 r2 =>
   obtain⟨t,e⟩:=r1
   subst e
   exact .cons n t (ih r2)
section
variable {X:Cx} {e:Expr} {te:TE} {lo hi:Option Expr} {tl th:TO} {pos p2:Pos}
def bU1 (K:af):R2:=fun x y H Q=>∃ a b xs ys,x=.ref a/\y=.ref b/\SqT K H a xs/\SqT K H b ys/\xs≠[]/\xs.length+ys.length<=aL /\
 (ys=[]->Q (.ref a) H)/\(ys≠[]->∀ p,H p=none->Q (.ref p) (upd H p (.tup (xs++ys))))
theorem Vals.nil_iff {h:List V}{us:yG}(r:Vals h us):us=[]↔h=[]:=by
 cases r with
 | nil=>simp
 | cons _ _=>simp
theorem bk2:OpR X (b7 .Add) (bU1 X.K):=by
 intro J s W H x y v u Q I rx Z h
 obtain⟨a,b,xs,ys,rfl,rfl,ha,hb,hx,hz,q1,q2⟩:=h
 cases rx
 cases Z
 obtain⟨its,r1,p1,_⟩:=I.tuple ha
 obtain⟨G,B,p2,_⟩:=I.tuple hb
 refine HT.cat_tup p1 p2 (fun z=>hx (r1.nil_iff.mp z)) (fun z=>⟨.ref a,H,I,rfl,q1 (B.nil_iff.mp z)⟩) (fun z=>?_) (by rw[<-r1.length,<-B.length];exact hz)
 refine⟨.ref s.heap.objs.size,_,I.laid (t':=s.toks) (o:=.tup (xs++ys)) (fun b ob q=>ak _ q) (ah _) ?_,rfl,q2 (fun w=>z (B.nil_iff.mpr w)) _ (I.hok.fresh (ah _))⟩
 exact⟨by rw[aC];exact hz,_,r1.append B,kr _ _⟩
end
noncomputable def ixN (n:Nat)(i:Int):Option Nat:=if 0<=i then(if i<n then some i.toNat else none)else if -(n:Int)<=i then some (i+n).toNat else none
noncomputable def atI {α:Type}(xs:List α)(i:Int):Option α:=(ixN xs.length i).bind fun j=>xs[j]?
theorem aR5 {n:Nat}{i:Int}{j:Nat}(h:ixN n i=some j):seqIndex? i n=some j/\j<n/\-(n:Int)<=i/\i<n:=by
 unfold ixN at h
 by_cases h0:0<=i
 .rw[if_pos h0]at h
  by_cases h1:i<n
  .rw[if_pos h1]at h
   have e:i.toNat=j:=au h
   exact⟨by rw[jH h0 h1,e],by lia,by lia,h1⟩
  .rw[if_neg h1]at h;cases h
 .rw[if_neg h0]at h
  by_cases h1:-(n:Int)<=i
  .rw[if_pos h1]at h
   have e:(i+n).toNat=j:=au h
   exact⟨by rw[jp (by lia) h1,e],by lia,h1,by lia⟩
  .rw[if_neg h1]at h;cases h
theorem ay1 {α:Type}{y:List α}{i:Int}{v:α}(h:atI y i=some v):∃ j,seqIndex? i y.length=some j/\y[j]?=some v/\j<y.length/\-(y.length:Int)<=i/\i<y.length:=by
 unfold atI at h
 cases e:ixN y.length i with
 | none=>rw[e]at h;cases h
 | some j =>
  rw[e]at h
  obtain⟨J,z,G,B⟩:=aR5 e
  exact⟨j,J,h,z,G,B⟩
def aN6 (b:Expr):Prop:=∀ o i,subscripted b false o i=operate [o,i] (getItem o i)
def IxR (X:Cx)(r:R2):Prop :=
 ∀(value slice:Expr) (pins:yA) (s:ae) (W:St) (H:Hp) (x y:V) (v u:Value) (Q:VK),Inv X pins W H s->RelV x v->RelV y u->r x y H Q ->
  subscripted slice false v u=operate [v,u] (getItem v u)->wpAny (model X.prog X.w) X.A (subscriptTail value slice v u) (EP X pins W Q) X.xe s
def MtR (X:Cx)(id:String)(r:V->List V->Hp->VK->Prop):Prop :=
 ∀(pins:yA) (s:ae) (W:St) (H:Hp) (x:V) (xs:List V) (v:Value) (us:yG) (Q:VK),Inv X pins W H s->RelV x v->Vals xs us->r x xs H Q ->
  wpAny (model X.prog X.w) X.A (call (.builtin id) (v::us)) (EP X pins W Q) X.xe s
section
variable {X:Cx} {a b:Expr} {ta tb:TE} {pos:Pos}
theorem bP9 {r:R2}(hr:IxR X r)(ha:PE X a ta)(hb:PE X b tb)(hs:aN6 b):PE X (.Subscript a b pos) (tOp r ta tb):=by
 intro z s W H Q I h
 exact Subscript_ (bP3 ha hb I h fun v u s2 x y J Z G B q=>hr a b z s2 W J x y v u Q Z G B q (hs _ _))
def bW4 (K:af):R2:=fun x y H Q=>∃ p xs i v,x=.ref p/\y=.int i/\SqL K H p xs/\atI xs i=some v/\Q v H
def bW2 (K:af):R2:=fun x y H Q=>∃ p xs i v,x=.ref p/\y=.int i/\SqT K H p xs/\atI xs i=some v/\Q v H
def bY4:R2:=fun x y H Q=>∃ z i c,x=.str z/\y=.int i/\z.length<=aL/\atI z.cps.toList i=some c/\Q (.str ⟨#[c]⟩) H
theorem bm6:IxR X (bW4 X.K):=by
 intro Z a0 B s W H x y v u Q I rx ry h hs
 obtain⟨p,xs,i,z,rfl,rfl,hq,he,q⟩:=h
 cases rx
 obtain⟨t,rfl⟩:=ry
 obtain⟨its,r,pl,hz⟩:=I.list hq
 obtain⟨j,G,h2,h3,h4,h5⟩:=ay1 he
 obtain⟨w,ew,J⟩:=r.get h2
 have hl:=r.length
 have hn:=ai3
 have fin:EP X B W Q w s:=⟨z,H,I,J,q⟩
 by_cases h0:0<=i
 .have hj:i.toNat=j:=by
   rw[jH h0 h5]at G
   exact au G
  exact item_listR pl.isList h0 (by lia) (by rw[hj];simpa using ew) fin hs
 .have hj:(i+(its.toArray.size:Int)).toNat=j:=by
   rw[jp (by lia) h4]at G
   rw[av,<-hl]
   exact au G
  exact gL (x:=w) pl.isList.typeIs slot_list_getitem.lookup
   (wpAny_getItem_list_neg (Q:=fun r s'=>r=w/\EP X B W Q r s') pl.isList (by omega) (by rw[av]<;>lia) (by lia) (by rw[hj];simpa using ew) ⟨rfl,fin⟩) hs
theorem ix_tup:IxR X (bW2 X.K):=by
 intro J Z B s W H x y v u Q I rx ry h hs
 obtain⟨p,xs,i,z,rfl,rfl,hq,he,q⟩:=h
 cases rx
 obtain⟨t,rfl⟩:=ry
 obtain⟨its,r,pl,hz⟩:=I.tuple hq
 obtain⟨j,h1,h2,h3,h4,h5⟩:=ay1 he
 obtain⟨w,ew,G⟩:=r.get h2
 have hl:=r.length
 have hn:=ai3
 have fin:EP X B W Q w s:=⟨z,H,I,G,q⟩
 exact gL (x:=w) pl.typeIs slot_tuple_getitem.lookup
  (getItem_tuple (j:=j) (Q:=fun r s'=>r=w/\EP X B W Q r s') pl (by lia) (by lia) (by rw[av,<-hl];exact h1) (by simpa using ew) ⟨rfl,fin⟩) hs
theorem ix_str:IxR X bY4:=by
 intro B G J s W H x y v u Q I rx ry h hs
 obtain⟨z,i,c,rfl,rfl,hz,he,q⟩:=h
 obtain⟨t,rfl⟩:=rx
 obtain⟨t',rfl⟩:=ry
 obtain⟨j,Z,h2,h3,h4,h5⟩:=ay1 he
 have hl:z.cps.toList.length=z.length:=by simp[Str.length]
 rw[hl]at Z h4 h5
 have hn:=ai3
 exact tail_any (typeIs_str s z t) slot_str_getitem.lookup (getItem_str (c:=c) (by
  have e1:decide (i < -(2^63:Int))=false:=decide_eq_false (by lia)
  have e2:decide (i ≥ 2^63)=false:=decide_eq_false (by lia)
  rw[e1,e2,Bool.or_false]) (by rw[Z];simpa using h2) ⟨.str ⟨#[c]⟩,H,I.tok _,⟨_,rfl⟩,q⟩) hs
theorem aF3 (its:yG)(n j:Nat)(u:Value):c6 (·.setIfInBounds j u) { cls:=.type "list",data:=.seq its.toArray n }={ cls:=.type "list",data:=.seq (its.set j u).toArray n }:=by
 simp[c6]
theorem Inv.lst {y:yA}{W:St}{H:Hp}{s:ae}{p:Addr}{B:List V}(I:Inv X y W H s)(h:H p=some (.lst B)) :
  ∃(its:yG) (n:Nat),Vals B its/\s.heap.get? p=some { cls:=.type "list",data:=.seq its.toArray n }/\B.length<=aL:=by
 obtain⟨z,its,n,r,e⟩:=I.hok p _ h
 exact⟨its,n,r,e,z⟩
theorem Inv.lstUpd {y:yA}{W:St}{H:Hp}{s:ae}{p:Addr}{G ys:List V}{its its':yG}{n z:Nat}{f:Obj->Obj}(I:Inv X y W H s)(h:H p=some (.lst G))
  (ho:s.heap.get? p=some { cls:=.type "list",data:=.seq its.toArray n }) (B:f { cls:=.type "list",data:=.seq its.toArray n }={ cls:=.type "list",data:=.seq its'.toArray z }) (r:Vals ys its') (hz:ys.length<=aL) (t:Nat) :
  Inv X y W (upd H p (.lst ys)) { s with heap:=s.heap.update p f,toks:=t }:=by
 have e:(s.heap.update p f).get? p=some { cls:=.type "list",data:=.seq its'.toArray z }:=by
  rw[hZ f ho (by rw[B]<;>rfl),B]
 refine I.write (x:=p) (e:=p) (by rw[h];trivial) (.inl rfl) (fun b u hb q=>(dh _ _ (cC hb)).trans q) ⟨_,e⟩ ?_
 exact⟨hz,its',z,r,e⟩
def bV2:V->V->V->Hp->(Hp->Prop)->Prop:=fun o i v H Q=>∃ p xs k j,o=.ref p/\i=.int k/\H p=some (.lst xs)/\ixN xs.length k=some j/\Q (upd H p (.lst (xs.set j v)))
theorem bc5:bR4 X bV2:=by
 intro y s W H o i v ov iv u Q I ro ri rv h
 obtain⟨p,xs,k,j,rfl,rfl,hp,hj,q⟩:=h
 cases ro
 obtain⟨t,rfl⟩:=ri
 obtain⟨its,n,r,ho,hz⟩:=I.lst hp
 obtain⟨z,h2,Z,G⟩:=aR5 hj
 have B:=r.length
 have hn:=ai3
 have J:Inv X y W (upd H p (.lst (xs.set j v))) { s with heap:=s.heap.update p (c6 (·.setIfInBounds j u)) } :=
  I.lstUpd hp ho (aF3 its n j u) (r.set rv j) (by rw[aK];exact hz) s.toks
 by_cases h0:0<=k
 .have hk:k.toNat=j:=by
   rw[jH h0 G]at z
   exact au z
  exact PySem.W.ki_setAt ho h0 (by lia) (by rw[av,<-B];exact G) (by rw[hk];exact⟨_,J,q⟩)
 .have hk:(k+(its.toArray.size:Int)).toNat=j:=by
   rw[jp (by lia) Z]at z
   rw[av,<-B]
   exact au z
  exact PySem.W.ki_setBack ho (by omega) (by rw[av,<-B];exact Z) (by lia) (by rw[hk];exact⟨_,J,q⟩)
theorem at8:aa9 X (.builtin "len") (fun G H Q=>∃ p ys,G=[.ref p]/\(SqL X.K H p ys\/SqT X.K H p ys)/\Q (.int ys.length) H):=by
 intro B s W H G us Q I r h
 obtain⟨p,ys,rfl,hq,q⟩:=h
 obtain⟨u,rfl,J⟩:=qy r
 cases J
 have hn:=ai3
 rcases hq with hq|hq
 .obtain⟨its,z,pl,hz⟩:=I.list hq
  have y:=z.length
  exact Calls.call_len_list pl.isList (by simp only[av]<;>lia) ⟨.int ys.length,H,I.tok _,⟨s.toks+1,by rw[av,y]⟩,q⟩
 .obtain⟨its,z,pl,hz⟩:=I.tuple hq
  have y:=z.length
  exact len_tuple pl (by simp only[av]<;>omega) ⟨.int ys.length,H,I.tok _,⟨s.toks+1,by rw[av,y]⟩,q⟩
theorem au4:aa9 X (.builtin "len") (fun B H Q=>∃ z,B=[.str z]/\z.length<=aL/\Q (.int z.length) H):=by
 intro y s W H B us Q I r h
 obtain⟨z,rfl,hz,q⟩:=h
 obtain⟨u,rfl,t,rfl⟩:=qy r
 have hn:=ai3
 exact len_str (by lia) ⟨.int z.length,H,I.tok _,⟨_,rfl⟩,q⟩
theorem aa9.or {f:Value}{r G:List V->Hp->VK->Prop}(h:aa9 X f r)(h':aa9 X f G):aa9 X f (fun z H Q=>r z H Q\/G z H Q):=by
 intro y s W H z us Q I B q
 rcases q with q|q
 .exact h y s W H z us Q I B q
 .exact h' y s W H z us Q I B q
theorem aq3:aa9 X (.type "list") (fun Z H Q=>∃ p ys,Z=[.ref p]/\(SqL X.K H p ys\/SqT X.K H p ys)/\∀ l,H l=none->Q (.ref l) (upd H l (.lst ys))):=by
 intro G s W H Z us Q I r h
 obtain⟨p,ys,rfl,hq,q⟩:=h
 obtain⟨u,rfl,rx⟩:=qy r
 cases rx
 have fin:∀(its:yG),Vals ys its->ys.length<=aL->∀(h':Heap) (z:Nat),(∀ b J,s.heap.get? b=some J->h'.get? b=some J) ->
   h'.get? s.heap.objs.size=some { cls:=.type "list",dict:=none,data:=.seq its.toArray z,slots:=#[] }->EP X G W Q (.ref s.heap.objs.size) { s with heap:=h' }:=fun its y hz h' z kp e =>
  ⟨.ref s.heap.objs.size,_,I.laid (t':=s.toks) kp (ah _) (show aa7 X.prog X.w _ h' _ (.lst ys)from⟨hz,its,z,y,e⟩),rfl,q _ (I.hok.fresh (ah _))⟩
 rcases hq with hq|hq
 .obtain⟨its,y,pl,hz⟩:=I.list hq
  have B:=y.length
  obtain⟨o,ho,hc,n,hd⟩:=pl.isList
  exact call_list_seq p (.inl rfl) ho hc hd (fun h' z kp e=>fin its y hz h' z kp e) (by simp only[av]<;>lia)
 .obtain⟨its,y,pl,hz⟩:=I.tuple hq
  have B:=y.length
  obtain⟨o,ho,hc,n,hd⟩:=pl
  exact call_list_seq p (.inr rfl) ho hc hd (fun h' z kp e=>fin its y hz h' z kp e) (by simp only[av]<;>omega)
theorem ao6:aa9 X (.type "tuple") (fun J H Q=>∃ p ys,J=[.ref p]/\((SqL X.K H p ys/\∀ l,H l=none->Q (.ref l) (upd H l (.tup ys)))\/(SqT X.K H p ys/\Q (.ref p) H))):=by
 intro y s W H J us Q I r h
 obtain⟨p,ys,rfl,h⟩:=h
 obtain⟨u,rfl,rx⟩:=qy r
 cases rx
 rcases h with⟨hq,q⟩|⟨hq,q⟩
 .obtain⟨its,z,pl,hz⟩:=I.list hq
  have G:=z.length
  refine call_tuple_list pl.isList (fun h' kp=>?_) (by simp only[av]<;>omega)
  have B:Inv X y W H { s with heap:=h' }:=I.kept (t':=s.toks) kp
  have Z:Inv X y W (upd H h'.objs.size (.tup ys)) { s with heap:=h'.push { cls:=.type "tuple",data:=.seq its.toArray } } :=
   B.laid (t':=s.toks) (fun b o e=>ak _ e) (ah _) (show aa7 X.prog X.w _ _ _ (.tup ys)from⟨hz,its,z,kr _ _⟩)
  exact⟨.ref h'.objs.size,_,Z,rfl,q _ (B.hok.fresh (ah _))⟩
 .obtain⟨its,z,pl,hz⟩:=I.tuple hq
  exact call_tuple_same pl ⟨.ref p,H,I,rfl,q⟩
def tyV (K:af)(T:String)(x:V)(H:Hp):Prop:=match x with
 | .str _=>T = "str"
 | .int _=>T = "int"
 | .ref p=>(T = "list"/\∃ xs,SqL K H p xs)\/(T = "tuple"/\∃ o,K.lookup p=some o/\o.cls=.type "tuple"/\o.dict=none) \/
   (T = "dict"/\((∃ kvs,H p=some (.dK kvs))))
 | _=>False
theorem bi4 {h:yA}{W:St}{H:Hp}{s:ae}{T:String}{x:V}{v:Value}(I:Inv X h W H s)(r:RelV x v)(y:tyV X.K T x H) :
  s.TypeIs v T/\∀ a,v=.ref a->∃ ob,s.heap.get? a=some ob/\ob.dict=none:=by
 cases x with
 | str z =>
  obtain⟨t,rfl⟩:=r
  cases(show T = "str" from y)
  exact⟨typeIs_str s z t,fun _ e=>nomatch e⟩
 | int i =>
  obtain⟨t,rfl⟩:=r
  cases(show T = "int" from y)
  exact⟨gM s i t,fun _ e=>nomatch e⟩
 | ref p =>
  cases r
  rcases y with⟨rfl,B,hq⟩|⟨rfl,o,hk,hc,hd⟩|⟨rfl,kvs,hk⟩
  .obtain⟨its,_,pl,_⟩:=I.list hq
   refine⟨pl.isList.typeIs,fun a e=>?_⟩
   cases e
   obtain⟨o,n,e,c,hd,_⟩:=pl
   exact⟨o,e,hd⟩
  .refine⟨⟨o,I.kIn p o hk,hc⟩,fun a e=>?_⟩
   cases e
   exact⟨o,I.kIn _ o hk,hd⟩
  .obtain⟨_,_,_,_,o,_,_,e,ex,_⟩:=I.hok p _ hk
   refine⟨⟨o,e,ex.1⟩,fun a e2=>?_⟩
   cases e2
   exact⟨o,e,ex.2.1⟩
 | _=>exact cj y
def bX1 (K:af)(T:String)(r:V->List V->Hp->VK->Prop)(to:TE):TE:=fun W H Q=>to W H fun x H1=>tyV K T x H1/\r x [] H1 Q
def tBM (K:af)(T:String)(r:V->List V->Hp->VK->Prop)(to:TE)(t:TA):TE:=fun W H Q=>to W H fun x H1=>tyV K T x H1/\t W H1 fun xs H2=>r x xs H2 Q
variable {o e:Expr} {es:yK} {to:TE} {t:TA} {name:Str} {apos cpos:Pos} {T id:String} {r:V->List V->Hp->VK->Prop}
theorem bJ3 (pa:jV T)(slot:Slot T name id)(G:typeOf (.builtin id)=pure (.type "method_descriptor"))(hm:MtR X id r)(ho:PE X o to)
  (B:c5 o name X.env (eval o X.env)=eval o X.env:=by rfl) (z:(apos.endLine==cpos.line)=true:=by rfl):PE X (.Call (.Attribute o name apos) [] [] cpos) (bX1 X.K T r to):=by
 intro y s W H Q I h
 refine wpAny_Call_method0_late B z (thn (ho y s W H _ I h) fun v s1 ⟨x,H1,J,r1,Z,q1⟩=>?_)
 obtain⟨h1,h2⟩:=bi4 J r1 Z
 exact⟨T,id,pa,slot,G,h1,h2,cc rfl (PySem.evalArgs_none (hm y s1 W H1 x [] v [] Q J r1 .nil q1))⟩
theorem bU7 (pa:jV T)(slot:Slot T name id)(Z:typeOf (.builtin id)=pure (.type "method_descriptor"))(hm:MtR X id r)(ho:PE X o to)(ha:PA X (e::es) t)
  (G:c5 o name X.env (eval o X.env)=eval o X.env:=by rfl)
  (J:((cD cpos (aV (e::es) X.env)).all (fun x=>!x.1)&&(eg cpos (cS [] X.env)).all (fun x=>x.1.isSome)
   && decide ((e::es).length+([]:List dX).length+(if([]:List dX).isEmpty then 0 else 1)<30))=true:=by rfl)
  (B:(apos.endLine==cpos.line)=true:=by rfl) (hs:aV (e::es) X.env=(false,eval e X.env)::aV es X.env:=by rfl) (z:(cD cpos (aV es X.env)).any (·.1)=false:=by rfl) :
  PE X (.Call (.Attribute o name apos) (e::es) [] cpos) (tBM X.K T r to t):=by
 intro y s W H Q I h
 refine wpAny_Call_method_late G J B rfl (thn (ho y s W H _ I h) fun v s1 ⟨x,H1,I1,r1,ty,q1⟩=>?_)
 obtain⟨h1,h2⟩:=bi4 I1 r1 ty
 refine⟨T,id,pa,slot,Z,h1,h2,?_⟩
 have hA:=ha cpos y s1 W H1 _ I1 q1
 rw[hs]at hA ⊢
 refine cc (by show(false||(cD cpos (aV es X.env)).any (·.1))=false;rw[z]<;>rfl) (cU ?_)
 exact thn hA fun us s2 ⟨vs,H2,I2,r2,q2⟩=>hm y s2 W H2 x vs v us Q I2 r1 r2 q2
end
def MtM (X:Cx)(id:String)(r:V->List V->Hp->VK->Prop):Prop :=
 ∀(pins:yA) (s:ae) (W:St) (H:Hp) (x:V) (xs:List V) (v:Value) (us:yG) (Q:VK),Inv X pins W H s->RelV x v->Vals xs us->r x xs H Q ->
  wpAny (model X.prog X.w) X.A (call (.builtin id) (v::us)) (EP X pins W Q) X.xe s
theorem Vals.one:∀ {x:V} {us:yG},Vals [x] us->∃ u,us=[u]/\RelV x u
 | _,_,.cons r .nil=>⟨_,rfl,r⟩
theorem Vals.zero:∀ {us:yG},Vals [] us->us=[]
 | _,.nil=>rfl
theorem Vals.reverse {y:List V}{us:yG}(h:Vals y us):Vals y.reverse us.reverse:=by
 induction h with
 | nil=>exact .nil
 | cons r t ih=>rw[et,et];exact Vals.append ih (.cons r .nil)
theorem Vals.rep {y:List V}{us:yG}(h:Vals y us):∀ k:Nat,Vals (aF k y).flatten (aF k us).flatten
 | 0=>.nil
 | k+1=>by
  rw[bH,bH,cV,cV]
  exact Vals.append h (Vals.rep h k)
theorem av1 (its:yG):∀(k:Nat) (h:yG),
  jW (fun x1 x2=>x1++x2) h.toArray (aF k its.toArray)=(h++(aF k its).flatten).toArray
 | 0,h=>by simp
 | k+1,h=>by
  have e:h.toArray++its.toArray=(h++its).toArray:=by simp
  have e2:(h++its)++(aF k its).flatten=h++(aF (k+1) its).flatten:=by
   rw[bH,cV,aM]
  rw[<-e2,<-av1 its k (h++its),<-e,bH,dr]
section
variable {X:Cx} {pins:yA} {W:St} {H:Hp} {s:ae} {l b:Addr} {xs ys zs:List V}
theorem Inv.lset {its its':yG}{n:Nat}{f:Array Value->Array Value}{t':Nat}(I:Inv X pins W H s)(y:H l=some (.lst xs))
  (e:s.heap.get? l=some { cls:=.type "list",data:=.seq its.toArray n }) (h:f its.toArray=its'.toArray) (hv:Vals ys its') (hz:ys.length<=aL) :
  Inv X pins W (upd H l (.lst ys)) { s with heap:=s.heap.update l (c6 f),toks:=t' }:=by
 have q:=PySem.IsL.update e f
 rw[h]at q
 refine I.write (x:=l) (e:=l) (by rw[y];exact trivial) (.inl rfl) (fun z u hb hu=>(dh s.heap (c6 f) (cC hb)).trans hu) ⟨_,q⟩ ?_
 exact⟨hz,its',_,hv,q⟩
theorem Inv.lnew {its:yG}{t':Nat}(I:Inv X pins W H s)(hv:Vals ys its)(hz:ys.length<=aL) :
  Inv X pins W (upd H s.heap.objs.size (.lst ys)) { s with heap:=s.heap.push { cls:=.type "list",data:=.seq its.toArray },toks:=t' } :=
 I.laid (fun _ _ q=>ak _ q) (ah _) ⟨hz,its,0,hv,aX _ rfl⟩
theorem Inv.fresh (I:Inv X pins W H s):H s.heap.objs.size=none:=I.hok.fresh (ah _)
theorem Inv.lstM (I:Inv X pins W H s)(h:H l=some (.lst xs)):xs.length<=aL/\∃(its:yG) (n:Nat),Vals xs its/\xs.length=its.length/\s.heap.get? l=some { cls:=.type "list",data:=.seq its.toArray n }:=by
 obtain⟨z,its,n,r,e⟩:=I.hok l _ h
 exact⟨z,its,n,r,r.length,e⟩
theorem aZ2 {n:Nat}(h:n<=aL):dU n=false:=by
 unfold dU
 exact decide_eq_false (by lia)
end
section
variable {X:Cx}
def br5:V->List V->Hp->VK->Prop:=fun x vs H Q=>∃ l xs y,x=.ref l/\vs=[y]/\H l=some (.lst xs)/\xs.length<aL/\Q .non (upd H l (.lst (xs++[y])))
theorem aq9:MtM X "list.append" br5:=by
 intro G s W H x vs v us Q I J rv h
 obtain⟨l,xs,y,rfl,rfl,B,hz,q⟩:=h
 cases J
 obtain⟨u,rfl,Z⟩:=rv.one
 obtain⟨z,its,n,r,hl,e⟩:=I.lstM B
 refine gN h9 ⟨_,e,rfl⟩ F.entry_list_append (F.args_list_append_2 _ _) (PySem.list_append l its.toArray n u (by rw[av];lia)) ⟨e,?_⟩
 refine⟨.non,_,I.lset (its':=its++[u]) B e (by simp) (r.append (.cons Z .nil)) ?_,rfl,q⟩
 rw[aC,bO]
 lia
def aV2:V->List V->Hp->VK->Prop:=fun x vs H Q=>∃ l xs,x=.ref l/\vs=[]/\H l=some (.lst xs)/\Q .non (upd H l (.lst xs.reverse))
theorem aF0:MtM X "list.reverse" aV2:=by
 intro G s W H x vs v us Q I J rv h
 obtain⟨l,xs,rfl,rfl,B,q⟩:=h
 cases J
 have y:=rv.zero
 subst y
 obtain⟨z,its,n,r,Z,e⟩:=I.lstM B
 refine gN gO ⟨_,e,rfl⟩ F.entry_list_reverse (F.args_list_reverse_1 _) (AutoSeq1.list_reverse_list_0 l its.toArray n (by rw[av];lia)) ⟨e,?_⟩
 refine⟨.non,_,I.lset (its':=its.reverse) B e (by simp) r.reverse ?_,rfl,q⟩
 rw[List.length_reverse]
 omega
def ca0:R2:=fun x y H Q=>∃ l b xs zs,x=.ref l/\y=.ref b/\H l=some (.lst xs)/\H b=some (.lst zs)/\xs.length+zs.length<=aL/\∀ p,H p=none->Q (.ref p) (upd H p (.lst (xs++zs)))
theorem bE7:OpR X (b7 .Add) ca0:=by
 intro G s W H x y v u Q I rx J h
 obtain⟨l,b,xs,zs,rfl,rfl,hH,hB,hz,q⟩:=h
 cases rx
 cases J
 obtain⟨z,its,n,r,hl,e⟩:=I.lstM hH
 obtain⟨z2,B,n2,r2,Z,e2⟩:=I.lstM hB
 refine PySem.P.add_list e e2 ?_ (by rw[av,av];lia)
 have ea:its.toArray++B.toArray=(its++B).toArray:=by simp
 rw[ea]
 exact⟨.ref _,_,I.lnew (t':=s.toks) (r.append r2) (by rw[aC];omega),rfl,q _ I.fresh⟩
def bZ2:R2:=fun x y H Q=>∃ l k xs,x=.ref l/\y=.int k/\H l=some (.lst xs)/\-(2^63)<=k/\k<2^63/\xs.length*k.toNat<=aL /\
 ∀ p,H p=none->Q (.ref p) (upd H p (.lst (aF k.toNat xs).flatten))
theorem bw3 {α:Type}(h:List α)(k:Nat):(aF k h).flatten.length=k*h.length:=by
 induction k with
 | zero=>simp
 | succ k ih=>rw[bH,cV,aC,ih,Nat.succ_mul,gP]
theorem bz4:OpR X (b7 .Mult) bZ2:=by
 intro a1 s W H x y v u Q I rx ry h
 obtain⟨l,k,xs,rfl,rfl,hH,h1,h2,hz,q⟩:=h
 cases rx
 obtain⟨t,rfl⟩:=ry
 obtain⟨z,its,n,r,hl,e⟩:=I.lstM hH
 have J:its.toArray.size*k.toNat<=aL:=by rw[av,<-hl];exact hz
 have a0:¬ its.toArray.size*k.toNat > (2^63 - 1) / 8:=by
  have:(aL:Nat)<=(2^63 - 1) / 8:=by decide
  lia
 have G:¬(!Builtin.List.listFitsIndex k)=true:=by
  rw[fitsIndex_both h1 h2]
  exact aQ
 have B:¬ dU (its.toArray.size*k.toNat)=true:=by
  rw[aZ2 J]
  exact aQ
 have Z:jW (fun x1 x2=>x1++x2) #[] (aF (if its.toArray.isEmpty=true then 0 else k.toNat) its.toArray)=(aF k.toNat its).flatten.toArray:=by
  have f0:∀ m:Nat,jW (fun x1 x2=>x1++x2) #[] (aF m its.toArray)=(aF m its).flatten.toArray:=fun m=>by
   have:=av1 its m []
   rw[hE]at this
   exact this
  rw[f0]
  cases its with
  | nil=>simp
  | cons a r'=>rw[if_neg (by simp)]
 refine fP (T := "list") (U := "int") (by decide) ⟨_,e,rfl⟩ (fun s'=>gM s' k t) noFill_list_mul i3 d6 repeat_list iH.lookup
  (gN d6 (gM s k t) iI (io _ _) (int___rmul___int_list k t l its.toArray n)
   ⟨e,rfl,⟨_,e,rfl⟩,gN F.slot_list_mul ⟨_,e,rfl⟩ F.entry_list_mul (F.args_list_mul_2 _ _) (AutoListH.list___mul___list_int_3 l its.toArray n k t G a0 B) ⟨e,?_⟩⟩)
 rw[Z]
 exact⟨.ref _,_,I.lnew (t':=s.toks) (r.rep k.toNat) (by rw[bw3,jq];exact hz),rfl,q _ I.fresh⟩
end
section
variable {prog:aD} {w:World} {A:aP} {E:Value->ae->Prop} {s:ae}
end
section
variable {X:Cx}
end
end L2
end
noncomputable section
namespace Att
open PySem PySem.W PySem.Calls PyProof.Rows
theorem ints_of_wellAll {P:Params}{h:Heap}:∀(ns:List Int) (vs:yG),WellAll P h vs (ns.map WData.int)->fW vs ns:=by
 intro ns
 induction ns with
 | nil =>
  intro vs w
  rw[fw]at w
  cases w
  exact .nil
 | cons n ns ih =>
  intro vs w
  rw[aU]at w
  cases w with
  | cons a b =>
   cases a
   exact .cons _ _ (ih _ b)
theorem script_of {l:OpenLaw}{n:Nat}(hn:l.most=some n){P:Params}{h:Heap}{args:List WData}{z:yG}
  (y:l.row.toRowW.claim.pre args=true) (Z:WellAll P h z args) :
  ∃ a vs ns,z=[Value.ref a]/\args=[WData.list (ns.map WData.int)]/\h.get? a=some { cls:=.type "list",data:=.seq vs.toArray }/\fW vs ns/\ns.length<=n:=by
 have a0:WShape.hasAll [] args [.list .int]=true:=(pre_splitW y).1
 have hc:l.pre.holds [] { args:=args }=true:=(pre_splitW y).2
 obtain⟨d,r,rfl,h1,h2⟩:=hasAllW_cons a0
 obtain rfl:=hasAllW_nil h2
 obtain⟨xs,rfl,h3⟩:=hasW_list h1
 obtain⟨ns,rfl⟩:=items_int h3
 have B:ns.length<=n:=by
  unfold OpenLaw.pre at hc
  have J:(WTm.not (.lt (.lit (.int (n:Int))) (.len (.arg 0)))).holds [] { args:=[.list (ns.map .int)] }=true:=by
   have J:=(holds_andW hc).1
   rw[hn]at J
   exact J
  have G:=condW_of J (w_not (w_lt w_lit (w_len_list (w_arg rfl))))
  rw[az]at G
  refine jC fun q=>?_
  have q':(n:Int)<((ns.length:Nat):Int):=by omega
  first
   | (rw[decide_eq_true q']at G;exact absurd G (by decide))
   | (simp at G;omega)
 cases Z with
 | cons w1 w2 =>
  cases w2
  cases w1 with
  | list ho hall=>exact⟨_,_,ns,rfl,rfl,ho,ints_of_wellAll ns _ hall,B⟩
theorem post_true (l:OpenLaw)(args:List WData):l.row.toRowW.claim.post args (.bool true) args=true :=
 postW_of (r:=l.row.toRowW) (X:=(true==true))
  (show WShape.has [] (.bool true) .bool=true by first|rfl|decide|simp[WShape.has,WShape.arms,WShape.armsAll])
  (show(WTm.eq .res (.lit (.bool true))).value [] { args:=args,res:=some (.bool true),after:=args }=some (.bool (true==true))from w_eq_bool (w_res rfl) w_lit) rfl
theorem attach_call {l:OpenLaw}{n:Nat}{q:aD}{loose:yH}{XP:(Str->Option Value)->Heap->Prop}{YP:World->Heap->Prop}{d:DefRec}
  (hn:l.most=some n) (a1:d.params.defaults=[])
  (call:∀(w:World) (s₀ h:ae) (mg mb:yC) (fa:Addr) (o:Obj) (pm cd y:Value) (a:Addr) (vs:yG) (ns:List Int),
   Ground q loose [] XP w s₀ mg mb h.heap->YP w h.heap ->
   h.heap.get? fa=some o->o.data=.func (docDef d.name d.params d.body d.scope pm cd y)->h.heap.CodeRec cd d.name->mg d.name=some (.ref fa) ->
   h.heap.get? a=some { cls:=.type "list",data:=.seq vs.toArray }->fW vs ns->ns.length<=n->h.gens=#[] ->
   gI (model l.prog w) iA (.call (.ref fa) ⟨[.ref a],[]⟩) (fun r s'=>r=.ok (.ret (.bool true))/\OldK h.heap s'.heap/\s'.os=h.os/\fS s'.gens) h) :
  WalkO q loose XP YP l.row.toRowW d [] (fun f vs=>jR f vs):=by
 intro w s₀ h mg mb G Y fa o pm cd y dV kV ho hd a2 hD a3 hg args a5 as J a4 a6 a0 b0
 obtain rfl:dV=.none:=Dflts.none hD a1
 obtain rfl:kV=.none:=Dflts.noKw hD
 obtain⟨a,vs,ns,rfl,rfl,B,z,Z⟩:=script_of hn J a0
 refine enter_call (fu (call w s₀ h mg mb fa o pm cd y a vs ns G Y ho (fd_plain hd) a2 a3 B z Z hg) fun r s' hq=>?_)
 obtain⟨rfl,h2,h3,h4⟩:=hq
 exact⟨.inl ⟨.bool true,.bool true,[],rfl,fun _=>rfl,.bool true,post_true l _,fun _=>⟨List.Pairwise.nil,fun _ hm=>(nomatch hm)⟩⟩,h2,h3,h4⟩
section
variable {prog:aD} {w:World} {A:aP} {E:Value->ae->Prop} {s:ae} {K:Frag}
end
end Att
noncomputable section
namespace L2
open PySem PySem.Spec PyProof.Rows
theorem ae2:∀ {vs:yG} {ns:List Int},fW vs ns->Vals (ns.map V.int) vs
 | _,_,.nil=>.nil
 | _,_,.cons n t h=>.cons ⟨t,rfl⟩ (ae2 h)
noncomputable def defArgs (s:Stmt):eO:=match s with
 | .FunctionDef _ a _ _ _ _ _ _ _ _=>a
 | _=>{ posonlyargs:=[],args:=[],vararg:=none,kwonlyargs:=[],kw_defaults:=[],kwarg:=none,defaults:=[] }
noncomputable def zw (s:Stmt):List Stmt:=match s with
 | .FunctionDef _ _ b _ _ _ _ _ _ _=>b
 | _=>[]
noncomputable def defScope (s:Stmt):Scope:=match s with
 | .FunctionDef _ _ _ _ _ _ sc _ _ _=>sc
 | _=>{ kind:=.function,names:=[],isGenerator:=false,isCoroutine:=false }
noncomputable abbrev CX0:CXT:=fun _ _ _ _ _ _=>False
abbrev E0:XK:=fun _ _ _=>False
theorem aE1 {X:Cx}:ad3 CX0 X E0:=fun _ _ _ _ _ _ _ h=>h.elim
structure Fun (K:af)(x qual:Str)(st:Stmt)(f:Addr)(fd:bT):Prop where
 ex:∃(oc:Value) (od:yI) (kV doc pm:Value) (an:yI) (cdv ct:Value) (osl:yE),
  fd=dg x qual (defArgs st) (zw st) (defScope st) .none kV doc pm an cdv ct/\K.lookup f=some ⟨oc,od,.func fd,osl⟩/\fG K cdv qual=true
 kp:b8 K (.ref f)=true
section
variable {P:aD} {w:World} {K:af} {mg:yC} {base:Heap}
theorem Fun.ok {x qual:Str}{st:Stmt}{f:Addr}{Z:bT}{N ps:yH}{k:Nat}{sp:Sp}(F:Fun K x qual st f Z)(S:FnScope N ps (defScope st))(len:∀ vs H Q E,sp vs H Q E->vs.length=ps.length)
  (B:∀(z:Value) (A:aP) (y:List Env) (s:ae) (H:Hp) (vs:List V) (Q:VK) (E:XK),Room k (A.deeper (gh qual (defScope st) s.heap.objs.size f z))->sp vs H Q E ->
   ∃ t,PSs (bh7 CX0 P w K mg base N qual (defScope st) f z A y s H E).nox (zw st) t/\t { nx:=fun _ H'=>Q .non H',rt:=Q } (af3 N vs) H):FnOk P w K mg base CX0 (k+1) f Z ps sp:=by
 obtain⟨oc,od,kV,a0,pm,an,z,ct,a1,rfl,lk,G⟩:=F.ex
 refine bR7 lk G S len fun A y s H vs Q E hr J=>?_
 obtain⟨t,h,q⟩:=B z A y s H vs Q E hr J
 exact⟨t,h.nox,q⟩
theorem Fun.binds {x qual:Str}{st:Stmt}{f:Addr}{J:bT}{ps:yH}(F:Fun K x qual st f J)
  (h:∀(kV y G:Value) (B:yI) (z ct:Value) (us:yG),us.length=ps.length->bindArgs (dg x qual (defArgs st) (zw st) (defScope st) .none kV y G B z ct) ⟨us,[]⟩=pure (ps.zip us)):Binds K J ps []:=by
 obtain⟨oc,od,kV,y,G,B,z,ct,a0,rfl,lk,Z⟩:=F.ex
 exact .all (h kV y G B z ct)
theorem bi3 {x qual:Str}{st:Stmt}{f:Addr}{oc:Value}{od B:yI}{z:yE}{kV y G h ct:Value}(l:K.lookup f=some ⟨oc,od,.func (dg x qual (defArgs st) (zw st) (defScope st) .none kV y G B h ct),z⟩)
  (c:fG K h qual=true) (k:b8 K (.ref f)=true):Fun K x qual st f (dg x qual (defArgs st) (zw st) (defScope st) .none kV y G B h ct):=⟨⟨oc,od,kV,y,G,B,h,ct,z,rfl,l,c⟩,k⟩
end
section
variable {X:Cx}
end
theorem ca5 {A B:Prop}(h:B):if false=true then A else B:=by
 rw[if_neg aQ]
 exact h
theorem iteT {A B:Prop}(h:A):if true=true then A else B:=by
 rw[if_pos rfl]
 exact h
def ae3 (H H':Hp):Prop:=∀ b o,H b=some o->H' b=some o
theorem ae3.refl (H:Hp):ae3 H H:=fun _ _ h=>h
theorem aR2 {prog:aD}{w:World}{A:aP}{R:iZ->ae->Prop}{s:ae}{B y iter:Expr}{G:yK}{scope:Scope}{pos:Pos}{it z:Value}{env:Env}(I:Nat->ae->Prop)
  (turn:∀ n s,I n s->wpAny (model prog w) A (pyNext it) (fun r s₁=>match r with
   | none=>R (.ok .next) s₁
   | some v=>wpAny (model prog w) A (fc y it v) (fun _ J=>wpAny (model prog w) A (gG y env v) (fun _ s₂ =>
     wpAny (model prog w) A (forIn G true fun c r=>if r=true then do let ok <- dY c env (eval c env);pure (ForInStep.yield ok)else pure (ForInStep.yield r)) (fun ok s₃ =>
      if ok=true then wpAny (model prog w) A (eval B env) (fun x s₄ =>
       wpAny (model prog w) A (call (.builtin "list.append") [z,x]) (fun _ s₅=>∃ m,m<n/\I m s₅) (jr (model prog w) A env fun e s'=>R (.error e) s') s₄) (jr (model prog w) A env fun e s'=>R (.error e) s') s₃
      else ∃ m,m<n/\I m s₃) (jr (model prog w) A env fun e s'=>R (.error e) s') s₂) (jr (model prog w) A env fun e s'=>R (.error e) s') J) (jr (model prog w) A env fun e s'=>R (.error e) s') s₁) (jr (model prog w) A env fun e s'=>R (.error e) s') s)
  (n:Nat) (h:I n s) :
  gI (model prog w) A (.compLoop (.ListComp B [⟨y,iter,G,0⟩] scope pos) 0 it z env) R s:=by
 refine codeAny_loop rfl I (fun n s hI=>?_) n h
 show wpAny _ A ((compTurn (.ListComp B [⟨y,iter,G,0⟩] scope pos) 0 it z env).onRaise (fun x=>do noteFrame x env;theTreesLotGoes x)) _ _ s
 refine wpAny_noted ?_
 rw[compTurn_list]
 refine aq (iM (aq (bS (turn n s hI) (fun r s₁ h₁=>?_) fun _ _ h'=>h')))
 cases r with
 | none=>exact aW h₁
 | some v =>
  refine aq (bS h₁ (fun _ J Z=>?_) fun _ _ h'=>h')
  refine aq (bS Z (fun _ s₂ h₂=>aq (bS h₂ (fun ok s₃ h₃=>?_) fun _ _ h'=>h')) fun _ _ h'=>h')
  cases ok with
  | false=>exact aW ⟨rfl,h₃⟩
  | true =>
   exact aq (aq (bS h₃ (fun x s₄ h₄=>aq (bS h₄ (fun _ s₅ h₅=>aW (aW ⟨rfl,h₅⟩)) fun _ _ h'=>h')) fun _ _ h'=>h'))
noncomputable def ak2 (cells:yB):List (Str×cx)->List (Str×Addr)->List (Str×Addr)
 | [],acc=>acc
 | (n,k)::r,acc=>ak2 cells r (if k==.free then(match cells.lookup n with|some c=>(n,c)::acc|none=>acc)else acc)
theorem ac8 {env:Env}:∀(names:List (Str×cx)) (z:yB),(∀ y∈names,y.2=.free->∃ c,env.cells.lookup y.1=some c) ->
  (forIn names z fun(x:Str×cx) (cs:yB)=>(if x.2==.free then do let c <- cellOf env x.1;pure (ForInStep.yield ((x.1,c)::cs))else pure (ForInStep.yield cs):Sem (ForInStep (List (Str×Addr)))))=pure (ak2 env.cells names z)
 | [],z,_=>by rw[jX];rfl
 | (n,k)::r,z,h=>by
  have B:=fun a=>ac8 r a fun y hy=>h y (ao _ hy)
  rw[List.forIn_cons]
  unfold ak2
  cases e:(k==NameKind.free)with
  | false =>
   simp only[bn,if_false]
   exact B z
  | true =>
   have hk:k=.free:=by simpa using e
   obtain⟨c,hc⟩:=h (n,k) ar hk
   have e1:cellOf env n=pure c:=by unfold cellOf;rw[hc]
   simp only[if_true,e1,hc]
   exact B _
theorem ae0 {scope:Scope}{env:Env}(h:∀ y∈scope.names,y.2=.free->∃ c,env.cells.lookup y.1=some c):closureFor scope env=pure (ak2 env.cells scope.names []):=by
 have:=ac8 (env:=env) scope.names [] h
 show(forIn scope.names [] (fun(x:Str×cx) (cs:yB)=>(if x.2==.free then do let c <- cellOf env x.1;pure (ForInStep.yield ((x.1,c)::cs))else pure (ForInStep.yield cs):Sem (ForInStep (List (Str×Addr))))) >>= fun cs=>pure cs)=_
 rw[this]
 rfl
theorem clOf_mem {cells:yB}{n:Str}{c:Addr}:∀ {names:List (Str×cx)} {B:yB},(n,c)∈ak2 cells names B->cells.lookup n=some c\/(n,c)∈B
 | [],_,h=>.inr h
 | (m,k)::r,B,h=>by
  unfold ak2 at h
  rcases clOf_mem h with z|z
  .exact .inl z
  .cases e:(k==NameKind.free)with
   | false=>simp only[e,bn,if_false]at z;exact .inr z
   | true =>
    simp only[e,if_true]at z
    cases q:cells.lookup m with
    | none=>rw[q]at z;exact .inr z
    | some d =>
     rw[q]at z
     rcases ay.mp z with y|y
     .cases y;exact .inl q
     .exact .inr y
theorem aA2 {cells:yB}{n:Str}{c:Addr}(hc:cells.lookup n=some c):∀ {names:List (Str×cx)} {y:yB},((n,NameKind.free)∈names\/(n,c)∈y)->(n,c)∈ak2 cells names y
 | [],_,h=>by rcases h with h|h;(exact absurd h (by simp));exact h
 | (m,k)::r,y,h=>by
  unfold ak2
  refine aA2 hc ?_
  rcases h with h|h
  .rcases ay.mp h with e|h
   .cases e
    right
    simp[hc]
   .exact .inl h
  .right
   cases e:(k==NameKind.free)with
   | false=>simpa using h
   | true =>
    simp only[if_true]
    cases q:cells.lookup m with
    | none=>exact h
    | some d=>exact ao _ h
theorem ad9 {α:Type}{n:Str}{c:α}:∀ {l:List (Str×α)},(n,c)∈l->(∀ d,(n,d)∈l->d=c)->l.lookup n=some c
 | (m,d)::r,h,u=>by
  rw[aZ]
  cases e:n==m with
  | true =>
   have e':=beq_iff_eq.mp e
   subst e'
   rw[u d ar]
  | false =>
   rcases ay.mp h with z|z
   .cases z;simp at e
   .exact ad9 z fun d' h'=>u d' (ao _ h')
theorem ax0 {cells:yB}{n:Str}{c:Addr}{names:List (Str×cx)}(hc:cells.lookup n=some c)(h:(n,NameKind.free)∈names):(ak2 cells names []).lookup n=some c:=by
 refine ad9 (aA2 hc (.inl h)) fun d hd=>?_
 rcases clOf_mem hd with z|z
 .rw[hc]at z;exact(au z).symm
 .exact absurd z (by simp)
theorem zu:∀(names:List (Str×cx)) (n:Nat) (h:yB),bv n names h=bv n names []++h
 | [],_,h=>by simp[bv]
 | (x,k)::r,n,h=>by
  unfold bv
  split
  .rw[zu r (n+1) ((x,n)::h),zu r (n+1) [(x,n)]]
   simp
  .exact zu r n h
theorem zF:∀ {names:List (Str×cx)} {n:Nat} {B:yB} {x:Str} {c:Addr},(x,c)∈bv n names B->(x,NameKind.cell)∈names\/(x,c)∈B
 | [],_,_,_,_,h=>.inr h
 | (y,k)::r,n,B,x,c,h=>by
  unfold bv at h
  split at h
  .rename_i hk
   rcases zF h with z|z
   .exact .inl (ao _ z)
   .rcases ay.mp z with e|z
    .cases e
     have:k=.cell:=by simpa using hk
     subst this
     exact .inl ar
    .exact .inr z
  .rcases zF h with z|z
   .exact .inl (ao _ z)
   .exact .inr z
theorem qq {α:Type}(x:Str):∀(l r:List (Str×α)),(l++r).lookup x=(l.lookup x).or (r.lookup x)
 | [],r=>by simp
 | (y,v)::l,r=>by
  rw[gr,aZ,aZ]
  cases x==y with
  | true=>rfl
  | false=>exact qq x l r
noncomputable def zG (N':yH)(src:yD)(scope:Scope)(XN:yH)(xs:Scope):Bool :=
 (scope.kind==.function) &&
 (scope.names.all fun y=>!(y.2==.free)||(xs.names.lookup y.1==some .cell||xs.names.lookup y.1==some .free)) &&
 (scope.names.all fun y=>!(y.2==.local)||scope.names.lookup y.1==some .local) &&
 (scope.names.all fun y=>!(y.2==.cell)||(scope.names.all fun z=>!(z.1==y.1)||z.2==.cell)) &&
 (src.length==N'.length) &&
 ((N'.zip src).all fun y=>match y.2 with|none=>true|some j=>XN[j]?==some y.1&&scope.names.lookup y.1==some .free)
structure CompCk (N':yH)(src:yD)(scope:Scope)(XN:yH)(xs:Scope):Prop where
 kind:scope.kind=.function
 fr:∀ y∈scope.names,y.2=.free->xs.names.lookup y.1=some .cell\/xs.names.lookup y.1=some .free
 loc:∀ y∈scope.names,y.2=.local->scope.names.lookup y.1=some .local
 cel:∀ y∈scope.names,y.2=.cell->∀ z∈scope.names,z.1=y.1->z.2=.cell
 len:src.length=N'.length
 sr:∀(i j:Nat) (x:Str),src[i]?=some (some j)->N'[i]?=some x->XN[j]?=some x/\scope.names.lookup x=some .free
theorem bg3 {B:yH}{src:yD}{scope:Scope}{J:yH}{G:Scope}(h:zG B src scope J G=true):CompCk B src scope J G:=by
 unfold zG at h
 simp only[ai]at h
 obtain⟨⟨⟨⟨⟨h1,h2⟩,h3⟩,h4⟩,h5⟩,h6⟩:=h
 refine⟨by simpa using h1,fun y hy e=>?_,fun y hy e=>?_,fun y hy e z hz Z=>?_,by simpa using h5,fun i j x e1 e2=>?_⟩
 .have:=bh.mp h2 y hy
  simpa [e]using this
 .have:=bh.mp h3 y hy
  simpa [e]using this
 .have:=bh.mp h4 y hy
  simp only[e,beq_self_eq_true,Bool.not_true,kj]at this
  have:=bh.mp this z hz
  simpa [Z]using this
 .have hm:(x,some j)∈B.zip src:=by
   refine aG (i:=i) ?_
   rw[List.getElem?_zip_eq_some]
   exact⟨e2,e1⟩
  have:=bh.mp h6 _ hm
  simpa using this
noncomputable abbrev zr (X:Cx)(N':yH)(scope:Scope)(Cc:Addr)(cells:yB)(s:ae)(H:Hp)(ex:List Addr):Cx where
 prog:=X.prog
 w:=X.w
 K:=X.K
 mg:=X.mg
 base:=X.base
 A:=X.A
 N:=N'
 s₀:=s
 H₀:=H
 env:={ scope:=eT scope X.env,locals:=Cc,globals:=X.env.globals,cells:=cells,qual:=X.env.qual,func:=none,code:=X.env.code,frame:=X.env.frame,builtins:=X.env.builtins }
 outer:=X.stack
 stack:=X.stack
 ex:=ex
 fn:=fun x=>scope.names.lookup x==some .cell
 calm:=X.calm
 pn:=[]
 xe:=fun _ _=>False
def PIf (X:Cx)(ifs:yK)(t:TT):Prop :=
 ∀(pins:yA) (s:ae) (W:St) (H:Hp) (Q:Bool->Hp->Prop),Inv X pins W H s->t W H Q ->
  wpAny (model X.prog X.w) X.A (forIn ifs true fun c r=>if r=true then do let ok <- dY c X.env (eval c X.env);pure (ForInStep.yield ok)else pure (ForInStep.yield r)) (TP X pins W Q) X.xe s
def bZ4:TT:=fun _ H Q=>Q true H
theorem bl0 {X:Cx}:PIf X [] bZ4:=fun _ _ _ H _ I h=>wpAny_tests_nil ⟨H,I,h⟩
theorem bo7 {X:Cx}{c:Expr}{t:TT}(h:PT X c t):PIf X [c] t:=fun y s W H Q I hw=>wpAny_tests_one (h y s W H Q I hw)
noncomputable def au7 (src:yD)(W:St):St:=src.map fun o=>match o with|none=>none|some j=>(W[j]?).join
def tComp (src:yD)(wi:TI)(g:TG)(tc:TT)(te:TE):TE:=fun W H Q=>wi W H fun J H1=>∀ D,H1 D=none ->
 ∃ Ww:Nat->Nat->St->Hp->Prop,(∃ m,Ww 0 m (au7 src W) (upd H1 D (.lst [])))/\∀ i m W' H',Ww i m W' H' ->
  (J.stop i H'/\Q (.ref D) H')\/(J.go i H'/\∃ N:St->Hp->Prop,(∀ W2 H2,N W2 H2->∃ m',m'<m/\Ww (i+1) m' W2 H2) /\
   ∀ x H2,J.yld i H' x H2->g x W' H2 fun W3 H3=>tc W3 H3 fun b H4=>if b=true then te W3 H4 fun v H5=>∃ ys,H5 D=some (.lst ys)/\ys.length<aL/\N W3 (upd H5 D (.lst (ys++[v])))else N W3 H4)
theorem zS {env:Env}:∀ {names:List (Str×cx)} {x:Str} {k:cx},names.lookup x=some k ->
  (names.map fun(n,k)=>if(k==NameKind.free&&env.scope.kind==.function&&env.kindOf n==some .cell)then(n,NameKind.cell)else(n,k)).lookup x =
   some (if(k==NameKind.free&&env.scope.kind==.function&&env.kindOf x==some .cell)then NameKind.cell else k)
 | [],_,_,h=>by simp at h
 | (n,k)::r,x,k',h=>by
  have y:=@zS env r x k'
  show de x ((if(k==NameKind.free&&env.scope.kind==.function&&env.kindOf n==some .cell)=true then(n,NameKind.cell)else(n,k))::_)=_
  cases hx:x==n with
  | true =>
   have e:=beq_iff_eq.mp hx
   subst e
   simp only[aZ,hx]at h
   cases h
   by_cases hc:(k==NameKind.free&&env.scope.kind==.function&&env.kindOf x==some .cell)=true
   .rw[if_pos hc,if_pos hc];simp only[aZ,hx]
   .rw[if_neg hc,if_neg hc];simp only[aZ,hx]
  | false =>
   simp only[aZ,hx]at h
   by_cases hc:(k==NameKind.free&&env.scope.kind==.function&&env.kindOf n==some .cell)=true
   .rw[if_pos hc];simp only[aZ,hx];exact y h
   .rw[if_neg hc];simp only[aZ,hx];exact y h
theorem zL {env:Env}:∀ {names:List (Str×cx)} {x:Str},names.lookup x=none ->
  (names.map fun(n,k)=>if(k==NameKind.free&&env.scope.kind==.function&&env.kindOf n==some .cell)then(n,NameKind.cell)else(n,k)).lookup x=none
 | [],_,_=>rfl
 | (n,k)::r,x,h=>by
  have y:=@zL env r x
  show de x ((if(k==NameKind.free&&env.scope.kind==.function&&env.kindOf n==some .cell)=true then(n,NameKind.cell)else(n,k))::_)=_
  cases hx:x==n with
  | true=>simp only[aZ,hx]at h;cases h
  | false =>
   simp only[aZ,hx]at h
   by_cases hc:(k==NameKind.free&&env.scope.kind==.function&&env.kindOf n==some .cell)=true
   .rw[if_pos hc];simp only[aZ,hx];exact y h
   .rw[if_neg hc];simp only[aZ,hx];exact y h
theorem al4 {X:Cx}{N':yH}{src:yD}{scope:Scope}{a6:yA}{W:St}{H:Hp}{s s4:ae}{fp:List Addr}
  (B:CompCk N' src scope X.N X.env.scope) (I:Inv X a6 W H s) (hf:∀ b∈fp,FpOk X a6 H b) (b2:∀ b∈fp,b<s.heap.objs.size)
  (e4:∃ tk,s4={ s with heap:=eP (s.heap.push { cls:=.type "dict",data:=.dict #[] }) scope.names,toks:=tk }) :
  Inv (zr X N' scope s.heap.objs.size (bv (s.heap.objs.size+1) scope.names (ak2 X.env.cells scope.names [])) s H fp) [] (au7 src W) H s4:=by
 obtain⟨tk,rfl⟩:=e4
 have hk:∀ b o,s.heap.get? b=some o->(eP (s.heap.push { cls:=.type "dict",data:=.dict #[] }) scope.names).get? b=some o:=fun b o e=>fe _ _ b o (ak _ e)
 have ok:=cellsFrom_ok scope.names (s.heap.push { cls:=.type "dict",data:=.dict #[] }) (s.heap.objs.size+1) [] ⟨fun _ _ hm=>(nomatch hm),List.Pairwise.nil⟩ (by rw[cJ];exact ah _)
 rw[cJ]at ok
 have a0:=zu scope.names (s.heap.objs.size+1) (ak2 X.env.cells scope.names [])
 have lk:∀ x c,(bv (s.heap.objs.size+1) scope.names (ak2 X.env.cells scope.names [])).lookup x=some c ->
   ((x,c)∈bv (s.heap.objs.size+1) scope.names []/\(x,NameKind.cell)∈scope.names)\/(X.env.cells.lookup x=some c/\(bv (s.heap.objs.size+1) scope.names []).lookup x=none):=fun x c e=>by
  rw[a0,qq]at e
  cases q:(bv (s.heap.objs.size+1) scope.names []).lookup x with
  | some d =>
   rw[q]at e
   have e':d=c:=au e
   subst e'
   have hm:=be q
   refine .inl ⟨hm,?_⟩
   rcases zF hm with z|z
   .exact z
   .exact absurd z (by simp)
  | none =>
   rw[q]at e
   have e':(ak2 X.env.cells scope.names []).lookup x=some c:=e
   rcases clOf_mem (be e')with z|z
   .exact .inr ⟨z,rfl⟩
   .exact absurd z (by simp)
 have up:∀ x c,(x,c)∈bv (s.heap.objs.size+1) scope.names []->s.heap.objs.size+1<=c:=fun x c h=>(ok.empty x c h).2
 have b5:∀ x c,X.env.cells.lookup x=some c->c<s.heap.objs.size:=fun x c h=>by
  obtain⟨v,q⟩:=I.cell x c h
  exact q.lt
 have a5:∀ b,b<s.heap.objs.size->b≠s.heap.objs.size:=fun b h=>aB h
 have b3:∀ b∈fp,H b=none/\b≠X.env.locals/\b ∉ X.fs:=fun b hb=>⟨(hf b hb).1,(hf b hb).2.1,(hf b hb).2.2.1⟩
 have c3:(eP (s.heap.push { cls:=.type "dict",data:=.dict #[] }) scope.names).Ns s.heap.objs.size (fun _=>none):=(Heap.Ns.new s.heap (.type "dict")).keeps (fe _ _)
 have a3:∀ x k,scope.names.lookup x=some k->(eT scope X.env).names.lookup x=some (if(k==NameKind.free&&X.env.scope.kind==.function&&X.env.kindOf x==some .cell)then NameKind.cell else k):=fun x k e=>zS (env:=X.env) e
 have a4:∀ x,scope.names.lookup x=none->(eT scope X.env).names.lookup x=none:=fun x e=>zL (env:=X.env) e
 have b1:∀ x c,(x,NameKind.free)∈scope.names->X.env.cells.lookup x=some c->(bv (s.heap.objs.size+1) scope.names (ak2 X.env.cells scope.names [])).lookup x=some c:=fun x c hx hc=>by
  rw[a0,qq]
  cases q:(bv (s.heap.objs.size+1) scope.names []).lookup x with
  | some d =>
   rcases zF (be q)with z|z
   .have:=B.cel _ z rfl _ hx rfl
    cases this
   .exact absurd z (by simp)
  | none=>exact ax0 hc hx
 have b0:∀ x,(x,NameKind.free)∈scope.names->∃ c,X.env.cells.lookup x=some c:=fun x hx=>I.ok.has x (B.fr _ hx rfl)
 refine⟨⟨I.ok.mod,B.kind,I.ok.glob,I.ok.blt,ah _,fun x y c e1 e2=>?_,fun x hx=>?_,fun x c hx e=>?_,I.ok.hd,I.ok.frames,.inl rfl,fun b hb=>⟨a5 b (b2 b hb),fun x c e z=>?_⟩,I.bs,aj I.ok.bsz I.sz,fun b o e hb=>?_,fun b hb z=>?_,I.stack,I.stkFree⟩,
  rfl,I.bare,Un.kept hk,⟨_,c3,fun i x v e1 e2 e3=>?_⟩,fun x c e=>?_,I.hok.fresh (ah _),fun x c e=>?_,fun p hp=>absurd (show p∈([]:yA)from hp) (by simp),I.hok.kept hk,by unfold au7;rw[az];exact B.len⟩
 .rcases lk x c e1 with⟨a1,_⟩|⟨a1,_⟩<;>rcases lk y c e2 with⟨a2,_⟩|⟨a2,_⟩
  .exact name_of_addr ok.apart a1 a2
  .exact absurd (aA (b5 _ _ a2) (fX (up _ _ a1))) (bZ _)
  .exact absurd (aA (b5 _ _ a1) (fX (up _ _ a2))) (bZ _)
  .exact I.ok.inj x y c a1 a2
 .cases q:scope.names.lookup x with
  | none =>
   have J:(eT scope X.env).names.lookup x=some .cell\/(eT scope X.env).names.lookup x=some .free:=hx
   rw[a4 x q]at J
   rcases J with z|z<;>cases z
  | some k =>
   have J:(eT scope X.env).names.lookup x=some .cell\/(eT scope X.env).names.lookup x=some .free:=hx
   rw[a3 x k q]at J
   cases k with
   | free =>
    obtain⟨c,hc⟩:=b0 x (be q)
    exact⟨c,b1 x c (be q) hc⟩
   | cell =>
    obtain⟨c,hc⟩:=af9 (n:=s.heap.objs.size+1) q
    exact⟨c,by show(bv _ _ _).lookup x=_;rw[a0,qq,hc];rfl⟩
   | _=>rcases J with z|z<;>cases z
 .have J:(scope.names.lookup x==some .cell)=true:=hx
  have q:scope.names.lookup x=some .cell:=by simpa using J
  rcases lk x c e with⟨a,_⟩|⟨a,b⟩
  .have:=up _ _ a;show s.heap.objs.size<=c;lia
  .obtain⟨d,hd⟩:=af9 (n:=s.heap.objs.size+1) q
   rw[hd]at b;cases b
 .subst z
  rcases lk x c e with⟨a,_⟩|⟨a,_⟩
  .exact absurd (aA (b2 c hb) (fX (up _ _ a))) (bZ _)
  .exact(hf c hb).2.2.2.2.1 x c a rfl
 .rcases(hf b hb).2.2.2.1 with z|z
  .exact I.ok.noex b o e z
  .exact absurd (aA (aH e) (aj I.ok.bsz z)) (bZ _)
 .rcases ay.mp (I.stkSub b z)with y|y
  .exact(b3 b hb).2.1 y
  .exact(b3 b hb).2.2 y
 .have G:(au7 src W)[i]?=some (some v):=e2
  unfold au7 at G
  rw[aE]at G
  cases q:src[i]? with
  | none=>rw[q]at G;cases G
  | some o =>
   rw[q]at G
   cases o with
   | none=>cases G
   | some j =>
    have Z:(W[j]?).join=some v:=au G
    have ej:W[j]?=some (some v):=by
     cases q2:W[j]? with
     | none=>rw[q2]at Z;cases Z
     | some o2=>rw[q2]at Z;exact congrArg some Z
    obtain⟨h1,h2⟩:=B.sr i j x q e1
    have hm:=be h2
    obtain⟨mX,c4,b6⟩:=I.loc
    have b4:Vis X.env.scope x:=by
     rcases B.fr _ hm rfl with z|z
     .exact .inr (.inl z)
     .exact .inr (.inr z)
    obtain⟨u,ru,look⟩:=b6 j x v h1 ej b4
    refine⟨u,ru,.inr ?_⟩
    have hcell:∃ c,X.env.cells.lookup x=some c/\s.heap.IsCell c (some u):=by
     rcases look with⟨z,_⟩|⟨_,c,z1,z2⟩
     .have z':X.env.scope.names.lookup x=some .local:=z
      rcases B.fr _ hm rfl with y|y<;>(rw[z']at y;cases y)
     .exact⟨c,z1,z2⟩
    obtain⟨c,c1,c2⟩:=hcell
    refine⟨?_,c,b1 x c hm c1,c2.keeps hk⟩
    show(eT scope X.env).names.lookup x=some .cell\/(eT scope X.env).names.lookup x=some .free
    rw[a3 x _ h2]
    by_cases hc:(NameKind.free==NameKind.free&&X.env.scope.kind==.function&&X.env.kindOf x==some .cell)=true
    .rw[if_pos hc];exact .inl rfl
    .rw[if_neg hc];exact .inr rfl
 .rcases lk x c e with⟨a,_⟩|⟨a,_⟩
  .exact⟨_,(ok.empty x c a).1⟩
  .obtain⟨v,q⟩:=I.cell x c a
   exact⟨v,q.keeps hk⟩
 .rcases lk x c e with⟨a,_⟩|⟨a,_⟩
  .exact I.hok.fresh (by have:=up _ _ a;lia)
  .exact I.freeC x c a
theorem aD4 {X:Cx}{N':yH}{scope:Scope}{h:yA}{W W':St}{H Z:Hp}{s s5:ae}{G:List Addr}{cells:yB}{h':Heap}
  (I:Inv X h W H s) (B:∀ b∈G,FpOk X h H b) (J:Inv (zr X N' scope s.heap.objs.size cells s H G) [] W' Z s5) (hs:dQ s.heap.objs.size s5.heap h') :
  Inv X h W Z { s5 with heap:=h' }:=by
 have y:∀ b o,s.heap.get? b=some o->b≠s.heap.objs.size:=fun b o e=>aB (aH e)
 have u:Un (frs X.stack) G H Z s.heap s5.heap:=J.base
 refine I.call' (s':={ s5 with heap:=h' }) (ch:=G) J.os ⟨fun b o e n hb hx=>?_,fun b o e n hb hx=>?_,fun b o e n hx=>u.free b o e n hx,fun b o e hx=>?_,u.tups,u.frzs,u.tbls⟩ (fun b o e=>?_) J.bare fun b hb=>⟨(B b hb).2.2.2.1,(B b hb).2.1,(B b hb).2.2.2.2.1,(B b hb).2.2.2.2.2⟩
 .exact(hs.2 b (y b o e)).trans (u.keep b o e n hb hx)
 .obtain⟨sl,q⟩:=u.slot b o e n hb hx
  exact⟨sl,(hs.2 b (y b o e)).trans q⟩
 .obtain⟨o',q⟩:=u.there b o e hx
  exact⟨o',(hs.2 b (y b o e)).trans q⟩
 .have fr:Z s.heap.objs.size=none:=J.free
  refine(J.hok b o e).stay (fun c w' hc q=>(hs.2 c ?_).trans q) (fun _ q=>q) fun _ _ q=>q
  rintro rfl
  rcases hc with z|hc
  .rw[<-z,fr]at e;cases e
  .rw[fr]at hc;cases hc
theorem ad5 {M:Model}{A:aP}{E:Value->ae->Prop}{s:ae}{scope:Scope}{globals:Addr}{z:yB}{qual:Str}{y:Env}{Q:Env->ae->Prop}
  (h:Q { scope:=scope,locals:=s.heap.objs.size,globals:=globals,cells:=bv (s.heap.objs.size+1) scope.names z,qual:=qual,func:=none,code:=y.code,frame:=y.frame,builtins:=y.builtins }
   { s with heap:=eP (s.heap.push { cls:=.type "dict",data:=.dict #[] }) scope.names }) :
  wpAny M A (newFunctionEnv scope globals z [] qual none .none (some y)) Q E s:=by
 simp only[newFunctionEnv,d7,if_true]
 refine aq (wpAny_alloc ?_)
 refine aq (wpAny_layCells _ (fun name kind cells=>by cases hkc:kind==NameKind.cell<;>simp[hkc]) _ _ _ _ ?_)
 rw[show({ s with heap:=s.heap.push { cls:=.type "dict",data:=.dict #[] } }:ae).heap.objs.size=s.heap.objs.size+1 from cJ ..]
 refine aq ?_
 rw[jX]
 exact aW (aW h)
theorem aq7 {X':Cx}{R:iZ->ae->Prop}{a3 tg iter:Expr}{a5:yK}{scope:Scope}{pos:Pos}{g:TG}{tc:TT}{te:TE}{J:It}{fp:List Addr}{it D:Addr}{tn:Nat->Heap->Prop}{Ww:Nat->Nat->St->Hp->Prop}
  {QD:Hp->Prop} {W0:St} {H0:Hp} {s4:ae} {m0:Nat} (hx:X'.xe=fun _ _=>False) (Z:X'.calm=true) (I4:Inv X' [] W0 H0 s4) (T:Turn X'.prog X'.w X'.K tg J fp it tn) (b0:tn 0 s4.heap)
  (B:∀ H':Hp,(∀ b∈fp,H' b=none)->∀ b∈fp,FpOk X' [] H' b) (b2:∀ b∈fp,H0 b=none) (w0:Ww 0 m0 W0 H0)
  (turn:∀ i m W' H',Ww i m W' H'->(J.stop i H'/\QD H')\/(J.go i H'/\∃ N:St->Hp->Prop,(∀ W2 H2,N W2 H2->∃ m',m'<m/\Ww (i+1) m' W2 H2) /\
   ∀ x H2,J.yld i H' x H2->g x W' H2 fun W3 H3=>tc W3 H3 fun b H4=>if b=true then te W3 H4 fun v H5=>∃ ys,H5 D=some (.lst ys)/\ys.length<aL/\N W3 (upd H5 D (.lst (ys++[v])))else N W3 H4))
  (hg:PG X' tg g) (hif:PIf X' a5 tc) (he:PE X' a3 te) (a2:∀ W' H' s',Inv X' [] W' H' s'->QD H'->R (.ok .next) s') :
  gI (model X'.prog X'.w) X'.A (.compLoop (.ListComp a3 [⟨tg,iter,a5,0⟩] scope pos) 0 (.ref it) (.ref D) X'.env) R s4:=by
 have nox:∀ {α:Type} {t:Sem α} {Q Q':α->ae->Prop} {E:Value->ae->Prop} {s:ae},wpAny (model X'.prog X'.w) X'.A t Q X'.xe s->(∀ a s,Q a s->Q' a s)->wpAny (model X'.prog X'.w) X'.A t Q' E s :=
  fun h hQ=>bS h hQ fun _ _ z=>by rw[hx]at z;exact z.elim
 refine aR2 (fun n s'=>∃ i W' H',Inv X' [] W' H' s'/\tn i s'.heap/\(∀ b∈fp,H' b=none)/\Ww i n W' H') ?_ m0 ⟨0,W0,H0,I4,b0,b2,w0⟩
 rintro n s3 ⟨i,W3,H3,I3,a1,a4,w3⟩
 rcases turn i n W3 H3 w3 with⟨stop,qn⟩|⟨go,N,hN,step⟩
 .refine nox (T.done X' rfl rfl rfl Z i [] s3 W3 H3 X'.xe I3 (B H3 a4) a1 stop) fun r s4 ⟨hr,I4⟩=>?_
  subst hr
  exact a2 W3 H3 s4 I4 qn
 .refine nox (T.item X' rfl rfl rfl Z i [] s3 W3 H3 X'.xe I3 (B H3 a4) a1 go) fun r s4 ⟨u,hr,h4⟩=>?_
  subst hr
  refine nox h4 fun _ s5 ⟨x,H5,I5,r5,y5,a0,b1⟩=>?_
  have a6:=I5.pinned (B H5 b1) (T.obj _ _ a0)
  refine nox (hg _ s5 W3 H5 x u _ a6 r5 (step x H5 y5)) fun _ s6 ⟨W6,H6,I6,q6⟩=>?_
  have G:∀ {W7:St} {H7:Hp} {s7:ae},Inv X' ([]++as5 fp s5.heap) W7 H7 s7->N W7 H7->∃ m,m<n/\∃ i W' H',Inv X' [] W' H' s7/\tn i s7.heap/\(∀ b∈fp,H' b=none)/\Ww i m W' H':=fun {W7 H7 s7} I7 n7=>by
   obtain⟨m',hm,w7⟩:=hN W7 H7 n7
   refine⟨m',hm,i+1,W7,H7,I7.unpinned,T.keep _ _ _ a0 fun b hb o e=>(I7.pin (b,o) (a7 _ (a7 _ (qt hb e)))).1,fun b hb=>?_,w7⟩
   obtain⟨o,e,d⟩:=T.obj _ _ a0 b hb
   exact(I7.pin (b,o) (a7 _ (a7 _ (qt hb e)))).2.1
  refine nox (hif _ s6 W6 H6 _ I6 q6) fun b s7 ⟨H7,I7,q7⟩=>?_
  cases b with
  | false =>
   rw[if_neg aQ]at q7 ⊢
   exact G I7 q7
  | true =>
   rw[if_pos rfl]at q7 ⊢
   refine nox (he _ s7 W6 H7 _ I7 q7) fun v s8 ⟨y,H8,I8,r8,ys,hy,hz,q8⟩=>?_
   refine nox (aq9 _ s8 W6 H8 (.ref D) [y] (.ref D) [v] (fun _ H9=>N W6 H9) I8 rfl (.cons r8 .nil) ⟨D,ys,y,rfl,rfl,hy,hz,q8⟩) fun v9 s9 ⟨_,H9,I9,_,q9⟩=>?_
   exact G I9 q9
theorem aR3 {X:Cx}{a4 tg iter:Expr}{a5:yK}{scope:Scope}{pos:Pos}{wi:TI}{g:TG}{tc:TT}{te:TE}(N':yH)(src:yD)
  (b2:zG N' src scope X.N X.env.scope=true) (hi:PI X tg iter wi) (Z:X.calm=true)
  (b0:∀(Cc:Addr) (cells:yB) (s:ae) (H:Hp) (ex:List Addr),PG (zr X N' scope Cc cells s H ex) tg g/\PIf (zr X N' scope Cc cells s H ex) a5 tc/\PE (zr X N' scope Cc cells s H ex) a4 te)
  (hs:∀ x,dD iter X.env x=pure x:=by intro _;rfl):PE X (.ListComp a4 [⟨tg,iter,a5,0⟩] scope pos) (tComp src wi g tc te):=by
 intro z s W H Q I h
 have ck:=bg3 b2
 rw[eval_ListComp]
 have a6:=ae0 (scope:=scope) (env:=X.env) fun y hy e=>I.ok.has y.1 (ck.fr y hy e)
 refine gj (use:=none) rfl hs a6 ck.kind ck.loc (thn (hi z s W H _ I h) fun v s1 h1=>thn h1 fun b6 s2 h2=>?_)
 obtain⟨it,B,tn,J,H2,e,I2,T,a2,f2,Ww⟩:=h2
 subst e
 have hD:=I2.fresh
 obtain⟨Ww,⟨m0,w0⟩,turn⟩:=Ww _ hD
 have I3:=I2.lnew (its:=[]) (ys:=[]) (t':=s2.toks) .nil (dJ _)
 have a3:∀ b∈B,b<s2.heap.objs.size:=fun b hb=>by obtain⟨o,q,_⟩:=T.obj _ _ a2 b hb;exact aH q
 have f3:∀ b∈B,FpOk X z (upd H2 s2.heap.objs.size (.lst [])) b:=fun b hb=>⟨by rw[zb (aB (a3 b hb))];exact(f2 b hb).1,(f2 b hb).2⟩
 refine cA (ad5 ?_)
 generalize G:({ s2 with heap:=s2.heap.push { cls:=.type "list",data:=.seq ([]:yG).toArray },toks:=s2.toks }:ae)=s3 at I3
 have b5:({ s2 with heap:=s2.heap.push { cls:=.type "list",data:=.seq ([]:yG).toArray } }:ae)=s3:=G
 have b1:∀ b∈B,b<s3.heap.objs.size:=fun b hb=>by
  rw[<-G]
  show b<(s2.heap.push _).objs.size
  rw[cJ]
  exact dF (a3 b hb)
 have I4:=al4 (s4:={ s3 with heap:=eP (s3.heap.push { cls:=.type "dict",data:=.dict #[] }) scope.names }) ck I3 f3 b1 ⟨_,rfl⟩
 have a1:tn 0 (eP (s3.heap.push { cls:=.type "dict",data:=.dict #[] }) scope.names):=T.keep _ _ _ a2 fun b hb o e=>fe _ _ b o (ak _ (by rw[<-G];exact ak _ e))
 obtain⟨hg,hif,he⟩:=b0 s3.heap.objs.size (bv (s3.heap.objs.size+1) scope.names (ak2 X.env.cells scope.names [])) s3 (upd H2 s2.heap.objs.size (.lst [])) B
 have a0:∀ H':Hp,(∀ b∈B,H' b=none)->∀ b∈B,FpOk (zr X N' scope s3.heap.objs.size (bv (s3.heap.objs.size+1) scope.names (ak2 X.env.cells scope.names [])) s3 (upd H2 s2.heap.objs.size (.lst [])) B) [] H' b:=fun H' hn b hb =>
  ⟨hn b hb,(I4.ok.exf b hb).1,I4.ok.exfs b hb,.inl hb,fun x c e=>(I4.ok.exf b hb).2 x c e,fun p hp=>absurd (show p∈([]:yA)from hp) (by simp)⟩
 have T':Turn X.prog X.w X.K tg J B it tn:=T
 have b4:∀ b∈B,upd H2 s2.heap.objs.size (.lst []) b=none:=fun b hb=>(f3 b hb).1
 have L:=aq7 (X':=zr X N' scope s3.heap.objs.size (bv (s3.heap.objs.size+1) scope.names (ak2 X.env.cells scope.names [])) s3 (upd H2 s2.heap.objs.size (.lst [])) B) (R:=compPost (model X.prog X.w) X.A X.xe none (EP X z W Q) (Value.ref s2.heap.objs.size) s3.heap.objs.size) (iter:=iter) (scope:=scope) (pos:=pos) (QD:=fun H'=>Q (.ref s2.heap.objs.size) H') rfl Z I4 T' a1 a0 b4 w0 turn hg hif he
  (fun W' H' s' J' q=>by
   obtain⟨mm,hn,_⟩:=J'.loc
   exact⟨mm,hn,fun h' b3=>⟨.ref s2.heap.objs.size,H',aD4 I3 f3 J' b3,rfl,q⟩⟩)
 exact gQ L (T.self _ _ _ _ _ a1 L)
section
variable {X:Cx}
theorem bV8:bq "abs"=some (.builtin "abs"):=by decide +kernel
theorem bU8:bq "len"=some (.builtin "len"):=by decide +kernel
theorem bA2:bq "min"=some (.builtin "min"):=by decide +kernel
theorem ar9:bq "isinstance"=some (.builtin "isinstance"):=by decide +kernel
theorem bM0:bq "int"=some (.type "int"):=by decide +kernel
theorem bz8:bq "bool"=some (.type "bool"):=by decide +kernel
theorem bB2:bq "str"=some (.type "str"):=by decide +kernel
theorem aL2:bq "tuple"=some (.type "tuple"):=by decide +kernel
theorem aR4:bq "list"=some (.type "list"):=by decide +kernel
def bV4 (i j:Int):Prop:=0<j/\j<2^4096
theorem aI2 {y:Int}(h0:0<y)(h:y<2^4096):y.natAbs.log2<9000:=by
 have hn:y.natAbs<2^4096:=by
  have:(y.natAbs:Int)=y:=by lia
  have z:(y.natAbs:Int)<((2^4096:Nat):Int):=by rw[this];simpa using h
  exact jt.mp z
 have:=(Nat.log2_lt (by lia)).mpr hn
 lia
theorem aW3:OpR X (b7 .FloorDiv) (rI bV4 fun i j=>.int (i / j)):=opI fun i j _ _ _ _ _ hc q=>by
 refine floordiv_int (by have:=hc.1;omega) ?_ (.inl (PyProof.noPylong_of_log2 (aI2 hc.1 hc.2)))
 rw[fC i (by have:=hc.1;lia)]
 exact q
theorem az5 {K:af}(h:X.K=K):IxR X (bW4 K):=by subst h;exact bm6
theorem bk3 {K:af}(h:X.K=K):IxR X (bW2 K):=by subst h;exact ix_tup
theorem ah3 {K:af}(y:X.K=K):aa9 X (.builtin "len") (fun h H Q=>∃ p ys,h=[.ref p]/\(SqL K H p ys\/SqT K H p ys)/\Q (.int ys.length) H):=by subst y;exact at8
theorem ax5 {K:af}(y:X.K=K):aa9 X (.type "tuple") (fun h H Q=>∃ p ys,h=[.ref p]/\((SqL K H p ys/\∀ l,H l=none->Q (.ref l) (upd H l (.tup ys)))\/(SqT K H p ys/\Q (.ref p) H))):=by subst y;exact ao6
theorem aG5 {K:af}(y:X.K=K):aa9 X (.type "list") (fun h H Q=>∃ p ys,h=[.ref p]/\(SqL K H p ys\/SqT K H p ys)/\∀ l,H l=none->Q (.ref l) (upd H l (.lst ys))):=by subst y;exact aq3
theorem aW0 {K:af}{tg l:Expr}{tl:TE}(h:X.K=K)(y:PE X l tl):PI X tg l (bq1 K tl):=by subst h;exact bp1 y
theorem bm9 {K:af}{tg l:Expr}{tl:TE}(h:X.K=K)(y:PE X l tl):PI X tg l (bQ3 K tl):=by subst h;exact bI5 y
theorem bl6 {K:af}{pos:Pos}{es:yK}{k:Nat}{t:TGs}{n:Nat}(z:X.K=K)(hc:X.calm=true)(h:PGs X es t)
  (hn:(cH es X.env).length=n:=by rfl) (y:(cH es X.env).findIdx? (·.1)=none:=by rfl):PG X (.Tuple es k pos) (bS7 K n t):=by subst z;exact bL9 hc h hn y
end
structure DefAt (K:af)(mg:yC)(x:Str)(st:Stmt)(ps:yH)(f:Addr)(fd:bT):Prop where
 fn:Fun K x x st f fd
 mg:mg x=some (.ref f)
 bi:Binds K fd ps []
@[irreducible] noncomputable def ca8 (p:Prop):Prop:=p
theorem ae3.new {p:Addr}{H y:Hp}{o:HO}(h:ae3 H y)(hp:y p=none):ae3 H (L2.upd y p o):=fun x o e=>by
 have e1:=h x o e
 rw[zb (zo e1 hp)]
 exact e1
section
variable {prog:aD} {w:World} {A:aP} {R:iZ->ae->Prop} {I:Addr} {fp wr:List Addr} {n:Nat} {P:Nat->Value->Prop} {St:Nat->Heap->Prop} {kw:List (Str×Value)}
end
theorem ah9 (val : Nat -> Int) : ∀ k j, j <= k -> val (jQ (fun i j => decide (val i < val j)) k) <= val j
  | 0, j, h => by have : j = 0 := by lia
                  subst this; exact cy _
  | k + 1, j, h => by
    have ih := ah9 val k
    unfold jQ
    by_cases hb : val (k + 1) < val (jQ (fun i j => decide (val i < val j)) k)
    . rw[if_pos (by simpa using hb)]
      by_cases hj : j = k + 1
      . subst hj; exact cy _
      . have := ih j (by lia); lia
    . rw[if_neg (by simpa using hb)]
      by_cases hj : j = k + 1
      . subst hj; omega
      . exact ih j (by omega)
theorem aS4 {ns:List Int}{its:yG}(r:Vals (ns.map V.int) its){i:Nat}{v:Value}(h:its[i]?=some v):∃ z t,ns[i]?=some z/\v=Value.int z t:=by
 have y:=r.length
 rw[az]at y
 have B:i<its.length:=(ac.mp h).1
 obtain⟨u,e1,q⟩:=r.get (i:=i) (x:=.int ns[i]) (by rw[aE,ag (by omega)];rfl)
 rw[h]at e1;cases e1
 obtain⟨t,rfl⟩:=q
 exact⟨_,t,ag (by omega),rfl⟩
inductive D where
 | non|bl (b:Bool)|int (i:Int)|str (x:Str)|tup (l:List D)|lst (l:List D)
mutual
noncomputable def D.deep:D->Nat
 | .tup l=>D.deepL l+1
 | .lst l=>D.deepL l+1
 | _=>0
noncomputable def D.deepL:List D->Nat
 | []=>0
 | d::l=>max (D.deep d) (D.deepL l)
end
section
variable {X:Cx}
end
section
variable {X:Cx}
def bR3 (K:af):R2:=fun x y H Q=>∃ a b xs ys,x=.ref a/\y=.ref b/\SqT K H a xs/\SqT K H b ys/\xs.length+ys.length<=aL/\∀ p H',ae3 H H'->SqT K H' p (xs++ys)->(H' p=some (.tup (xs++ys))\/(p=a/\ys=[])\/(p=b/\xs=[]))->Q (.ref p) H'
theorem bm2 {prog:aD}{w:World}{A:aP}{E:Value->ae->Prop}{s:ae}{t b:Addr}{ws:yG}{Q:Value->ae->Prop}(ht:IsTup s.heap t ([]:yG).toArray)(hb:IsTup s.heap b ws.toArray)(h1:Q (.ref b) s) :
  wpAny (model prog w) A (b7 .Add (.ref t) (.ref b)) Q E s:=by
 obtain⟨⟨cls,dd,data,sl⟩,ho,hc,n,hd⟩:=id ht
 obtain⟨⟨Z,B,G,J⟩,h,z,n2,y⟩:=id hb
 simp only at hc hd z y
 subst hc hd z y
 exact jo ⟨_,ho,rfl⟩ ⟨_,h,rfl⟩ gp iQ el d9 (dT _ _)
   (tuple_addW0 t b _ ws.toArray n n2 dd B sl J rfl) ⟨ho,h,h1⟩
theorem bu9 {K:af}(hK:X.K=K):OpR X (b7 .Add) (bR3 K):=by
 subst hK
 intro B s W H x y v u Q I Z G h
 obtain⟨a,b,xs,ys,e1,e2,ha,hb,hz,q⟩:=h
 by_cases hx:xs=[]
 .subst e1;subst e2;subst hx
  cases Z;cases G
  obtain⟨its,r1,p1,_⟩:=I.tuple ha
  obtain⟨J,r2,p2,_⟩:=I.tuple hb
  obtain rfl:its=[]:=r1.nil_iff.mpr rfl
  exact bm2 p1 p2 ⟨.ref b,H,I,rfl,q b H (ae3.refl H) hb (.inr (.inr ⟨rfl,rfl⟩))⟩
 .refine bk2 B s W H x y v u Q I Z G ⟨a,b,xs,ys,e1,e2,ha,hb,hx,hz,fun z=>?_,fun z p hp=>?_⟩
  .subst z
   exact q a H (ae3.refl H) (by rw[bt];exact ha) (.inr (.inl ⟨rfl,rfl⟩))
  .exact q p _ ((ae3.refl H).new hp) (SqT.of zp) (.inl zp)
end
noncomputable def Its (x:Str):It:=⟨fun i _=>i<x.cps.size,fun i H v H'=>H'=H/\∃ c,x.cps[i]?=some c/\v=.str ⟨#[c]⟩,fun i _=>x.cps.size<=i⟩
theorem aC6 {P:aD}{w:World}{K:af}{tg:Expr}{G:String}{x:Str}{t:Tok}(it:Addr)(hn:["enumerate", "zip", "dict_itemiterator", "dict_reverseitemiterator", "odict_iterator", "itertools.zip_longest", "itertools.pairwise"].contains G=false)
  (Ww:∀ A:aP,A.handled=none->Walks P w A it [it] [it] x.cps.size (SignAt x) (fun i h=>h.IsStrIter it G x t i))
  (Z:∀(A:aP) (s:ae) (i:Nat) (Q:Option Value->ae->Prop) (E:Value->ae->Prop),A.handled=none->s.heap.IsStrIter it G x t i->x.cps[i]?=none->(∀ h',jI it s.heap h'->Q none { s with heap:=h' })->wpAny (model P w) A (pyNext (.ref it)) Q E s)
  (B:∀(A:aP) (i:Nat) (s:ae) (Q:Value->ae->Prop) (E:Value->ae->Prop),s.heap.IsStrIter it G x t i->Q (.ref it) s->wpAny (model P w) A (kA (.ref it)) Q E s):Turn P w K tg (Its x) [it] it (fun i h=>h.IsStrIter it G x t i) where
 mem:=by simp
 obj:=fun i h st b hb=>by
  have e:b=it:=by simpa using hb
  subst e
  obtain⟨o,ho,hc,hd⟩:=st
  exact⟨o,ho,fun v z=>by rw[hd]at z;cases z⟩
 keep:=fun i h h' st k=>by
  obtain⟨o,ho,r⟩:=st
  exact⟨o,k it (by simp) _ ho,r⟩
 item:=by
  intro X hP hw hK hc i y s W H E I hf st hg
  subst hP hw hK
  obtain⟨f0,f1,f2,f3,f4,f5⟩:=hf it (by simp)
  refine(Ww X.A (I.ok.hd hc)).item i s _ _ hg st fun v h' tk hv J kk=>?_
  obtain⟨c,u,a0,rfl⟩:=hv
  have I1:Inv X y W H { s with heap:=h',toks:=tk }:=I.turned (fun b o hb e=>kk b o (by simpa using hb) e) f0 f1 f3 f4 f5
  obtain⟨o,ho,a1,hd⟩:=id J
  exact⟨_,rfl,aP9 (s:={ s with heap:=h',toks:=tk }) (n:=G) ho a1 hd hn ⟨.str ⟨#[c]⟩,H,I1,⟨u,rfl⟩,⟨rfl,c,a0,rfl⟩,J,fun b hb=>(hf b hb).1⟩⟩
 done:=by
  intro X hP hw hK hc i y s W H E I hf st hg
  subst hP hw hK
  obtain⟨f0,f1,f2,f3,f4,f5⟩:=hf it (by simp)
  have a2:x.cps.size<=i:=hg
  exact Z X.A s i _ E (I.ok.hd hc) st (by simp;omega) fun h' eb=>⟨rfl,I.turned (t':=s.toks) (fun b o hb e=>eb b o hb e) f0 f1 f3 f4 f5⟩
 self:=fun A i s Q E st h=>B A i s Q E st h
def bX0 (tl:TE):TI:=fun W H R=>tl W H fun v H1=>∃ x,v=.str x/\R (Its x) H1
theorem bK2 {X:Cx}{tg l:Expr}{tl:TE}(Z:PE X l tl):PI X tg l (bX0 tl):=by
 intro y s W H R I h
 refine thn (Z y s W H _ I h) fun v s1 ⟨v0,H1,B,r1,q1⟩=>?_
 obtain⟨x,e,q⟩:=q1
 subst e
 obtain⟨t,rfl⟩:=r1
 have fin:∀(J:String) (o:Obj),o={ cls:=.type J,data:=.fields #[.str x t,.int 0 0] }->Turn X.prog X.w X.K tg (Its x) [s1.heap.objs.size] s1.heap.objs.size (fun i h=>h.IsStrIter s1.heap.objs.size J x t i)->PIE X y W tg R (.ref s1.heap.objs.size) { s1 with heap:=s1.heap.push o }:=fun J o eo T=>by
  subst eo
  refine⟨s1.heap.objs.size,[s1.heap.objs.size],_,_,H1,rfl,B.kept (t':=s1.toks) fun b o e=>ak _ e,T,⟨_,aX _ rfl,rfl,rfl⟩,fun b hb=>?_,q⟩
  have e:b=s1.heap.objs.size:=by simpa using hb
  subst e
  exact B.fpOk (ah _) (B.hok.fresh (ah _))
 cases ha:x.cps.all (·<128)
 .exact wpAny_pyIter_wide ha (fin "str_iterator" _ rfl (aC6 _ (by decide) (fun A z=>Walks.strWide z _ x t) (fun A s i Q E z st hx G=>wpAny_pyNext_wide_end z st hx G) fun A i s Q E st h=>wpAny_pyIter_striter_wide st h))
 .exact wpAny_pyIter_ascii ha (fin "str_ascii_iterator" _ rfl (aC6 _ (by decide) (fun A z=>Walks.strAscii z _ x t) (fun A s i Q E z st hx G=>wpAny_pyNext_ascii_end z st hx G) fun A i s Q E st h=>wpAny_pyIter_striter_ascii st h))
section
variable {X:Cx} {K:af} {T id:String} {name:Str} {o e:Expr} {es:yK} {to:TE} {t:TA} {r:V->List V->Hp->VK->Prop} {apos cpos:Pos}
theorem bB7 (J:X.K=K)(Z:jV T)(slot:Slot T name id)(G:typeOf (.builtin id)=pure (.type "method_descriptor"))(hm:MtR X id r)(ho:PE X o to)(ha:PA X (e::es) t)
  (z:c5 o name X.env (eval o X.env)=eval o X.env:=by rfl)
  (B:((cD cpos (aV (e::es) X.env)).all (fun x=>!x.1)&&(eg cpos (cS [] X.env)).all (fun x=>x.1.isSome)
   && decide ((e::es).length+([]:List dX).length+(if([]:List dX).isEmpty then 0 else 1)<30))=true:=by rfl)
  (y:(apos.endLine==cpos.line)=true:=by rfl) (hs:aV (e::es) X.env=(false,eval e X.env)::aV es X.env:=by rfl) (h:(cD cpos (aV es X.env)).any (·.1)=false:=by rfl) :
  PE X (.Call (.Attribute o name apos) (e::es) [] cpos) (tBM K T r to t):=by
 subst J
 exact bU7 Z slot G hm ho ha z B y hs h
end
structure Mach where
 letters:Int
 rooms:Int
 begins:List Int
 ends:List Int
 doors:List (Int×Str×Int×Int)
noncomputable def bT1 (q:Int×Str×Int×Int):D:=.tup [.int q.1,.str q.2.1,.int q.2.2.1,.int q.2.2.2]
noncomputable def Mach.D (M:Mach):D:=.tup [.int M.letters,.int M.rooms,.tup (M.begins.map .int),.tup (M.ends.map .int),.tup (M.doors.map bT1)]
noncomputable def ltr (i:Nat):Str:=⟨#[97+i]⟩
structure DoorOk (letters rooms:Int)(q:Int×Str×Int×Int):Prop where
 s0:0<=q.1
 s1:q.1<rooms
 l:∃ i:Nat,(i:Int)<letters/\q.2.1=ltr i
 g0:0<=q.2.2.1
 g1:q.2.2.1<rooms
 t0:0<=q.2.2.2
 t1:q.2.2.2<=3
structure RoomsOk (rooms:Int)(l:List Int):Prop where
 mem:∀ r∈l,0<=r/\r<rooms
 up:l.Pairwise (· < ·)
structure Mach.Ok (most:Nat)(M:Mach):Prop where
 l0:1<=M.letters
 l1:M.letters<=3
 r0:1<=M.rooms
 r1:M.rooms<=5
 b:RoomsOk M.rooms M.begins
 e:RoomsOk M.rooms M.ends
 d:∀ q∈M.doors,DoorOk M.letters M.rooms q
 m:M.doors.length<=most
mutual
noncomputable def D.tups:D->Bool
 | .lst _=>false
 | .tup l=>D.tupsL l
 | _=>true
noncomputable def D.tupsL:List D->Bool
 | []=>true
 | d::l=>D.tups d&&D.tupsL l
end
end L2
end
noncomputable section
namespace L2
end L2
end
noncomputable section
namespace L2
open PySem PySem.Spec PyProof.Rows
noncomputable def minO:List Int->Option Int
 | []=>none
 | a::l=>some (match minO l with|none=>a|some b=>if b<a then b else a)
theorem aG0 {X:Cx}{Z tg iter:Expr}{a0:yK}{scope:Scope}{pos a1 py:Pos}{y:Str}{i:Nat}{wi:TI}{g:TG}{tc:TT}{te:TE}(N':yH)(src:yD)
  (hN:X.N.Nodup) (b3:X.N[i]?=some y) (a6:X.env.scope.names.lookup y=some .local)
  (c3:zG N' src scope X.N X.env.scope=true) (hi:PI X tg iter wi) (a2:X.calm=true)
  (b2:∀(Cc:Addr) (cells:yB) (s:ae) (H:Hp) (ex:List Addr),PG (zr X N' scope Cc cells s H ex) tg g/\PIf (zr X N' scope Cc cells s H ex) a0 tc/\PE (zr X N' scope Cc cells s H ex) Z te)
  (hs:∀ x,dD iter X.env x=pure x:=by intro _;rfl)
  (b6:eM (.ListComp Z [⟨tg,iter,a0,0⟩] scope pos) (some (.Name y py)) a1.line X.env=pure true:=by rfl) :
  PS X (.Assign [.Name y py] (.ListComp Z [⟨tg,iter,a0,0⟩] scope pos) a1) (bc1 (tComp src wi g tc te) (at3 i)):=by
 intro B s W H D0 I h
 have ck:=bg3 c3
 rw[exec_Assign_Name_used _ _ _ _ b6]
 refine aq (iM (aq ?_))
 show wpAny _ X.A (do let _ <- comprehension (.ListComp Z [⟨tg,iter,a0,0⟩] scope pos) scope X.env _ (newList []) false (eval iter X.env) (some (gG (.Name y py) X.env))) _ _ s
 have c1:=ae0 (scope:=scope) (env:=X.env) fun y hy e=>I.ok.has y.1 (ck.fr y hy e)
 refine aq (bS (gj (use:=some (gG (.Name y py) X.env)) (Q:=fun _ s'=>SP X B D0 .next s') rfl hs c1 ck.kind ck.loc (thn (hi B s W H _ I h) fun v s1 h1=>thn h1 fun d0 s2 h2=>?_)) (fun _ s' hq=>aW (aW hq)) fun _ _ e=>e)
 obtain⟨it,G,tn,J,H2,e,I2,T,b0,f2,Ww⟩:=h2
 subst e
 have hD:=I2.fresh
 obtain⟨Ww,⟨m0,w0⟩,turn⟩:=Ww _ hD
 have I3:=I2.lnew (its:=[]) (ys:=[]) (t':=s2.toks) .nil (dJ _)
 have b1:∀ b∈G,b<s2.heap.objs.size:=fun b hb=>by obtain⟨o,q,_⟩:=T.obj _ _ b0 b hb;exact aH q
 have f3:∀ b∈G,FpOk X B (upd H2 s2.heap.objs.size (.lst [])) b:=fun b hb=>⟨by rw[zb (aB (b1 b hb))];exact(f2 b hb).1,(f2 b hb).2⟩
 refine cA (ad5 ?_)
 generalize a3:({ s2 with heap:=s2.heap.push { cls:=.type "list",data:=.seq ([]:yG).toArray },toks:=s2.toks }:ae)=s3 at I3
 have c4:({ s2 with heap:=s2.heap.push { cls:=.type "list",data:=.seq ([]:yG).toArray } }:ae)=s3:=a3
 have c2:∀ b∈G,b<s3.heap.objs.size:=fun b hb=>by
  rw[<-a3]
  show b<(s2.heap.push _).objs.size
  rw[cJ]
  exact dF (b1 b hb)
 have I4:=al4 (s4:={ s3 with heap:=eP (s3.heap.push { cls:=.type "dict",data:=.dict #[] }) scope.names }) ck I3 f3 c2 ⟨_,rfl⟩
 have a5:tn 0 (eP (s3.heap.push { cls:=.type "dict",data:=.dict #[] }) scope.names):=T.keep _ _ _ b0 fun b hb o e=>fe _ _ b o (ak _ (by rw[<-a3];exact ak _ e))
 obtain⟨hg,hif,he⟩:=b2 s3.heap.objs.size (bv (s3.heap.objs.size+1) scope.names (ak2 X.env.cells scope.names [])) s3 (upd H2 s2.heap.objs.size (.lst [])) G
 have a4:∀ H':Hp,(∀ b∈G,H' b=none)->∀ b∈G,FpOk (zr X N' scope s3.heap.objs.size (bv (s3.heap.objs.size+1) scope.names (ak2 X.env.cells scope.names [])) s3 (upd H2 s2.heap.objs.size (.lst [])) G) [] H' b:=fun H' hn b hb =>
  ⟨hn b hb,(I4.ok.exf b hb).1,I4.ok.exfs b hb,.inl hb,fun x c e=>(I4.ok.exf b hb).2 x c e,fun p hp=>absurd (show p∈([]:yA)from hp) (by simp)⟩
 have T':Turn X.prog X.w X.K tg J G it tn:=T
 have b5:∀ b∈G,upd H2 s2.heap.objs.size (.lst []) b=none:=fun b hb=>(f3 b hb).1
 have L:=aq7 (X':=zr X N' scope s3.heap.objs.size (bv (s3.heap.objs.size+1) scope.names (ak2 X.env.cells scope.names [])) s3 (upd H2 s2.heap.objs.size (.lst [])) G) (R:=compPost (model X.prog X.w) X.A X.xe (some (gG (.Name y py) X.env)) (fun _ s'=>SP X B D0 .next s') (Value.ref s2.heap.objs.size) s3.heap.objs.size) (iter:=iter) (scope:=scope) (pos:=pos) (QD:=fun H'=>D0.nx (W.set i (some (.ref s2.heap.objs.size))) H') rfl a2 I4 T' a5 a4 b5 w0 turn hg hif he
  (fun W' H' s' J' q=>by
   have J2:=aD4 I3 f3 J' (Heap.SameBut.refl _ _)
   obtain⟨mm,hn,_⟩:=J'.loc
   have nL:s3.heap.objs.size≠X.env.locals:=gH I3.lt
   have nC:∀ x c,X.env.cells.lookup x=some c->c≠s3.heap.objs.size:=fun x c e=>by
    obtain⟨v,z⟩:=I3.cell x c e
    exact aB z.lt
   show wpAny _ X.A (gG (.Name y py) X.env (.ref s2.heap.objs.size)) _ _ _
   refine jg (au0 (v:=.ref s2.heap.objs.size) J2 hN b3 (.inl a6) rfl (fun s5 I5 sb=>?_) (.inr a6))
   obtain⟨aa,sb,ha⟩:=sb
   have na:s3.heap.objs.size≠aa:=by
    rcases ha with z|z
    .rw[z];exact nL
    .exact fun e=>nC _ _ z e.symm
   refine⟨mm,hn.sameBut sb na,fun h' b4=>⟨_,H',I5.turned (t':=s5.toks) (fun b o hb e=>(b4.2 b hb).trans e) J'.free nL (.inr I3.sz) nC fun p hp z=>?_,q⟩⟩
   exact absurd (aH (I3.pin p hp).1) (by rw[z];exact bZ _))
 exact gQ L (T.self _ _ _ _ _ a5 L)
section
variable {M:Model} {A:aP} {E:Value->ae->Prop} {s₀ s:ae} {m cm:yC} {env:Env} {cs:yB}
end
noncomputable def aF9 (c:Addr)(qual:Str):HO:=.ext fun h=>h.CodeRec (.ref c) qual
noncomputable def bx8 (f:Addr)(fd:bT):HO:=.ext fun h=>h.get? f=some { cls:=.type "function",data:=.func fd }
theorem aX0 {P:aD}{w:World}{H:Hp}{h:Heap}{f:Addr}{y:bT}(x:HOk P w H h)(e:H f=some (bx8 f y)):h.get? f=some { cls:=.type "function",data:=.func y }:=(x f _ e).1
noncomputable def isC (cells:yB)(b:Addr):Bool:=cells.any fun p=>cells.lookup p.1==some b
theorem bu1 {cells:yB}{b:Addr}:isC cells b=true↔∃ x,cells.lookup x=some b:=by
 unfold isC
 rw[jD]
 constructor
 .rintro⟨p,_,e⟩;exact⟨p.1,by simpa using e⟩
 .rintro⟨x,e⟩;exact⟨(x,b),be e,by simpa using e⟩
noncomputable def al5 (cells:yB)(H:Hp):Hp:=fun b=>if isC cells b=true then none else H b
noncomputable def Put (cells:yB)(H H':Hp):Hp:=fun b=>if isC cells b=true then H b else H' b
theorem al5.cell {cells:yB}{H:Hp}{b:Addr}(h:isC cells b=true):al5 cells H b=none:=if_pos h
theorem al5.ne {cells:yB}{H:Hp}{b:Addr}(h:isC cells b≠true):al5 cells H b=H b:=if_neg h
theorem al5.some {cells:yB}{H:Hp}{b:Addr}{o:HO}(h:al5 cells H b=some o):isC cells b≠true/\H b=some o:=by
 unfold al5 at h
 split at h
 .cases h
 .rename_i z;exact⟨z,h⟩
theorem al5.none {cells:yB}{H:Hp}{b:Addr}(h:H b=none):al5 cells H b=none:=by
 unfold al5
 split
 .rfl
 .exact h
theorem Put.cell {cells:yB}{H H':Hp}{b:Addr}(h:isC cells b=true):Put cells H H' b=H b:=if_pos h
theorem Put.ne {cells:yB}{H H':Hp}{b:Addr}(h:isC cells b≠true):Put cells H H' b=H' b:=if_neg h
def Cells (clos:yB)(H:Hp):Prop:=∀ x c,clos.lookup x=some c->∃ o v,H c=some (.frz o (.own c))/\o.data=.cell v
theorem Cells.at {y:yB}{H:Hp}(z:Cells y H){b:Addr}(h:isC y b=true):∃ o v,H b=some (.frz o (.own b))/\o.data=.cell v:=by
 obtain⟨x,e⟩:=bu1.mp h
 exact z x b e
def Cap (clos:yB)(H:Hp)(fr:yH)(cap:List V):Prop:=∀(i:Nat) (x:Str) (v:V),fr[i]?=some x->cap[i]?=some v->∃ c o u,clos.lookup x=some c/\H c=some (.frz o (.own c))/\o.data=.cell (some u)/\RelV v u
theorem HOk.drop {P:aD}{w:World}{H:Hp}{h:Heap}{B:yB}(x:HOk P w H h)(z:Cells B H):HOk P w (al5 B H) h:=fun b o e=>by
 obtain⟨_,e'⟩:=al5.some e
 have J:∀ c u,H c=some u->(∀ o v,u≠.frz o v)->isC B c≠true:=fun c u q d y=>by
  obtain⟨o,v,G,_⟩:=z.at y
  rw[q]at G;cases G
  exact d _ _ rfl
 exact(x b o e').stay (fun _ _ _ q=>q) (fun c q=>by rw[al5.ne (J c _ q fun _ _=>by nofun)];exact q) fun c Z q=>by rw[al5.ne (J c _ q fun _ _=>by nofun)];exact q
def aJ2 (H:Hp)(f:Addr)(qual:Str)(params:eO)(body:Expr)(scope:Scope)(fr:yH)(cap:List V)(clos:yB):Prop :=
 ∃ pm c' ctv,H f=some (bx8 f (jY "<lambda>" qual params body scope clos pm (.ref c') ctv))/\H c'=some (aF9 c' qual)/\Cells clos H /\
  (∀ x y c,clos.lookup x=some c->clos.lookup y=some c->x=y)/\(∀ x,scope.names.lookup x=some .free->∃ c,clos.lookup x=some c)/\Cap clos H fr cap
def BM (mg:yC)(base:Heap):Prop:=∃ bm ob,mg "__builtins__"=some (.ref bm)/\bm≠gD/\base.get? bm=some ob/\ob.cls=.type "module"/\ob.dict=some gD/\ob.data=.plain
structure Caught (cl:yB)(N:yH)(kd:Str->Option cx)(W:St)(H1 H2:Hp):Prop where
 ne:∀ b,isC cl b≠true->H2 b=H1 b
 free:∀ b,isC cl b=true->H1 b=none
 cells:Cells cl H2
 cap:∀(i:Nat) (x:Str) (v:V) (c:Addr),N[i]?=some x->W[i]?=some (some v)->(kd x=some .cell\/kd x=some .free)->cl.lookup x=some c->∃ o u,H2 c=some (.frz o (.own c))/\o.data=.cell (some u)/\RelV v u
 inj:∀ x y c,cl.lookup x=some c->cl.lookup y=some c->x=y
def bO0 (K:af)(H:Hp)(f:Addr):Prop:=(∃ fd,H f=some (bx8 f fd))\/∃ oc od fd sl,K.lookup f=some ⟨oc,od,.func fd,sl⟩
theorem bO0.at {X:Cx}{y:yA}{W:St}{H:Hp}{s:ae}{f:Addr}(h:bO0 X.K H f)(I:Inv X y W H s):PySem.W.FnAt f s.heap:=by
 rcases h with⟨z,h⟩|⟨oc,od,z,sl,h⟩
 .exact⟨_,_,_,_,aX0 I.hok h⟩
 .exact⟨_,_,_,_,I.kIn _ _ h⟩
noncomputable def av0 (K:af)(names:yH):List (Str×Addr×Addr):=names.filterMap fun x=>(br K x).map fun p=>(x,p)
theorem al8 {K:af}{names:yH}{y:Str×Addr×Addr}:y∈av0 K names↔y.1∈names/\br K y.1=some y.2:=by
 unfold av0
 rw[dZ]
 constructor
 .rintro⟨x,hx,e⟩
  obtain⟨p,hp,rfl⟩:=eA.mp e
  exact⟨hx,hp⟩
 .rintro⟨hx,e⟩
  exact⟨y.1,hx,by rw[e];rfl⟩
def bv4 (K:af)(names:yH)(base:Heap):Prop:=∀ x∈names,∀ c P,br K x=some (c,P)->cz base c P
def bs5 (K:af)(names:yH)(H:Hp):Prop:=∀ x∈names,∀ c P,br K x=some (c,P)->H P=some (.tbl #[])
noncomputable def bL3 (K:af)(names:yH)(ts:List Addr):Bool:=names.all fun x=>match br K x with
 | some (c,P)=>jE K c P&&ts.contains P
 | none=>true
theorem az8 {K:af}{x:Str}(h:(br K x).isSome=true):br K x=some (((br K x).getD (0,0)).1,((br K x).getD (0,0)).2):=by
 obtain⟨p,e⟩:=gi.mp h
 rw[e]
 rfl
def by6 (H:Hp)(P:Addr)(q:Str):Prop:=∃ ps:Array Value,H P=some (.tbl ps)/\TriplesOk ps.toList/\∀ pos cv,codeAmong pos ps.toList=some cv->∃ c',cv=.ref c'/\H c'=some (aF9 c' q)
def TabsH (T:List (Addr×Str))(H:Hp):Prop:=∀ y∈T,by6 H y.1 y.2
def bC4 (H H':Hp):Prop:=∀ b o,(∀ ps,o≠.tbl ps)->H b=some o->H' b=some o
theorem bC4.of {H y:Hp}(a:ae3 H y):bC4 H y:=fun c o _ h=>a c o h
theorem TabsH.keep {T:List (Addr×Str)}{H H':Hp}(h:TabsH T H)(k:∀ b o,(∀ B,o≠.lst B)->H b=some o->H' b=some o):TabsH T H':=fun y hy=>by
 obtain⟨ps,e,t,c⟩:=h y hy
 refine⟨ps,k _ _ (fun _=>by nofun) e,t,fun pos z q=>?_⟩
 obtain⟨G,e1,e2⟩:=c pos z q
 exact⟨G,e1,k _ _ (fun _=>by unfold aF9;nofun) e2⟩
theorem TabsH.same {T:List (Addr×Str)}{H H':Hp}(h:TabsH T H)(s:ae3 H H'):TabsH T H':=h.keep fun b o _ e=>s b o e
theorem TabsH.new {T:List (Addr×Str)}{H:Hp}{a:Addr}{o:HO}(h:TabsH T H)(n:H a=none):TabsH T (upd H a o):=h.same ((ae3.refl H).new n)
theorem TabsH.put {T:List (Addr×Str)}{H:Hp}{a:Addr}{o:HO}{y:List V}(h:TabsH T H)(n:H a=some (.lst y)):TabsH T (upd H a o):=h.keep fun b u d e=>by
 rw[zb fun z=>by subst z;rw[n]at e;cases e;exact d _ rfl];exact e
theorem TabsH.init {T:List (Addr×Str)}{H:Hp}(h:∀ p∈T.map (·.1),H p=some (.tbl #[])):TabsH T H:=fun y hy =>
 ⟨#[],h _ (bw hy),trivial,fun pos z e=>by simp[codeAmong]at e⟩
theorem Caught.same {cells:yB}{N:yH}{kd:Str->Option cx}{W:St}{B y:Hp}(h:Caught cells N kd W B y):ae3 B y:=fun b o e=>by
 rw[h.ne b fun z=>by rw[h.free b z]at e;cases e];exact e
theorem aL7 {X:Cx}{K:af}(hc:X.calm=true)(hK:X.K=K):aa9 X (.builtin "min") (fun xs H Q=>∃ a ns,xs=[.ref a]/\SqL K H a (ns.map V.int)/\ns≠[]/\∀ m∈ns,(∀ y∈ns,m<=y)->Q (.int m) H):=by
 subst hK
 intro a0 s W H xs us Q I r h
 obtain⟨a,ns,rfl,hS,Z,q⟩:=h
 obtain⟨u,rfl,ru⟩:=qy r
 cases ru
 obtain⟨its,rv,pl,hz⟩:=I.list hS
 have hl:=rv.length
 rw[az]at hl
 have a1:0<ns.length:=List.length_pos_iff.mpr Z
 refine call_min_walk (fT pl.isList ?_)
 have B:a<s.heap.objs.size:=by obtain⟨o,_,e,_⟩:=pl;exact aH e
 have Ww:=Walks.list (prog:=X.prog) (w:=X.w) (A:=X.A.in1) (I.ok.hd hc) s.heap.objs.size a (aB B) its.toArray
 let val:Nat->Int:=fun i=>ns.getD i 0
 have G:∀ i v,its.toArray[i]?=some v->∃ t,v=Value.int (val i) t:=fun i v e=>by
  obtain⟨z,t,e1,e2⟩:=aS4 rv (i:=i) (v:=v) (by rw[ic]at e;exact e)
  refine⟨t,?_⟩
  rw[e2]
  show Value.int z t=Value.int (ns.getD i 0) t
  rw[cL,e1]
  rfl
 refine⟨_,_,_,_,_,_,_,rfl,Ww,⟨⟨_,aX _ rfl,rfl,rfl⟩,?_⟩,fun b hb=>?_,by rw[av];lia,CmpOf.ints_lt val G,fun v h' tk hP k=>?_⟩
 .obtain⟨o,e,r⟩:=pl.isList
  exact⟨o,ak _ e,r⟩
 .show b<(s.heap.push _).objs.size
  rw[cJ]
  rcases ay.mp hb with z|z
  .rw[z];exact c9 _
  .have J:b=a:=by simpa using z
   rw[J];exact dF B
 .obtain⟨z,t,e1,e2⟩:=aS4 rv (i:=jQ (fun i j=>decide (val i<val j)) (its.toArray.size - 1)) (v:=v) (by rw[ic]at hP;exact hP)
  subst e2
  have hv:val (jQ (fun i j=>decide (val i<val j)) (its.toArray.size - 1))=z:=by
   show ns.getD _ 0=z
   rw[cL,e1]
   rfl
  refine⟨.int z,H,I.kept (h':=h') (t':=tk) fun b o q=>k b o ?_ (ak _ q),⟨t,rfl⟩,q z (aG e1) fun y hy=>?_⟩
  .intro z
   have J:b=s.heap.objs.size:=by simpa using z
   exact absurd (aH q) (by rw[J];exact bZ _)
  .obtain⟨j,hj,e3⟩:=bI.mp hy
   have:=ah9 val (its.toArray.size - 1) j (by simp only[av];lia)
   rw[hv]at this
   have e4:val j=y:=by
    show ns.getD j 0=y
    rw[cL,ag hj]
    exact e3
   lia
noncomputable def mx (a b:Int):Int:=if b > a then b else a
section
variable {X:Cx}
end
noncomputable def mx3 (a b c:Int):Int:=mx (mx a b) c
noncomputable def rnd (x:Int):Int:=if x=0\/x=3 then x else 2
noncomputable def sharp (n:Nat)(s:Nat->Nat->Int)(i j:Nat):Int:=(minO ((bj n).map fun k=>mx3 (s i k) (rnd (s k k)) (s k j))).getD 3
section
variable {n:Nat} {s:Nat->Nat->Int}
end
def as0 (H:Hp)(f:Addr)(name qual:Str)(params:eO)(body:yL)(scope:Scope)(fr:yH)(cap:List V)(clos:yB):Prop :=
 ∃ doc pm c' ctv,H f=some (bx8 f (kI name qual params body scope clos .none .none doc pm none (.ref c') ctv))/\H c'=some (aF9 c' qual)/\Cells clos H /\
  (∀ x y c,clos.lookup x=some c->clos.lookup y=some c->x=y)/\(∀ x,scope.names.lookup x=some .free->∃ c,clos.lookup x=some c)/\Cap clos H fr cap
theorem as0.fn {K:af}{H:Hp}{f:Addr}{name qual:Str}{params:eO}{body:yL}{scope:Scope}{fr:yH}{cap:List V}{y:yB}(h:as0 H f name qual params body scope fr cap y):bO0 K H f:=by
 obtain⟨z,Z,J,B,G,_⟩:=h
 exact .inl ⟨_,G⟩
end L2
end
noncomputable section
namespace L2
open PySem PySem.Spec PyProof.Rows Builtin
section
variable {P:aD} {w:World} {A:aP} {E:Value->ae->Prop} {s:ae}
theorem aw9 {it t:Addr}{i:Nat}{l:yJ}{v:Value}{Q:Value->ae->Prop}(y:s.heap.IsTupleIter it t i)(tt:s.heap.IsTuple t l)(hv:l[i]?=some v)
  (k:∀ h',h'.IsTupleIter it t (i+1)->dQ it s.heap h'->Q v { s with heap:=h' }):wpAny (model P w) A (bL (.ref it)) Q E s:=by
 obtain⟨o,e1,e2,h⟩:=id y
 obtain⟨p,p1,_,n,B⟩:=tt
 unfold bL
 refine aq (gu (name:=cP "__next__") y.typeIs cM (dP cM y.typeIs fx ?_ (fg _)))
 show wpAny _ _ (field (.ref it) 0 >>= _) _ _ _
 refine aq (ip e1 h (x:=.ref t) rfl ?_)
 show wpAny _ _ (if(Value.ref t==Value.none)=true then _ else _) _ _ _
 rw[if_neg (show ¬((Value.ref t==Value.none)=true)from fun z=>nomatch z)]
 show wpAny _ _ (field (.ref it) 1 >>= _) _ _ _
 refine aq (ip e1 h (x:=.int i 0) rfl ?_)
 show wpAny _ _ (seqItems? (.ref t) >>= _) _ _ _
 refine aq (wpAny_seqItems p1 B ?_)
 simp only[bN,hv]
 refine aq (wpAny_setField e1 h (by simp) (aW ⟨v,rfl,aW (k _ ⟨_,hZ _ e1 (Obj.isFreed_of_fields (i4 h _)),(Obj.cls_mapFields ..).trans e2,by rw[i4 h];simp[rawInt]⟩ (iJ ..))⟩))
theorem aG1 {it t:Addr}{i:Nat}{l:yJ}{Q:Value->ae->Prop}(B:A.handled=none)(h:s.heap.IsTupleIter it t i)(tt:s.heap.IsTuple t l)(hv:l[i]?=none)
  (k:∀ h' e,jI it s.heap h'->(∃ o,h'.get? e=some o/\o.cls=.type "StopIteration")->E (.ref e) { s with heap:=h' }):wpAny (model P w) A (bL (.ref it)) Q E s:=by
 obtain⟨o,e1,e2,y⟩:=id h
 obtain⟨p,p1,_,n,G⟩:=tt
 unfold bL
 refine aq (gu (name:=cP "__next__") h.typeIs cM (dP cM h.typeIs fx ?_ (fg _)))
 show wpAny _ _ (field (.ref it) 0 >>= _) _ _ _
 refine aq (ip e1 y (x:=.ref t) rfl ?_)
 show wpAny _ _ (if(Value.ref t==Value.none)=true then _ else _) _ _ _
 rw[if_neg (show ¬((Value.ref t==Value.none)=true)from fun z=>nomatch z)]
 show wpAny _ _ (field (.ref it) 1 >>= _) _ _ _
 refine aq (ip e1 y (x:=.int i 0) rfl ?_)
 show wpAny _ _ (seqItems? (.ref t) >>= _) _ _ _
 refine aq (wpAny_seqItems p1 G ?_)
 simp only[bN,hv]
 refine aq (dL (aq (wpAny_setField e1 y (by simp) ?_)))
 show wpAny _ _ (newExc (.type "StopIteration") [] >>= _) _ _ (_:ae)
 refine aq ?_
 simp only[newExc,newTuple]
 refine aq (cA ?_ (by size_fits))
 refine aq (m:=firstArgMember _ _) (wpAny_of_eq (a:=Value.none) (by first|rfl|(simp only[firstArgMember];rfl)) (cA ?_ (by size_fits)))
 simp only[raiseNew]
 refine aq (wpAny_handled ?_)
 first|rw[show A.in1.handled=none from B]|rw[B]
 exact aq (aW (wpAny_throw (k _ _ (((iJ ..).extBut.push _).push _) ⟨_,aX _ rfl,rfl⟩)))
end
structure Dw (P:aD)(w:World)(K:af)(J:It)(it:Addr)(tn:Nat->Heap->Prop):Prop where
 obj:∀ i h,tn i h->∃ o,h.get? it=some o/\∀ v,o.data≠.cell v
 keep:∀ i h h',tn i h->(∀ o,h.get? it=some o->h'.get? it=some o)->tn i h'
 item:∀(X:Cx),X.prog=P->X.w=w->X.K=K->∀(A:aP) (i:Nat) (pins:yA) (s:ae) (W:St) (H:Hp) (Q:Value->ae->Prop) (E:Value->ae->Prop),Inv X pins W H s->tn i s.heap->J.go i H ->
  (∀ x u h' tk,RelV x u->J.yld i H x H->tn (i+1) h'->dQ it s.heap h'->Q u { s with heap:=h',toks:=tk })->wpAny (model P w) A (bL (.ref it)) Q E s
 done:∀(X:Cx),X.prog=P->X.w=w->X.K=K->∀(A:aP) (i:Nat) (pins:yA) (s:ae) (W:St) (H:Hp) (Q:Value->ae->Prop) (E:Value->ae->Prop),A.handled=none->Inv X pins W H s->tn i s.heap->J.stop i H ->
  (∀ h' e,jI it s.heap h'->(∃ o,h'.get? e=some o/\o.cls=.type "StopIteration")->E (.ref e) { s with heap:=h' })->wpAny (model P w) A (bL (.ref it)) Q E s
theorem bv1 {P:aD}{w:World}{K:af}(a it:Addr):Dw P w K (Itl K a) it (fun i h=>h.IsListIter it a i) where
 obj:=fun i h st=>by
  obtain⟨o,e,c,d⟩:=st
  exact⟨o,e,fun v z=>by rw[d]at z;cases z⟩
 keep:=fun i h h' st k=>st.at k
 item:=by
  intro X J hw B A i y s W H Q E I st hg k
  subst J hw B
  obtain⟨xs,x,hq,hx⟩:=hg
  obtain⟨its,rv,p,hz⟩:=I.list hq
  obtain⟨u,hu,ru⟩:=rv.get hx
  exact wpAny_nextOf_list_item st p.isList (x:=u) (by simpa using hu) fun h' G sb=>k x u h' s.toks ru ⟨rfl,fun ys hy=>by rw[I.list_inj hy hq];exact hx⟩ G sb
 done:=by
  intro X J hw B A i y s W H Q E Z I st hg k
  subst J hw B
  obtain⟨xs,hq,hx⟩:=hg
  obtain⟨its,rv,p,hz⟩:=I.list hq
  have hl:=rv.length
  exact wpAny_nextOf_list_end Z st p.isList (by simp;omega) k
theorem bI7 {P:aD}{w:World}{K:af}(a it:Addr):Dw P w K (Itt K a) it (fun i h=>h.IsTupleIter it a i) where
 obj:=fun i h st=>by
  obtain⟨o,e,c,d⟩:=st
  exact⟨o,e,fun v z=>by rw[d]at z;cases z⟩
 keep:=fun i h h' st k=>st.at k
 item:=by
  intro X J hw B A i y s W H Q E I st hg k
  subst J hw B
  obtain⟨xs,x,hq,hx⟩:=hg
  obtain⟨its,rv,p,hz⟩:=I.tuple hq
  obtain⟨u,hu,ru⟩:=rv.get hx
  exact aw9 st (show s.heap.IsTuple a its.toArray from p) (v:=u) (by simpa using hu) fun h' G sb=>k x u h' s.toks ru ⟨rfl,fun ys hy=>by rw[I.tuple_inj hy hq];exact hx⟩ G sb
 done:=by
  intro X J hw B A i y s W H Q E Z I st hg k
  subst J hw B
  obtain⟨xs,hq,hx⟩:=hg
  obtain⟨its,rv,p,hz⟩:=I.tuple hq
  have hl:=rv.length
  exact aG1 Z st (show s.heap.IsTuple a its.toArray from p) (by simp;omega) k
theorem bD3 {P:aD}{w:World}{K:af}(x:Str)(t:Tok)(it:Addr):Dw P w K (Its x) it (fun i h=>h.IsStrIter it (iq x) x t i) where
 obj:=fun i h st=>by
  obtain⟨o,e,c,d⟩:=st
  exact⟨o,e,fun v z=>by rw[d]at z;cases z⟩
 keep:=fun i h h' st k=>by
  obtain⟨o,ho,r⟩:=st
  exact⟨o,k _ ho,r⟩
 item:=by
  intro X hP hw J A i G s W H Q E I st hg k
  subst hP hw J
  have y:i<x.cps.size:=hg
  have hc:x.cps[i]?=some x.cps[i]:=by simp[y]
  unfold iq at st k
  cases ha:x.cps.all (·<128)
  .rw[ha]at st k
   exact wpAny_nextOf_wide_item st hc fun h' B Z=>k (.str ⟨#[x.cps[i]]⟩) _ h' (s.toks+1) ⟨_,rfl⟩ ⟨rfl,_,hc,rfl⟩ B Z
  .rw[ha]at st k
   exact wpAny_nextOf_ascii_item st hc fun h' B Z=>k (.str ⟨#[x.cps[i]]⟩) _ h' (s.toks+1) ⟨_,rfl⟩ ⟨rfl,_,hc,rfl⟩ B Z
 done:=by
  intro X hP hw J A i G s W H Q E hA I st hg k
  subst hP hw J
  have y:x.cps.size<=i:=hg
  have hc:x.cps[i]?=none:=by simp[y]
  unfold iq at st
  cases ha:x.cps.all (·<128)
  .rw[ha]at st
   exact wpAny_nextOf_wide_end hA st hc k
  .rw[ha]at st
   exact wpAny_nextOf_ascii_end hA st hc k
section
variable {X:Cx} {pins:yA} {W:St} {H:Hp} {s:ae} {A:aP} {E:Value->ae->Prop} {J1 J2:It} {t1 t2:Nat->Heap->Prop} {z ti to i1 i2:Addr} {n:Nat} {a b:Value}
end
def Mkr (v:Value)(o:Obj)(h:Heap):Prop:=∀(P:aD) (w:World) (A:aP) (E:Value->ae->Prop) (s:ae) (Q:Value->ae->Prop),(∀ b u,h.get? b=some u->s.heap.get? b=some u) ->
 Q (.ref s.heap.objs.size) { s with heap:=s.heap.push o }->wpAny (model P w) A (kA v) Q E s
def Sr (K:af)(H:Hp)(x:V)(J:It):Prop:=(∃ a,x=.ref a/\(∃ xs,SqL K H a xs)/\J=Itl K a)\/(∃ a,x=.ref a/\(∃ xs,SqT K H a xs)/\J=Itt K a)\/∃ y,x=.str y/\J=Its y
theorem Sr.mk {X:Cx}{z:yA}{W:St}{H:Hp}{s:ae}{x:V}{u:Value}{J:It}(I:Inv X z W H s)(h:Sr X.K H x J)(r:RelV x u) :
  ∃(o:Obj) (B:Addr->Nat->Heap->Prop),o.isFreed=false/\Mkr u o s.heap/\(∀ it,Dw X.prog X.w X.K J it (B it))/\∀ it h',h'.get? it=some o->B it 0 h':=by
 rcases h with⟨a,e,⟨G,hq⟩,e'⟩|⟨a,e,⟨G,hq⟩,e'⟩|⟨y,e,e'⟩
 .subst e e';cases r
  obtain⟨its,rv,p,hz⟩:=I.list hq
  exact⟨_,fun it i h=>h.IsListIter it a i,rfl,fun P w A E s' Q hk q=>fT (p.isList.at fun o e=>hk _ _ e) q,fun it=>bv1 a it,fun it h' e=>⟨_,e,rfl,rfl⟩⟩
 .subst e e';cases r
  obtain⟨its,rv,p,hz⟩:=I.tuple hq
  exact⟨_,fun it i h=>h.IsTupleIter it a i,rfl,fun P w A E s' Q hk q=>iW (Heap.IsTuple.at (show s.heap.IsTuple a its.toArray from p) fun o e=>hk _ _ e) q,fun it=>bI7 a it,fun it h' e=>⟨_,e,rfl,rfl⟩⟩
 .subst e e';obtain⟨t,rfl⟩:=r
  exact⟨_,fun it i h=>h.IsStrIter it (iq y) y t i,rfl,fun P w A E s' Q hk q=>wpAny_pyIter_strU q,fun it=>bD3 y t it,fun it h' e=>⟨_,e,rfl,rfl⟩⟩
end L2
end
noncomputable section
namespace L2
open PySem PySem.Spec PyProof.Rows Builtin
open AutoSeq1 (wpAny_loadPart')
section
variable {X:Cx} {pins:yA} {W:St} {H:Hp} {s:ae} {A:aP} {E:Value->ae->Prop} {J1:It} {t1:Nat->Heap->Prop} {z it:Addr} {n:Nat} {old:Value}
end
end L2
end
noncomputable section
namespace L2
open PySem PySem.Spec PyProof.Rows Builtin
open AutoSeq1 (wpAny_loadPart')
theorem aw0:fillsNumberSlot (.type "tuple") "mul"=pure false :=
 PySem.fillsNumberSlot_seq (id := "tuple.__mul__") (r:=some (.builtin "tuple.__rmul__")) eC.lookup (by decide +kernel) gv.lookup (by decide +kernel)
theorem aH2:seqRepeat? (.type "tuple")=pure (some (.builtin "tuple.__mul__")):=by
 unfold seqRepeat?
 rw[jF (T := "tuple") (name := "__mul__") (id := "tuple.__mul__") eC.lookup (by decide +kernel),jF (T := "tuple") (name := "__rmul__") (id := "tuple.__rmul__") gv.lookup (by decide +kernel)]
 rfl
theorem as3 (a:Int)(t:Tok)(l:Addr)(o:Obj)(y:yJ)(n:Nat)(z:yI)(sl:yE) :
  Meets (Builtin.«int.__rmul__» ⟨[.int a t,.ref l],[]⟩) (fun _ R s=>s.heap.get? l=some { cls:=.type "tuple",dict:=z,data:=.seq y n,slots:=sl }/\R (.ok (.ret Value.notImplemented)) s) :=
 .of_wp fun prog w A R s h=>by obtain⟨hp,g,d,tk,os⟩:=s;obtain⟨B,h⟩:=h;wp_walk;exact⟨_,rfl,h⟩
noncomputable def aj8 {α:Type}:Nat->List α->List α
 | 0,_=>[]
 | n+1,a=>a++aj8 n a
theorem az6 {α:Type}(l:List α):∀(n:Nat) (h:Array α),(aF n l.toArray).foldl (·++·) h=h++(aj8 n l).toArray
 | 0,h=>by simp[aj8]
 | n+1,h=>by rw[bH,dr,az6 l n];simp[aj8]
theorem as9 {α:Type}(a:Array α):∀(n:Nat) (h:Array α),((aF n a).foldl (·++·) h).size=h.size+a.size*n
 | 0,h=>by simp
 | n+1,h=>by rw[bH,dr,as9 a n,Array.size_append,Nat.mul_succ];lia
def TmA (items:yJ)(k:Int)(l:Addr)(R:Value->ae->Prop)(s:ae):Prop :=
 ((items.isEmpty||k==1)=true->R (.ref l) s)/\((items.isEmpty||k==1)=false->R (.ref s.heap.objs.size) { s with heap:=s.heap.push { cls:=.type "tuple",data:=.seq ((aF k.toNat items).foldl (·++·) #[]) } })
theorem aN2 {P:aD}{w:World}{A:aP}{E:Value->ae->Prop}{s:ae}{l:Addr}{y:yJ}{k:Int}{t:Tok}{Q:Value->ae->Prop}(h0:0<=k)(J:k<=1000000)(hz:y.size*k.toNat<=1000000)(z:IsTup s.heap l y)
  (h:TmA y k l Q s):wpAny (model P w) A (call (.builtin "tuple.__mul__") [.ref l,.int k t]) Q E s:=by
 refine dP eC z.typeIs PySem.F.entry_tuple_mul ?_ (PySem.F.args_tuple_mul_2 _ _)
 obtain⟨q1,q2⟩:=h
 show wpAny _ _ (asIndex (.int k t) >>= _) _ _ _
 refine aq (aW ?_)
 rw[if_neg (by rw[decide_eq_false (by lia),decide_eq_false (by lia)];decide)]
 show wpAny _ _ (jZ (.ref l) >>= _) _ _ _
 refine aq (tupleItemsOf_ z ?_)
 have B:(y.size:Int)*k<=1000000:=by
  have:((y.size*k.toNat:Nat):Int)<=1000000:=by lia
  rw[jL,c7 h0]at this
  exact this
 cases hb:(y.isEmpty||k==1)with
 | true =>
  rw[if_pos rfl]
  unfold j0
  refine aq (aq (wpAny_typeOf z.typeIs (aW ?_)))
  rw[if_pos (by decide)]
  exact aq (dL (aW ⟨_,rfl,q1 hb⟩))
 | false =>
  rw[if_neg aQ]
  have he:y.isEmpty=false:=by
   rw[eV]at hb;exact hb.1
  have q:=q2 hb
  show wpAny _ _ (if(decide (k<=0)||y.isEmpty)=true then _ else _) _ _ _
  by_cases hk:k<=0
  .rw[if_pos (by rw[decide_eq_true hk];rfl)]
   have:k.toNat=0:=by lia
   rw[this]at q
   exact aq (cA (aW ⟨_,rfl,q⟩) (by size_fits))
  .rw[if_neg (by rw[decide_eq_false hk,he];decide)]
   show wpAny _ _ (if(y.size:Int)*k > (2^63 - 1) / 8 then _ else _) _ _ _
   rw[if_neg (by lia)]
   show wpAny _ _ (if fI ((y.size:Int)*k)=true then _ else _) _ _ _
   rw[if_neg (by unfold fI;rw[decide_eq_false (by unfold aL;lia)];decide)]
   refine aq (cA (aW ⟨_,rfl,q⟩) ?_)
   show Array.size _<=aL
   rw[as9]
   show 0+_<=_
   rw[ce]
   have G:y.size*k.toNat<=aL:=aj hz (by decide)
   exact G
theorem aD5 {α:Type}:∀ n,aj8 n ([]:List α)=[]
 | 0=>rfl
 | n+1=>by simp[aj8,aD5 n]
theorem ba0 {α:Type}(l:List α):aj8 1 l=l:=by simp[aj8]
theorem aC8 {α:Type}(l:List α):∀ n,(aj8 n l).length=l.length*n
 | 0=>by simp[aj8]
 | n+1=>by simp[aj8,aC8 l n,jJ];lia
theorem Vals.repT {h:List V}{us:yG}(r:Vals h us):∀ n,Vals (aj8 n h) (aj8 n us)
 | 0=>.nil
 | n+1=>r.append (Vals.repT r n)
def bT8 (K:af):R2:=fun x y H Q=>∃ a xs n,x=.ref a/\y=.int n/\SqT K H a xs/\(0<=n/\n<=1000000/\xs.length*n.toNat<=1000000)/\∀ p H',ae3 H H'->SqT K H' p (aj8 n.toNat xs)->(H' p=some (.tup (aj8 n.toNat xs))\/(p=a/\aj8 n.toNat xs=xs))->Q (.ref p) H'
theorem bw8 {X:Cx}{K:af}(Z:X.K=K):OpR X (b7 .Mult) (bT8 K):=by
 subst Z
 intro G s W H x y v u Q I rx J h
 obtain⟨a,B,n,rfl,rfl,ha,⟨h0,h1,hz⟩,q⟩:=h
 cases rx
 obtain⟨t,rfl⟩:=J
 obtain⟨its,r1,p1,a0⟩:=I.tuple ha
 have z:=r1.length
 obtain⟨⟨cls,dd,data,sl⟩,ho,hc,n1,hd⟩:=id p1
 simp only at hc hd
 subst hc hd
 refine fP (T := "tuple") (U := "int") (by decide) p1.typeIs (fun s'=>gM s' n t) aw0 i3 d6 aH2 iH.lookup
  (gN d6 (gM s n t) iI (io _ _) (as3 n t a default its.toArray n1 dd sl) ⟨ho,⟨rfl,p1.typeIs,aN2 h0 h1 (by rw[av,<-z];exact hz) p1 ⟨fun hb=>?_,fun hb=>?_⟩⟩⟩)
 .have ex:aj8 n.toNat B=B:=by
   rw[bR]at hb
   rcases hb with hb|hb
   .have hi:its=[]:=by simpa using hb
    have hx:B=[]:=r1.nil_iff.mp hi
    rw[hx,aD5]
   .have:n=1:=by simpa using hb
    subst this
    exact ba0 _
  exact⟨.ref a,H,I,rfl,q a H (ae3.refl H) (by rw[ex];exact ha) (.inr ⟨rfl,ex⟩)⟩
 .have hp:=I.hok.fresh (ah s.heap.objs.size)
  refine⟨.ref s.heap.objs.size,_,I.laid (t':=s.toks) (o:=.tup (aj8 n.toNat B)) (fun b ob q=>ak _ q) (ah _) ?_,rfl,q _ _ ((ae3.refl H).new hp) (SqT.of zp) (.inl zp)⟩
  refine⟨by rw[aC8];exact aj hz (by decide),aj8 n.toNat its,r1.repT _,?_⟩
  rw[show(aj8 n.toNat its).toArray=(aF n.toNat its.toArray).foldl (·++·) #[]by rw[az6];simp]
  exact⟨_,aX _ rfl,rfl,_,rfl⟩
end L2
end
noncomputable section
namespace L2
open PySem PySem.Spec PyProof.Rows
theorem al0 {A:aP}{k:Nat}(hr:Room k A):A.units+2<cLine:=Nat.lt_of_le_of_lt (fo (by decide:2<=64) _) hr.units
section
variable {κ:Type} [DecidableEq κ]
noncomputable def ak0 (kvs:List (κ×V))(k:κ):Option V:=(kvs.find? fun kv=>decide (kv.1=k)).map (·.2)
noncomputable def ak5 (kvs:List (κ×V))(k:κ)(v:V):List (κ×V) :=
 if(kvs.any fun kv=>decide (kv.1=k))=true then kvs.map (fun kv=>if kv.1=k then(kv.1,v)else kv)else kvs++[(k,v)]
theorem af6 {p:κ×V}{r:List (κ×V)}{k:κ}(e:p.1=k):ak0 (p::r) k=some p.2:=by simp[ak0,dt,e]
theorem ag0 {p:κ×V}{r:List (κ×V)}{k:κ}(e:¬ p.1=k):ak0 (p::r) k=ak0 r k:=by simp[ak0,dt,e]
theorem ao9 (k:κ):∀ kvs:List (κ×V),(kvs.any fun h=>decide (h.1=k))=(ak0 kvs k).isSome
 | []=>rfl
 | p::r=>by
  rw[gk]
  by_cases e:p.1=k
  .simp only[af6 e,decide_eq_true e,Bool.true_or,d7]
  .rw[ag0 e,decide_eq_false e,kj];exact ao9 k r
theorem qB (kvs:List (κ×V))(k:κ)(v:V):(ak5 kvs k v).length<=kvs.length+1:=by
 unfold ak5
 split
 .rw[az];lia
 .rw[aC,aI,fh];lia
theorem ar8.isSome_eq {o:Option V}{u:Option Value}(r:ar8 o u):o.isSome=u.isSome:=by
 cases o with
 | none=>cases u with
  | none=>rfl
  | some _=>exact(show False from r).elim
 | some _=>cases u with
  | none=>exact(show False from r).elim
  | some _=>rfl
theorem ar8.getD {o:Option V}{u:Option Value}{d:V}{d':Value}(r:ar8 o u)(h:RelV d d'):RelV (o.getD d) (u.getD d'):=by
 cases o with
 | none=>cases u with
  | none=>exact h
  | some _=>exact(show False from r).elim
 | some _=>cases u with
  | none=>exact(show False from r).elim
  | some _=>exact r
theorem KV.val {kvs:List (κ×V)}{vs:List (κ×Value)}(r:KV kvs vs)(k:κ):ar8 (ak0 kvs k) (iB vs k):=by
 unfold KV at r
 induction r with
 | nil=>exact True.intro
 | @cons p q ps qs h t ih =>
  obtain⟨y,B⟩:=h
  by_cases e:p.1=k
  .have e':q.1=k:=y.symm.trans e
   have b:iB (q::qs) k=some q.2:=by simp[iB,dt,e']
   rw[af6 e,b];exact B
  .have e':¬ q.1=k:=fun z=>e (y.trans z)
   have b:iB (q::qs) k=iB qs k:=by simp[iB,dt,e']
   rw[ag0 e,b];exact ih
theorem KV.any {kvs:List (κ×V)}{vs:List (κ×Value)}(r:KV kvs vs)(k:κ):(kvs.any fun y=>decide (y.1=k))=vs.any fun y=>decide (y.1=k):=by
 unfold KV at r
 induction r with
 | nil=>rfl
 | cons h t ih=>rw[gk,gk,ih,h.1]
theorem KV.repl {kvs:List (κ×V)}{vs:List (κ×Value)}(r:KV kvs vs)(k:κ){y:V}{u:Value}(J:RelV y u) :
  KV (kvs.map fun B=>if B.1=k then(B.1,y)else B) (vs.map fun B=>if B.1=k then(B.1,u)else B):=by
 unfold KV at r ⊢
 induction r with
 | nil=>exact .nil
 | @cons p q ps qs h t ih =>
  rw[aU,aU]
  refine .cons ?_ ih
  obtain⟨G,Z⟩:=h
  by_cases e:p.1=k
  .rw[if_pos e,if_pos (G.symm.trans e)];exact⟨G,J⟩
  .rw[if_neg e,if_neg (fun z=>e (G.trans z))];exact⟨G,Z⟩
theorem KV.put {kvs:List (κ×V)}{vs:List (κ×Value)}(r:KV kvs vs)(k:κ){y:V}{u:Value}(h:RelV y u):KV (ak5 kvs k y) (stored vs k u):=by
 unfold ak5 stored
 rw[r.any k]
 by_cases e:(vs.any fun z=>decide (z.1=k))=true
 .rw[if_pos e,if_pos e];exact r.repl k h
 .rw[if_neg e,if_neg e];exact kJ r ⟨rfl,h⟩
theorem KV.length {kvs:List (κ×V)}{vs:List (κ×Value)}(r:KV kvs vs):kvs.length=vs.length:=dw r
end
theorem aq4 {P:aD}{w:World}{k:Key}{u:Value}(r:RelV (kV k) u):(zl P w).is k u=true:=by
 cases k with
 | inl i=>obtain⟨t,e⟩:=(show ∃ t,u=Value.int i t from r);subst e;exact ay3 P w i t
 | inr x=>obtain⟨t,e⟩:=(show ∃ t,u=Value.str x t from r);subst e;exact ay5 P w x t
abbrev KT (H:Hp):List (List NI×V)->List (List NI×Addr×Value)->Prop:=e9 fun p q=>p.1=q.1/\NK H p.1 q.2.1/\RelV p.2 q.2.2
theorem KT.val {H:Hp}{kvs:List (List NI×V)}{y:List (List NI×Addr×Value)}(r:KT H kvs y)(k:List NI):ar8 (ak0 kvs k) ((atKey y k).map (·.2)):=by
 induction r with
 | nil=>exact True.intro
 | @cons p q ps qs h t ih =>
  obtain⟨B,_,G⟩:=h
  by_cases e:p.1=k
  .have e':q.1=k:=B.symm.trans e
   have b:atKey (q::qs) k=some q.2:=by simp[atKey,dt,e']
   rw[af6 e,b];exact G
  .have e':¬ q.1=k:=fun z=>e (B.trans z)
   have b:atKey (q::qs) k=atKey qs k:=by simp[atKey,dt,e']
   rw[ag0 e,b];exact ih
theorem KT.repl {H:Hp}{kvs:List (List NI×V)}{J:List (List NI×Addr×Value)}(r:KT H kvs J)(k:List NI){y:V}{u:Value}(ry:RelV y u) :
  KT H (kvs.map fun G=>if G.1=k then(G.1,y)else G) (J.map (putAt k u)):=by
 induction r with
 | nil=>exact .nil
 | @cons p q ps qs h t ih =>
  rw[aU,aU]
  refine .cons ?_ ih
  obtain⟨B,Z,h3⟩:=h
  unfold putAt
  by_cases e:p.1=k
  .rw[if_pos e,if_pos (B.symm.trans e)];exact⟨B,Z,ry⟩
  .rw[if_neg e,if_neg (fun z=>e (B.trans z))];exact⟨B,Z,h3⟩
theorem KT.put {H:Hp}{kvs:List (List NI×V)}{h:List (List NI×Addr×Value)}(r:KT H kvs h)(k:List NI){b:Addr}{y:V}{u:Value}(hb:NK H k b)(z:RelV y u) :
  KT H (ak5 kvs k y) (storedH h k b u):=by
 have e:(kvs.any fun B=>decide (B.1=k))=(atKey h k).isSome:=by
  rw[ao9,(r.val k).isSome_eq,Option.isSome_map]
 unfold ak5 storedH
 rw[e]
 by_cases q:(atKey h k).isSome=true
 .rw[if_pos q,if_pos q];exact r.repl k z
 .rw[if_neg q,if_neg q];exact kJ r ⟨rfl,hb,z⟩
theorem KT.keeps {H H':Hp}{kvs:List (List NI×V)}{h:List (List NI×Addr×Value)}(r:KT H kvs h)(y:∀ b ys,H b=some (.tup ys)->H' b=some (.tup ys)):KT H' kvs h :=
 e9.mapP r fun _ _ z=>⟨z.1,z.2.1.mono y,z.2.2⟩
section
variable {P:aD} {w:World} {H:Hp} {h:Heap} {a:Addr}
theorem bT2 {u:HO}(ok:HOk P w H h)(e:Rd H a u):aa7 P w H h a u:=e.ok ok
theorem av2 {kvs:List (Key×V)}(ok:HOk P w H h)(e:Rd H a (.dK kvs)):kvs.length<=aL/\(a==eK)=false/\∃ vs,KV kvs vs/\h.DictOf (zl P w) a vs :=
 show aa7 P w H h a (.dK kvs)from bT2 ok e
theorem aK7 {kvs:List (Key×V)}(ok:HOk P w H h)(e:H a=some (.dK kvs)):kvs.length<=aL/\(a==eK)=false/\∃ vs,KV kvs vs/\h.DictOf (zl P w) a vs:=av2 ok (.inl e)
end
def av5 (H:Hp)(a:Addr)(y:V)(r:Option V):Prop :=
 (∃ kvs k,Rd H a (.dK kvs)/\y=kV k/\r=ak0 kvs k)\/False
def bO3 (H:Hp)(a:Addr)(y v:V)(H':Hp):Prop :=
 (∃ kvs k,H a=some (.dK kvs)/\y=kV k/\kvs.length<aL/\H'=upd H a (.dK (ak5 kvs k v)))\/False
theorem av5.k {H:Hp}{a:Addr}{kvs:List (Key×V)}{k:Key}(e:H a=some (.dK kvs)):av5 H a (kV k) (ak0 kvs k):=.inl ⟨kvs,k,.inl e,rfl,rfl⟩
theorem bO3.k {H:Hp}{a:Addr}{kvs:List (Key×V)}{k:Key}{v:V}(e:H a=some (.dK kvs))(h:kvs.length<aL):bO3 H a (kV k) v (upd H a (.dK (ak5 kvs k v))):=.inl ⟨kvs,k,e,rfl,h,rfl⟩
section
variable {X:Cx} {pins:yA} {W:St} {H:Hp} {s:ae} {a:Addr} {y v:V} {u r:Value} {o:Option V} {A:aP} {E:Value->ae->Prop}
theorem Inv.big (I:Inv X pins W H s):eK<s.heap.objs.size:=by
 have h:bG<s.heap.objs.size:=(I.mod.glob.keeps I.bk).lt
 exact Nat.lt_trans (by decide) h
theorem aT5 {Q:Value->ae->Prop}(hu:A.units+2<cLine)(I:Inv X pins W H s)(g:av5 H a y (some v))(Z:RelV y u)(h:∀ B s',Inv X pins W H s'->RelV v B->Q B s') :
  wpAny (model X.prog X.w) A (getItem (.ref a) u) Q E s:=by
 rcases g with⟨kvs,k,e,ey,l⟩|g
 .subst ey
  obtain⟨z,hd,vs,J,dd⟩:=av2 I.hok e
  obtain⟨B,hw,G⟩:=ar8.some_of (v:=v) (o:=iB vs k) (by rw[l];exact J.val k)
  exact wpAny_getItem_of (aq4 Z) dd.mapOf hw (h B _ (I.tok _) G)
 .exact g.elim
theorem bY7 {Q:Value->ae->Prop}(hu:A.units+2<cLine)(I:Inv X pins W H s)(g:av5 H a y o)(G:RelV y u)(h:∀ s',Inv X pins W H s'->Q (.bool o.isSome) s') :
  wpAny (model X.prog X.w) A (d8 .In u (.ref a)) Q E s:=by
 rcases g with⟨kvs,k,e,J,l⟩|g
 .subst J
  obtain⟨z,hd,vs,B,Z⟩:=av2 I.hok e
  refine wpAny_in_of (aq4 G) hd Z.mapOf ?_
  rw[<-(B.val k).isSome_eq,<-l]
  exact h _ (I.tok _)
 .exact g.elim
theorem bq8 {Q:Value->ae->Prop}(hu:A.units+2<cLine)(I:Inv X pins W H s)(g:av5 H a y o)(G:RelV y u)(h:∀ s',Inv X pins W H s'->Q (.bool (!o.isSome)) s') :
  wpAny (model X.prog X.w) A (d8 .NotIn u (.ref a)) Q E s:=by
 rcases g with⟨kvs,k,e,J,l⟩|g
 .subst J
  obtain⟨z,hd,vs,B,Z⟩:=av2 I.hok e
  refine wpAny_notIn_of (aq4 G) hd Z.mapOf ?_
  rw[<-(B.val k).isSome_eq,<-l]
  exact h _ (I.tok _)
 .exact g.elim
theorem ap2 {h':Heap}{t':Nat}{ob:HO}(I:Inv X pins W H s)(mu:Mut (H a))(hs:dQ a s.heap h')(he:∃ q,h'.get? a=some q)(new:aa7 X.prog X.w (upd H a ob) h' a ob) :
  Inv X pins W (upd H a ob) { s with heap:=h',toks:=t' } :=
 I.write (x:=a) (e:=a) mu (.inl rfl) (fun b q hb z=>(hs.2 b hb).trans z) he new
theorem aB5 {P:aD}{w:World}{H':Hp}{h':Heap}{kvs:List (Key×V)}{vs:List (Key×Value)}(z:kvs.length<=aL)(hd:(a==eK)=false)(h:KV kvs vs)(y:h'.DictOf (zl P w) a vs) :
  aa7 P w H' h' a (.dK kvs):=⟨z,hd,vs,h,y⟩
theorem aQ9 {H':Hp}{Q:Unit->ae->Prop}(hu:A.units+2<cLine)(I:Inv X pins W H s)(g:bO3 H a y v H')(J:RelV y u)(rv:RelV v r)(h:∀ s',Inv X pins W H' s'->Q () s') :
  wpAny (model X.prog X.w) A (setItem (.ref a) u r) Q E s:=by
 rcases g with⟨kvs,k,e,ey,l,Z⟩|g
 .subst ey Z
  obtain⟨z,hd,vs,G,dd⟩:=aK7 I.hok e
  have hz:vs.length<=aL:=by rw[<-G.length];exact z
  have hl:(ak5 kvs k v).length<=aL:=by have:=qB kvs k v;lia
  refine wpAny_setItem_pairs (hsz:=hz) (aq4 J) dd fun h' B hs=>h _ ?_
  have he:∃ q,h'.get? a=some q:=let⟨q,_,_,hq,_⟩:=B;⟨q,hq⟩
  exact ap2 I (by rw[e];exact True.intro) hs he (aB5 hl hd (G.put k rv) B)
 .exact g.elim
end
section
variable {X:Cx} {pins:yA} {W:St} {H:Hp} {s:ae} {a:Addr} {kvs:List (Key×V)} {k:Key} {u:Value} {A:aP} {E:Value->ae->Prop}
end
theorem aw5 {X:Cx}{h:yA}{W:St}{H:Hp}{s:ae}{a:Addr}{y:V}{o:Option V}(I:Inv X h W H s)(g:av5 H a y o):s.TypeIs (.ref a) "dict":=by
 rcases g with⟨kvs,k,e,_,_⟩|g
 .obtain⟨_,_,vs,_,z⟩:=av2 I.hok e
  exact z.typeIs
 .exact g.elim
section
variable {X:Cx} {o i e value:Expr} {pos pos' tpos:Pos} {td ty tv:TE}
end
theorem az3 {P:aD}{w:World}{H:Hp}(h:Heap)(hb:eK<h.objs.size):aa7 P w H (h.push { cls:=.type "dict",data:=.dict #[] }) h.objs.size (.dK []) :=
 ⟨dJ _,beq_eq_false_iff_ne.mpr (cC (aB hb)),[],.nil,Heap.DictOf.new h⟩
def bf7:TE:=fun _ H Q=>∀ p,H p=none->Q (.ref p) (upd H p (.dK []))
section
variable {X:Cx} {pos:Pos}
theorem bf5:PE X (.Dict [] [] pos) bf7:=fun y s W H Q I h =>
 wpAny_Dict_empty ⟨.ref s.heap.objs.size,_,I.laid (a:=s.heap.objs.size) (o:=.dK []) (t':=s.toks) (fun _ _ q=>ak _ q) (ah _) (az3 s.heap I.big),rfl,h _ (I.hok.fresh (ah _))⟩
end
noncomputable def aQ6:List (TE×TE)->St->Hp->(List (V×V)->Hp->Prop)->Prop
 | [],_,H,Q=>Q [] H
 | (tk,tv)::r,W,H,Q=>tk W H fun x H1=>tv W H1 fun y H2=>aQ6 r W H2 fun ps H3=>Q ((x,y)::ps) H3
abbrev VV:List (V×V)->List (Value×Value)->Prop:=e9 fun p q=>RelV p.1 q.1/\RelV p.2 q.2
def PPs (X:Cx)(pos:Pos)(keys:List (Option Expr))(values:yK)(trs:List (TE×TE)):Prop :=
 ∀(pins:yA) (s:ae) (W:St) (H:Hp) (Q:List (V×V)->Hp->Prop),Inv X pins W H s->aQ6 trs W H Q ->
  wpAny (model X.prog X.w) X.A (evalPairs (pairTrees keys values X.env pos)) (fun vs s'=>∃ ps H',Inv X pins W H' s'/\VV ps vs/\Q ps H') X.xe s
theorem bj8 {X:Cx}{pos:Pos}:PPs X pos [] [] []:=fun y s W H Q I h=>pairTrees_nil_walk ⟨[],H,I,.nil,h⟩
theorem aY5 {X:Cx}{pos:Pos}{k v:Expr}{Z:List (Option Expr)}{vs:yK}{tk J:TE}{B:List (TE×TE)}(hk:PE X k tk)(hv:PE X v J)(hr:PPs X pos Z vs B) :
  PPs X pos (some k::Z) (v::vs) ((tk,J)::B):=fun z s W H Q I h =>
 pairTrees_cons_walk (thn (hk z s W H _ I h) fun u s1 ⟨x,H1,I1,rx,q1⟩=>thn (hv z s1 W H1 _ I1 q1) fun w2 s2 ⟨y,H2,I2,ry,q2⟩ =>
  thn (hr z s2 W H2 _ I2 q2) fun ws s3 ⟨ps,H3,I3,G,q3⟩=>⟨(x,y)::ps,H3,I3,.cons ⟨rx,ry⟩ G,q3⟩)
noncomputable def ad0 (kvs more:List (Key×V)):List (Key×V):=more.foldl (fun acc kv=>ak5 acc kv.1 kv.2) kvs
theorem KV.merge:∀ {more:List (Key×V)} {y:List (Key×Value)} {kvs:List (Key×V)} {vs:List (Key×Value)},KV more y->KV kvs vs->KV (ad0 kvs more) (merged vs y):=by
 intro more y kvs vs r
 unfold KV at r
 induction r generalizing kvs vs with
 | nil=>intro q;exact q
 | @cons p q ps qs h t ih =>
  intro r0
  have e:KV (ak5 kvs p.1 p.2) (stored vs q.1 q.2):=by
   have:=r0.put p.1 h.2
   rw[<-h.1];exact this
  exact ih e
theorem zZ:∀(more kvs:List (Key×V)),(ad0 kvs more).length<=kvs.length+more.length
 | [],kvs=>by show kvs.length<=kvs.length+0;lia
 | p::r,kvs=>by
  have y:=zZ r (ak5 kvs p.1 p.2)
  have h:=qB kvs p.1 p.2
  show(ad0 (ak5 kvs p.1 p.2) r).length<=_
  rw[aI];lia
theorem al3 {P:aD}{w:World}:∀ {kvs:List (Key×V)} {ws:List (Value×Value)},VV (kvs.map fun z=>(kV z.1,z.2)) ws->∃ y,Carries (zl P w) ws y/\KV kvs y
 | [],_,r=>by rw[fw]at r;cases r;exact⟨[],True.intro,.nil⟩
 | p::kvs,_,r=>by
  rw[aU]at r
  cases r with
  | @cons a b as bs h t =>
   obtain⟨y,c,q⟩:=al3 (P:=P) (w:=w) t
   obtain⟨G,B⟩:=b
   exact⟨(p.1,B)::y,⟨aq4 h.1,rfl,c⟩,.cons ⟨rfl,h.2⟩ q⟩
def bM4 (trs:List (TE×TE)):TE:=fun W H Q=>∀ p,H p=none->aQ6 trs W (upd H p (.dK [])) fun ps H2=>H2 p=some (.dK [])/\∃ kvs:List (Key×V),ps=kvs.map (fun kv=>(kV kv.1,kv.2))/\kvs.length<=15/\Q (.ref p) (upd H2 p (.dK (ad0 [] kvs)))
theorem bk4 {X:Cx}{pos:Pos}{keys:List (Option Expr)}{y:yK}{G:List (TE×TE)}(h:PPs X pos keys y G)(J:keys.all (·.isSome)=true)(hl:keys.length=y.length)(h0:keys≠[])
  (a0:keys.length<=15):PE X (.Dict keys y pos) (bM4 G):=by
 intro Z s W H Q I q
 have hn:=I.hok.fresh (ah s.heap.objs.size)
 have I1:=I.laid (a:=s.heap.objs.size) (o:=.dK []) (h':=s.heap.push { cls:=.type "dict",data:=.dict #[] }) (t':=s.toks) (fun _ _ q=>ak _ q) (ah _) (az3 s.heap I.big)
 refine wpAny_Dict_walk (knd:=zl X.prog X.w) J hl h0 a0 (thn (h Z _ W _ _ I1 (q _ hn)) fun ws s2 ⟨ps,H2,I2,a1,e,kvs,ep,lk,q2⟩=>?_)
 subst ep
 obtain⟨rs,c,rk⟩:=al3 (P:=X.prog) (w:=X.w) a1
 obtain⟨z,hd,a2,r0,dd⟩:=aK7 I2.hok e
 cases r0
 refine⟨rs,c,dd,fun h' B hs=>⟨.ref s.heap.objs.size,_,?_,rfl,q2⟩⟩
 have hz:(ad0 [] kvs).length<=aL:=by
  have h1:=zZ kvs []
  rw[fh]at h1
  rw[cF];lia
 have he:∃ q,h'.get? s.heap.objs.size=some q:=let⟨q,_,_,hq,_⟩:=B;⟨q,hq⟩
 exact ap2 I2 (by rw[e];exact True.intro) hs he (aB5 hz hd (rk.merge .nil) B)
structure M1 (X:Cx)(o:Expr)(m:Str)(apos:Pos)(e:Expr)(cpos:Pos):Prop where
 base:c5 o m X.env (eval o X.env)=eval o X.env
 few:((cD cpos (aV [e] X.env)).all (fun x=>!x.1)&&(eg cpos (cS [] X.env)).all (fun x=>x.1.isSome)
  && decide (([e]:yK).length+([]:List dX).length+(if([]:List dX).isEmpty then 0 else 1)<30))=true
 line:(apos.endLine==cpos.line)=true
 trees:cD cpos (aV [e] X.env)=[(false,eval e X.env)]
structure M2 (X:Cx)(o:Expr)(m:Str)(apos:Pos)(e f:Expr)(cpos:Pos):Prop where
 base:c5 o m X.env (eval o X.env)=eval o X.env
 few:((cD cpos (aV [e,f] X.env)).all (fun x=>!x.1)&&(eg cpos (cS [] X.env)).all (fun x=>x.1.isSome)
  && decide (([e,f]:yK).length+([]:List dX).length+(if([]:List dX).isEmpty then 0 else 1)<30))=true
 line:(apos.endLine==cpos.line)=true
 trees:cD cpos (aV [e,f] X.env)=[(false,eval e X.env),(false,eval f X.env)]
def IsD (H:Hp)(a:Addr):Prop:=(∃ kvs,Rd H a (.dK kvs))\/False
theorem aA0 {X:Cx}{h:yA}{W:St}{H:Hp}{s:ae}{a:Addr}(I:Inv X h W H s)(d:IsD H a) :
  s.TypeIs (.ref a) "dict"/\(∀ b,Value.ref a=.ref b->∃ ob,s.heap.get? b=some ob/\ob.dict=none)/\(a==eK)=false:=by
 rcases d with⟨kvs,e⟩|g
 .obtain⟨_,hd,vs,_,y⟩:=av2 I.hok e
  refine⟨y.typeIs,fun b q=>?_,hd⟩
  cases q
  obtain⟨ob,_,_,B,z,_⟩:=y
  exact⟨ob,B,z.2.1⟩
 .exact g.elim
section
variable {X:Cx} {pins:yA} {W:St} {H:Hp} {s:ae} {a:Addr} {y d:V} {u r:Value} {o:Option V} {A:aP} {E:Value->ae->Prop}
theorem bA3 {Q:Value->ae->Prop}(hu:A.units+2<cLine)(I:Inv X pins W H s)(g:av5 H a y o)(Z:RelV y u)(h:∀ G s',Inv X pins W H s'->RelV (o.getD .non) G->Q G s') :
  wpAny (model X.prog X.w) A (call (.builtin "dict.get") [.ref a,u]) Q E s:=by
 rcases g with⟨kvs,k,e,ey,l⟩|g
 .subst ey
  obtain⟨z,hd,vs,B,J⟩:=av2 I.hok e
  refine gR dA J.typeIs gT (PySem.F.args_dict_get_2 _ _) (meets_dict_get (zl X.prog X.w) a (aq4 Z) hd) ⟨_,J.mapOf,h _ _ (I.tok _) ?_⟩
  rw[l]
  exact(B.val k).getD rfl
 .exact g.elim
theorem bK6 {Q:Value->ae->Prop}(hu:A.units+2<cLine)(I:Inv X pins W H s)(g:av5 H a y o)(Z:RelV y u)(rd:RelV d r)(h:∀ G s',Inv X pins W H s'->RelV (o.getD d) G->Q G s') :
  wpAny (model X.prog X.w) A (call (.builtin "dict.get") [.ref a,u,r]) Q E s:=by
 rcases g with⟨kvs,k,e,ey,l⟩|g
 .subst ey
  obtain⟨z,hd,vs,B,J⟩:=av2 I.hok e
  refine gR dA J.typeIs gT (PySem.F.args_dict_get_3 _ _ _) (meets_dict_get_default (zl X.prog X.w) a (aq4 Z) hd r) ⟨_,J.mapOf,h _ _ (I.tok _) ?_⟩
  rw[l]
  exact(B.val k).getD rd
 .exact g.elim
end
def bC9 (td ty:TE):TE:=fun W H Q=>td W H fun x H1=>∃ a,x=.ref a/\IsD H1 a/\ty W H1 fun y H2=>∃ o,av5 H2 a y o/\Q (o.getD .non) H2
def bF8 (td ty tx:TE):TE:=fun W H Q=>td W H fun x H1=>∃ a,x=.ref a/\IsD H1 a/\ty W H1 fun y H2=>tx W H2 fun z H3=>∃ o,av5 H3 a y o/\Q (o.getD z) H3
section
variable {X:Cx} {o e f:Expr} {apos cpos:Pos} {td ty tx:TE}
theorem bc8 (hu:X.A.units+2<cLine)(ho:PE X o td)(he:PE X e ty)(m:M1 X o "get" apos e cpos):PE X (.Call (.Attribute o "get" apos) [e] [] cpos) (bC9 td ty):=by
 intro z s W H Q I h
 refine eD m.base m.few m.line db dA ie (thn (ho z s W H _ I h) fun u s1 ⟨x,H1,G,rx,a,ex,d,q1⟩=>?_)
 subst ex
 obtain rfl:u=Value.ref a:=rx
 obtain⟨Z,t2,_⟩:=aA0 G d
 refine⟨Z,t2,?_⟩
 rw[m.trees]
 refine cc rfl (cU (cq (thn (he z s1 W H1 _ G q1) fun iv s2 ⟨y,H2,I2,J,ov,g,q2⟩=>dE ?_)))
 exact bA3 hu I2 g J fun w' s3 I3 B=>⟨_,H2,I3,B,q2⟩
theorem aU6 (hu:X.A.units+2<cLine)(ho:PE X o td)(he:PE X e ty)(hf:PE X f tx)(m:M2 X o "get" apos e f cpos):PE X (.Call (.Attribute o "get" apos) [e,f] [] cpos) (bF8 td ty tx):=by
 intro B s W H Q I h
 refine eD m.base m.few m.line db dA ie (thn (ho B s W H _ I h) fun u s1 ⟨x,H1,J,rx,a,ex,d,q1⟩=>?_)
 subst ex
 obtain rfl:u=Value.ref a:=rx
 obtain⟨t1,t2,_⟩:=aA0 J d
 refine⟨t1,t2,?_⟩
 rw[m.trees]
 refine cc rfl (cU (cq (thn (he B s1 W H1 _ J q1) fun iv s2 ⟨y,H2,I2,Z,q2⟩ =>
  cq (thn (hf B s2 W H2 _ I2 q2) fun fv s3 ⟨z,H3,I3,rz,ov,g,q3⟩=>dE ?_))))
 exact bK6 hu I3 g Z rz fun w' s4 I4 G=>⟨_,H3,I4,G,q3⟩
end
section
variable {P:aD} {w:World} {A:aP} {E:Value->ae->Prop} {s:ae}
end
section
variable {X:Cx} {pins:yA} {W:St} {H:Hp} {s:ae}
theorem HOk.tw {P:aD}{w:World}{h:Heap}{a:Addr}{u v:HO}(ok:HOk P w H h)(hu:H a=some u)(n1:∀ y,u≠.own y)(Z:∀ B,u≠.tup B)(new:aa7 P w H h a v):HOk P w (upd H a v) h:=fun b q e=>by
 have J:∀ c y,H c=some (.own y)->upd H a v c=some (.own y):=fun c y r=>by rw[zb fun z=>by subst z;rw[hu]at r;cases r;exact n1 _ rfl];exact r
 have G:∀ c B,H c=some (.tup B)->upd H a v c=some (.tup B):=fun c B r=>by rw[zb fun z=>by subst z;rw[hu]at r;cases r;exact Z _ rfl];exact r
 by_cases hb:b=a
 .subst hb;rw[zp]at e;cases e
  exact new.stay (fun _ _ _ r=>r) (fun c r=>J c _ r) G
 .rw[zb hb]at e
  exact(ok b q e).stay (fun _ _ _ r=>r) (fun c r=>J c _ r) G
end
section
variable {prog:aD} {w:World} {A:aP} {R:iZ->ae->Prop} {I:Addr} {fp wr:List Addr} {n:Nat} {P:Nat->Value->Prop} {St:Nat->Heap->Prop} {kw:List (Str×Value)}
end
theorem bq6 (i:Int)(h:0<=i):j2 i 1=i % 2:=by
 unfold j2
 rw[decide_eq_true h]
 show((i.toNat &&& (1:Int).toNat:Nat):Int)=_
 rw[show(1:Int).toNat=1 from rfl,Nat.and_one_is_mod]
 lia
theorem bq7 {X:Cx}:OpR X (b7 .BitAnd) (rI (fun i j=>0<=i/\j=1) fun i j=>.int (i % 2)):=opI fun i j _ _ _ _ _ hc q=>by
 obtain⟨h0,rfl⟩:=hc
 refine and_int ?_
 rw[bq6 i h0]
 exact q
section
variable {X:Cx} {pins:yA} {W:St} {H:Hp} {s:ae} {a Cc:Addr} {a0:Value}
end
section
variable {P:aD} {w:World} {K:af} {mg:yC} {base:Heap} {N:yH} {qual:Str} {scope:Scope} {f:Addr} {cd:Value} {A:aP} {outer:List Env} {s0:ae} {H0:Hp} {E:XK}
end
noncomputable def excTail:List Value:=[.type "ValueError",.type "Exception",.type "BaseException",.type "object"]
structure ExcCls (K:af)(Cc:Addr):Prop where
 obj:∃ bm N nm q bs hdct sn sub ab col dd k0 k1 k2 k3 k5 mN,K.lookup Cc=some (excClassObj nm q Cc N bs bm hdct sn sub ab col dd k0 k1 k2 k3 k5 "ValueError.__new__")/\(∀ n∈quietNames,mN n=none)/\∀ h:Heap,K.In h->h.Ns N mN/\OwnTailQ h excTail bm
noncomputable def excI (K:af)(Cc:Addr):Bool:=bF K (.ref Cc) (cP "__getattribute__")==some (some (.builtin "BaseException.__getattribute__"))&&(bF K (.ref Cc) (cP "__getattr__")==some none&&(bF K (.ref Cc) (cP "__class__")==some (some (.builtin "object.__class__"))&&(jj K (.builtin "object.__class__") (cP "__get__")==some (some (.builtin "getset_descriptor.__get__"))&&(jK K (.builtin "object.__class__")==some true&&ki K Cc (.type "object")==some true))))
section
variable {X:Cx} {E:XK} {Cc:Addr} {x:Str}
end
structure Tr (X:Cx)(pins:yA)(W:St)(H:Hp)(s:ae)(a Cc:Addr)(fl:Value):Prop where
 inv:Inv X pins W H s
 n0:X.s₀.heap.get? a=none
 nH:H a=none
 np:∀ p∈X.pn++pins,p.1≠a
 tr:∃ a0 oe vs T oT ts,s.heap.get? a=some oe/\(oe.cls=.ref Cc/\vs[0]?=some a0)/\oe.data=.fields vs/\vs[1]?=some (.ref T)/\X.s₀.heap.get? T=none/\H T=none/\(∀ p∈X.pn++pins,p.1≠T)/\T≠a/\s.heap.get? T=some oT/\oT.data=.fields ts/\ts[3]?=some fl
section
variable {X:Cx} {pins:yA} {W:St} {H:Hp} {s:ae} {a Cc T:Addr} {fl fl' a0:Value} {h':Heap}
end
noncomputable abbrev Cx.hnd (X:Cx)(a:Addr)(oe:Obj):Cx:={ X with A:=X.A.mark (some (.ref a)),calm:=false,pn:=(a,oe)::X.pn,xe:=fun _ _=>False }
section
variable {X:Cx} {pins:yA} {W:St} {H:Hp} {s:ae} {a Cc:Addr} {oe:Obj} {fl:Value}
end
section
variable {prog:aD} {w:World} {A:aP} {R:iZ->ae->Prop} {I:Addr} {fp wr:List Addr} {n:Nat} {P:Nat->Value->Prop} {St:Nat->Heap->Prop} {h₀:Heap}
end
section
variable {X:Cx} {pins:yA} {W:St} {H:Hp} {s:ae} {a Cc:Addr} {oe:Obj} {fl:Value}
end
section
variable {X:Cx} {pins:yA} {W:St} {H:Hp} {s:ae} {a Cc D':Addr} {oe:Obj} {fl:Value}
end
section
open PySem.AutoSeq1 (wpAny_loadPart')
open PySem.MeetsSeq PySem.MeetsSeq2 PySem.MeetsSeq3 PySem.SeqAt
end
section
variable {A:aP} {s:ae}
end
section
variable {prog:aD} {w:World} {A:aP} {E:Value->ae->Prop} {s:ae} {x y:Str} {t u:Tok}
end
section
variable {X:Cx} {a:Addr} {oe:Obj}
end
theorem aS6 {P:aD}{w:World}{k:Key}{u:Value}(h:(zl P w).is k u=true):RelV (kV k) u:=by
 rcases ze h with⟨i,t,rfl,rfl⟩|⟨x,t,rfl,rfl⟩
 .exact⟨t,rfl⟩
 .exact⟨t,rfl⟩
theorem KV.get {κ:Type}:∀ {l:List (κ×V)} {m:List (κ×Value)} {i:Nat} {k:κ} {v:V},KV l m->l[i]?=some (k,v)->∃ u,m[i]?=some (k,u)/\RelV v u:=by
 intro l m i k v r
 induction r generalizing i with
 | nil=>intro e;simp at e
 | cons h t ih =>
  intro e
  cases i with
  | zero=>cases(au e:_=(k,v));exact⟨_,congrArg some (Prod.ext h.1.symm rfl),h.2⟩
  | succ i=>exact ih (by simpa using e)
section
variable {X:Cx} {pins:yA} {W:St} {H:Hp} {s:ae}
theorem Inv.freezeK {a:Addr}{o:Obj}{kvs:List (Key×V)}(I:Inv X pins W H s)(e:H a=some (.dK kvs))(ho:s.heap.get? a=some o):Inv X pins W (upd H a (.frz o (.dK kvs))) s :=
 I.un (t':=s.toks) (Un.write (by rw[e];trivial) (.inl rfl) (fun _ _ _ q=>q) ⟨o,ho⟩) (I.hok.tw e (by nofun) (by nofun) ⟨ho,I.hok a _ e⟩)
theorem Inv.thawK {a:Addr}{o:Obj}{kvs:List (Key×V)}(I:Inv X pins W H s)(e:H a=some (.frz o (.dK kvs)))(h0:∀ o u,X.H₀ a≠some (.frz o u)):Inv X pins W (upd H a (.dK kvs)) s:=by
 have h:∀ b,H b=none->upd H a (.dK kvs) b=none:=fun b n=>by rw[zb fun z=>by subst z;rw[e]at n;cases n];exact n
 have B:=I.base
 refine⟨I.ok,I.os,I.bare,⟨B.keep,B.slot,fun b o q n hx=>h b (B.free b o q n hx),B.there,fun b G q=>?_,fun b ob u q=>?_,fun b ps q=>?_⟩,I.loc,I.cell,h _ I.free,fun x c q=>h _ (I.freeC x c q),fun p hp=>?_,I.hok.tw e (by nofun) (by nofun) ?_,I.len⟩
 .have r:=B.tups b G q
  rw[zb fun z=>by subst z;rw[e]at r;cases r];exact r
 .rw[zb fun z=>by subst z;exact h0 _ _ q];exact B.frzs b ob u q
 .obtain⟨m,r⟩:=B.tbls b ps q
  exact⟨m,by rw[zb fun z=>by subst z;rw[e]at r;cases r];exact r⟩
 .obtain⟨p1,y,p3⟩:=I.pin p hp
  exact⟨p1,h _ y,p3⟩
 .exact(show aa7 X.prog X.w H s.heap a (.frz o (.dK kvs))from I.hok a _ e).2
end
noncomputable def Jk (a:Addr)(o:Obj)(kvs:List (Key×V)):It:=⟨fun i H=>H a=some (.frz o (.dK kvs))/\i<kvs.length,
 fun i H x H'=>H'=H/\∃ k v,kvs[i]?=some (k,v)/\x=kV k,fun i H=>H a=some (.frz o (.dK kvs))/\kvs.length<=i⟩
theorem bi9 {P:aD}{w:World}{H:Hp}{h:Heap}{a:Addr}{o:Obj}{kvs:List (Key×V)}{B:Array DictEntry}{ep:Nat}(ok:HOk P w H h)(z:H a=some (.frz o (.dK kvs)))(ho:o.data=.dict B ep):∃ vs,KV kvs vs/\h.DictAt (zl P w) a vs ep:=by
 obtain⟨e,zz,y,vs,r,o',es,a0,J,h2,G,h4,Z,h6⟩:=(show aa7 P w H h a (.frz o (.dK kvs))from ok a _ z)
 rw[e]at J;cases J
 rw[ho]at G;cases G
 exact⟨vs,r,o,B,e,h2,ho,h4,Z,h6⟩
theorem aQ8 {P:aD}{w:World}{K:af}{tg:Expr}(a it:Addr)(o:Obj)(kvs:List (Key×V))(ep:Nat)(a0:Array DictEntry)(ho:o.data=.dict a0 ep) :
  Turn P w K tg (Jk a o kvs) [it] it (fun i h=>h.IsKeyIter it a i kvs.length ep) where
 mem:=by simp
 obj:=fun i h st b hb=>by
  have e:b=it:=by simpa using hb
  subst e
  obtain⟨o,e,c,d⟩:=st
  exact⟨o,e,fun v z=>by rw[d]at z;cases z⟩
 keep:=fun i h h' st k=>st.at fun o e=>k it (by simp) o e
 item:=by
  intro X hP hw Z hc i y s W H E I G st hg
  subst hP hw Z
  obtain⟨fz,hlt⟩:=hg
  obtain⟨vs,r,da⟩:=bi9 I.hok fz ho
  have J:kvs.length=vs.length:=dw r
  obtain⟨u,hu,_⟩:=KV.get r (ag hlt)
  obtain⟨f0,f1,f2,f3,f4,f5⟩:=G it (by simp)
  refine wpAny_pyNext_dict_item (by rw[<-J];exact st) da hu fun key h' hk B sb=>?_
  rw[<-J]at B
  have I1:Inv X y W H { s with heap:=h' }:=I.turned (t':=s.toks) (fun b o hb e=>(sb.2 b hb).trans e) f0 f1 f3 f4 f5
  obtain⟨o',e,c,d⟩:=id B
  exact⟨key,rfl,aP9 (s:={ s with heap:=h' }) e c d (by decide) ⟨kV kvs[i].1,H,I1,aS6 hk,⟨rfl,_,_,ag hlt,rfl⟩,B,fun b hb=>(G b hb).1⟩⟩
 done:=by
  intro X hP hw Z hc i y s W H E I G st hg
  subst hP hw Z
  obtain⟨fz,hle⟩:=hg
  obtain⟨vs,r,da⟩:=bi9 I.hok fz ho
  have J:kvs.length=vs.length:=dw r
  obtain⟨f0,f1,f2,f3,f4,f5⟩:=G it (by simp)
  exact wpAny_pyNext_dict_end (I.ok.hd hc) (by rw[<-J];exact st) da (cg (by lia)) fun h' eb=>⟨rfl,I.turned (t':=s.toks) (fun b o hb e=>eb b o hb e) f0 f1 f3 f4 f5⟩
 self:=fun _ _ _ _ _ st h=>wpAny_pyIter_keyiter st h
section
variable {X:Cx} {tg:Expr}
def by2 (tl:TE):TI:=fun W H R=>tl W H fun x H1=>∃ a kvs,x=.ref a/\H1 a=some (.dK kvs)/\∀ o,R (Jk a o kvs) (upd H1 a (.frz o (.dK kvs)))
theorem bl4 {l:Expr}{tl:TE}(Z:PE X l tl):PI X tg l (by2 tl):=by
 intro B s W H R I h
 refine thn (Z B s W H _ I h) fun v s1 ⟨x,H1,G,r1,a,kvs,ex,ha,q⟩=>?_
 subst ex
 cases r1
 obtain⟨zz,y,vs,r,o,es,z,J,h2,h3,h4,h5,h6⟩:=(show aa7 X.prog X.w H1 s1.heap a (.dK kvs)from G.hok a _ ha)
 have Z:kvs.length=vs.length:=dw r
 refine wpAny_pyIter_dict y (knd:=zl X.prog X.w) (kvs:=vs) (ep:=z) ⟨o,es,J,h2,h3,h4,h5,h6⟩ ?_
 have I2:=(G.freezeK ha J).kept (t':=s1.toks) (h':=s1.heap.push { cls:=.type "dict_keyiterator",data:=.fields #[.ref a,.int 0 0,.int vs.length 0,.int z 0] }) fun b u r=>ak _ r
 refine⟨s1.heap.objs.size,[s1.heap.objs.size],_,_,_,rfl,I2,aQ8 a s1.heap.objs.size o kvs z es h3,⟨_,aX _ rfl,rfl,by rw[Z];rfl⟩,fun b hb=>?_,q o⟩
 have e:b=s1.heap.objs.size:=by simpa using hb
 subst e
 exact(G.freezeK ha J).fpOk (ah _) ((G.freezeK ha J).hok.fresh (ah _))
theorem an9:∀ {l:List (Key×V)} {us:yG},us.length=l.length->(∀(j:Nat) (u:Value),us[j]?=some u->∀ k v,l[j]?=some (k,v)->RelV (kV k) u)->Vals (l.map fun z=>kV z.1) us
 | [],[],_,_=>.nil
 | [],_::_,h,_=>by cases h
 | _::_,[],h,_=>by cases h
 | (k,v)::l,u::us,h,q=>.cons (q 0 u rfl k v rfl) (an9 (kB h) fun j B e y v' e'=>q (j+1) B e y v' e')
theorem aH3 (hc:X.calm=true):aa9 X (.type "list") (fun Z H Q=>∃ p kvs,Z=[.ref p]/\H p=some (.dK kvs)/\∀ l,H l=none->Q (.ref l) (upd H l (.lst (kvs.map fun B=>kV B.1)))):=by
 intro J s W H Z us Q I r h
 obtain⟨p,kvs,rfl,hd,q⟩:=h
 obtain⟨u,rfl,rx⟩:=qy r
 cases rx
 obtain⟨zz,y,vs,r,o,es,G,h1,h2,h3,h4,h5,h6⟩:=(show aa7 X.prog X.w H s.heap p (.dK kvs)from I.hok p _ hd)
 have hl:kvs.length=vs.length:=dw r
 refine PySem.W.kdl_call (jG (knd:=zl X.prog X.w) (kvs:=vs) (ep:=G) y) (I.ok.hd hc) ⟨o,es,h1,h2,h3,h4,h5,h6⟩ (by lia) fun h' tk z c kp e it=>?_
 refine⟨.ref s.heap.objs.size,_,I.laid (t':=tk) kp (ah _) (show aa7 X.prog X.w _ h' _ (.lst (kvs.map fun B=>kV B.1))from⟨by rw[az];exact zz,z.toList,c,?_,by rw[eW];exact e⟩),rfl,q _ (I.hok.fresh (ah _))⟩
 refine an9 (by rw[bc];exact it.1.trans hl.symm) fun j u e k v hk=>?_
 obtain⟨k',x',e1,e2⟩:=it.2 j u (by rw[<-ci];exact e)
 obtain⟨u',e3,_⟩:=KV.get r hk
 rw[e3]at e1;cases e1
 exact aS6 e2
theorem aw6:aa9 X (.builtin "sorted") (fun J H Q=>∃(p:Addr) (ns:List Int),J=[.ref p]/\H p=some (.lst (ns.map V.int))/\ns.length<64/\∀(l:Addr) (z:List Int),H l=none->z.Perm ns->z.Pairwise (·<=·)->Q (.ref l) (upd H l (.lst (z.map V.int)))):=by
 intro G s W H J us Q I r h
 obtain⟨p,ns,rfl,hd,h64,q⟩:=h
 obtain⟨u,rfl,rx⟩:=qy r
 cases rx
 obtain⟨its,rv,pl,hz⟩:=I.list (SqL.of hd)
 have hI:=ak9 rv
 have B:its.length=ns.length:=by have:=rv.length;rw[az]at this;exact this.symm
 refine sorted_ints pl.isList hI (by lia) fun out y a1 Z a3=>?_
 obtain⟨e,he⟩:=sortedAll_at s.heap its out
 refine⟨.ref (s.heap.objs.size+1),_,I.laid (t':=s.toks) (fun b o hb=>sortedAll_old hb) (cT _) (show aa7 X.prog X.w _ _ _ (.lst (y.map V.int))from⟨?_,out.toList,e,ae2 a1,by rw[eW];exact he⟩),rfl,q _ y (I.hok.fresh (cT _)) Z a3⟩
 rw[az,Z.length_eq,cF];lia
end
end L2
end
noncomputable section
namespace L2
open PySem PyProof.Rows
noncomputable abbrev SM (α:Type):=StateT bC Sem α
noncomputable def aQ2:Bool->Keyed->Array Keyed->Nat->Nat->Nat->SM (Option Nat):=sortPriv% PySem.Builtin.gallop
noncomputable def bR5:Array Keyed->Array Keyed->SM (Array Keyed):=sortPriv% PySem.Builtin.mergeLo
noncomputable def bV7:Array Keyed->Array Keyed->SM (Array Keyed):=sortPriv% PySem.Builtin.mergeHi
noncomputable def kk (p:Keyed):Int:=numOf p.1
def IK (p:Keyed):Prop:=∃ n t,p.1=.int n t
section
variable {prog:aD} {w:World} {A:aP} {E:Value->ae->Prop} {s:ae}
theorem wl {x y:Keyed}{st:bC}{Q:Option Bool->bC->Prop}(hx:IK x)(hy:IK y)(hk:cb st=du)(h:Q (some (decide (kk x<kk y))) st):wpS (model prog w) A E s (lt' x y) Q st:=by
 obtain⟨a,t,B⟩:=hx
 obtain⟨b,u,z⟩:=hy
 obtain⟨x1,x2⟩:=x
 obtain⟨J,G⟩:=y
 cases B;cases z
 rw[lt'_eq]
 refine am (eE ?_)
 rw[hk,keyLt'_oneType]
 refine am (fJ (wpAny_attempt (oneLt_int ⟨rfl,?_⟩)))
 exact ax h
theorem wel {y:Array Keyed}{i:Nat}{p:Keyed}{st:bC}{Q:Keyed->bC->Prop}(e:y[i]?=some p)(h:Q p st):wpS (model prog w) A E s (elem' y i) Q st:=by
 rw[elem'_eq,e];exact ax h
noncomputable def bB (left:Bool)(key p:Keyed):Bool:=if left then decide (kk p<kk key)else !decide (kk key<kk p)
theorem bey {left:Bool}{key p:Keyed}{z:Array Keyed}{j:Nat}{st:bC}{Q:Option Bool->bC->Prop}(hk:cb st=du)(y:IK key)(e:z[j]?=some p)(hp:IK p)(h:Q (some (bB left key p)) st) :
  wpS (model prog w) A E s (do let x <- elem' z j;if left=true then lt' x key else do let r <- lt' key x;pure (r.map (!·))) Q st:=by
 refine am (wel e ?_)
 cases left with
 | true=>exact wl hp y hk h
 | false=>exact am (wl y hp hk (ax h))
theorem bh3 {left:Bool}{key:Keyed}{a0:Array Keyed}{base n y:Nat}{st:bC}{Q:Option Nat->bC->Prop}(hk:cb st=du)(a6:IK key)(b:Nat->Bool)
  (ha:∀ i,i<n->∃ p,a0[base+i]?=some p/\IK p/\bB left key p=b i) (mono:∀ i j,i<=j->j<n->b j=true->b i=true) (hh:y<n)
  (h:∀ k,k<=n->(∀ i,i<k->b i=true)->(∀ i,k<=i->i<n->b i=false)->Q (some k) st):wpS (model prog w) A E s (aQ2 left key a0 base n y) Q st:=by
 have B:∀ i,i<n->∀(Q':Option Bool->bC->Prop),Q' (some (b i)) st->wpS (model prog w) A E s (do let x <- elem' a0 (base+i);if left=true then lt' x key else do let r <- lt' key x;pure (r.map (!·))) Q' st:=fun i J Q' q=>by
  obtain⟨p,e1,e2,e3⟩:=ha i J
  exact bey hk a6 e1 e2 (by rw[e3];exact q)
 have fin:∀ Z J,Z<=J->J<=n->(∀ i,i<Z->b i=true)->(∀ i,J<=i->i<n->b i=false)->∀(f:Nat->Option (Option Nat)×Nat×Nat->SM (ForInStep (Option (Option Nat)×Nat×Nat))) (g:Option (Option Nat)×Nat×Nat->SM (Option Nat)),
   (∀ x Z J,f x (none,Z,J)=if Z ≥ J then pure (.done (none,Z,J))else do
    let r <- (do let x <- elem' a0 (base+(Z+(J - Z) / 2));if left=true then lt' x key else do let r <- lt' key x;pure (r.map (!·)))
    match r with
    | some more=>if more=true then pure (.yield (none,Z+(J - Z) / 2+1,J))else pure (.yield (none,Z,Z+(J - Z) / 2))
    | _=>pure (.done (some none,Z,J)))->(∀ Z J,g (none,Z,J)=pure (some J)) ->
   wpS (model prog w) A E s (forIn [0:n] (none,Z,J) f >>= g) Q st:=fun Z J h1 h2 h3 h4 f g hf hg=>by
  refine am (cW (bE (I:=fun x c G=>G=st/\∃ Z J,c=(none,Z,J)/\Z<=J/\J<=n/\J - Z<=n - x/\(∀ i,i<Z->b i=true)/\(∀ i,J<=i->i<n->b i=false))
   (Q:=fun c G=>G=st/\∃ k,c=(none,k,k)/\k<=n/\(∀ i,i<k->b i=true)/\(∀ i,k<=i->i<n->b i=false)) ?step ?end_ ⟨rfl,Z,J,rfl,h1,h2,by lia,h3,h4⟩) ?post)
  case end_ =>
   rintro c G ⟨rfl,Z,J,rfl,a1,a2,a3,a4,a5⟩
   have:Z=J:=by lia
   subst this
   exact⟨rfl,Z,rfl,a2,a4,a5⟩
  case post =>
   rintro c G ⟨rfl,k,rfl,a2,a4,a5⟩
   rw[hg]
   exact ax (h k a2 a4 a5)
  case step =>
   rintro x c G _ hx ⟨rfl,Z,J,rfl,a1,a2,a3,a4,a5⟩
   rw[hf]
   by_cases hge:Z ≥ J
   .rw[if_pos hge]
    have:Z=J:=by lia
    subst this
    exact ax ⟨rfl,Z,rfl,a2,a4,a5⟩
   .rw[if_neg hge]
    refine am (B _ (by lia) _ ?_)
    cases hb:b (Z+(J - Z) / 2)with
    | true=>exact ax ⟨rfl,_,_,rfl,by lia,a2,by omega,fun i hi'=>mono i _ (by lia) (by lia) hb,a5⟩
    | false =>
     refine ax ⟨rfl,_,_,rfl,by lia,by lia,by omega,a4,fun i h1 h2=>?_⟩
     cases hz:b i with
     | false=>rfl
     | true=>rw[mono _ _ h1 h2 hz]at hb;cases hb
 refine am (B y hh _ ?_)
 cases hb:b y with
 | true =>
  refine am (cW (bE (I:=fun x c G=>G=st/\∃ l o,c=(none,l,o)/\l<o/\x+1<=o/\l<n - y/\b (y+l)=true)
   (Q:=fun c G=>G=st/\∃ l o,c=(none,l,o)/\l<o/\l<n - y/\b (y+l)=true/\(o<n - y->b (y+o)=false)) ?step ?end_ ⟨rfl,0,1,rfl,by lia,by lia,by lia,hb⟩) ?post)
  case end_ =>
   rintro c G ⟨rfl,l,o,rfl,a1,a2,a3,a4⟩
   exact⟨rfl,l,o,rfl,a1,a3,a4,fun z=>by lia⟩
  case step =>
   rintro x c G _ hx ⟨rfl,l,o,rfl,a1,a2,a3,a4⟩
   dsimp only
   by_cases hge:o ≥ n - y
   .rw[if_pos hge];exact ax ⟨rfl,l,o,rfl,a1,a3,a4,fun z=>by lia⟩
   .rw[if_neg hge]
    refine am (B _ (by lia) _ ?_)
    cases hz:b (y+o)with
    | true=>exact ax ⟨rfl,_,_,rfl,by lia,by lia,by lia,hz⟩
    | false=>exact ax ⟨rfl,_,_,rfl,a1,a3,a4,fun _=>hz⟩
  case post =>
   rintro c G ⟨rfl,l,o,rfl,a1,a3,a4,a5⟩
   refine fin (y+l+1) (y+min o (n - y)) (by omega) (by omega) (fun i J=>mono i _ (by lia) (by lia) a4) (fun i h1 h2=>?_) _ _ (fun _ _ _=>rfl) (fun _ _=>rfl)
   cases hz:b i with
   | false=>rfl
   | true =>
    have:o<n - y:=by omega
    rw[mono (y+o) i (by lia) h2 hz]at a5
    cases a5 this
 | false =>
  refine am (cW (bE (I:=fun x c G=>G=st/\∃ l o,c=(none,l,o)/\l<o/\x+1<=o/\l<y+1/\b (y - l)=false)
   (Q:=fun c G=>G=st/\∃ l o,c=(none,l,o)/\l<o/\l<y+1/\b (y - l)=false/\(o<y+1->b (y - o)=true)) ?step ?end_ ⟨rfl,0,1,rfl,by omega,by omega,by lia,hb⟩) ?post)
  case end_ =>
   rintro c G ⟨rfl,l,o,rfl,a1,a2,a3,a4⟩
   exact⟨rfl,l,o,rfl,a1,a3,a4,fun z=>by lia⟩
  case step =>
   rintro x c G _ hx ⟨rfl,l,o,rfl,a1,a2,a3,a4⟩
   dsimp only
   by_cases hge:o ≥ y+1
   .rw[if_pos hge];exact ax ⟨rfl,l,o,rfl,a1,a3,a4,fun z=>by lia⟩
   .rw[if_neg hge]
    refine am (B _ (by omega) _ ?_)
    cases hz:b (y - o)with
    | true=>exact ax ⟨rfl,_,_,rfl,a1,a3,a4,fun _=>hz⟩
    | false=>exact ax ⟨rfl,_,_,rfl,by omega,by omega,by lia,hz⟩
  case post =>
   rintro c G ⟨rfl,l,o,rfl,a1,a3,a4,a5⟩
   refine fin (y+1 - min o (y+1)) (y - l) (by omega) (by lia) (fun i J=>mono i (y - o) (by omega) (by omega) (a5 (by omega))) (fun i h1 h2=>?_) _ _ (fun _ _ _=>rfl) (fun _ _=>rfl)
   cases hz:b i with
   | false=>rfl
   | true=>rw[mono (y - l) i (by omega) h2 hz]at a4;cases a4
end
end L2
end
noncomputable section
namespace L2
open PySem PyProof.Rows
abbrev Srt (κ:Keyed->Int)(l:List Keyed):Prop:=l.Pairwise fun x y=>κ x<=κ y
def Mg (κ:Keyed->Int)(A B out:List Keyed)(i j:Nat):Prop :=
 out.Perm (A.take i++B.take j)/\Srt κ out/\(∀ x∈out,∀ y∈A.drop i,κ x<=κ y)/\∀ x∈out,∀ y∈B.drop j,κ x<=κ y
section
variable {κ:Keyed->Int} {A B out:List Keyed} {i j k:Nat}
theorem Mg.swap (h:Mg κ A B out i j):Mg κ B A out j i:=⟨h.1.trans dB,h.2.1,h.2.2.2,h.2.2.1⟩
theorem Mg.add (h:Mg κ A B out i j)(Z:Srt κ A)(k:Nat)(hk:∀ x∈(A.drop i).take k,∀ y∈B.drop j,κ x<=κ y):Mg κ A B (out++(A.drop i).take k) (i+k) j:=by
 obtain⟨p,s,z,J⟩:=h
 have e:A.drop i=(A.drop i).take k++A.drop (i+k):=by rw[<-fK,bP]
 have G:Srt κ (A.drop i):=Z.sublist (fY _ _)
 rw[e]at G
 obtain⟨s1,_,s3⟩:=bV.mp G
 refine⟨?_,bV.mpr ⟨s,s1,fun x hx y hy=>z x hx y (cX hy)⟩,fun x hx y hy=>?_,fun x hx y hy=>?_⟩
 .rw[List.take_add,aM]
  refine(p.append_right _).trans ?_
  rw[aM]
  exact ig _ dB
 .rcases aN.mp hx with hx|hx
  .exact z x hx y (by rw[e];exact a7 _ hy)
  .exact s3 x hx y hy
 .rcases aN.mp hx with hx|hx
  .exact J x hx y hy
  .exact hk x hx y hy
theorem Mg.fin (h:Mg κ A B out i j)(y:A.length<=i)(hj:B.length<=j):out.Perm (A++B)/\Srt κ out:=by
 obtain⟨p,s,_⟩:=h
 rw[a8 y,a8 hj]at p
 exact⟨p,s⟩
theorem Mg.restA (h:Mg κ A B out i j)(z:Srt κ A)(hj:B.length<=j):(out++A.drop i).Perm (A++B)/\Srt κ (out++A.drop i):=by
 have:=h.add z (A.length - i) fun x _ y hy=>by rw[eF hj]at hy;cases hy
 rw[a8 (by simp)]at this
 exact this.fin (by lia) hj
theorem Mg.restB (h:Mg κ A B out i j)(y:Srt κ B)(z:A.length<=i):(out++B.drop j).Perm (A++B)/\Srt κ (out++B.drop j):=by
 obtain⟨a,b⟩:=h.swap.restA y z
 exact⟨a.trans dB,b⟩
theorem Mg.restBA (h:Mg κ A B out i j)(G:Srt κ A)(z:Srt κ B)(hk:∀ x∈B,∀ y∈A.drop i,κ x<=κ y):(out++B.drop j++A.drop i).Perm (A++B)/\Srt κ (out++B.drop j++A.drop i):=by
 have:=h.swap.add z (B.length - j) fun x hx y hy=>hk x (dM (cX hx)) y hy
 rw[a8 (by simp)]at this
 exact this.swap.restA G (by omega)
theorem qp (s:Srt κ A){x:Keyed}(h:A[i]?=some x):∀ y∈A.drop i,κ x<=κ y:=by
 have e:A.drop i=x::A.drop (i+1):=by
  obtain⟨B,e⟩:=ac.mp h
  rw[cQ B,e]
 have z:Srt κ (A.drop i):=s.sublist (fY _ _)
 rw[e]at z ⊢
 intro y hy
 rcases ay.mp hy with rfl|hy
 .exact cy _
 .exact(bp.mp z).1 y hy
theorem af5 {x:Keyed}(h:A[i]?=some x):(A.drop i).take 1=[x]:=by
 obtain⟨y,e⟩:=ac.mp h
 rw[cQ y,e];rfl
theorem Mg.one (h:Mg κ A B out i j)(Z:Srt κ A)(J:Srt κ B){x y:Keyed}(hx:A[i]?=some x)(hy:B[j]?=some y)(G:κ x<=κ y):Mg κ A B (out++[x]) (i+1) j:=by
 have:=h.add Z 1 fun z hz u hu=>by
  rw[af5 hx]at hz
  cases aO.mp hz
  exact cu G (qp J hy u hu)
 rwa [af5 hx]at this
theorem Mg.more (h:Mg κ A B out i j)(J:Srt κ A)(G:Srt κ B){y:Keyed}(hy:B[j]?=some y)(hk:∀ x∈(A.drop i).take k,κ x<=κ y):Mg κ A B (out++(A.drop i).take k) (i+k) j :=
 h.add J k fun z hz u hu=>cu (hk z hz) (qp G hy u hu)
end
section
variable {prog:aD} {w:World} {A:aP} {E:Value->ae->Prop} {s:ae}
def Sm (st st':bC):Prop:=arrOf st'=arrOf st/\a9 st'=a9 st/\cb st'=cb st/\bW st'=bW st
theorem Sm.refl (st:bC):Sm st st:=⟨rfl,rfl,rfl,rfl⟩
theorem Sm.trans {a b c:bC}(h:Sm a b)(g:Sm b c):Sm a c:=⟨g.1.trans h.1,g.2.1.trans h.2.1,g.2.2.1.trans h.2.2.1,g.2.2.2.trans h.2.2.2⟩
theorem ao0 {a:Array Keyed}{i k:Nat}:(a.extract i (i+k)).toList=(a.toList.drop i).take k:=by
 rw[bX,bD];congr 1;lia
theorem ae7 {a:Array Keyed}{i:Nat}:(a.extract i a.size).toList=a.toList.drop i:=by
 rw[bX,bD,a8 (by simp)]
def zO (a b r:Array Keyed):Prop:=r.toList.Perm (a.toList++b.toList)/\Srt kk r.toList
def Lo (a b out:Array Keyed)(i j:Nat):Prop:=Mg kk a.toList b.toList out.toList i j/\i+1<a.size/\j<b.size
section
variable {a b:Array Keyed} (sa:Srt kk a.toList) (sb:Srt kk b.toList) (hl:∀ x∈b.toList,∀ i,i+1=a.size->∀ y∈a.toList.drop i,kk x<=kk y)
include sa sb
theorem bB8 {i j:Nat}{x y:Keyed}(hij:i<=j)(hx:a[i]?=some x)(hy:a[j]?=some y):kk x<=kk y:=by
 rw[<-ci]at hx hy
 exact qp sa hx y (aG (by rw[di,show i+(j - i)=j by lia];exact hy))
theorem aB1 {out:Array Keyed}{i j:Nat}(m:Mg kk a.toList b.toList out.toList i j)(hj:j=b.size):zO a b (out++a.extract i a.size++b.extract j b.size):=by
 obtain⟨x,y⟩:=m.restA sa (by simp[hj])
 have e:(out++a.extract i a.size++b.extract j b.size).toList=out.toList++a.toList.drop i:=by
  rw[aY,aY,ae7,ae7,eF (l:=b.toList) (by simp[hj]),bt]
 unfold zO;rw[e];exact⟨x,y⟩
theorem bD5 {out:Array Keyed}{i j:Nat}(m:Mg kk a.toList b.toList out.toList i j)(h:i=a.size):zO a b (out++a.extract i a.size++b.extract j b.size):=by
 obtain⟨x,y⟩:=m.restB sb (by simp[h])
 have e:(out++a.extract i a.size++b.extract j b.size).toList=out.toList++b.toList.drop j:=by
  rw[aY,aY,ae7,ae7,eF (l:=a.toList) (by simp[h]),bt]
 unfold zO;rw[e];exact⟨x,y⟩
include hl
theorem aB9 {out:Array Keyed}{i j:Nat}(m:Mg kk a.toList b.toList out.toList i j)(h:i+1=a.size):zO a b (out++b.extract j b.size++a.extract i a.size):=by
 obtain⟨x,y⟩:=m.restBA sa sb fun x hx=>hl x hx i h
 have e:(out++b.extract j b.size++a.extract i a.size).toList=out.toList++b.toList.drop j++a.toList.drop i:=by
  rw[aY,aY,ae7,ae7]
 unfold zO;rw[e];exact⟨x,y⟩
end
theorem qd {a:Array Keyed}(ia:∀ x∈a.toList,IK x){i:Nat}(h:i<a.size):∃ p,a[i]?=some p/\IK p :=
 ⟨a[i],aS h,ia _ (by simp)⟩
theorem tl {a:Array Keyed}{i:Nat}{p:Keyed}(h:a[i]?=some p):a.toList[i]?=some p:=by rw[ci];exact h
noncomputable def bA (left:Bool)(key:Keyed)(arr:Array Keyed)(i t:Nat):Bool:=match arr[i+t]? with|some p=>bB left key p|none=>false
theorem ak3 {left:Bool}{key p:Keyed}{y:Array Keyed}{i t:Nat}(h:y[i+t]?=some p):bA left key y i t=bB left key p:=by unfold bA;rw[h]
theorem aZ9 {key p:Keyed}:bB false key p=true↔kk p<=kk key:=by unfold bB;simp
theorem bf1 {key p:Keyed}:bB true key p=true↔kk p<kk key:=by unfold bB;simp
theorem bw9 {left:Bool}{key:Keyed}{y:Array Keyed}{i n:Nat}(z:Srt kk y.toList)(hn:i+n<=y.size):∀ t u,t<=u->u<n->bA left key y i u=true->bA left key y i t=true:=fun t u B hu h=>by
 have e1:y[i+t]?=some y[i+t]:=aS (by omega)
 have e2:y[i+u]?=some y[i+u]:=aS (by omega)
 have:=bB8 (b:=y) z z (show i+t<=i+u by lia) e1 e2
 rw[ak3 e1];rw[ak3 e2]at h
 cases left with
 | true=>rw[bf1]at h ⊢;omega
 | false=>rw[aZ9]at h ⊢;omega
theorem bN9 {left:Bool}{key:Keyed}{y:Array Keyed}{i n z:Nat}{st:bC}{Q:Option Nat->bC->Prop}(hk:cb st=du)(G:IK key)(ia:∀ x∈y.toList,IK x)(sa:Srt kk y.toList)(hn:i+n<=y.size)(Z:z<n)
  (h:∀ k,k<=n->(∀ x∈(y.toList.drop i).take k,bB left key x=true)->(∀ t p,k<=t->t<n->y[i+t]?=some p->bB left key p=false)->Q (some k) st):wpS (model prog w) A E s (aQ2 left key y i n z) Q st:=by
 refine bh3 hk G (bA left key y i) (fun t J=>?_) (bw9 sa hn) Z fun k h1 h2 h3=>h k h1 (fun x hx=>?_) fun t p h4 h5 e=>?_
 .obtain⟨p,e,q⟩:=qd ia (i:=i+t) (by lia)
  exact⟨p,e,q,(ak3 e).symm⟩
 .obtain⟨t,J,e⟩:=bI.mp hx
  have B:t<k/\i+t<y.size:=by simp at J;omega
  have e2:y[i+t]?=some x:=by
   rw[<-e,aS B.2];simp
  rw[<-ak3 e2];exact h2 t B.1
 .rw[<-ak3 e];exact h3 t h4 h5
theorem bP5 {a b:Array Keyed}{st:bC}{Q:Array Keyed->bC->Prop}(hk:cb st=du)(ia:∀ x∈a.toList,IK x)(ib:∀ x∈b.toList,IK x)(Z:Srt kk a.toList)(G:Srt kk b.toList)
  (ha:0<a.size) (hb:0<b.size) (h0:∀ x y,a[0]?=some x->b[0]?=some y->kk y<=kk x) (hl:∀ x∈b.toList,∀ i,i+1=a.size->∀ y∈a.toList.drop i,kk x<=kk y)
  (h:∀ r B,Sm st B->zO a b r->Q r B):wpS (model prog w) A E s (bR5 a b) Q st:=by
 refine am (fJ (dL ⟨rfl,?_⟩))
 obtain⟨y0,ey,_⟩:=qd ib hb
 obtain⟨x0,ex,_⟩:=qd ia ha
 refine am (wel ey ?_)
 have m0:Mg kk a.toList b.toList (#[y0]:Array Keyed).toList 0 1:=by
  have z:Mg kk a.toList b.toList [] 0 0:=⟨by simp,List.Pairwise.nil,by simp,by simp⟩
  exact(z.swap.one G Z (tl ey) (tl ex) (h0 _ _ ex ey)).swap
 by_cases c1:(1==b.size)=true
 .exact(congrArg (fun z=>wpS (model prog w) A E s z Q st) (if_pos c1)).mpr (ax (h _ _ (Sm.refl _) (aB1 Z G m0 (eq_of_beq c1))))
 refine(congrArg (fun z=>wpS (model prog w) A E s z Q st) (if_neg c1)).mpr ?_
 by_cases c2:(0+1==a.size)=true
 .exact(congrArg (fun z=>wpS (model prog w) A E s z Q st) (if_pos c2)).mpr (ax (h _ _ (Sm.refl _) (aB9 Z G hl m0 (eq_of_beq c2))))
 refine(congrArg (fun z=>wpS (model prog w) A E s z Q st) (if_neg c2)).mpr ?_
 refine am (eE ?_)
 have d1:1<b.size:=by have:1≠b.size:=fun z=>c1 (beq_iff_eq.mpr z);lia
 have d2:0+1<a.size:=by have:0+1≠a.size:=fun z=>c2 (beq_iff_eq.mpr z);lia
 refine am (cW (bE (I:=fun x c B=>Sm st B/\∃ out i j g,c=(none,out,i,j,g)/\Lo a b out i j/\x+1<=i+j)
  (Q:=fun c B=>Sm st B/\∃ r,c.1=some r/\zO a b r) ?step ?end_ ⟨Sm.refl _,_,_,_,_,rfl,⟨m0,d2,d1⟩,by lia⟩) ?post)
 case post =>
  rintro c B ⟨m,r,e,Ww⟩
  obtain⟨c1,c2⟩:=c
  cases e
  exact ax (h _ _ m Ww)
 case end_ =>
  rintro c B ⟨m,out,i,j,g,rfl,⟨_,l1,l2⟩,l3⟩
  lia
 case step =>
  rintro x c B _ hx ⟨m,out,i,j,g,rfl,L,l3⟩
  dsimp only
  refine am (cW (bE (I:=fun y c s2=>Sm st s2/\∃ out i j p q,c=(none,out,i,j,p,q)/\Lo a b out i j/\x+1+y<=i+j)
   (Q:=fun c s2=>Sm st s2/\∃ o out i j p q,c=(o,out,i,j,p,q)/\(∀ r,o=some r->zO a b r)/\(o=none->Lo a b out i j/\x+2<=i+j)) ?step1 ?end1 ⟨m,_,_,_,_,_,rfl,L,by omega⟩) ?post1)
  case end1 =>
   rintro c s2 ⟨m,out,i,j,p,q,rfl,L,l3⟩
   exact⟨m,_,_,_,_,_,_,rfl,fun r z=>(by cases z),fun _=>⟨L,by lia⟩⟩
  case step1 =>
   rintro y c s2 _ hy ⟨m,out,i,j,p,q,rfl,⟨M,l1,l2⟩,l3⟩
   obtain⟨u,eu,ku⟩:=qd ia (i:=i) (by lia)
   obtain⟨v,ev,kv⟩:=qd ib l2
   dsimp only
   refine am (wel ev (am (wel eu (am (wl kv ku (m.2.2.1.trans hk) ?_)))))
   by_cases c:kk v<kk u
   .simp only[c,decide_true,if_true]
    refine am (wel ev ?_)
    have M1:Mg kk a.toList b.toList (out.push v).toList i (j+1):=by
     rw[dG];exact(M.swap.one G Z (tl ev) (tl eu) (cE c)).swap
    by_cases e:(j+1==b.size)=true
    .rw[if_pos e]
     exact ax ⟨m,_,_,_,_,_,_,rfl,fun r z=>by cases z;exact aB1 Z G M1 (eq_of_beq e),fun z=>by cases z⟩
    .rw[if_neg e]
     have e:j+1≠b.size:=fun z=>e (beq_iff_eq.mpr z)
     by_cases g1:q+1 ≥ g
     .rw[if_pos g1];exact ax ⟨m,_,_,_,_,_,_,rfl,fun r z=>(by cases z),fun _=>⟨⟨M1,l1,by lia⟩,by lia⟩⟩
     .rw[if_neg g1];exact ax ⟨m,_,_,_,_,_,rfl,⟨M1,l1,by omega⟩,by lia⟩
   .simp only[c,decide_false,bn,if_false]
    refine am (wel eu ?_)
    have M1:Mg kk a.toList b.toList (out.push u).toList (i+1) j:=by
     rw[dG];exact M.one Z G (tl eu) (tl ev) (i6.mp c)
    by_cases e:(i+1+1==a.size)=true
    .rw[if_pos e]
     exact ax ⟨m,_,_,_,_,_,_,rfl,fun r z=>by cases z;exact aB9 Z G hl M1 (eq_of_beq e),fun z=>by cases z⟩
    .rw[if_neg e]
     have e:i+1+1≠a.size:=fun z=>e (beq_iff_eq.mpr z)
     by_cases g1:p+1 ≥ g
     .rw[if_pos g1];exact ax ⟨m,_,_,_,_,_,_,rfl,fun r z=>(by cases z),fun _=>⟨⟨M1,by lia,l2⟩,by lia⟩⟩
     .rw[if_neg g1];exact ax ⟨m,_,_,_,_,_,rfl,⟨M1,by omega,l2⟩,by lia⟩
  case post1 =>
   rintro c s2 ⟨m,o,out,i,j,p,q,rfl,f1,f2⟩
   cases o with
   | some r=>exact ax ⟨m,r,rfl,f1 r rfl⟩
   | none =>
    obtain⟨L,l3⟩:=f2 rfl
    dsimp only
    refine am (fJ (dL ⟨rfl,?_⟩))
    refine am (cW (bE (I:=fun y c s2=>Sm st s2/\∃ out i j g p q,c=(none,out,i,j,g,p,q)/\Lo a b out i j/\x+2<=i+j)
     (Q:=fun c s2=>Sm st s2/\∃ o out i j g p q,c=(o,out,i,j,g,p,q)/\(∀ r,o=some r->zO a b r)/\(o=none->Lo a b out i j/\x+2<=i+j)) ?step2 ?end2 ⟨m,_,_,_,_,_,_,rfl,L,l3⟩) ?post2)
    case end2 =>
     rintro c s2 ⟨m,out,i,j,g,p,q,rfl,L,l3⟩
     exact⟨m,_,_,_,_,_,_,_,rfl,fun r z=>(by cases z),fun _=>⟨L,l3⟩⟩
    case post2 =>
     rintro c s2 ⟨m,o,out,i,j,g,p,q,rfl,f1,f2⟩
     cases o with
     | some r=>exact ax ⟨m,r,rfl,f1 r rfl⟩
     | none =>
      obtain⟨L,l3⟩:=f2 rfl
      exact am (dj (ax ⟨m.trans ⟨rfl,rfl,rfl,rfl⟩,_,_,_,_,rfl,L,by omega⟩))
    case step2 =>
     rintro y c s2 _ hy ⟨m,out,i,j,g,p,q,rfl,⟨M,l1,l2⟩,l3⟩
     dsimp only
     by_cases hg:g > 1
     all_goals
      first|rw[if_pos hg]|rw[if_neg hg]
      refine am (dj ?_)
      obtain⟨v,ev,kv⟩:=qd ib l2
      refine am (wel ev ?_)
      refine am (bN9 (left:=false) (m.2.2.1.trans hk) kv ia Z (by omega) (by omega) fun k k1 k2 k3=>?_)
      dsimp only
      have nx:∀ p,a[i+k]?=some p->kk v<=kk p:=fun p e=>by
       have hlt:=(fL.mp e).1
       have:=k3 k p (ah _) (by omega) e
       cases dR (kk v) (kk p)with
       | inl z=>lia
       | inr z=>rw[aZ9.mpr z]at this;cases this
      have M1:Mg kk a.toList b.toList (out++a.extract i (i+k)).toList (i+k) j:=by
       rw[aY,ao0];exact M.more Z G (tl ev) fun x hx=>aZ9.mp (k2 x hx)
      rcases i7 k with k0|hk0
      case' inl =>
       subst k0
       rw[if_neg (by lia)]
       replace M1:=M
       have l4:=l1
       have l5:=l3
       generalize hO:out=O at M1 ⊢
       clear hO
       generalize hI:i+0=I at nx
       cases hI
      case' inr =>
       rw[if_pos hk0]
       by_cases e1:(i+k+1==a.size)=true
       .rw[if_pos e1]
        exact ax ⟨m,_,_,_,_,_,_,_,rfl,fun r z=>by cases z;exact aB9 Z G hl M1 (eq_of_beq e1),fun z=>by cases z⟩
       rw[if_neg e1]
       by_cases e2:(i+k==a.size)=true
       .rw[if_pos e2]
        exact ax ⟨m,_,_,_,_,_,_,_,rfl,fun r z=>by cases z;exact bD5 Z G M1 (eq_of_beq e2),fun z=>by cases z⟩
       rw[if_neg e2]
       have e1:i+k+1≠a.size:=fun z=>e1 (beq_iff_eq.mpr z)
       have e2:i+k≠a.size:=fun z=>e2 (beq_iff_eq.mpr z)
       have l4:i+k+1<a.size:=by omega
       have l5:x+2<=i+k+j:=by lia
       generalize hO:out++a.extract i (i+k)=O at M1 ⊢
       clear hO
       generalize i+k=i at M1 l4 l5 nx ⊢
      all_goals
       obtain⟨u,eu,ku⟩:=qd ia (show _<a.size from Nat.lt_of_succ_lt l4)
       refine am (wel ev ?_)
       have M2:=(M1.swap.one G Z (tl ev) (tl eu) (nx u eu)).swap
       rw[<-dG]at M2
       generalize a1:kN O v=O2 at M2 ⊢
       clear a1
       by_cases e3:(j+1==b.size)=true
       .rw[if_pos e3]
        exact ax ⟨m,_,_,_,_,_,_,_,rfl,fun r z=>by cases z;exact aB1 Z G M2 (eq_of_beq e3),fun z=>by cases z⟩
       rw[if_neg e3]
       have e3:j+1≠b.size:=fun z=>e3 (beq_iff_eq.mpr z)
       refine am (wel eu ?_)
       refine am (bN9 (left:=true) (m.2.2.1.trans hk) ku ib G (by omega) (by omega) fun t t1 t2 t3=>?_)
       dsimp only
       have ny:∀ p,b[j+1+t]?=some p->kk u<=kk p:=fun p e=>by
        have hlt:=(fL.mp e).1
        have:=t3 t p (ah _) (by omega) e
        cases dR (kk p) (kk u)with
        | inl z=>rw[bf1.mpr z]at this;cases this
        | inr z=>exact z
       have M3:=(M2.swap.more (k:=t) G Z (tl eu) fun x hx=>cE (bf1.mp (t2 x hx))).swap
       rw[<-ao0,<-aY]at M3
       rcases i7 t with t0|ht0
       case' inl =>
        subst t0
        rw[if_neg (by omega)]
        replace M3:=M2
        have l6:j+1<b.size:=by lia
        have l7:=aj l5 (fo (cT j) _)
        generalize hO:O2=O3 at M3 ⊢
        clear hO
        generalize hJ:j+1+0=J at ny
        cases hJ
       case' inr =>
        rw[if_pos ht0]
        by_cases e4:(j+1+t==b.size)=true
        .rw[if_pos e4]
         exact ax ⟨m,_,_,_,_,_,_,_,rfl,fun r z=>by cases z;exact aB1 Z G M3 (eq_of_beq e4),fun z=>by cases z⟩
        rw[if_neg e4]
        have e4:j+1+t≠b.size:=fun z=>e4 (beq_iff_eq.mpr z)
        have l6:j+1+t<b.size:=by omega
        have l7:=aj l5 (fo (show j<=j+1+t by lia) _)
        generalize hO:O2++b.extract (j+1) (j+1+t)=O3 at M3 ⊢
        clear hO
        generalize j+1+t=j at M3 l6 l7 ny ⊢
       all_goals
        obtain⟨v2,a0,a2⟩:=qd ib l6
        refine am (wel eu ?_)
        have M4:=M3.one Z G (tl eu) (tl a0) (ny v2 a0)
        rw[<-dG]at M4
        by_cases e5:(i+1+1==a.size)=true
        .rw[if_pos e5]
         exact ax ⟨m,_,_,_,_,_,_,_,rfl,fun r z=>by cases z;exact aB9 Z G hl M4 (eq_of_beq e5),fun z=>by cases z⟩
        rw[if_neg e5]
        have e5:i+1+1≠a.size:=fun z=>e5 (beq_iff_eq.mpr z)
        split
        .exact ax ⟨m,_,_,_,_,_,_,_,rfl,fun r z=>(by cases z),fun _=>⟨⟨M4,by omega,l6⟩,by lia⟩⟩
        .exact ax ⟨m,_,_,_,_,_,_,rfl,⟨M4,by omega,l6⟩,by omega⟩
end
end L2
end
noncomputable section
namespace L2
open PySem PyProof.Rows
noncomputable def nk (p:Keyed):Int:=-(kk p)
theorem aS2 {l:List Keyed}:Srt nk l↔Srt kk l.reverse:=by
 unfold Srt
 rw[List.pairwise_reverse]
 constructor<;>intro h<;>exact h.imp fun z=>by unfold nk at *;lia
theorem zE {l:List Keyed}(h:Srt kk l):Srt nk l.reverse:=aS2.mpr (by rw[cY];exact h)
theorem aK1 {a:Array Keyed}{p n:Nat}(y:p<=n)(h:n<=a.size):(a.extract p n).reverse.toList=(a.toList.reverse.drop (a.size - n)).take (n - p):=by
 rw[cZ,bX,bD,ju,List.take_reverse,bK,bc,<-j3]
 rw[show a.size - (a.size - n)=n by lia,show min n a.size - (n - p)=p by lia]
theorem at4 {a:Array Keyed}{n:Nat}{p:Keyed}(z:1<=n)(y:n<=a.size)(h:a[n - 1]?=some p):a.toList.reverse[a.size - n]?=some p:=by
 rw[List.getElem?_reverse (by simp;omega),bc,ci,show a.size - 1 - (a.size - n)=n - 1 by omega];exact h
theorem ad4 {a:Array Keyed}{n:Nat}(h:n<=a.size):a.toList.reverse.drop (a.size - n)=(a.extract 0 n).toList.reverse:=by
 rw[ju,bX,bD,bQ,bc];congr 2<;>lia
section
variable {a b:Array Keyed}
theorem aj4 {out r:Array Keyed}{X:List Keyed}(h:(out.toList++X).Perm (a.toList.reverse++b.toList.reverse)/\Srt nk (out.toList++X))(e:r.toList=X.reverse++out.toList.reverse):zO a b r:=by
 have e2:r.toList=(out.toList++X).reverse:=by rw[e,iK]
 refine⟨?_,by rw[e2];exact aS2.mp h.2⟩
 rw[e2]
 exact(fZ _).trans (h.1.trans ((fZ _).append (fZ _)))
def Hi (a b out:Array Keyed)(na nb:Nat):Prop:=Mg nk a.toList.reverse b.toList.reverse out.toList (a.size - na) (b.size - nb)/\1<=na/\na<=a.size/\2<=nb/\nb<=b.size
variable (sa:Srt kk a.toList) (sb:Srt kk b.toList) (hf:∀ x∈a.toList,∀ y,b[0]?=some y->kk y<=kk x)
include sa sb
theorem ap7 {out:Array Keyed}{h:Nat}(m:Mg nk a.toList.reverse b.toList.reverse out.toList (a.size - 0) (b.size - h))(hb:h<=b.size):zO a b (a.extract 0 0++b.extract 0 h++out.reverse):=by
 refine aj4 (m.restB (zE sb) (by simp)) ?_
 rw[aY,aY,ad4 hb,cY,cZ];simp
theorem bv0 {out:Array Keyed}{h:Nat}(m:Mg nk a.toList.reverse b.toList.reverse out.toList (a.size - h) (b.size - 0))(ha:h<=a.size):zO a b (a.extract 0 h++b.extract 0 0++out.reverse):=by
 refine aj4 (m.restA (zE sa) (by simp)) ?_
 rw[aY,aY,ad4 ha,cY,cZ];simp
include hf
theorem ao7 {out:Array Keyed}{h:Nat}(m:Mg nk a.toList.reverse b.toList.reverse out.toList (a.size - h) (b.size - 1))(ha:h<=a.size)(hb:1<=b.size):zO a b (b.extract 0 1++a.extract 0 h++out.reverse):=by
 have:=m.swap.restBA (zE sb) (zE sa) fun x hx y hy=>by
  rw[ad4 hb]at hy
  have e:(b.extract 0 1).toList=[b[0]]:=by
   rw[bX,bD,bQ]
   exact af5 (i:=0) (tl (aS (by lia)))
  rw[e]at hy
  cases aO.mp hy
  have:=hf x (gy.mp hx) _ (aS (by omega))
  unfold nk;omega
 refine aj4 (X:=a.toList.reverse.drop (a.size - h)++b.toList.reverse.drop (b.size - 1)) ⟨by rw[<-aM];exact this.1.trans dB,by rw[<-aM];exact this.2⟩ ?_
 rw[aY,aY,ad4 ha,ad4 hb,iK,cY,cY,cZ]
end
section
variable {prog:aD} {w:World} {A:aP} {E:Value->ae->Prop} {s:ae}
theorem bT6 {a b out:Array Keyed}{h y:Nat}(m:Mg nk a.toList.reverse b.toList.reverse out.toList (a.size - h) (b.size - y))(G:Srt kk a.toList)(sb:Srt kk b.toList){u v:Keyed}(h1:1<=h)(B:h<=a.size)(J:1<=y)(Z:y<=b.size)(z:a[h - 1]?=some u)(ev:b[y - 1]?=some v)(hl:kk v<=kk u) :
  Mg nk a.toList.reverse b.toList.reverse (out.push u).toList (a.size - (h - 1)) (b.size - y):=by
 have:=m.one (zE G) (zE sb) (at4 h1 B z) (at4 J Z ev) (by unfold nk;lia)
 rwa [show a.size - h+1=a.size - (h - 1)by lia,<-dG]at this
theorem bW9 {a b out:Array Keyed}{h y:Nat}(m:Mg nk a.toList.reverse b.toList.reverse out.toList (a.size - h) (b.size - y))(G:Srt kk a.toList)(sb:Srt kk b.toList){u v:Keyed}(h1:1<=h)(B:h<=a.size)(J:1<=y)(Z:y<=b.size)(z:a[h - 1]?=some u)(ev:b[y - 1]?=some v)(hl:kk u<=kk v) :
  Mg nk a.toList.reverse b.toList.reverse (out.push v).toList (a.size - h) (b.size - (y - 1)):=(bT6 m.swap sb G J Z h1 B ev z hl).swap
theorem by9 {a b out:Array Keyed}{h y k:Nat}(m:Mg nk a.toList.reverse b.toList.reverse out.toList (a.size - h) (b.size - y))(sa:Srt kk a.toList)(sb:Srt kk b.toList){v:Keyed}(B:h<=a.size)(h3:1<=y)(J:y<=b.size)(ev:b[y - 1]?=some v)(hk:k<=h)(G:∀ t p,k<=t->t<h->a[0+t]?=some p->kk v<=kk p) :
  Mg nk a.toList.reverse b.toList.reverse (out++(a.extract k h).reverse).toList (a.size - k) (b.size - y):=by
 have:=m.more (k:=h - k) (zE sa) (zE sb) (at4 h3 J ev) fun x hx=>by
  rw[<-aK1 hk B,cZ,gy,bX,bD]at hx
  obtain⟨t,Z,e⟩:=bI.mp hx
  have z:t<h - k/\k+t<a.size:=by simp at Z;lia
  have e2:a[0+(k+t)]?=some x:=by
   rw[<-e,ce,aS z.2];simp
  have:=G (k+t) x (by lia) (by omega) e2
  unfold nk;lia
 rwa [<-aK1 hk B,<-aY,show a.size - h+(h - k)=a.size - k by lia]at this
theorem bS8 {a b:Array Keyed}{st:bC}{Q:Array Keyed->bC->Prop}(hk:cb st=du)(ia:∀ x∈a.toList,IK x)(ib:∀ x∈b.toList,IK x)(sa:Srt kk a.toList)(Z:Srt kk b.toList)
  (ha:0<a.size) (hb:0<b.size) (h0:∀ x y,a[a.size - 1]?=some x->b[b.size - 1]?=some y->kk y<=kk x) (hf:∀ x∈a.toList,∀ y,b[0]?=some y->kk y<=kk x)
  (h:∀ r J,Sm st J->zO a b r->Q r J):wpS (model prog w) A E s (bV7 a b) Q st:=by
 refine am (fJ (dL ⟨rfl,?_⟩))
 obtain⟨y0,ey,_⟩:=qd ib (i:=b.size - 1) (by omega)
 obtain⟨x0,ex,_⟩:=qd ia (i:=a.size - 1) (by omega)
 have a5:=zE sa
 have a4:=zE Z
 refine am (wel ex ?_)
 have m0:Mg nk a.toList.reverse b.toList.reverse (#[x0]:Array Keyed).toList (a.size - (a.size - 1)) (b.size - b.size):=by
  have z:Mg nk a.toList.reverse b.toList.reverse [] (a.size - a.size) (b.size - b.size):=by rw[fy,fy];exact⟨by simp,List.Pairwise.nil,by simp,by simp⟩
  have:=z.one a5 a4 (at4 ha (ah _) ex) (at4 hb (ah _) ey) (by have:=h0 _ _ ex ey;unfold nk;lia)
  rwa [show a.size - a.size+1=a.size - (a.size - 1)by lia]at this
 by_cases c1:(a.size - 1==0)=true
 .have z:=eq_of_beq c1
  rw[z]at m0
  refine(congrArg (fun z=>wpS (model prog w) A E s z Q st) (if_pos c1)).mpr (ax (h _ _ (Sm.refl _) ?_))
  have:=ap7 sa Z m0 (ah _)
  show zO a b (a.extract 0 (a.size - 1)++b.extract 0 b.size++(#[x0]:Array Keyed).reverse)
  rw[z];exact this
 refine(congrArg (fun z=>wpS (model prog w) A E s z Q st) (if_neg c1)).mpr ?_
 by_cases c2:(b.size==1)=true
 .have z:=eq_of_beq c2
  refine(congrArg (fun z=>wpS (model prog w) A E s z Q st) (if_pos c2)).mpr (ax (h _ _ (Sm.refl _) ?_))
  have a6:Mg nk a.toList.reverse b.toList.reverse (#[x0]:Array Keyed).toList (a.size - (a.size - 1)) (b.size - 1):=by rw[show b.size - 1=b.size - b.size by lia];exact m0
  have:=ao7 sa Z hf a6 (by omega) hb
  show zO a b (b.extract 0 b.size++a.extract 0 (a.size - 1)++(#[x0]:Array Keyed).reverse)
  rw[z];exact this
 refine(congrArg (fun z=>wpS (model prog w) A E s z Q st) (if_neg c2)).mpr ?_
 refine am (eE ?_)
 have d1:1<=a.size - 1:=by have:a.size - 1≠0:=fun z=>c1 (beq_iff_eq.mpr z);lia
 have d2:2<=b.size:=by have:b.size≠1:=fun z=>c2 (beq_iff_eq.mpr z);lia
 refine am (cW (bE (I:=fun x c J=>Sm st J/\∃ out G B g,c=(none,G,B,out,g)/\Hi a b out G B/\x+1+G+B<=a.size+b.size)
  (Q:=fun c J=>Sm st J/\∃ r,c.1=some r/\zO a b r) ?step ?end_ ⟨Sm.refl _,_,_,_,_,rfl,⟨m0,d1,by omega,d2,ah _⟩,by lia⟩) ?post)
 case post =>
  rintro c J ⟨m,r,e,Ww⟩
  obtain⟨c1,c2⟩:=c
  cases e
  exact ax (h _ _ m Ww)
 case end_ =>
  rintro c J ⟨m,out,G,B,g,rfl,⟨_,l1,l2,l3,l4⟩,l5⟩
  lia
 case step =>
  rintro x c J _ hx ⟨m,out,G,B,g,rfl,L,l5⟩
  dsimp only
  refine am (cW (bE (I:=fun y c s2=>Sm st s2/\∃ out G B p q,c=(none,G,B,out,p,q)/\Hi a b out G B/\x+1+y+G+B<=a.size+b.size)
   (Q:=fun c s2=>Sm st s2/\∃ o out G B p q,c=(o,G,B,out,p,q)/\(∀ r,o=some r->zO a b r)/\(o=none->Hi a b out G B/\x+2+G+B<=a.size+b.size)) ?step1 ?end1 ⟨m,_,_,_,_,_,rfl,L,by omega⟩) ?post1)
  case end1 =>
   rintro c s2 ⟨m,out,G,B,p,q,rfl,L,l3⟩
   exact⟨m,_,_,_,_,_,_,rfl,fun r z=>(by cases z),fun _=>⟨L,by lia⟩⟩
  case step1 =>
   rintro y c s2 _ hy ⟨m,out,G,B,p,q,rfl,⟨M,l1,l2,l3,l4⟩,l5⟩
   obtain⟨u,eu,ku⟩:=qd ia (i:=G - 1) (by omega)
   obtain⟨v,ev,kv⟩:=qd ib (i:=B - 1) (by omega)
   dsimp only
   refine am (wel ev (am (wel eu (am (wl kv ku (m.2.2.1.trans hk) ?_)))))
   by_cases c:kk v<kk u
   .simp only[c,decide_true,if_true]
    refine am (wel eu ?_)
    have M1:=bT6 M sa Z l1 l2 (by lia) l4 eu ev (cE c)
    by_cases e:(G - 1==0)=true
    .rw[if_pos e]
     have z:=eq_of_beq e
     refine ax ⟨m,_,_,_,_,_,_,rfl,fun r z'=>?_,fun z=>by cases z⟩
     cases z'
     rw[z]at M1 ⊢
     exact ap7 sa Z M1 l4
    .rw[if_neg e]
     have e:G - 1≠0:=fun z=>e (beq_iff_eq.mpr z)
     by_cases g1:p+1 ≥ g
     .rw[if_pos g1];exact ax ⟨m,_,_,_,_,_,_,rfl,fun r z=>(by cases z),fun _=>⟨⟨M1,by lia,by lia,l3,l4⟩,by lia⟩⟩
     .rw[if_neg g1];exact ax ⟨m,_,_,_,_,_,rfl,⟨M1,by omega,by omega,l3,l4⟩,by lia⟩
   .simp only[c,decide_false,bn,if_false]
    refine am (wel ev ?_)
    have M1:=bW9 M sa Z l1 l2 (by omega) l4 eu ev (i6.mp c)
    by_cases e:(B - 1==1)=true
    .rw[if_pos e]
     have z:=eq_of_beq e
     refine ax ⟨m,_,_,_,_,_,_,rfl,fun r z'=>?_,fun z=>by cases z⟩
     cases z'
     rw[z]at M1 ⊢
     exact ao7 sa Z hf M1 l2 hb
    .rw[if_neg e]
     have e:B - 1≠1:=fun z=>e (beq_iff_eq.mpr z)
     by_cases g1:q+1 ≥ g
     .rw[if_pos g1];exact ax ⟨m,_,_,_,_,_,_,rfl,fun r z=>(by cases z),fun _=>⟨⟨M1,l1,l2,by lia,by lia⟩,by lia⟩⟩
     .rw[if_neg g1];exact ax ⟨m,_,_,_,_,_,rfl,⟨M1,l1,l2,by omega,by omega⟩,by lia⟩
  case post1 =>
   rintro c s2 ⟨m,o,out,G,B,p,q,rfl,f1,f2⟩
   cases o with
   | some r=>exact ax ⟨m,r,rfl,f1 r rfl⟩
   | none =>
    obtain⟨L,l5⟩:=f2 rfl
    dsimp only
    refine am (fJ (dL ⟨rfl,?_⟩))
    refine am (cW (bE (I:=fun y c s2=>Sm st s2/\∃ out G B g p q,c=(none,G,B,out,g,p,q)/\Hi a b out G B/\x+2+G+B<=a.size+b.size)
     (Q:=fun c s2=>Sm st s2/\∃ o out G B g p q,c=(o,G,B,out,g,p,q)/\(∀ r,o=some r->zO a b r)/\(o=none->Hi a b out G B/\x+2+G+B<=a.size+b.size)) ?step2 ?end2 ⟨m,_,_,_,_,_,_,rfl,L,l5⟩) ?post2)
    case end2 =>
     rintro c s2 ⟨m,out,G,B,g,p,q,rfl,L,l5⟩
     exact⟨m,_,_,_,_,_,_,_,rfl,fun r z=>(by cases z),fun _=>⟨L,l5⟩⟩
    case post2 =>
     rintro c s2 ⟨m,o,out,G,B,g,p,q,rfl,f1,f2⟩
     cases o with
     | some r=>exact ax ⟨m,r,rfl,f1 r rfl⟩
     | none =>
      obtain⟨L,l5⟩:=f2 rfl
      exact am (dj (ax ⟨m.trans ⟨rfl,rfl,rfl,rfl⟩,_,_,_,_,rfl,L,by omega⟩))
    case step2 =>
     rintro y c s2 _ hy ⟨m,out,G,B,g,p,q,rfl,⟨M,l1,l2,l3,l4⟩,l5⟩
     dsimp only
     by_cases hg:g > 1
     all_goals
      first|rw[if_pos hg]|rw[if_neg hg]
      refine am (dj ?_)
      obtain⟨v,ev,kv⟩:=qd ib (i:=B - 1) (by omega)
      refine am (wel ev ?_)
      refine am (bN9 (left:=false) (m.2.2.1.trans hk) kv ia sa (by omega) (by omega) fun k k1 k2 k3=>?_)
      dsimp only
      have nx:∀ p,1<=k->a[k - 1]?=some p->kk p<=kk v:=fun p h1 e=>by
       refine aZ9.mp (k2 p ?_)
       rw[bQ]
       exact aG (i:=k - 1) (by rw[cN,if_pos (by omega)];exact tl e)
      have M1:=by9 M sa Z l2 (by lia) l4 ev k1 fun t p h1 h2 e=>by
       have:=k3 t p h1 h2 e
       cases dR (kk v) (kk p)with
       | inl z=>lia
       | inr z=>rw[aZ9.mpr z]at this;cases this
      rcases dS k G with hk0|hk0
      case' inr =>
       have k0:k=G:=by lia
       subst k0
       rw[if_neg (by lia)]
       replace M1:=M
       have l6:=l1
       have l7:=l5
       have l8:=l2
       generalize hO:out=O at M1 ⊢
       clear hO
      case' inl =>
       rw[if_pos (by omega)]
       by_cases e1:(k==0)=true
       .rw[if_pos e1]
        have z:=eq_of_beq e1
        refine ax ⟨m,_,_,_,_,_,_,_,rfl,fun r z'=>?_,fun z=>by cases z⟩
        cases z'
        subst z
        exact ap7 sa Z M1 l4
       rw[if_neg e1]
       have e1:k≠0:=fun z=>e1 (beq_iff_eq.mpr z)
       have l6:1<=k:=by omega
       have l7:x+2+k+B<=a.size+b.size:=by omega
       have l8:k<=a.size:=by lia
       generalize hO:out++(a.extract k G).reverse=O at M1 ⊢
       clear hO
      all_goals
       obtain⟨u,eu,ku⟩:=qd ia (i:=k - 1) (by omega)
       refine am (wel ev ?_)
       have M2:=bW9 M1 sa Z l6 l8 (by omega) l4 eu ev (nx u l6 eu)
       generalize a3:kN O v=O2 at M2 ⊢
       clear a3
       by_cases e3:(B - 1==1)=true
       .rw[if_pos e3]
        have z:=eq_of_beq e3
        refine ax ⟨m,_,_,_,_,_,_,_,rfl,fun r z'=>?_,fun z=>by cases z⟩
        cases z'
        rw[z]at M2 ⊢
        exact ao7 sa Z hf M2 l8 hb
       rw[if_neg e3]
       have e3:B - 1≠1:=fun z=>e3 (beq_iff_eq.mpr z)
       refine am (wel eu ?_)
       refine am (bN9 (left:=true) (m.2.2.1.trans hk) ku ib Z (by omega) (by omega) fun t t1 t2 t3=>?_)
       dsimp only
       have ny:∀ p,1<=t->b[t - 1]?=some p->kk p<=kk u:=fun p h1 e=>by
        refine cE (bf1.mp (t2 p ?_))
        rw[bQ]
        exact aG (i:=t - 1) (by rw[cN,if_pos (by omega)];exact tl e)
       have M3:=(by9 M2.swap Z sa (show B - 1<=b.size by omega) l6 l8 eu t1 fun t' p h1 h2 e=>by
        have:=t3 t' p h1 h2 e
        cases dR (kk p) (kk u)with
        | inl z=>rw[bf1.mpr z]at this;cases this
        | inr z=>exact z).swap
       rcases dS t (B - 1)with ht0|ht0
       case' inr =>
        have t0:B - 1=t:=by lia
        rw[if_neg (by omega)]
        replace M3:=M2
        have l9:2<=B - 1:=by omega
        have a0:B - 1<=b.size:=by omega
        have a1:B - 1<=B:=by omega
        rw[<-t0]at ny
        generalize hO:O2=O3 at M3 ⊢
        clear hO
        clear ht0 t1 t2 t3 t0
        generalize B - 1=tt at M3 ny l9 a0 a1 ⊢
       case' inl =>
        rw[if_pos (by omega)]
        by_cases e4:(t==1)=true
        .rw[if_pos e4]
         have z:=eq_of_beq e4
         refine ax ⟨m,_,_,_,_,_,_,_,rfl,fun r z'=>?_,fun z=>by cases z⟩
         cases z'
         subst z
         exact ao7 sa Z hf M3 l8 hb
        rw[if_neg e4]
        by_cases e6:(t==0)=true
        .rw[if_pos e6]
         have z:=eq_of_beq e6
         refine ax ⟨m,_,_,_,_,_,_,_,rfl,fun r z'=>?_,fun z=>by cases z⟩
         cases z'
         subst z
         exact bv0 sa Z M3 l8
        rw[if_neg e6]
        have e4:t≠1:=fun z=>e4 (beq_iff_eq.mpr z)
        have e6:t≠0:=fun z=>e6 (beq_iff_eq.mpr z)
        have l9:2<=t:=by lia
        have a0:t<=b.size:=by omega
        generalize hO:O2++(b.extract t (B - 1)).reverse=O3 at M3 ⊢
        clear hO
        have a1:t<=B:=by omega
        clear ht0 t1 t2 t3
        generalize t=tt at M3 ny l9 a0 a1 ⊢
       all_goals
        obtain⟨v2,a2,b0⟩:=qd ib (i:=tt - 1) (by omega)
        refine am (wel eu ?_)
        have M4:=bT6 M3 sa Z l6 l8 (by omega) a0 eu a2 (ny v2 (by omega) a2)
        by_cases e5:(k - 1==0)=true
        .rw[if_pos e5]
         have z:=eq_of_beq e5
         refine ax ⟨m,_,_,_,_,_,_,_,rfl,fun r z'=>?_,fun z=>by cases z⟩
         cases z'
         rw[z]at M4 ⊢
         exact ap7 sa Z M4 a0
        rw[if_neg e5]
        have e5:k - 1≠0:=fun z=>e5 (beq_iff_eq.mpr z)
        split
        .exact ax ⟨m,_,_,_,_,_,_,_,rfl,fun r z=>(by cases z),fun _=>⟨⟨M4,by omega,by omega,l9,a0⟩,by omega⟩⟩
        .exact ax ⟨m,_,_,_,_,_,_,rfl,⟨M4,by omega,by omega,l9,a0⟩,by omega⟩
end
end L2
end
noncomputable section
namespace L2
open PySem PyProof.Rows
section
variable {prog:aD} {w:World} {A:aP} {E:Value->ae->Prop} {s:ae}
theorem aE0:∀(r:List Keyed) (n:Nat) (y:Array Keyed) (p:Nat),p+n+r.length<=y.size ->
  ((r.zipIdx n).foldl (fun a (q:Keyed×Nat)=>a.setIfInBounds (p+q.2) q.1) y).toList=y.toList.take (p+n)++r++y.toList.drop (p+n+r.length)
 | [],n,y,p,h=>by simp
 | x::r,n,y,p,h=>by
  rw[aI]at h
  rw[List.zipIdx_cons,dr,aE0 r (n+1) _ p (by rw[Array.size_setIfInBounds];lia),Array.toList_setIfInBounds]
  have z:p+n<y.toList.length:=by simp;lia
  have e:y.toList.set (p+n) x=y.toList.take (p+n)++x::y.toList.drop (p+n+1):=by rw[List.set_eq_take_append_cons_drop,if_pos z]
  show List.take (p+(n+1)) (y.toList.set (p+n) x)++r++List.drop (p+(n+1)+r.length) (y.toList.set (p+n) x)=_
  have e1:List.take (p+(n+1)) (y.toList.set (p+n) x)=y.toList.take (p+n)++[x]:=by
   rw[e,List.take_append,a8 (by rw[bK];lia),bK,show p+(n+1) - min (p+n) y.toList.length=1 by omega];rfl
  have e2:List.drop (p+(n+1)+r.length) (y.toList.set (p+n) x)=y.toList.drop (p+(n+1)+r.length):=List.drop_set_of_lt (by lia)
  rw[e1,e2,aI,show p+(n+1)+r.length=p+n+(r.length+1)by lia]
  simp
theorem bX4 {left:Bool}{key:Keyed}{z:Array Keyed}{i n G:Nat}{st:bC}{Q:Option Nat->bC->Prop}(hk:cb st=du)(Z:IK key)(ia:∀ x∈z.toList,IK x)(sw:Srt kk ((z.toList.drop i).take n))(hn:i+n<=z.size)(hh:G<n)
  (h:∀ k,k<=n->(∀ x∈(z.toList.drop i).take k,bB left key x=true)->(∀ x∈((z.toList.drop i).take n).drop k,bB left key x=false)->Q (some k) st):wpS (model prog w) A E s (aQ2 left key z i n G) Q st:=by
 have at_:∀ t,t<n->∃ p,z[i+t]?=some p/\((z.toList.drop i).take n)[t]?=some p:=fun t J=>by
  have hl:i+t<z.size:=by omega
  exact⟨z[i+t],aS hl,by rw[cN,if_pos J,di];exact tl (aS hl)⟩
 refine bh3 hk Z (bA left key z i) (fun t J=>?_) (fun t u a0 hu hb=>?_) hh fun k h1 h2 h3=>h k h1 (fun x hx=>?_) fun x hx=>?_
 .obtain⟨p,e,q⟩:=qd ia (i:=i+t) (by omega)
  exact⟨p,e,q,(ak3 e).symm⟩
 .obtain⟨x,e1,e2⟩:=at_ t (by lia)
  obtain⟨y,e3,e4⟩:=at_ u hu
  have:=qp sw e2 y (aG (i:=u - t) (by rw[di,show t+(u - t)=u by lia];exact e4))
  rw[ak3 e1];rw[ak3 e3]at hb
  cases left with
  | true=>rw[bf1]at hb ⊢;lia
  | false=>rw[aZ9]at hb ⊢;lia
 .obtain⟨t,J,e⟩:=bI.mp hx
  have B:t<k/\i+t<z.size:=by simp at J;omega
  have e2:z[i+t]?=some x:=by
   rw[<-e,aS B.2];simp
  rw[<-ak3 e2];exact h2 t B.1
 .obtain⟨t,J,e⟩:=bI.mp hx
  have B:k+t<n:=by simp at J;omega
  obtain⟨y,e1,e2⟩:=at_ (k+t) B
  have:y=x:=by
   rw[<-e,List.getElem_drop]
   exact(au (e2.symm.trans (ag (by simp;lia)))) 
  subst this
  rw[<-ak3 e1];exact h3 (k+t) (by lia) B
theorem aW9 {P X Y R r:List Keyed}(s1:Srt kk (P++X))(s2:Srt kk (Y++R))(h:∀ p∈P,∀ q∈Y++R,kk p<=kk q)(J:∀ p∈X,∀ q∈R,kk p<=kk q)(hr:r.Perm (X++Y))(sr:Srt kk r):Srt kk (P++r++R):=by
 obtain⟨B,a2,Z⟩:=bV.mp s1
 obtain⟨b1,y,G⟩:=bV.mp s2
 refine bV.mpr ⟨bV.mpr ⟨B,sr,fun p hp q hq=>?_⟩,y,fun p hp q hq=>?_⟩
 .rcases aN.mp (hr.mem_iff.mp hq)with z|z
  .exact Z p hp q z
  .exact h p hp q (eU _ z)
 .rcases aN.mp hp with z|z
  .exact h p z q (a7 _ hq)
  .rcases aN.mp (hr.mem_iff.mp z)with z|z
   .exact J p z q hq
   .exact G p z q hq
noncomputable def bJ8:Nat->SM Bool:=sortPriv% PySem.Builtin.mergeAt
theorem bt1 {W:Type}{M:Model}{x st:W}{Q:PUnit->W->Prop}(h:Q ⟨⟩ x):wpS M A E s (set x:StateT W Sem PUnit) Q st:=by
 unfold wpS;rw[StateT.run_set];exact aW ⟨rfl,h⟩
theorem bU6 {st:bC}{Q:Bool->bC->Prop}{G n2 p1 p2:Nat}(hk:cb st=du)(hf:bW st=none)(hp:a9 st=#[(0,G,p1),(G,n2,p2)])(hn:G+n2=(arrOf st).size)(h1:0<G)(h2:0<n2)
  (ik:∀ x∈(arrOf st).toList,IK x) (s1:Srt kk ((arrOf st).toList.take G)) (s2:Srt kk ((arrOf st).toList.drop G))
  (h:∀ a0,cb a0=du->bW a0=none->(a9 a0).size=1->(arrOf a0).toList.Perm (arrOf st).toList->Srt kk (arrOf a0).toList->Q true a0):wpS (model prog w) A E s (bJ8 0) Q st:=by
 refine am (eE ?_)
 have b0:(a9 st)[0]?=some (0,G,p1):=by rw[hp];rfl
 have b4:(a9 st)[0+1]?=some (G,n2,p2):=by rw[hp];rfl
 rw[b0,b4]
 dsimp only
 refine am (bt1 ?_)
 generalize Z:(arrOf st).toList=L at ik s1 s2 h
 have b5:L.length=G+n2:=by rw[<-Z,bc];lia
 have a4:∀ x∈(arrOf st).toList,IK x:=by rw[Z];exact ik
 have hsz:((a9 st).setIfInBounds 0 (0,G+n2,p1)).eraseIdxIfInBounds (0+1)=#[(0,G+n2,p1)]:=by rw[hp];simp[Array.eraseIdxIfInBounds,Array.setIfInBounds]
 obtain⟨y0,ey,ky⟩:=qd a4 (i:=G) (by lia)
 have b2:L[G]?=some y0:=by rw[<-Z];exact tl ey
 obtain⟨xl,ex,kx⟩:=qd a4 (i:=G - 1) (by lia)
 have b1:L[G - 1]?=some xl:=by rw[<-Z];exact tl ex
 have a6:∀ q∈L.drop G,kk y0<=kk q:=by
  have e:(L.drop G)[0]?=some y0:=by rw[di];exact b2
  exact fun q hq=>qp s2 e q (by rw[bQ];exact hq)
 have a5:∀ q∈L.take G,kk q<=kk xl:=fun q hq=>by
  obtain⟨t,ht,e⟩:=bI.mp hq
  have b6:t<G:=by simp at ht;lia
  have e1:(L.take G)[t]?=some q:=by rw[<-e];exact ag ht
  refine qp s1 e1 xl (aG (i:=G - 1 - t) ?_)
  rw[di,show t+(G - 1 - t)=G - 1 by lia,cN,if_pos (by lia)];exact b1
 refine am (wel ey ?_)
 refine am (bX4 (left:=false) hk ky a4 (by rw[Z,bQ];exact s1) (show 0+G<=(arrOf st).size by lia) h1 fun k k1 k2 k3=>?_)
 dsimp only
 rw[Z,bQ]at k2 k3
 simp only[ce]
 have a3:(∀ p∈L.take G,∀ q∈L.drop G,kk p<=kk q)->Srt kk L:=fun z=>by
  have:=bV.mpr ⟨s1,s2,z⟩
  rwa [bP]at this
 by_cases c1:(G - k==0)=true
 .rw[if_pos c1]
  have c1:=eq_of_beq c1
  refine ax (h _ hk hf (by rw[show a9 _=_ from hsz];rfl) (by rw[show arrOf _=arrOf st from rfl,Z]) ?_)
  rw[show arrOf _=arrOf st from rfl,Z]
  refine a3 fun p hp q hq=>cu (aZ9.mp (k2 p ?_)) (a6 q hq)
  rwa [show k=G by lia]
 rw[if_neg c1]
 have c1:G - k≠0:=fun z=>c1 (beq_iff_eq.mpr z)
 rw[show k+(G - k) - 1=G - 1 by lia]
 refine am (wel ex ?_)
 refine am (bX4 (left:=true) hk kx a4 (by rw[Z,a8 (by simp;lia)];exact s2) (show G+n2<=(arrOf st).size by lia) (show n2 - 1<n2 by omega) fun t t1 t2 t3=>?_)
 dsimp only
 rw[Z]at t2 t3
 rw[a8 (by simp;lia)]at t3
 by_cases c2:(t==0)=true
 .rw[if_pos c2]
  have c2:=eq_of_beq c2
  subst c2
  refine ax (h _ hk hf (by rw[show a9 _=_ from hsz];rfl) (by rw[show arrOf _=arrOf st from rfl,Z]) ?_)
  rw[show arrOf _=arrOf st from rfl,Z]
  refine a3 fun p hp q hq=>cu (a5 p hp) ?_
  have:=t3 q (by rw[bQ];exact hq)
  cases dR (kk q) (kk xl)with
  | inl z=>rw[bf1.mpr z]at this;cases this
  | inr z=>exact z
 rw[if_neg c2]
 have c2:t≠0:=fun z=>c2 (beq_iff_eq.mpr z)
 have eX:((arrOf st).extract k G).toList=(L.take G).drop k:=by rw[bX,bD,Z,j3]
 have eY:((arrOf st).extract G (G+t)).toList=(L.drop G).take t:=by rw[ao0,Z]
 have sX:Srt kk ((arrOf st).extract k G).toList:=by rw[eX];exact s1.sublist (fY _ _)
 have sY:Srt kk ((arrOf st).extract G (G+t)).toList:=by rw[eY];exact s2.sublist (jn _ _)
 have iX:∀ x∈((arrOf st).extract k G).toList,IK x:=fun x hx=>by rw[eX]at hx;exact ik x (cX (dM hx))
 have iY:∀ x∈((arrOf st).extract G (G+t)).toList,IK x:=fun x hx=>by rw[eY]at hx;exact ik x (dM (cX hx))
 have lX:((arrOf st).extract k G).size=G - k:=by rw[i8];lia
 have lY:((arrOf st).extract G (G+t)).size=t:=by rw[i8];lia
 have yx:∀ x∈((arrOf st).extract k G).toList,kk y0<=kk x:=fun x hx=>by
  rw[eX]at hx
  have:=k3 x hx
  cases dR (kk y0) (kk x)with
  | inl z=>lia
  | inr z=>rw[aZ9.mpr z]at this;cases this
 have xy:∀ y∈((arrOf st).extract G (G+t)).toList,kk y<=kk xl:=fun y hy=>by
  rw[eY]at hy;exact cE (bf1.mp (t2 y hy))
 have Y0:((arrOf st).extract G (G+t))[0]?=some y0:=by rw[gU,if_pos (by lia)];exact ey
 have XL:∀ i,i+1=((arrOf st).extract k G).size->((arrOf st).extract k G)[i]?=some xl:=fun i hi=>by
  rw[lX]at hi
  rw[gU,if_pos (by lia),show k+i=G - 1 by lia];exact ex
 have fin:∀(r:Array Keyed) (J:bC) (B:Array Keyed),arrOf J=arrOf st->cb J=cb st->bW J=bW st->a9 J=#[(0,G+n2,p1)]->zO ((arrOf st).extract k G) ((arrOf st).extract G (G+t)) r ->
   B=(r.toList.zipIdx).foldl (fun a (q:Keyed×Nat)=>a.setIfInBounds (k+q.2) q.1) (arrOf J)->Q true (kO (cb J) B (a9 J) (gallopOf J) (bW J)):=fun r J B e1 e2 e3 e4 Ww eB=>by
  obtain⟨wp,ws⟩:=Ww
  have lr:r.toList.length=G - k+t:=by
   have:=wp.length_eq
   rw[aC]at this
   rw[this,bc,bc,lX,lY]
  have eb:B.toList=L.take k++r.toList++L.drop (G+t):=by
   rw[eB,e1,show r.toList.zipIdx=r.toList.zipIdx 0 from rfl,aE0 _ _ _ _ (by rw[gW,lr];lia),Z,gW,lr,show k+(G - k+t)=G+t by lia]
  have eL:L=L.take k++((L.take G).drop k++(L.drop G).take t)++L.drop (G+t):=by
   have a1:L.take k++(L.take G).drop k=L.take G:=by
    have:=bP k (L.take G)
    rwa [j4,jM k1]at this
   have a2:(L.drop G).take t++L.drop (G+t)=L.drop G:=by rw[<-fK,bP]
   rw[<-aM,a1,aM,a2,bP]
  refine h _ (e2.trans hk) (e3.trans hf) (by show(a9 J).size=1;rw[e4];rfl) ?_ ?_
  .show B.toList.Perm L
   rw[eb]
   conv=>rhs;rw[eL]
   refine List.Perm.append_right _ (ig _ ?_)
   rw[<-eX,<-eY];exact wp
  .show Srt kk B.toList
   rw[eb]
   have pX:L.take k++(L.take G).drop k=L.take G:=by
    have:=bP k (L.take G)
    rwa [j4,jM k1]at this
   have pY:(L.drop G).take t++L.drop (G+t)=L.drop G:=by rw[<-fK,bP]
   refine aW9 (X:=(L.take G).drop k) (Y:=(L.drop G).take t) (by rw[pX];exact s1) (by rw[pY];exact s2) (fun p hp q hq=>?_) (fun p hp q hq=>?_) (by rw[<-eX,<-eY];exact wp) ws
   .rw[pY]at hq
    refine cu (aZ9.mp (k2 p ?_)) (a6 q hq)
    exact hp
   .have b3:q∈(L.drop G).drop t:=by rw[fK];exact hq
    have:=t3 q b3
    refine cu (a5 p (dM hp)) ?_
    cases dR (kk q) (kk xl)with
    | inl z=>rw[bf1.mpr z]at this;cases this
    | inr z=>exact z
 split
 .refine am (bP5 hk iX iY sX sY (by rw[lX];lia) (by rw[lY];lia) (fun x y e1 e2=>?_) (fun x hx i hi y hy=>?_) fun r s' m Ww=>?_)
  .rw[Y0]at e2;cases e2
   exact yx x (aG (tl e1))
  .have e:((arrOf st).extract k G).toList.drop i=[xl]:=by
    have:=af5 (tl (XL i hi))
    rwa [a8 (by rw[List.length_drop,bc,<-hi];lia)]at this
   rw[e]at hy
   cases aO.mp hy
   exact xy x hx
  .refine am (dj (am (eE ?_)))
   have:=fin r s' _ m.1 m.2.2.1 m.2.2.2 (m.2.1.trans hsz) Ww rfl
   show wpS (model prog w) A E s (pure (bW s').isNone) Q _
   have e0:(bW s').isNone=true:=by rw[show bW s'=none from m.2.2.2.trans hf];rfl
   rw[e0]
   exact ax this
 .refine am (bS8 hk iX iY sX sY (by rw[lX];lia) (by rw[lY];omega) (fun x y e1 e2=>?_) (fun x hx y e=>?_) fun r s' m Ww=>?_)
  .rw[XL _ (by rw[lX];lia)]at e1;cases e1
   exact xy y (aG (tl e2))
  .rw[Y0]at e;cases e
   exact yx x hx
  .refine am (dj (am (eE ?_)))
   have:=fin r s' _ m.1 m.2.2.1 m.2.2.2 (m.2.1.trans hsz) Ww rfl
   show wpS (model prog w) A E s (pure (bW s').isNone) Q _
   have e0:(bW s').isNone=true:=by rw[show bW s'=none from m.2.2.2.trans hf];rfl
   rw[e0]
   exact ax this
end
end L2
end
noncomputable section
namespace L2
open PySem PyProof.Rows
structure SB (P:Array (Nat×Nat×Nat))(a₀:Array Keyed)(lo:Nat)(st:bC):Prop where
 perm:(arrOf st).Perm a₀
 kind:cb st=du
 failed:bW st=none
 pend:a9 st=P
 pre:∀ i,i<lo->(arrOf st)[i]?=a₀[i]?
def SW (lo n:Nat)(xs:Array Keyed):Prop:=∀ i j,lo<=i->i<=j->j<lo+n->K xs i<=K xs j
section
variable {prog:aD} {w:World} {A:aP} {E:Value->ae->Prop} {s:ae} {P:Array (Nat×Nat×Nat)} {a₀:Array Keyed} {lo:Nat}
theorem SB.size {st:bC}(h:SB P a₀ lo st):(arrOf st).size=a₀.size:=h.perm.size_eq
theorem SB.lt {st:bC}{i j:Nat}{Q:Option Bool->bC->Prop}(z:SB P a₀ lo st)(h0:IntKeys a₀)(y:i<a₀.size)(hj:j<a₀.size)
  (h:Q (some (decide (K (arrOf st) i<K (arrOf st) j))) st):wpS (model prog w) A E s (ltAt' i j) Q st:=by
 have at_:∀ i,i<a₀.size->∃ t q,(arrOf st)[i]?=some (.int (K (arrOf st) i) t,q):=fun i y=>by
  have hi':i<(arrOf st).size:=by rw[z.size];exact y
  obtain⟨n,t,hn⟩:=h0 _ ((cO.mp z.perm).mem_iff.mp (aG (tl (aS hi'))))
  refine⟨t,(arrOf st)[i].2,?_⟩
  have e2:(arrOf st)[i]=(.int n t,(arrOf st)[i].2):=Prod.ext hn rfl
  rw[aS hi',K_eq hi',e2];rfl
 obtain⟨t,p,e1⟩:=at_ i y
 obtain⟨u,q,e2⟩:=at_ j hj
 exact wpS_ltAt z.kind e1 e2 h
theorem SB.bub {st:bC}(h:SB P a₀ lo st){src d:Nat}(hs:src<a₀.size)(hd:lo<=src - d)(y:d<=src):SB P a₀ lo (i9 st (bubble (arrOf st) src d)) :=
 ⟨(bubble_perm _ _ _).trans h.perm,h.kind,h.failed,h.pend,fun i z=>by
  show(bubble (arrOf st) src d)[i]?=_
  rw[getElem?_bubble (by rw[h.size];exact hs) d y i,if_neg (by lia),if_neg (by lia)];exact h.pre i z⟩
theorem SB.mir {st:bC}(h:SB P a₀ lo st){i j:Nat}(y:lo<=i)(hj:j<=a₀.size):SB P a₀ lo (i9 st (dN (arrOf st) i j ((j - i) / 2))) :=
 ⟨(mirror_perm _ _ _ _).trans h.perm,h.kind,h.failed,h.pend,fun k hk=>by
  show(dN (arrOf st) i j ((j - i) / 2))[k]?=_
  rw[getElem?_mirror_all (by rw[h.size];exact hj) k,if_neg (by lia)];exact h.pre k hk⟩
theorem bh9 {st:bC}{n ok:Nat}{Q:Bool->bC->Prop}(h0:IntKeys a₀)(hn:lo+n<=a₀.size)(hok:ok<=n)(hB:SB P a₀ lo st)(hs:SW lo ok (arrOf st))
  (h:∀ y,SB P a₀ lo y->SW lo n (arrOf y)->Q true y):wpS (model prog w) A E s (binarySort' lo n ok) Q st:=by
 refine am (cW (bE (I:=fun k c y=>c=(none,())/\SB P a₀ lo y/\SW lo (min k n) (arrOf y))
  (Q:=fun c y=>c=(none,())/\SB P a₀ lo y/\SW lo n (arrOf y)) ?step ?fin ?init) ?post)
 case post =>
  rintro c y ⟨rfl,J,G⟩
  exact ax (h y J G)
 case init =>
  refine⟨rfl,hB,fun i j Z hij hj=>?_⟩
  by_cases z:ok=0
  .have:i=j:=by lia
   subst this;exact cy _
  .exact hs i j Z hij (by lia)
 case fin =>
  rintro c y ⟨hc,J,G⟩
  refine⟨hc,J,?_⟩
  rwa [show min (max (max ok 1) n) n=n by lia]at G
 case step =>
  rintro k c y hak hkn ⟨rfl,J,G⟩
  rw[show min k n=k by lia]at G
  refine am (cW (bE (I:=fun x c B=>B=y/\∃ l r,c=(none,l,r)/\l<=r/\r<=k/\r - l<=k - x /\
    (∀ i,i<l->K (arrOf y) (lo+i)<=K (arrOf y) (lo+k))/\(∀ i,r<=i->i<k->K (arrOf y) (lo+k)<K (arrOf y) (lo+i)))
   (Q:=fun c B=>B=y/\∃ l r,c=(none,l,r)/\l<=k /\
    (∀ i,i<l->K (arrOf y) (lo+i)<=K (arrOf y) (lo+k))/\(∀ i,l<=i->i<k->K (arrOf y) (lo+k)<K (arrOf y) (lo+i))) ?istep ?ifin ⟨rfl,0,k,rfl,by lia,by lia,by lia,fun i hi=>by lia,fun i Z h2=>by lia⟩) ?ipost)
  case ifin =>
   rintro c B ⟨rfl,l,r,rfl,a1,a2,a3,a4,a5⟩
   have:l=r:=by lia
   subst this
   exact⟨rfl,l,l,rfl,a2,a4,a5⟩
  case istep =>
   rintro x c B _ hxk ⟨rfl,l,r,rfl,a1,a2,a3,a4,a5⟩
   dsimp only
   by_cases hge:l ≥ r
   .rw[if_pos hge]
    have:l=r:=by lia
    subst this
    exact ax ⟨rfl,l,l,rfl,a2,a4,a5⟩
   .rw[if_neg hge]
    refine am (SB.lt J h0 (by lia) (by lia) ?_)
    by_cases hless:K (arrOf B) (lo+k)<K (arrOf B) (lo+(l+r) / 2)
    .simp only[hless,decide_true,if_true]
     exact ax ⟨rfl,l,(l+r) / 2,rfl,by lia,by lia,by omega,a4,fun i Z h2=>ja hless (G _ _ (by lia) (by lia) (by lia))⟩
    .simp only[hless,decide_false,bn,if_false]
     exact ax ⟨rfl,(l+r) / 2+1,r,rfl,by lia,by omega,by omega,fun i Z=>cu (G (lo+i) (lo+(l+r) / 2) (by lia) (by lia) (by lia)) (i6.mp hless),a5⟩
  case ipost =>
   rintro c B ⟨rfl,l,r,rfl,a2,a4,a5⟩
   refine am (dj (ax ⟨rfl,?_,?_⟩))
   .have:=SB.bub J (src:=lo+k) (d:=lo+k - (lo+l)) (by lia) (by omega) (by omega)
    exact this
   .rw[show min (k+1) n=k+1 by lia]
    have a0:lo+k<(arrOf B).size:=by rw[J.size];omega
    intro i j Z hij hj
    show K (bubble (arrOf B) (lo+k) (lo+k - (lo+l))) i<=K (bubble (arrOf B) (lo+k) (lo+k - (lo+l))) j
    rw[K_bubble a0 (by lia),K_bubble a0 (by omega),show lo+k - (lo+k - (lo+l))=lo+l by lia]
    have q4:∀ i,lo<=i->i<lo+l->K (arrOf B) i<=K (arrOf B) (lo+k):=fun i Z h2=>by have:=a4 (i - lo) (by lia);rwa [show lo+(i - lo)=i by lia]at this
    have q5:∀ i,lo+l<=i->i<lo+k->K (arrOf B) (lo+k)<=K (arrOf B) i:=fun i Z h2=>by have:=cE (a5 (i - lo) (by lia) (by lia));rwa [show lo+(i - lo)=i by lia]at this
    repeat' split
    all_goals first
     | (exfalso;lia)
     | exact cy _
     | exact q4 _ (by omega) (by lia)
     | exact q5 _ (by lia) (by lia)
     | exact G _ _ (by omega) (by lia) (by omega)
end
end L2
end
noncomputable section
namespace L2
open PySem PyProof.Rows
section
variable {prog:aD} {w:World} {A:aP} {E:Value->ae->Prop} {s:ae} {P:Array (Nat×Nat×Nat)} {a₀:Array Keyed} {lo:Nat}
def NW (lo n:Nat)(xs:Array Keyed):Prop:=∀ i j,lo<=i->i<=j->j<lo+n->K xs j<=K xs i
theorem au5 {n:Nat}{B:Array Keyed}(h:NW lo n B)(hn:1<=n)(hx:K B (lo+n)<=K B (lo+n - 1)):NW lo (n+1) B:=fun i j G hij hj=>by
 by_cases z:j<lo+n
 .exact h i j G hij z
 .have:j=lo+n:=by lia
  subst this
  by_cases y:i=lo+n
  .subst y;exact cy _
  .exact cu hx (h i (lo+n - 1) G (by lia) (by lia))
theorem aM7 {f:Nat->Option (Option Nat)×Nat->SM (ForInStep (Option (Option Nat)×Nat))}{st:bC}{a y:Nat}{Q:Option (Option Nat)×Nat->bC->Prop}(h0:IntKeys a₀)(hn:lo+y<=a₀.size)(ha:1<=a)(G:a<=y)(hB:SB P a₀ lo st)(hs:SW lo a (arrOf st))
  (hf:∀ x n,f x (none,n)=(do let r <- ltAt' (lo+n) (lo+n - 1);match r with|some b=>if b=true then pure (.done (none,n))else pure (.yield (none,n+1))|_=>pure (.done (some none,n))))
  (h:∀ n,a<=n->n<=y->SW lo n (arrOf st)->(n=y\/K (arrOf st) (lo+n)<K (arrOf st) (lo+n - 1))->Q (none,n) st):wpS (model prog w) A E s (forIn [a:y] (none,a) f) Q st:=by
 refine bE (I:=fun x c B=>B=st/\c=(none,x)/\SW lo x (arrOf st)) ?step ?fin ⟨rfl,rfl,hs⟩
 case fin =>
  rintro c B ⟨rfl,rfl,z⟩
  rw[show max a y=y by lia]at z ⊢
  exact h y G (ah _) z (.inl rfl)
 case step =>
  rintro x c B hax hxn ⟨rfl,rfl,z⟩
  rw[hf]
  refine am (SB.lt hB h0 (by lia) (by lia) ?_)
  by_cases hless:K (arrOf B) (lo+x)<K (arrOf B) (lo+x - 1)
  .simp only[hless,decide_true,if_true]
   exact ax (h x hax (by lia) z (.inr hless))
  .simp only[hless,decide_false,bn,if_false]
   refine ax ⟨rfl,rfl,fun i j Z hij hj=>?_⟩
   by_cases hjx:j<lo+x
   .exact z i j Z hij hjx
   .have J:j=lo+x:=by lia
    subst J
    by_cases hi':i=lo+x
    .subst hi';exact cy _
    .exact cu (z i (lo+x - 1) Z (by lia) (by omega)) (i6.mp hless)
theorem bf9 {st:bC}{B:Nat}{Q:Option Nat->bC->Prop}(h0:IntKeys a₀)(hn:lo+B<=a₀.size)(h1:1<=B)(hB:SB P a₀ lo st)
  (h:∀ m y,SB P a₀ lo y->1<=m->m<=B->SW lo m (arrOf y)->Q (some m) y):wpS (model prog w) A E s (countRun' lo B) Q st:=by
 refine am (aM7 h0 hn (ah 1) h1 hB (fun i j _ hij hj=>by
  have:i=j:=by lia
  subst this;exact cy _) (fun _ _=>rfl) fun n n1 n2 hs b0=>?_)
 dsimp only
 by_cases e:(n==B)=true
 .rw[if_pos e];exact ax (h n st hB n1 n2 hs)
 rw[if_neg e]
 have e:n≠B:=fun z=>e (beq_iff_eq.mpr z)
 have hlt:=b0.resolve_left e
 rcases dS 1 n with hgt|hle
 case' inl =>
  rw[if_pos hgt]
  refine am (SB.lt hB h0 (by lia) (by omega) ?_)
  by_cases hr:K (arrOf st) lo<K (arrOf st) (lo+n - 1)
  .simp only[hr,decide_true,if_true]
   exact ax (h n st hB n1 n2 hs)
  simp only[hr,decide_false,bn,if_false]
  refine am (ga ?_)
  have a5:=SB.mir hB (i:=lo) (j:=lo+n) (ah _) (by lia)
  have a0:∀ k,lo<=k->k<lo+n->K (arrOf st) k=K (arrOf st) (lo+n - 1):=fun k k1 k2=>by
   have a1:=hs lo k (ah _) k1 k2
   have a2:=hs k (lo+n - 1) k1 (by lia) (by omega)
   lia
  have Z:∀ k,K (arrOf (i9 st (dN (arrOf st) lo (lo+n) ((lo+n - lo) / 2)))) k=K (arrOf st) k:=ir (by rw[hB.size];omega) a0
  have hN:NW lo (n+1) (arrOf (i9 st (dN (arrOf st) lo (lo+n) ((lo+n - lo) / 2)))):=by
   refine au5 (fun i j i1 ij hj=>?_) n1 (by rw[Z,Z];exact cE hlt)
   rw[Z,Z,a0 i i1 (by lia),a0 j (by lia) hj];exact cy _
  generalize i9 st (dN (arrOf st) lo (lo+n) ((lo+n - lo) / 2))=st1 at a5 hN ⊢
 case' inr =>
  have z:n=1:=by lia
  subst z
  rw[if_neg (by lia)]
  have a5:=hB
  have hN:NW lo (1+1) (arrOf st):=au5 (fun i j i1 ij hj=>by
   have:i=j:=by lia
   subst this;exact cy _) (ah 1) (cE hlt)
 all_goals
  refine am (fJ (dL ⟨rfl,?_⟩))
  refine am (cW (bE (I:=fun x c y=>∃ q,c=(none,x,q)/\SB P a₀ lo y/\NW lo x (arrOf y)/\q+1<=x/\∀ i,lo+x - (q+1)<=i->i<lo+x->K (arrOf y) i=K (arrOf y) (lo+x - 1))
   (Q:=fun c y=>∃ m q,c=(none,m,q)/\1<=m/\m<=B/\SB P a₀ lo y/\NW lo m (arrOf y)/\q+1<=m/\∀ i,lo+m - (q+1)<=i->i<lo+m->K (arrOf y) i=K (arrOf y) (lo+m - 1)) ?step ?fin ⟨0,rfl,a5,hN,by lia,fun i i1 i2=>congrArg (K _) (by lia)⟩) ?post)
  case fin =>
   rintro c y ⟨q,rfl,J,b2,b3,b4⟩
   rw[show max _ B=B by omega]at b2 b3 b4 ⊢
   exact⟨B,q,rfl,h1,ah _,J,b2,b3,b4⟩
  case step =>
   rintro x c y hx hxn ⟨q,rfl,J,b2,b3,b4⟩
   dsimp only
   have hsz:lo+x<=(arrOf y).size:=by rw[J.size];lia
   refine am (SB.lt J h0 (by lia) (by lia) ?_)
   by_cases hr:K (arrOf y) (lo+x)<K (arrOf y) (lo+x - 1)
   .simp only[hr,decide_true,if_true]
    have Z:∀ k,K (dN (arrOf y) (lo+x - (q+1)) (lo+x) ((lo+x - (lo+x - (q+1))) / 2)) k=K (arrOf y) k:=ir hsz b4
    by_cases hq:q > 0
    .rw[if_pos hq]
     refine am (ga (ax ⟨0,rfl,SB.mir J (by lia) (by lia),?_,by lia,fun i i1 i2=>congrArg (K _) (by lia)⟩))
     refine au5 (fun i j i1 ij hj=>?_) (by lia) ?_
     .show K (dN _ _ _ _) j<=K (dN _ _ _ _) i
      rw[Z,Z];exact b2 i j i1 ij hj
     .show K (dN _ _ _ _) _<=K (dN _ _ _ _) _
      rw[Z,Z];exact cE hr
    .rw[if_neg hq]
     exact ax ⟨0,rfl,J,au5 b2 (by lia) (cE hr),by omega,fun i i1 i2=>congrArg (K _) (by omega)⟩
   .simp only[hr,decide_false,bn,if_false]
    refine am (SB.lt J h0 (by omega) (by omega) ?_)
    by_cases hr2:K (arrOf y) (lo+x - 1)<K (arrOf y) (lo+x)
    .simp only[hr2,decide_true,if_true]
     exact ax ⟨x,q,rfl,by lia,by lia,J,b2,b3,b4⟩
    .simp only[hr2,decide_false,bn,if_false]
     have he:K (arrOf y) (lo+x)=K (arrOf y) (lo+x - 1):=by lia
     refine ax ⟨q+1,rfl,J,au5 b2 (by omega) (by lia),by lia,fun i i1 i2=>?_⟩
     rw[show lo+(x+1) - 1=lo+x by lia,he]
     by_cases hi:i=lo+x
     .rw[hi,he]
     .exact b4 i (by lia) (by lia)
  case post =>
   rintro c y ⟨m,q,rfl,m1,m2,J,b2,b3,b4⟩
   dsimp only
   have a3:∀ G:bC,SB P a₀ lo G->NW lo m (arrOf G)->SB P a₀ lo (i9 G (dN (arrOf G) lo (lo+m) ((lo+m - lo) / 2)))/\SW lo m (arrOf (i9 G (dN (arrOf G) lo (lo+m) ((lo+m - lo) / 2)))):=fun G c1 c2=>by
    refine⟨SB.mir c1 (ah _) (by lia),fun i j i1 ij hj=>?_⟩
    show K (dN _ _ _ _) i<=K (dN _ _ _ _) j
    rw[K_mirror (by rw[c1.size];lia),K_mirror (by rw[c1.size];omega),if_pos (by lia),if_pos (by lia)]
    exact c2 _ _ (by omega) (by omega) (by omega)
   by_cases hq:q > 0
   .rw[if_pos hq]
    refine am (ga ?_)
    have Z:∀ k,K (dN (arrOf y) (lo+m - (q+1)) (lo+m) ((lo+m - (lo+m - (q+1))) / 2)) k=K (arrOf y) k:=ir (by rw[J.size];omega) b4
    have d1:=SB.mir J (i:=lo+m - (q+1)) (j:=lo+m) (by lia) (by omega)
    have d2:NW lo m (arrOf (i9 y (dN (arrOf y) (lo+m - (q+1)) (lo+m) ((lo+m - (lo+m - (q+1))) / 2)))):=fun i j i1 ij hj=>by
     show K (dN _ _ _ _) j<=K (dN _ _ _ _) i
     rw[Z,Z];exact b2 i j i1 ij hj
    obtain⟨d3,d4⟩:=a3 _ d1 d2
    exact am (ga (am (aM7 h0 hn m1 m2 d3 d4 (fun _ _=>rfl) fun n' b5 a6 a4 _=>ax (h n' _ d3 (by lia) a6 a4))))
   .rw[if_neg hq]
    obtain⟨d3,d4⟩:=a3 _ J b2
    exact am (ga (am (aM7 h0 hn m1 m2 d3 d4 (fun _ _=>rfl) fun n' b5 a6 a4 _=>ax (h n' _ d3 (by lia) a6 a4))))
end
end L2
end
noncomputable section
namespace L2
open PySem PyProof.Rows
theorem aZ5 {y:Array Keyed}{i:Nat}(h:i<y.size):K y i=kk y[i]:=K_eq h
theorem bj3 {z:Array Keyed}{y n:Nat}(h:SW y n z)(hn:y+n<=z.size):Srt kk ((z.toList.drop y).take n):=by
 refine fQ.mpr ?_
 intro i j G hj hij
 have B:j<n:=by simp at hj;omega
 have:=h (y+i) (y+j) (by lia) (by lia) (by lia)
 rw[aZ5 (by lia),aZ5 (by lia)]at this
 simpa using this
theorem bx9 {y:Array Keyed}(h:Srt kk y.toList):gz y y.size:=fun i j hij hj=>by
 rw[aZ5 (by lia),aZ5 hj]
 by_cases z:i=j
 .subst z;exact cy _
 .have:=fQ.mp h i j (by simp;omega) (by simp;omega) (by lia)
  simpa using this
section
variable {prog:aD} {w:World} {A:aP} {E:Value->ae->Prop} {s:ae} {a₀:Array Keyed}
structure Two (a₀:Array Keyed)(n1 n2 p:Nat)(st:bC):Prop where
 perm:(arrOf st).Perm a₀
 kind:cb st=du
 failed:bW st=none
 pend:a9 st=#[(0,n1,p),(n1,n2,0)]
 sum:n1+n2=a₀.size
 p1:0<n1
 p2:0<n2
 s1:SW 0 n1 (arrOf st)
 s2:SW n1 n2 (arrOf st)
theorem bt7 {st:bC}{Q:Unit->bC->Prop}(h0:IntKeys a₀)(hB:SB #[] a₀ 0 st)(h64:64<=a₀.size)(b6:a₀.size<128)
  (h:∀ y,(arrOf y).Perm a₀->bW y=none->gz (arrOf y) a₀.size->Q () y):wpS (model prog w) A E s sortRuns' Q st:=by
 refine am (eE ?_)
 have b4:minRun' a₀.size a₀.size 0=a₀.size / 2+a₀.size % 2:=by
  obtain⟨f,hf⟩:∃ f,a₀.size=f+1+1:=⟨a₀.size - 2,by lia⟩
  have:minRun' (f+1+1) a₀.size 0=a₀.size / 2+a₀.size % 2:=by rw[minRun'_succ,if_neg (by lia),minRun'_succ,if_pos (by lia)];lia
  rwa [<-hf]at this
 have hsz:=hB.size
 rw[show(arrOf st).size=a₀.size from hsz]
 dsimp only
 rw[show(sortPriv% PySem.Builtin.minRun) a₀.size a₀.size 0=a₀.size / 2+a₀.size % 2 from b4]
 generalize c4:a₀.size / 2+a₀.size % 2=mn
 refine am (cW (bE
  (I:=fun x c y=>(x=0/\c=(none,0)/\SB #[] a₀ 0 y)\/(x=1/\∃ B,c=(none,B)/\mn<=B/\B<=a₀.size/\SB #[(0,B,0)] a₀ 0 y/\SW 0 B (arrOf y))\/(2<=x/\∃ B J p,c=(none,a₀.size)/\Two a₀ B J p y))
  (Q:=fun c y=>(c=(none,a₀.size)/\SB #[(0,a₀.size,0)] a₀ 0 y/\SW 0 a₀.size (arrOf y))\/∃ B J p,c=(none,a₀.size)/\Two a₀ B J p y) ?step ?fin (.inl ⟨rfl,rfl,hB⟩)) ?post)
 case fin =>
  rintro c y (⟨z,_⟩|⟨z,B,rfl,q1,q2,q3,q4⟩|⟨_,B,J,p,rfl,T⟩)
  .lia
  .lia
  .exact .inr ⟨B,J,p,rfl,T⟩
 case step =>
  rintro x c y _ hx (⟨rfl,rfl,b0⟩|⟨hx1,B,rfl,q1,q2,q3,q4⟩|⟨hx2,B,J,p,rfl,T⟩)
  .dsimp only
   rw[if_neg (by lia)]
   refine am (bf9 h0 (by lia) (by lia) b0 fun m st1 b1 m1 m2 b2=>?_)
   dsimp only
   rcases dS m mn with hm|hm
   case' inl =>
    rw[if_pos hm]
    refine am (fJ (dL ⟨rfl,?_⟩))
    rw[show min (a₀.size - 0) mn=mn by lia]
    refine am (bh9 h0 (by lia) (by omega) b1 b2 fun G Z c2=>?_)
    rw[if_neg (by simp)]
    have a1:mn<=mn:=ah _
    have a0:mn<=a₀.size:=by lia
    generalize c3:mn=mm at c2 a1 a0 ⊢
   case' inr =>
    rw[if_neg (by omega)]
    have Z:=b1
    have c2:=b2
    have a0:m<=a₀.size:=by omega
    have a1:=hm
   all_goals
    refine am (eE ?_)
    have e:=(congrArg kK Z.pend).trans (show(#[]:Array (Nat×Nat×Nat)).back?=none from rfl)
    rw[e]
    dsimp only
    refine am (dj (ax (.inr (.inl ⟨by lia,_,rfl,by lia,by lia,⟨Z.perm,Z.kind,Z.failed,?_,Z.pre⟩,?_⟩))))
    .show(a9 _).push _=_
     rw[Z.pend,ce];rfl
    .rw[ce];exact c2
  .dsimp only
   by_cases hge:B ≥ a₀.size
   .rw[if_pos hge]
    have:B=a₀.size:=by lia
    subst this
    exact ax (.inl ⟨rfl,q3,q4⟩)
   rw[if_neg hge]
   have b5:SB #[(0,B,0)] (arrOf y) B y:=⟨jN _,q3.kind,q3.failed,q3.pend,fun _ _=>rfl⟩
   have d0:=q3.size
   have i1:IntKeys (arrOf y):=fun p hp=>h0 p ((cO.mp q3.perm).mem_iff.mp hp)
   refine am (bf9 i1 (by lia) (by lia) b5 fun m st1 b1 m1 m2 b2=>?_)
   dsimp only
   rcases dS m mn with hm|hm
   case' inl =>
    rw[if_pos hm]
    refine am (fJ (dL ⟨rfl,?_⟩))
    rw[show min (a₀.size - B) mn=a₀.size - B by lia]
    refine am (bh9 i1 (by lia) m2 b1 b2 fun G Z c2=>?_)
    rw[if_neg (by simp)]
   case' inr =>
    rw[if_neg (by omega)]
    have a2:m=a₀.size - B:=by lia
    subst a2
    have Z:=b1
    have c2:=b2
   all_goals
    refine am (eE ?_)
    have e:=(congrArg kK Z.pend).trans (show(#[(0,B,0)]:Array (Nat×Nat×Nat)).back?=some (0,B,0)from rfl)
    rw[e]
    dsimp only
    refine am (cW (bE (I:=fun x c s'=>s'=_/\c=(none,())) (Q:=fun c s'=>s'=_/\c=(none,())) ?_ (fun _ _ z=>z) ⟨rfl,rfl⟩) ?_)
    .rintro x c s' _ _ ⟨rfl,rfl⟩
     refine am (eE ?_)
     rw[if_neg (by show ¬(a9 s').size > 1;rw[Z.pend];simp)]
     exact ax ⟨rfl,rfl⟩
    .rintro c s' ⟨rfl,rfl⟩
     refine am (dj (am (dj (ax (.inr (.inr ⟨by lia,B,a₀.size - B,power' a₀.size (2*0+B) (2*0+B+B+(a₀.size - B)) a₀.size,?_,?_⟩))))))
     .rw[show B+(a₀.size - B)=a₀.size by lia]
     .refine⟨Z.perm.trans q3.perm,Z.kind,Z.failed,?_,by omega,by lia,by lia,fun i j _ ij hj=>?_,c2⟩
      .show((a9 _).modify ((a9 _).size - 1) _).push _=_
       rw[Z.pend];rfl
      .show K (arrOf _) i<=K (arrOf _) j
       rw[K_congr (Z.pre i (by lia)),K_congr (Z.pre j (by lia))]
       exact q4 i j (by omega) ij hj
  .dsimp only
   rw[if_pos (ah _)]
   exact ax (.inr ⟨B,J,p,rfl,T⟩)
 case post =>
  have key:∀ y,(((a9 y).size<=1/\(arrOf y).Perm a₀/\bW y=none/\gz (arrOf y) a₀.size)\/∃ B J p,Two a₀ B J p y)->∀(f:Nat->Option Unit×Unit->SM (ForInStep (Option Unit×Unit))) (g:Option Unit×Unit->SM Unit),g (none,())=pure () ->
    (∀ x y,(a9 y).size<=1->∀ Q':ForInStep (Option Unit×Unit)->bC->Prop,Q' (.done (none,())) y->wpS (model prog w) A E s (f x (none,())) Q' y) ->
    (∀ x y B J p,Two a₀ B J p y->∀ Q':ForInStep (Option Unit×Unit)->bC->Prop,(∀ G,(a9 G).size<=1/\(arrOf G).Perm a₀/\bW G=none/\gz (arrOf G) a₀.size->Q' (.yield (none,())) G)->wpS (model prog w) A E s (f x (none,())) Q' y) ->
    wpS (model prog w) A E s (forIn [0:a₀.size] (none,()) f >>= g) Q y:=fun y a6 f g hg a3 b3=>by
   refine am (cW (bE (I:=fun x c s'=>c=(none,())/\(((a9 s').size<=1/\(arrOf s').Perm a₀/\bW s'=none/\gz (arrOf s') a₀.size)\/(x=0/\∃ B J p,Two a₀ B J p s')))
    (Q:=fun c s'=>c=(none,())/\(arrOf s').Perm a₀/\bW s'=none/\gz (arrOf s') a₀.size) ?_ ?_ ⟨rfl,a6.imp id fun z=>⟨rfl,z⟩⟩) ?_)
   .rintro x c s' _ _ ⟨rfl,⟨d1,d2⟩|⟨rfl,B,J,p,T⟩⟩
    .exact a3 x s' d1 _ ⟨rfl,d2⟩
    .exact b3 0 s' B J p T _ fun G d=>⟨rfl,.inl d⟩
   .rintro c s' ⟨rfl,⟨d1,d2⟩|⟨z,_⟩⟩
    .exact⟨rfl,d2⟩
    .omega
   .rintro c s' ⟨rfl,d1,d2,d3⟩
    rw[hg]
    exact ax (h s' d1 d2 d3)
  rintro c y hc
  have a5:c.1=none:=by rcases hc with⟨rfl,_⟩|⟨_,_,_,rfl,_⟩<;>rfl
  obtain⟨Z,c2⟩:=c
  cases a5
  refine key y ?_ _ _ rfl (fun x s' hp Q' q=>am (eE ?_)) fun x s' B J p T Q' q=>am (eE ?_)
  .rcases hc with⟨_,b1,b2⟩|⟨B,J,p,_,T⟩
   .exact .inl ⟨by rw[b1.pend];exact ah 1,b1.perm,b1.failed,fun i j ij hj=>b2 i j (dJ _) ij (by lia)⟩
   .exact .inr ⟨B,J,p,T⟩
  .exact(congrArg (fun z=>wpS (model prog w) A E s z Q' s') (if_pos hp)).mpr (ax q)
  .have a4:¬(a9 s').size<=1:=by rw[T.pend];simp
   refine(congrArg (fun z=>wpS (model prog w) A E s z Q' s') (if_neg a4)).mpr ?_
   have hz:(arrOf s').size=a₀.size:=T.perm.size_eq
   have hi:(if Option.any (fun x=>decide (x<(a9 s')[(a9 s').size - 2+1]?.elim 0 fun x=>x.2.1)) (if(a9 s').size - 2 > 0 then((a9 s')[(a9 s').size - 2 - 1]?).map (·.2.1)else none)=true then(a9 s').size - 2 - 1 else(a9 s').size - 2)=0:=by rw[T.pend];rfl
   show wpS (model prog w) A E s (bJ8 _ >>= _) Q' s'
   rw[hi]
   refine am (bU6 T.kind T.failed T.pend (by rw[hz];exact T.sum) T.p1 T.p2 (fun x hx=>h0 x ((cO.mp T.perm).mem_iff.mp hx)) ?_ ?_ fun G d1 d2 d3 d4 d5=>?_)
   .have:=bj3 T.s1 (by rw[hz];have:=T.sum;lia)
    rwa [bQ]at this
   .have:=bj3 T.s2 (by rw[hz];have:=T.sum;lia)
    rwa [a8 (by simp;have:=T.sum;lia)]at this
   .have e:(arrOf G).size=a₀.size:=by
     have:=d4.length_eq
     simpa [hz]using this
    exact ax (q G ⟨gJ d3,(cO.mpr d4).trans T.perm,d2,by rw[<-e];exact bx9 d5⟩)
end
end L2
end
noncomputable section
namespace L2
open PySem PyProof.Rows
section
variable {prog:aD} {w:World} {A:aP} {E:Value->ae->Prop} {s:ae}
theorem aM1 {a:Addr}{vs:yG}{ns:List Int}{n:Nat}{P:Fin->ae->Prop}(ho:s.heap.get? a=some (eQ "list" vs.toArray n))(G:fW vs ns)(hl:vs.length<128)
  (h:∀(out:yJ) (B:List Int),fW out.toList B->B.Perm ns->B.Pairwise (·<=·)->P (.done (.ret .none)) { s with heap:=j7 s.heap a vs out }) :
  wpAny (model prog w) A (Builtin.«list.sort» ⟨[.ref a],[]⟩) P E s:=by
 by_cases h64:vs.length<64
 .exact list_sort_tree ho G h64 h
 obtain⟨v1,Z,r,rfl⟩:∃ v1 Z r,vs=v1::Z::r:=by
  cases vs with
  | nil=>exact absurd (Nat.zero_lt_succ _) h64
  | cons x t=>cases t with
   | nil=>exact absurd (show 1<64 by decide) h64
   | cons y t=>exact⟨x,y,t,rfl⟩
 generalize J:v1::Z::r=vs at ho G hl h h64
 have ha:=aH ho
 have two:¬ vs.toArray.size<2:=by rw[av];lia
 rw[list_sort_plain]
 obtain⟨e1,g1⟩:∃ e1,(s.heap.update a (c6 fun _=>#[])).get? a=some (eQ "list" #[] e1):=⟨_,hR ho _⟩
 have g2:(((s.heap.update a (c6 fun _=>#[])).push (eQ "tuple" vs.toArray 0)).push (eQ "list" #[] 0)).get? a=some (eQ "list" #[] e1):=by
  have q:a≠(s.heap.update a (c6 fun _=>#[])).objs.size:=by rw[eR];exact aB ha
  rw[eG _ _ _ (by rw[size_push',eR];exact aB (dF ha)),eG _ _ _ q];exact g1
 refine aq (listItems_at ho rfl (aq (listUpdate_at ho rfl (aq (seqEpoch_at g1 rfl (aq (wpAny_newTuple (aq (wpAny_newList (eS ?_))))))) (hsz:=by rw[av,cF];omega))))
 show wpAny (model prog w) A _ P E { s with heap:=((s.heap.update a (c6 fun _=>#[])).push (eQ "tuple" vs.toArray 0)).push (eQ "list" #[] 0) }
 dsimp only
 rw[if_neg two,if_neg two,show keyKind' vs.toArray=pure du by rw[<-J];rw[<-J]at G;exact keyKind_ints G]
 refine aq (aW (aq (bS (bt7 (a₀:=pairsOf vs) (st:=kO du (vs.toArray.zip vs.toArray) #[] 7 none)
  (Q:=fun _ z=>(arrOf z).Perm (pairsOf vs)/\bW z=none/\gz (arrOf z) (pairsOf vs).size) G.intKeys ⟨jN _,rfl,rfl,rfl,fun _ _=>rfl⟩ (by rw[jv];lia) (by rw[jv];omega) fun z a1 a2 a3=>⟨a1,a2,a3⟩) ?_ fun _ _ e=>e)))
 rintro⟨⟨⟩,z⟩ s' ⟨rfl,hp,hf,hs⟩
 obtain⟨B,b1,b2,b3⟩:=sorted_out G hp hs
 dsimp only
 refine aq (seqEpoch_at g2 rfl (aq (listUpdate_at g2 rfl ?_ (hsz2:=by refine aj (gJ ((Array.size_map ..).trans (hp.size_eq.trans (jv _)))) ?_;rw[cF];lia))))
 rw[hf]
 simp only[bne_self_eq_false,bn,if_false]
 exact aW (h _ B b1 b2 b3)
end
end L2
end
noncomputable section
namespace L2
open PySem PySem.Spec PyProof.Rows
def bK8 (td ty tx:TE):TE:=fun W H Q=>td W H fun x H1=>∃ a,x=.ref a/\IsD H1 a/\ty W H1 fun y H2=>tx W H2 fun z H3=>∃ kvs k,H3 a=some (.dK kvs)/\y=kV k/\kvs.length<aL /\
 (∀ v,ak0 kvs k=some v->Q v H3)/\(ak0 kvs k=none->Q z (upd H3 a (.dK (ak5 kvs k z))))
def bQ1 (td tx:TE):TE:=fun W H Q=>td W H fun x H1=>∃ a,x=.ref a/\IsD H1 a/\tx W H1 fun z H2=>∃ o kvs more,z=.ref o/\a≠o/\H2 a=some (.dK kvs)/\H2 o=some (.dK more)/\kvs.length+more.length<=aL/\Q .non (upd H2 a (.dK (ad0 kvs more)))
section
variable {X:Cx} {o e f:Expr} {apos cpos:Pos} {td ty tx:TE}
theorem bd6 (ho:PE X o td)(he:PE X e ty)(hf:PE X f tx)(m:M2 X o "setdefault" apos e f cpos):PE X (.Call (.Attribute o "setdefault" apos) [e,f] [] cpos) (bK8 td ty tx):=by
 intro B s W H Q I h
 refine eD m.base m.few m.line db fi PySem.F.type_dict_setdefault (thn (ho B s W H _ I h) fun u s1 ⟨x,H1,I1,rx,a,ex,d,q1⟩=>?_)
 subst ex
 obtain rfl:u=Value.ref a:=rx
 obtain⟨t1,t2,_⟩:=aA0 I1 d
 refine⟨t1,t2,?_⟩
 rw[m.trees]
 refine cc rfl (cU (cq (thn (he B s1 W H1 _ I1 q1) fun iv s2 ⟨y,H2,I2,ry,q2⟩ =>
  cq (thn (hf B s2 W H2 _ I2 q2) fun fv s3 ⟨z,H3,I3,rz,kvs,k,ek,ey,hl,g1,g2⟩=>dE ?_))))
 subst ey
 obtain⟨zz,hd,vs,G,dd⟩:=aK7 I3.hok ek
 refine gR fi dd.typeIs PySem.F.entry_dict_setdefault (PySem.F.args_dict_setdefault_3 _ _ _) (kt_meets_setdefault (zl X.prog X.w) a (aq4 ry) hd fv) ⟨vs,dd,by rw[<-G.length];exact zz,fun v hv=>?_,fun hn h' J hs=>?_⟩
 .obtain⟨v',hv',rv⟩:∃ v',ak0 kvs k=some v'/\RelV v' v:=by
   have:=G.val k
   rw[hv]at this
   cases q:ak0 kvs k with
   | none=>rw[q]at this;exact this.elim
   | some v'=>rw[q]at this;exact⟨v',rfl,this⟩
  exact⟨v',H3,I3.tok _,rv,g1 v' hv'⟩
 .have a0:ak0 kvs k=none:=by
   have:=G.val k
   rw[hn]at this
   cases q:ak0 kvs k with
   | none=>rfl
   | some v'=>rw[q]at this;exact this.elim
  have he:∃ q,h'.get? a=some q:=let⟨q,_,_,hq,_⟩:=J;⟨q,hq⟩
  have Z:(ak5 kvs k z).length<=aL:=by have:=qB kvs k z;lia
  exact⟨z,_,ap2 I3 (by rw[ek];exact True.intro) hs he (aB5 Z hd (G.put k rz) J),rz,g2 a0⟩
theorem bp8 (ho:PE X o td)(he:PE X e tx)(m:M1 X o "update" apos e cpos):PE X (.Call (.Attribute o "update" apos) [e] [] cpos) (bQ1 td tx):=by
 intro z s W H Q I h
 refine eD m.base m.few m.line db gm PySem.F.type_dict_update (thn (ho z s W H _ I h) fun u s1 ⟨x,H1,I1,rx,a,ex,d,q1⟩=>?_)
 subst ex
 obtain rfl:u=Value.ref a:=rx
 obtain⟨t1,t2,_⟩:=aA0 I1 d
 refine⟨t1,t2,?_⟩
 rw[m.trees]
 refine cc rfl (cU (cq (thn (he z s1 W H1 _ I1 q1) fun iv s2 ⟨y,H2,Z,ry,b,kvs,more,ez,ne,ek,em,hl,g⟩=>dE ?_)))
 subst ez
 obtain rfl:iv=Value.ref b:=ry
 obtain⟨zz,hd,vs,J,dd⟩:=aK7 Z.hok ek
 obtain⟨zm,a0,vm,B,dm⟩:=aK7 Z.hok em
 refine gR gm dd.typeIs PySem.F.entry_dict_update (PySem.F.args_dict_update_2 _ _) (meets_dict_update (zl X.prog X.w) a b ne a0) ⟨vs,vm,dd,dm,by rw[<-J.length,<-B.length];exact hl,fun h' G _ hs=>?_⟩
 have he:∃ q,h'.get? a=some q:=let⟨q,_,_,hq,_⟩:=G;⟨q,hq⟩
 exact⟨.non,_,ap2 (t':=s2.toks) Z (by rw[ek];exact True.intro) hs he (aB5 (aj (zZ more kvs) hl) hd (B.merge J) G),rfl,g⟩
theorem bA6 {prog:aD}{w:World}{A:aP}{E:Value->ae->Prop}{s:ae}{T:String}{r d:Addr}{n:Nat}{P:Nat->Value->Prop}{G:Heap->Prop}{R:List Value->ae->Prop}(K:PySem.W.KdlSrc prog w T r d n P G)(J:A.handled=none)(hok:G s.heap)(hn:n<=aL)
  (h:∀(h':Heap) (tk:Nat) (B:yJ),s.heap.objs.size<h'.objs.size->(∀ b o,s.heap.get? b=some o->h'.get? b=some o)->jw P B n->R B.toList { s with heap:=h',toks:=tk }) :
  wpAny (model prog w) A (collect (.ref r)) R E s:=by
 have lt:=K.there _ hok
 have Z:(s.heap.push { cls:=.type "list",data:=.seq ([]:yG).toArray }).get? s.heap.objs.size=some { cls:=.type "list",data:=.seq #[] }:=aX _ rfl
 have key:=PySem.W.kdl_extend (A:=A) (s:={ s with heap:=s.heap.push { cls:=.type "list",data:=.seq ([]:yG).toArray } })
  (R:=fun q s'=>∃ h' tk B c,q=.ok (.ret (.ref s.heap.objs.size))/\s'={ s with heap:=h',toks:=tk }/\(∀ b o,s.heap.get? b=some o->h'.get? b=some o)/\h'.get? s.heap.objs.size=some { cls:=.type "list",dict:=none,data:=.seq B c,slots:=#[] }/\jw P B n)
  K J (K.keep _ _ hok fun _ _ _ e=>ak _ e) s.heap.objs.size (gH lt.1) (gH lt.2) (.ref s.heap.objs.size) 0 Z
  (fun h' tk B c k g it=>⟨h',tk,B,c,rfl,rfl,fun b o e=>k b o (aB (aH e)) (ak _ e),g,it⟩) hn
 unfold collect
 refine aq (wpAny_runValue (codeAny_builtin entry_proto_collect' ?_))
 rw[iu PySem.F.plain_proto_collect _]
 refine aq (m:=newList []) (cA (aW ⟨plainId_quiet gA _,codeAny_builtin entry_list_iadd' ?_⟩))
 rw[iu gA _]
 have fin:∀(q:iZ) (s':ae),(∃ h' tk B c,q=.ok (.ret (.ref s.heap.objs.size))/\s'={ s with heap:=h',toks:=tk }/\(∀ b o,s.heap.get? b=some o->h'.get? b=some o)/\h'.get? s.heap.objs.size=some { cls:=.type "list",dict:=none,data:=.seq B c,slots:=#[] }/\jw P B n) ->
   ∃ h' tk B c,q=.ok (.ret (.ref s.heap.objs.size))/\s'={ s with heap:=h',toks:=tk }/\h'.get? s.heap.objs.size=some { cls:=.type "list",dict:=none,data:=.seq B c,slots:=#[] }/\R B.toList s':=fun q s' ⟨h',tk,B,c,e1,e2,k,g,it⟩=>⟨h',tk,B,c,e1,e2,g,e2▸h h' tk B (aH g) k it⟩
 refine bS key (fun f s' x=>?_) fun e s' x=>?_
 .cases f with
  | done f =>
   obtain⟨h',tk,B,c,e,rfl,g,z⟩:=fin _ _ x
   cases e
   exact aq (jU g (aW z))
  | again c=>exact⟨x.1,fu x.2 fun q s' y=>by
    obtain⟨h',tk,B,c,e,rfl,g,z⟩:=fin _ _ y
    cases e
    exact aq (jU g (aW z))⟩
 .obtain⟨h',tk,B,c,e,_⟩:=x
  cases e
theorem bm7 {h:Heap}{a:Addr}{vs:yG}{n:Nat}{out:yJ}(ho:h.get? a=some (eQ "list" vs.toArray n)):∃ e,(j7 h a vs out).get? a=some { cls:=.type "list",data:=.seq out e }:=by
 have ha:=aH ho
 obtain⟨e1,g1⟩:∃ e1,(h.update a (c6 fun _=>#[])).get? a=some (eQ "list" #[] e1):=⟨_,hR ho _⟩
 have g2:(((h.update a (c6 fun _=>#[])).push (eQ "tuple" vs.toArray 0)).push (eQ "list" #[] 0)).get? a=some (eQ "list" #[] e1):=by
  rw[eG _ _ _ (by rw[size_push',eR];exact aB (dF ha)),eG _ _ _ (by rw[eR];exact aB ha)];exact g1
 exact⟨_,hR g2 _⟩
theorem aW1 {h:Heap}{a b:Addr}{vs:yG}{out:yJ}{o:Obj}(hb:h.get? b=some o)(y:b≠a):(j7 h a vs out).get? b=some o :=
 (dh _ _ (cC y)).trans (ak _ (ak _ ((dh _ _ (cC y)).trans hb)))
theorem at5 (hc:X.calm=true):aa9 X (.builtin "sorted") (fun xs H Q=>∃(p:Addr) (kvs:List (Key×V)) (ns:List Int),xs=[.ref p]/\H p=some (.dK kvs)/\kvs.map (·.1)=ns.map Sum.inl/\ns.length<128/\∀(l:Addr) (Z:List Int),H l=none->Z.Perm ns->Z.Pairwise (·<=·)->Q (.ref l) (upd H l (.lst (Z.map V.int)))):=by
 intro a5 s W H xs us Q I r h
 obtain⟨p,kvs,ns,rfl,hd,hk,hn,q⟩:=h
 obtain⟨u,rfl,rx⟩:=qy r
 cases rx
 obtain⟨zz,y,vs,r,o,es,a4,h1,h2,h3,h4,h5,h6⟩:=(show aa7 X.prog X.w H s.heap p (.dK kvs)from I.hok p _ hd)
 have hl:kvs.length=vs.length:=dw r
 have J:kvs.length=ns.length:=by have:=congrArg kH hk;simpa using this
 refine Calls.call_function_entry kind_sorted plain_sorted entry_sorted (args_sorted1 _) ?_
 unfold Builtin.«sorted»
 refine aq (m:=checkCount "sorted" 1 1 _) (aW (aq (bA6 (jG (knd:=zl X.prog X.w) (kvs:=vs) (ep:=a4) y) (I.ok.hd hc) ⟨o,es,h1,h2,h3,h4,h5,h6⟩ (by lia) fun h' tk z a0 kp it=>?_)))
 have G:z.toList.length=ns.length:=by rw[bc];exact it.1.trans (hl.symm.trans J)
 have vi:fW z.toList ns:=by
  have:Vals (ns.map V.int) z.toList:=by
   have e:ns.map V.int=kvs.map fun kv=>kV kv.1:=by
    have:(kvs.map (·.1)).map kV=(ns.map Sum.inl).map kV:=by rw[hk]
    rw[c0,c0]at this
    exact this.symm
   rw[e]
   refine an9 (by rw[bc];exact it.1.trans hl.symm) fun j u e k v hk=>?_
   obtain⟨k',x',e1,e2⟩:=it.2 j u (by rw[<-ci];exact e)
   obtain⟨u',e3,_⟩:=KV.get r hk
   rw[e3]at e1;cases e1
   exact aS6 e2
  exact ak9 this
 refine aq (wpAny_newList ?_ (by rw[G,cF];lia))
 have g:(h'.push (eQ "list" z.toList.toArray 0)).get? h'.objs.size=some (eQ "list" z.toList.toArray 0):=aX _ rfl
 refine aq (eS (dP slot_list_sort ⟨_,g,rfl⟩ entry_list_sort (aM1 g vi (by lia) fun out B a1 a2 a3=>⟨_,rfl,?_⟩) (args_list_sort _)))
 refine aW ⟨_,rfl,?_⟩
 obtain⟨e,he⟩:=bm7 (vs:=z.toList) (out:=out) g
 have hle:=gE a0
 refine⟨.ref h'.objs.size,_,I.laid (t':=tk) (fun b ob hb=>aW1 (ak _ (kp b ob hb)) (aB (aH (kp b ob hb)))) hle (show aa7 X.prog X.w _ _ _ (.lst (B.map V.int))from⟨?_,out.toList,e,ae2 a1,by rw[eW];exact he⟩),rfl,q _ B (I.hok.fresh hle) a2 a3⟩
 rw[az,a2.length_eq,cF];omega
end
end L2
end
noncomputable section
namespace DV
inductive D where
 | non|bl (b:Bool)|int (i:Int)|str (x:List Nat)|tup (l:List D)|ref (n:Nat)|fn (f:String)|clo (f:String) (cs:List D)
noncomputable instance:DecidableEq D:=fun a b=>ed (a=b)
noncomputable instance (x:D):Decidable (x=.non):=match x with
 | .non=>.isTrue rfl
 | .bl _=>.isFalse nofun
 | .int _=>.isFalse nofun
 | .str _=>.isFalse nofun
 | .tup _=>.isFalse nofun
 | .ref _=>.isFalse nofun
 | .fn _=>.isFalse nofun
 | .clo _ _=>.isFalse nofun
inductive O where
 | lst (l:List D)|ro (l:List D)|dic (l:List (D×D))|ins (c:String) (fs:List (D×D))|dicF (l:List (D×D))
noncomputable instance:DecidableEq O:=fun a b=>ed (a=b)
noncomputable abbrev Sto:=List O
noncomputable def O.kd:O->Nat
 | .lst _=>0|.ro _=>1|.dic _=>2|.ins _ _=>3|.dicF _=>2
inductive R (α:Type) where
 | ok (a:α) (s:Sto)|exc (e:D) (s:Sto)|bad
noncomputable abbrev M (α:Type):=Sto->R α
noncomputable def R.bind {α β:Type}(r:R α)(f:α->Sto->R β):R β:=match r with
 | .ok a s=>f a s
 | .exc e s=>.exc e s
 | .bad=>.bad
@[simp] theorem R.bind_ok {α β:Type} (a:α) (s:Sto) (f:α->Sto->R β):(R.ok a s).bind f=f a s:=rfl
@[simp] theorem R.bind_bad {α β:Type} (f:α->Sto->R β):(R.bad:R α).bind f=.bad:=rfl
@[simp] theorem R.bind_exc {α β:Type} (e:D) (s:Sto) (f:α->Sto->R β):(R.exc e s:R α).bind f=.exc e s:=rfl
theorem R.bind_inv {α β:Type}{r:R α}{f:α->Sto->R β}{b:β}{t:Sto}(h:r.bind f=.ok b t):∃ a s,r=.ok a s/\f a s=.ok b t:=by
 cases r with
 | ok a s=>exact⟨a,s,rfl,h⟩
 | exc e s=>cases h
 | bad=>cases h
@[simp] theorem R.bind_assoc {α β γ:Type} (r:R α) (f:α->Sto->R β) (g:β->Sto->R γ):(r.bind f).bind g=r.bind fun a s=>(f a s).bind g:=by cases r<;>rfl
mutual
noncomputable def D.bnd (n:Nat):D->Bool
 | .tup l=>D.bndL n l
 | .ref k=>decide (k<n)
 | .clo _ l=>D.bndL n l
 | _=>true
noncomputable def D.bndL (n:Nat):List D->Bool
 | []=>true
 | d::l=>D.bnd n d&&D.bndL n l
end
noncomputable def O.bnd (n:Nat):O->Bool
 | .lst l=>D.bndL n l
 | .ro l=>D.bndL n l
 | .dic l=>D.bndL n (l.map (·.1))&&D.bndL n (l.map (·.2))
 | .ins _ l=>D.bndL n (l.map (·.1))&&D.bndL n (l.map (·.2))
 | .dicF l=>D.bndL n (l.map (·.1))&&D.bndL n (l.map (·.2))
mutual
noncomputable def D.plain:D->Bool
 | .non=>true|.int _=>true|.str _=>true
 | .tup l=>D.plainL l
 | _=>false
noncomputable def D.plainL:List D->Bool
 | []=>true
 | d::l=>D.plain d&&D.plainL l
end
mutual
noncomputable def D.ncl:D->Bool
 | .tup l=>D.nclL l
 | .clo _ _=>false
 | _=>true
noncomputable def D.nclL:List D->Bool
 | []=>true
 | d::l=>D.ncl d&&D.nclL l
end
noncomputable def O.ncl:O->Bool
 | .lst l=>D.nclL l
 | .ro l=>D.nclL l
 | .dic l=>D.nclL (l.map (·.2))
 | .dicF l=>D.nclL (l.map (·.2))
 | .ins _ l=>D.nclL (l.map (·.2))
noncomputable def D.key:D->Bool
 | .int _=>true|.str _=>true|_=>false
noncomputable def D.hdI:List D->Bool
 | .int _::_=>true|.non::_=>true|.tup _::_=>true|_=>false
noncomputable def D.keyF:D->Bool
 | .int _=>true|.non=>true|.str x=>decide (x.length<=1000)|_=>false
noncomputable def LIM:Nat:=1000000
@[irreducible] noncomputable def BIG:Nat:=2^60000
@[irreducible] noncomputable def DIVL:Nat:=2^4096
inductive BOp where
 | add|sub|mul|fdiv|mod|pow|shl|shr|band|bor
 deriving DecidableEq
inductive COp where
 | eq|ne|lt|le|gt|ge|isin|notin
 deriving DecidableEq
inductive Cn where
 | non|bl (b:Bool)|int (i:Int)|str (x:List Nat)
 deriving DecidableEq
noncomputable def Cn.d:Cn->D
 | .non=>.non|.bl b=>.bl b|.int i=>.int i|.str x=>.str x
inductive Bi where
 | len|abs|int|str|min2|max2|max3|min3|isInt|isBool|isStr|isTup|isList|ord
 deriving DecidableEq
inductive Mk where
 | tuple|list|all|any|sum|min|max|sorted|lenset
 deriving DecidableEq
inductive Mt where
 | append|reverse|partition
 deriving DecidableEq
inductive Tg where
 | one (i:Nat)|tup (is:List Nat)
 deriving DecidableEq
mutual
inductive E where
 | var (i:Nat)|cst (c:Cn)|glob (x:String)
 | bin (op:BOp) (a b:E)|not (a:E)
 | cmp (op:COp) (a b:E)
 | and (a b:E)|or (a b:E)|ite (c a b:E)
 | tup (es:Es)|lst (es:Es)|dic (ks vs:Es)|get1 (o k:E)
 | ix (a b:E)
 | call (f:String) (as:As)
 | bi (b:Bi) (es:Es)|mk (k:Mk) (l:L)
 | meth (m:Mt) (o:E) (es:Es)
 | attr (o:E) (f:List Nat)|new (c:String) (as:As)|mcall (o:E) (m:String) (as:As)|keysL (e:E)|srt (e:E)
 | gtd (o k d:E)|sdf (o k d:E)|upd (o x:E)|srtD (e:E)
inductive Es where
 | nil|cons (e:E) (es:Es)
inductive As where
 | nil|ex (e:E) (as:As)|fn (f:String) (as:As)
inductive I where
 | seq (e:E)|rng1 (a:E)|keys (e:E)
inductive L where
 | comp (tg:Tg) (it:I) (e:E) (caps:yD)|compIf (tg:Tg) (it:I) (c e:E) (caps:yD)|disp (es:Es)|seq (e:E)
end
mutual
inductive S where
 | asg (tg:Tg) (e:E)|setIx (o i e:E)|ex (e:E)|ret (e:E)
 | ite (c:E) (a b:Ss)|whl (c:E) (b:Ss)|for_ (tg:Tg) (it:I) (b:Ss)|setA (o:E) (f:List Nat) (e:E)|forK (tg:Tg) (e:E) (b:Ss)
inductive Ss where
 | nil|cons (s:S) (ss:Ss)
end
noncomputable abbrev Env:=List (Option D)
noncomputable def ab4 (o:O):M D:=fun s=>.ok (.ref s.length) (s++[o])
noncomputable def pur (d:D):M D:=fun s=>.ok d s
noncomputable def bad {α:Type}:M α:=fun _=>.bad
noncomputable def mulOk (a b:Int):Bool:=decide (a.natAbs<2^64)||decide (b.natAbs<2^64)||(decide (a.natAbs<BIG)&&decide (b.natAbs<BIG))
noncomputable def rep:Nat->List Nat->List Nat
 | 0,_=>[]
 | n+1,a=>a++rep n a
noncomputable def aI7:Nat->List D->List D
 | 0,_=>[]
 | n+1,a=>a++aI7 n a
noncomputable def qw:BOp->D->D->M D
 | .add,.int a,.int b=>pur (.int (a+b))
 | .add,.str a,.str b=>if a.length+b.length<=LIM then pur (.str (a++b))else bad
 | .add,.tup a,.tup b=>if a.length+b.length<=LIM then pur (.tup (a++b))else bad
 | .add,.ref a,.ref b=>fun s=>match s[a]?,s[b]? with
  | some (.lst l),some (.lst m)=>if l.length+m.length<=LIM then ab4 (.lst (l++m)) s else .bad
  | _,_=>.bad
 | .mul,.int a,.int b=>if mulOk a b then pur (.int (a*b))else bad
 | .mul,.str a,.int n=>if 0<=n/\n<=1000000/\a.length*n.toNat<=LIM then pur (.str (rep n.toNat a))else bad
 | .mul,.tup a,.int n=>if 0<=n/\n<=1000000/\a.length*n.toNat<=LIM then pur (.tup (aI7 n.toNat a))else bad
 | .mul,.ref a,.int n=>fun s=>match s[a]? with
  | some (.lst l)=>if 0<=n/\n<=1000000/\l.length*n.toNat<=LIM then ab4 (.lst (aI7 n.toNat l)) s else .bad
  | _=>.bad
 | .fdiv,.int a,.int b=>if 0<b/\b<(DIVL:Int)then pur (.int (a / b))else bad
 | .mod,.int a,.int b=>if 0<b then pur (.int (a % b))else bad
 | .pow,.int a,.int b=>if 0<=b/\b<=1000000/\a.natAbs<2^64 then pur (.int (a^b.toNat))else bad
 | .shl,.int a,.int b=>if 0<=b/\b<=1000000/\a.natAbs<2^128 then pur (.int (a*2^b.toNat))else bad
 | .shr,.int a,.int b=>if 0<=b then pur (.int (a / 2^b.toNat))else bad
 | .band,.int a,.int b=>if 0<=a/\b=1 then pur (.int (a % 2))else bad
 | .bor,.int a,.int b=>if 0<=a/\0<=b then pur (.int ((a.toNat ||| b.toNat:Nat):Int))else bad
 | _,_,_=>bad
noncomputable def kd (s:Sto):D->Nat
 | .non=>0|.bl _=>1|.int _=>1|.str _=>2|.tup _=>3
 | .ref r=>match s[r]? with|some (.lst _)=>4|_=>9
 | _=>9
noncomputable def ax1 (a b:Nat):Bool:=a==9||b==9||a==b
noncomputable def b2i (b:Bool):Int:=if b then 1 else 0
noncomputable def aR7:D->D->Option Bool
 | .non,.non=>some true
 | .bl a,.bl b=>some (a==b)
 | .int a,.int b=>some (a==b)
 | .bl a,.int b=>some (b2i a==b)
 | .int a,.bl b=>some (a==b2i b)
 | .str a,.str b=>some (a==b)
 | _,_=>none
noncomputable def ab5 (s:Sto)(a b:D):Option Bool:=match aR7 a b with
 | some z=>some z
 | none=>if ax1 (kd s a) (kd s b)then none else some false
noncomputable def eqL (f:D->D->Option Bool):List D->List D->Option Bool
 | [],[]=>some true
 | [],_::_=>some false
 | _::_,[]=>some false
 | a::l,b::m=>match f a b,eqL f l m with
  | some x,some y=>some (x&&y)
  | _,_=>none
noncomputable def eqv (s:Sto):Nat->D->D->Option Bool
 | 0,a,b=>ab5 s a b
 | n+1,a,b=>match a,b with
  | .tup l,.tup m=>eqL (eqv s n) l m
  | .ref x,.ref y=>match s[x]?,s[y]? with
   | some (.lst l),some (.lst m)=>if l.length=m.length then eqL (eqv s n) l m else some false
   | _,_=>none
  | a,b=>ab5 s a b
noncomputable def DEEP:Nat:=30
noncomputable def eqM (a b:D):M D:=fun s=>match eqv s DEEP a b with
 | some r=>.ok (.bl r) s
 | none=>.bad
noncomputable def inL (s:Sto)(x:D):List D->Option Bool
 | []=>some false
 | y::l=>match eqv s DEEP y x,inL s x l with
  | some a,some b=>some (a||b)
  | _,_=>none
noncomputable def look (k:D):List (D×D)->Option D
 | []=>none
 | (a,v)::l=>if a=k then some v else look k l
noncomputable def inM (a b:D):M Bool:=fun s=>match b with
 | .tup l=>match inL s a l with|some r=>.ok r s|none=>.bad
 | .ref r=>match s[r]? with
  | some (.lst l)=>match inL s a l with|some r=>.ok r s|none=>.bad
  | some (.dic l)=>if a.key then .ok (look a l).isSome s else .bad
  | _=>.bad
 | .str y=>match a with|.str [c]=>.ok (decide (c∈y)) s|_=>.bad
 | _=>.bad
noncomputable def ba1:D->Option (Int×List Nat)
 | .tup [.int i,.str x]=>some (i,x)
 | _=>none
noncomputable def bN6 (f:Int->List Nat->Int->List Nat->Bool)(a b:D):M D:=fun s=>match ba1 a,ba1 b with
 | some (i,x),some (j,y)=>.ok (.bl (f i x j y)) s
 | _,_=>.bad
noncomputable def ac2:COp->D->D->M D
 | .eq,a,b=>eqM a b
 | .ne,a,b=>fun s=>match eqv s DEEP a b with|some r=>.ok (.bl (!r)) s|none=>.bad
 | .lt,.int a,.int b=>pur (.bl (decide (a<b)))
 | .le,.int a,.int b=>pur (.bl (decide (a<=b)))
 | .gt,.int a,.int b=>pur (.bl (decide (b<a)))
 | .isin,a,b=>fun s=>(inM a b s).bind fun r s=>.ok (.bl r) s
 | .notin,a,b=>fun s=>(inM a b s).bind fun r s=>.ok (.bl (!r)) s
 | _,_,_=>bad
noncomputable def ixn (n:Nat)(i:Int):Option Nat:=if 0<=i then(if i<n then some i.toNat else none)else if -(n:Int)<=i then some (i+n).toNat else none
noncomputable def ixM (a b:D):M D:=fun s=>match a,b with
 | .tup l,.int i=>match(ixn l.length i).bind fun j=>l[j]? with|some d=>.ok d s|none=>.bad
 | .str l,.int i=>match(ixn l.length i).bind fun j=>l[j]? with|some c=>.ok (.str [c]) s|none=>.bad
 | .ref r,b=>match s[r]? with
  | some (.lst l)=>match b with
   | .int i=>match(ixn l.length i).bind fun j=>l[j]? with|some d=>.ok d s|none=>.bad
   | _=>.bad
  | some (.ro l)=>match b with
   | .int i=>match(ixn l.length i).bind fun j=>l[j]? with|some d=>.ok d s|none=>.bad
   | _=>.bad
  | some (.dic l)=>if b.key then match look b l with|some d=>.ok d s|none=>.bad else .bad
  | _=>.bad
 | _,_=>.bad
noncomputable def ak1:List D->Option (List Bool)
 | []=>some []
 | .bl b::l=>(ak1 l).map (b::·)
 | _=>none
noncomputable def zN:List D->Option (List Int)
 | []=>some []
 | .int i::l=>(zN l).map (i::·)
 | _=>none
noncomputable def am3:List D->Option (List (List Nat))
 | []=>some []
 | .str i::l=>(am3 l).map (i::·)
 | _=>none
noncomputable def bs3 (d:D):M D:=fun s=>match d with
 | .tup l=>.ok (.int l.length) s
 | .str l=>.ok (.int l.length) s
 | .ref r=>match s[r]? with
  | some (.lst l)=>.ok (.int l.length) s
  | some (.ro l)=>.ok (.int l.length) s
  | _=>.bad
 | _=>.bad
noncomputable def isK (k:Nat)(d:D):M D:=fun s=>match d with
 | .non=>.ok (.bl false) s
 | .bl _=>.ok (.bl (k==1||k==2)) s
 | .int _=>.ok (.bl (k==1)) s
 | .str _=>.ok (.bl (k==3)) s
 | .tup _=>.ok (.bl (k==4)) s
 | .ref r=>match s[r]? with
  | some (.lst _)=>.ok (.bl (k==5)) s
  | _=>.bad
 | _=>.bad
noncomputable def bi1 (f:D->M D):List D->M D
 | [d]=>f d
 | _=>bad
noncomputable def aI5:List D->M D
 | [.str [c]]=>fun s=>if 48<=c/\c<=57 then .ok (.int ((c - 48:Nat):Int)) s else .bad
 | _=>bad
noncomputable def aO8:List D->M D
 | [.int i]=>fun s=>if 0<=i/\i<=9 then .ok (.str [48+i.toNat]) s else .bad
 | [.str w]=>fun s=>.ok (.str w) s
 | _=>bad
noncomputable def bi:Bi->List D->M D
 | .len,l=>bi1 bs3 l
 | .abs,l=>fun s=>match zN l with|some [i]=>.ok (.int (if i<0 then -i else i)) s|_=>.bad
 | .int,l=>fun s=>match ak1 l with|some [b]=>.ok (.int (if b then 1 else 0)) s|some _=>.bad|none=>aI5 l s
 | .str,l=>aO8 l
 | .min2,l=>fun s=>match zN l with|some [a,b]=>.ok (.int (if b<a then b else a)) s|_=>.bad
 | .max2,l=>fun s=>match zN l with|some [a,b]=>.ok (.int (if b > a then b else a)) s|_=>.bad
 | .max3,l=>fun s=>match zN l with|some [a,b,c]=>.ok (.int (max (max a b) c)) s|_=>.bad
 | .isInt,l=>bi1 (isK 1) l
 | .isBool,l=>bi1 (isK 2) l
 | .isStr,l=>bi1 (isK 3) l
 | .isTup,l=>bi1 (isK 4) l
 | .isList,l=>bi1 (isK 5) l
 | _,_=>bad
noncomputable def bO8:List Int->Option Int
 | []=>none
 | a::l=>some (l.foldl min a)
noncomputable def bZ6:List Int->Option Int
 | []=>none
 | a::l=>some (l.foldl max a)
noncomputable def ins (a:Int):List Int->List Int
 | []=>[a]
 | b::l=>if a<=b then a::b::l else b::ins a l
noncomputable def ab6:List Int->List Int
 | []=>[]
 | a::l=>ins a (ab6 l)
noncomputable def bY5 (is:List Int):Bool:=is.all (fun i=>decide (-1000000000<=i/\i<=1000000000))&&decide (is.length<=1000000)
noncomputable def mk:Mk->List D->M D
 | .tuple,l=>fun s=>.ok (.tup l) s
 | .list,l=>ab4 (.lst l)
 | .all,l=>fun s=>match ak1 l with|some bs=>.ok (.bl (bs.all id)) s|none=>.bad
 | .any,l=>fun s=>match ak1 l with|some bs=>.ok (.bl (bs.any id)) s|none=>.bad
 | .sum,l=>fun s=>match zN l with|some is=>if bY5 is then .ok (.int is.sum) s else .bad|none=>.bad
 | .min,l=>fun s=>match(zN l).bind bO8 with|some m=>.ok (.int m) s|none=>.bad
 | .max,l=>fun s=>match(zN l).bind bZ6 with|some m=>.ok (.int m) s|none=>.bad
 | .sorted,l=>fun s=>match zN l with|some is=>ab4 (.lst ((ab6 is).map D.int)) s|none=>.bad
 | .lenset,l=>bad
noncomputable def ac7 (k v:D)(l:List (D×D)):List (D×D):=if(look k l).isSome then l.map (fun p=>if p.1=k then(p.1,v)else p)else l++[(k,v)]
noncomputable def setIx (o i v:D):Sto->R Unit:=fun s=>match o with
 | .ref r=>match s[r]? with
  | some (.lst l)=>match i with
   | .int i=>match ixn l.length i with|some j=>.ok () (s.set r (.lst (l.set j v)))|none=>.bad
   | _=>.bad
  | some (.dic l)=>if i.key&&decide (l.length<LIM)then .ok () (s.set r (.dic (ac7 i v l)))else .bad
  | _=>.bad
 | _=>.bad
noncomputable def aL1 (o k:D):M D:=fun s=>match o with
 | .ref r=>match s[r]? with
  | some (.dic l)=>if k.key then .ok ((look k l).getD .non) s else .bad
  | _=>.bad
 | _=>.bad
noncomputable def meth:Mt->D->List D->M D
 | .append,.ref r,[d]=>fun s=>match s[r]? with
  | some (.lst l)=>if l.length<LIM then .ok .non (s.set r (.lst (l++[d])))else .bad
  | _=>.bad
 | .reverse,.ref r,[]=>fun s=>match s[r]? with
  | some (.lst l)=>.ok .non (s.set r (.lst l.reverse))
  | _=>.bad
 | _,_,_=>bad
structure Fns where
 call:String->List D->M D
 lam:String->List D->List D->M D
 con:String->Option D
 xcall:String->List D->Sto->Option (String×Sto)
 xc:String->Bool
 xt:String->Bool
 cdc:String->Option (List (List Nat×List Nat))
 kd:String->Bool
 mcall:String->String->List D->M D
 new:String->List D->M D
 att:String->List Nat->Bool
noncomputable def aU2 (U:Env)(i:Nat):M D:=fun s=>match U[i]? with|some (some d)=>.ok d s|_=>.bad
noncomputable def ab3 (U:Env)(caps:yD):Env:=caps.map fun o=>match o with|none=>none|some j=>(U[j]?).join
noncomputable def aA3 (U:Env)(i:Nat)(d:D):Option Env:=if i < U.length then some (U.set i (some d))else none
noncomputable def aC9 (U:Env)(i:Nat):Option Env:=if i < U.length then some (U.set i none)else none
noncomputable def ag5 (U:Env):List Nat->List D->Option Env
 | [],[]=>some U
 | i::is,d::l=>(aA3 U i d).bind fun U=>ag5 U is l
 | _,_=>none
noncomputable def qC (U:Env):Tg->D->Option Env
 | .one i,d=>aA3 U i d
 | .tup is,.tup l=>ag5 U is l
 | _,_=>none
structure Sq where
 its:List D
 src:List Nat
noncomputable def av6 (d:D):M Sq:=fun s=>match d with
 | .tup l=>.ok ⟨l,[]⟩ s
 | .str l=>.ok ⟨l.map fun c=>.str [c],[]⟩ s
 | .ref r=>match s[r]? with
  | some (.lst l)=>.ok ⟨l,[r]⟩ s
  | some (.ro l)=>.ok ⟨l,[]⟩ s
  | _=>.bad
 | _=>.bad
noncomputable def bV1 (d:D):M Sq:=fun s=>match d with
 | .tup l=>.ok ⟨l,[]⟩ s
 | .ref r=>match s[r]? with
  | some (.lst l)=>.ok ⟨l,[r]⟩ s
  | some (.ro l)=>.ok ⟨l,[]⟩ s
  | _=>.bad
 | _=>.bad
noncomputable def aq0 (d:D):M Sq:=fun s=>match d with
 | .ref r=>match s[r]? with
  | some (.dic l)=>if l.all (fun p=>p.1.keyF)then .ok ⟨l.map (·.1),[r]⟩ (s.set r (.dicF l))else .bad
  | _=>.bad
 | _=>.bad
noncomputable def aF4 (s:Sto)(src:List Nat):Bool:=src.all fun r=>match s[r]? with|some (.dicF _)=>false|_=>true
noncomputable def ao2 {α:Type}(src:List Nat)(a:α):Sto->R α:=fun s=>match src with
 | [r]=>match s[r]? with
  | some (.dicF l)=>.ok a (s.set r (.dic l))
  | _=>.bad
 | _=>.bad
noncomputable def am6 (d:D):M D:=fun s=>match d with
 | .ref r=>match s[r]? with
  | some (.dic l)=>if l.all (fun p=>p.1.keyF)then ab4 (.lst (l.map (·.1))) s else .bad
  | _=>.bad
 | _=>.bad
noncomputable def bx3 (l:List D):M D:=fun s=>match zN l with
 | some is=>if is.length<64 then ab4 (.lst ((ab6 is).map D.int)) s else .bad
 | none=>.bad
noncomputable def bb6 (o k e:D):M D:=fun s=>match o with
 | .ref r=>match s[r]? with
  | some (.dic l)=>if k.key then .ok ((look k l).getD e) s else .bad
  | _=>.bad
 | _=>.bad
noncomputable def aO6 (o k e:D):M D:=fun s=>match o with
 | .ref r=>match s[r]? with
  | some (.dic l)=>if k.key&&decide (l.length<LIM)then(match look k l with|some v=>.ok v s|none=>.ok e (s.set r (.dic (ac7 k e l))))else .bad
  | _=>.bad
 | _=>.bad
noncomputable def aX9 (l m:List (D×D)):List (D×D):=m.foldl (fun a p=>ac7 p.1 p.2 a) l
noncomputable def aZ8 (o x:D):M D:=fun s=>match o with
 | .ref r=>match x with
  | .ref q=>match s[r]? with
   | some (.dic l)=>match s[q]? with
    | some (.dic m)=>if r≠q/\l.length+m.length<=LIM then .ok .non (s.set r (.dic (aX9 l m)))else .bad
    | _=>.bad
   | _=>.bad
  | _=>.bad
 | _=>.bad
noncomputable def ap3 (o:D):M D:=fun s=>match o with
 | .ref r=>match s[r]? with
  | some (.dic l)=>match zN (l.map (·.1))with
   | some is=>if is.length<128 then ab4 (.lst ((ab6 is).map D.int)) s else .bad
   | none=>.bad
  | _=>.bad
 | _=>.bad
noncomputable def aE9 (f:List Nat)(x:D):M D:=fun s=>match x with
 | .ref r=>match s[r]? with
  | some (.ins _ fs)=>match look (.str f) fs with|some d=>.ok d s|none=>.bad
  | _=>.bad
 | _=>.bad
noncomputable def aL3 (k v:D):List (D×D)->List (D×D)
 | []=>[(k,v)]
 | (a,x)::r=>if a=k then(a,v)::r else(a,x)::aL3 k v r
noncomputable def aI3 (ok:String->Bool)(f:List Nat)(x v:D):Sto->R Unit:=fun s=>match x with
 | .ref r=>match s[r]? with
  | some (.ins c fs)=>if ok c&&decide (fs.length<1000)then .ok () (s.set r (.ins c (aL3 (.str f) v fs)))else .bad
  | _=>.bad
 | _=>.bad
noncomputable def bC3 (x:D):Sto->R String:=fun s=>match x with
 | .ref r=>match s[r]? with
  | some (.ins c _)=>.ok c s
  | _=>.bad
 | _=>.bad
noncomputable def bx4 (d:D):Sto->R (List D):=fun s=>match d with
 | .tup l=>.ok l s
 | .str l=>.ok (l.map fun c=>.str [c]) s
 | .ref r=>match s[r]? with
  | some (.lst l)=>.ok l s
  | some (.ro l)=>.ok l s
  | _=>.bad
 | _=>.bad
noncomputable def bx5 (d:D):Sto->R (List D):=fun s=>match d with
 | .ref r=>match s[r]? with
  | some (.lst l)=>.ok l s
  | _=>.bad
 | _=>.bad
noncomputable def Ww62:Int:=4611686018427387904
noncomputable def qz (a b:Int):List D:=(bj (b - a).toNat).map fun(k:Nat)=>.int (a+k)
noncomputable def chk (s0 s:Sto)(src:List Nat):Bool:=src.all fun r=>decide (s[r]?=s0[r]?)
noncomputable def tru {α:Type}(r:R D)(f:Bool->Sto->R α):R α:=r.bind fun d s=>match d with|.bl b=>f b s|_=>.bad
@[simp] theorem tru_bl {α:Type} (b:Bool) (s:Sto) (f:Bool->Sto->R α):tru (.ok (.bl b) s) f=f b s:=rfl
noncomputable def ab9 (ok:Sto->Bool)(g:D->Env->Sto->R (Option D×Env)):List D->Env->Sto->R (List D)
 | [],_,s=>if ok s then .ok [] s else .bad
 | d::l,U,s=>if ok s then(g d U s).bind fun p s=>(ab9 ok g l p.2 s).bind fun r s=>.ok (match p.1 with|some v=>v::r|none=>r) s else .bad
mutual
noncomputable def ev (F:Fns):E->Env->Sto->R D
 | .var i,U,s=>aU2 U i s
 | .cst c,_,s=>.ok c.d s
 | .glob x,_,s=>match F.con x with|some d=>.ok d s|none=>.bad
 | .bin op a b,U,s=>(ev F a U s).bind fun x s=>(ev F b U s).bind fun y s=>qw op x y s
 | .not a,U,s=>tru (ev F a U s) fun b s=>.ok (.bl (!b)) s
 | .cmp op a b,U,s=>(ev F a U s).bind fun x s=>(ev F b U s).bind fun y s=>ac2 op x y s
 | .and a b,U,s=>tru (ev F a U s) fun c s=>if c then tru (ev F b U s) fun c s=>.ok (.bl c) s else .ok (.bl false) s
 | .or a b,U,s=>tru (ev F a U s) fun c s=>if c then .ok (.bl true) s else tru (ev F b U s) fun c s=>.ok (.bl c) s
 | .ite c a b,U,s=>tru (ev F c U s) fun k s=>if k then ev F a U s else ev F b U s
 | .tup es,U,s=>(evs F es U s).bind fun l s=>.ok (.tup l) s
 | .lst es,U,s=>(evs F es U s).bind fun l s=>ab4 (.lst l) s
 | .dic .nil .nil,U,s=>ab4 (.dic []) s
 | .dic (.cons k .nil) (.cons v .nil),U,s=>(ev F k U (s++[.dic []])).bind fun kd s1=>(ev F v U s1).bind fun vd s2=>if kd.key=true/\s2[s.length]?=some (.dic [])then .ok (.ref s.length) (s2.set s.length (.dic [(kd,vd)]))else .bad
 | .dic _ _,U,s=>.bad
 | .get1 o k,U,s=>(ev F o U s).bind fun x s=>(ev F k U s).bind fun y s=>aL1 x y s
 | .ix a b,U,s=>(ev F a U s).bind fun x s=>(ev F b U s).bind fun y s=>ixM x y s
 | .call f as,U,s=>(ah5 F as U s).bind fun l s=>F.call f l s
 | .bi b es,U,s=>(evs F es U s).bind fun l s=>bi b l s
 | .mk k it,U,s=>(evL F it U s).bind fun q s=>mk k q s
 | .meth m o es,U,s=>(ev F o U s).bind fun x s=>(evs F es U s).bind fun l s=>meth m x l s
 | .attr o f,U,s=>(ev F o U s).bind fun x s=>aE9 f x s
 | .keysL e,U,s=>(ev F e U s).bind fun x s=>am6 x s
 | .srt e,U,s=>(ev F e U s).bind fun x s=>(bx5 x s).bind fun q s=>bx3 q s
 | .gtd o k d,U,s=>(ev F o U s).bind fun x s=>(ev F k U s).bind fun y s=>(ev F d U s).bind fun z s=>bb6 x y z s
 | .sdf o k d,U,s=>(ev F o U s).bind fun x s=>(ev F k U s).bind fun y s=>(ev F d U s).bind fun z s=>aO6 x y z s
 | .upd o x,U,s=>(ev F o U s).bind fun a s=>(ev F x U s).bind fun b s=>aZ8 a b s
 | .srtD e,U,s=>(ev F e U s).bind fun x s=>ap3 x s
 | .new c as,U,s=>(ah5 F as U s).bind fun l s=>(F.new c (.ref s.length::l) (s++[.ins c []])).bind fun d s'=>if d=.non then .ok (.ref s.length) s' else .bad
 | .mcall o m as,U,s=>(ev F o U s).bind fun x s=>(bC3 x s).bind fun c s=>(ah5 F as U s).bind fun l s=>F.mcall c m (x::l) s
noncomputable def evs (F:Fns):Es->Env->Sto->R (List D)
 | .nil,_,s=>.ok [] s
 | .cons e es,U,s=>(ev F e U s).bind fun d s=>(evs F es U s).bind fun l s=>.ok (d::l) s
noncomputable def ah5 (F:Fns):As->Env->Sto->R (List D)
 | .nil,_,s=>.ok [] s
 | .ex e as,U,s=>(ev F e U s).bind fun d s=>(ah5 F as U s).bind fun l s=>.ok (d::l) s
 | .fn f as,U,s=>(ah5 F as U s).bind fun l s=>.ok (.fn f::l) s
noncomputable def evI (F:Fns):I->Env->Sto->R Sq
 | .seq e,U,s=>(ev F e U s).bind fun d s=>av6 d s
 | .rng1 a,U,s=>(ev F a U s).bind fun x s=>match x with|.int i=>if -Ww62<=i/\i<Ww62 then .ok ⟨qz 0 i,[]⟩ s else .bad|_=>.bad
 | .keys e,U,s=>(ev F e U s).bind fun d s=>aq0 d s
noncomputable def evL (F:Fns):L->Env->Sto->R (List D)
 | .comp tg it e caps,U,s=>(evI F it U s).bind fun q s0=>if q.its.length<=LIM then ab9 (fun s=>chk s0 s q.src) (fun d U s=>match qC U tg d with
   | some U=>(ev F e U s).bind fun v s=>.ok (some v,U) s
   | none=>.bad) q.its (ab3 U caps) s0 else .bad
 | .compIf tg it c e caps,U,s=>(evI F it U s).bind fun q s0=>if q.its.length<=LIM then ab9 (fun s=>chk s0 s q.src) (fun d U s=>match qC U tg d with
   | some U=>tru (ev F c U s) fun k s=>if k then(ev F e U s).bind fun v s=>.ok (some v,U) s else .ok (none,U) s
   | none=>.bad) q.its (ab3 U caps) s0 else .bad
 | .disp es,U,s=>evs F es U s
 | .seq e,U,s=>(ev F e U s).bind fun d s=>bx4 d s
end
inductive Ct where
 | next (U:Env)|ret (d:D)|cont (U:Env)|brk (U:Env)
noncomputable def av7 (ok:Sto->Bool)(g:D->Env->Sto->R Ct):List D->Env->Sto->R Ct
 | [],U,s=>if ok s then .ok (.next U) s else .bad
 | d::l,U,s=>if ok s then(g d U s).bind fun c s=>match c with
   | .next U=>av7 ok g l U s
   | .cont U=>av7 ok g l U s
   | .brk U=>.ok (.next U) s
   | .ret d=>.ok (.ret d) s
  else .bad
noncomputable def qD (c:Env->Sto->R D)(g:Env->Sto->R Ct):Nat->Env->Sto->R Ct
 | 0,_,_=>.bad
 | n+1,U,s=>tru (c U s) fun b s=>if b then(g U s).bind fun c' s=>match c' with
   | .next U=>qD c g n U s
   | .cont U=>qD c g n U s
   | .brk U=>.ok (.next U) s
   | .ret d=>.ok (.ret d) s
  else .ok (.next U) s
open Classical in
noncomputable def whl (c:Env->Sto->R D)(g:Env->Sto->R Ct)(U:Env)(s:Sto):R Ct :=
 if h:∃ n,qD c g n U s≠.bad then qD c g h.choose U s else .bad
mutual
noncomputable def ex (F:Fns):S->Env->Sto->R Ct
 | .asg tg e,U,s=>(ev F e U s).bind fun d s=>match qC U tg d with|some U=>.ok (.next U) s|none=>.bad
 | .setIx o i e,U,s=>(ev F e U s).bind fun d s=>(ev F o U s).bind fun x s=>(ev F i U s).bind fun y s=>(setIx x y d s).bind fun _ s=>.ok (.next U) s
 | .ex e,U,s=>(ev F e U s).bind fun _ s=>.ok (.next U) s
 | .ret e,U,s=>(ev F e U s).bind fun d s=>.ok (.ret d) s
 | .ite c a b,U,s=>tru (ev F c U s) fun k s=>if k then exs F a U s else exs F b U s
 | .whl c b,U,s=>whl (ev F c) (exs F b) U s
 | .for_ tg it b,U,s=>(evI F it U s).bind fun q s0=>av7 (fun s=>chk s0 s q.src) (fun d U s=>match qC U tg d with
   | some U=>exs F b U s
   | none=>.bad) q.its U s0
 | .setA o f e,U,s=>(ev F e U s).bind fun d s=>(ev F o U s).bind fun x s=>(aI3 (fun c=>F.att c f) f x d s).bind fun _ s=>.ok (.next U) s
 | .forK tg e b,U,s=>(evI F (.keys e) U s).bind fun q s0=>if aF4 s q.src then(av7 (fun s=>chk s0 s q.src) (fun d U s=>match qC U tg d with
   | some U=>exs F b U s
   | none=>.bad) q.its U s0).bind (fun c s=>ao2 q.src c s)else .bad
noncomputable def exs (F:Fns):Ss->Env->Sto->R Ct
 | .nil,U,s=>.ok (.next U) s
 | .cons st ss,U,s=>(ex F st U s).bind fun c s=>match c with|.next U=>exs F ss U s|c=>.ok c s
end
structure Df where
 name:String
 ps:Nat
 vs:Nat
 body:Ss
structure Lm where
 id:String
 ps:Nat
 cs:Nat
 body:E
inductive HT where
 | ve
 | isi (cs:List String)|one (c:String)|not (t:HT)|or (a b:HT)
inductive Hd where
 | ret (t:HT)|iff (t:HT) (b:Bool) (h:Hd)|nob (b:Bool)|noe|iffN (t:HT) (h:Hd)|aoN (a b:HT)|sup (x:String) (h:Hd)
 | kin (f:String) (l:Bool)
noncomputable def subC (c d:String):Bool:=c==d||(d == "TollError"||d == "ValueError")
noncomputable def az0:List String:=["NotSteady", "TooMuch", "TooLong", "NoMaking", "NoPaper", "NoPair", "NoText", "NoRow", "NoName"]
noncomputable def bj6:List (List Nat):=[[115,116,101,97,100,121],[109,117,99,104],[108,111,110,103],[109,97,107,105,110,103],[112,97,112,101,114],[112,97,105,114],[116,101,120,116],[114,111,119],[110,97,109,101]]
noncomputable def an0:List Nat:=[97,110,111,116,104,101,114]
noncomputable def bZ7 (bs:List Bool):List Nat:=if bs.countP id=1 then bj6.getD (bs.findIdx id) []else an0
noncomputable def bM3 (c:String):List Nat:=bZ7 (az0.map (subC c))
noncomputable def HT.val (c:String):HT->Bool
 | .isi cs=>cs.any (subC c)
 | .one d=>subC c d
 | .not t=>!t.val c
 | .or a b=>if a.val c then true else b.val c
 | .ve=>true
noncomputable def HT.ok (p:String->Bool):HT->Bool
 | .isi cs=>cs.all p
 | .one d=>p d
 | .not t=>t.ok p
 | .or a b=>a.ok p&&b.ok p
 | .ve=>true
noncomputable def Hd.val (c:String):Hd->Bool
 | .ret t=>t.val c
 | .iff t b h=>if t.val c then b else h.val c
 | .nob b=>b
 | .noe=>false
 | .iffN _ h=>h.val c
 | .aoN a b=>a.val c&&b.val c
 | .sup _ h=>h.val c
 | .kin _ _=>false
noncomputable def Hd.ok (p:String->Bool):Hd->Bool
 | .ret t=>t.ok p
 | .iff t _ h=>t.ok p&&h.ok p
 | .nob _=>true
 | .noe=>true
 | .iffN t h=>t.ok p&&h.ok p
 | .aoN a b=>a.ok p&&b.ok p
 | .sup x h=>p x&&h.ok p
 | .kin _ _=>az0.all p
noncomputable def Hd.vD (c:String):Hd->D
 | .ret t=>.bl (t.val c)
 | .iff t b h=>if t.val c then .bl b else h.vD c
 | .nob b=>.bl b
 | .noe=>.non
 | .iffN t h=>if t.val c then .non else h.vD c
 | .aoN a b=>if a.val c then(if b.val c then .bl true else .non)else .non
 | .sup _ h=>h.vD c
 | .kin _ _=>.non
noncomputable def Hd.kn:Hd->Option (String×Bool)
 | .kin f l=>some (f,l)
 | .sup _ h=>h.kn
 | _=>none
noncomputable def Hd.kok (k:String->Bool)(h:Hd):Bool:=match h.kn with|some (f,_)=>k f|none=>true
noncomputable def Hd.cls (c:String):Hd->String
 | .sup x _=>x|_=>c
noncomputable def Hd.supOk (c:String):Hd->Bool
 | .sup x _=>subC c x|_=>true
noncomputable def Hd.nn:Hd->Bool
 | .nob _=>true|.noe=>true|_=>false
noncomputable def aE2 (ok:Sto->Bool)(g:D->Env->Sto->R Ct)(gx:D->Env->Sto->Option (String×Sto)):List D->Env->Sto->Option (String×Sto)
 | [],_,_=>none
 | d::l,U,s=>if ok s then match g d U s with
   | .ok (.next U1) s1=>aE2 ok g gx l U1 s1
   | .ok (.cont U1) s1=>aE2 ok g gx l U1 s1
   | .ok _ _=>none
   | _=>gx d U s
  else none
noncomputable def aF2 (c:Env->Sto->R D)(g:Env->Sto->R Ct)(gx:Env->Sto->Option (String×Sto)):Nat->Env->Sto->Option (String×Sto)
 | 0,_,_=>none
 | n+1,U,s=>match c U s with
  | .ok (.bl true) s1=>match g U s1 with
   | .ok (.next U1) s2=>aF2 c g gx n U1 s2
   | .ok (.cont U1) s2=>aF2 c g gx n U1 s2
   | .ok _ _=>none
   | _=>gx U s1
  | _=>none
open Classical in
noncomputable def whlX (c:Env->Sto->R D)(g:Env->Sto->R Ct)(gx:Env->Sto->Option (String×Sto))(U:Env)(s:Sto):Option (String×Sto):=if h:∃ n,(aF2 c g gx n U s).isSome=true then aF2 c g gx h.choose U s else none
inductive XB where
 | no|rais (c:String)|call (f:String) (as:As)|iteT (c:E) (a r:XB)|seq (s:S) (b:XB)
 | kind|alt (a b:XB)
 | iteE (c:E) (a r:XB)|forX (tg:Tg) (it:I) (b:Ss) (x:XB)|whlX (c:E) (b:Ss) (x:XB)
noncomputable def xB (F:Fns):XB->Env->Sto->Option (String×Sto)
 | .no,_,_=>none
 | .kind,_,_=>none
 | .alt a b,U,s=>match xB F a U s with|some r=>some r|none=>xB F b U s
 | .rais c,_,s=>if F.xc c=true then some (c,s)else none
 | .call f as,U,s=>match ah5 F as U s with|.ok l s1=>F.xcall f l s1|_=>none
 | .iteT c a r,U,s=>match ev F c U s with|.ok (.bl b) s1=>if b then xB F a U s1 else xB F r U s1|_=>none
 | .seq st b,U,s=>match ex F st U s with|.ok (.next U1) s1=>xB F b U1 s1|_=>none
 | .forX tg it b x,U,s=>match evI F it U s with
  | .ok q s0=>aE2 (fun s=>chk s0 s q.src) (fun d U s=>match qC U tg d with
   | some U=>exs F b U s
   | none=>.bad) (fun d U s=>match qC U tg d with
   | some U=>xB F x U s
   | none=>none) q.its U s0
  | _=>none
 | .iteE c a r,U,s=>match ev F c U s with|.ok (.bl b) s1=>if b then xB F a U s1 else xB F r U s1|_=>none
 | .whlX c b x,U,s=>DV.whlX (ev F c) (exs F b) (xB F x) U s
structure Xf where
 ps:Nat
 vs:Nat
 body:XB
structure Tf where
 ps:Nat
 vs:Nat
 body:Ss
 xb:XB
 c:String
 i:Nat
 h:Hd
 tl:Ss
 pre:Ss
structure Pr where
 df:String->Option Df
 lm:String->Option Lm
 con:String->Option D
 xf:String->Option Xf
 tf:String->Option Tf
 xc:String->Bool
 xt:String->Bool
 cdc:String->Option (List (List Nat×List Nat))
 mt:String->String->Option Df
 att:String->List Nat->Bool
noncomputable def an4 (st st':Sto):Bool:=(bj st.length).all fun i=>decide (st'[i]?=st[i]?)||(match st'[i]? with|some o=>o.bnd st.length|none=>false)
noncomputable def zn (st:Sto)(d:D)(st':Sto):R D :=
 if an4 st st' then
  match d with
  | .ref r=>if r<st.length then .ok d (st'.take st.length)else match st'[r]? with
   | some o=>if o.bnd st.length then .ok (.ref st.length) (st'.take st.length++[o])else .ok d st'
   | none=>.bad
  | d=>if d.bnd st.length then .ok d (st'.take st.length)else .ok d st'
 else .ok d st'
noncomputable def Hd.out (h:Hd)(c:String)(s s':Sto):R D:=match h with
 | .noe=>zn s (.ref s'.length) (s'++[.lst []])
 | h=>match h.kn with
  | some (_,true)=>zn s (.ref s'.length) (s'++[.lst [.str (bM3 c)]])
  | some (_,false)=>zn s (.str (bM3 c)) s'
  | none=>zn s (h.vD c) s'
noncomputable def Tf.tk (d:Tf)(c:String):Bool:=match d.h with|.sup x _=>subC c x|_=>c==d.c
noncomputable def XB.isK:XB->Bool
 | .kind=>true|_=>false
noncomputable def bY2 (P:Pr)(f:String):Bool:=match P.xf f with|some d=>d.ps==1&&(d.vs==1&&d.body.isK)|none=>false
noncomputable def bo9 (F:Fns)(d:Tf)(s:Sto)(U0:Env)(s0:Sto):R D:=match xB F d.xb U0 s0 with
 | some (c,s')=>if d.tk c=true/\F.xc c=true/\d.h.ok F.xt=true/\d.h.kok F.kd=true then d.h.out c s s' else .bad
 | none=>(exs F d.body U0 s0).bind fun c s1=>match c with
  | .ret v=>zn s v s1
  | .next U=>(exs F d.tl U s1).bind fun c s2=>match c with
   | .ret v=>zn s v s2
   | .next _=>zn s .non s2
   | _=>.bad
  | _=>.bad
noncomputable def bP7 (F:Fns)(d:Tf)(l:List D)(s:Sto):R D:=match exs F d.pre (l.map some++aF d.vs none) s with
 | .ok (.next U0) s0=>bo9 F d s U0 s0
 | _=>.bad
noncomputable def aY4 (F:Fns)(d:Df)(l:List D)(s:Sto):R D:=if l.length=d.ps then(exs F d.body (l.map some++aF d.vs none) s).bind fun c s'=>match c with
 | .ret v=>zn s v s'
 | .next _=>zn s .non s'
 | _=>.bad else .bad
noncomputable def aa1 (P:Pr):Nat->Fns
 | 0=>⟨fun _ _ _=>.bad,fun _ _ _ _=>.bad,P.con,fun _ _ _=>none,P.xc,P.xt,P.cdc,bY2 P,fun _ _ _ _=>.bad,fun _ _ _=>.bad,P.att⟩
 | n+1=>⟨fun f l s=>match P.df f with
   | some d=>if l.length=d.ps then(exs (aa1 P n) d.body (l.map some++aF d.vs none) s).bind fun c s'=>match c with
     | .ret v=>zn s v s'
     | .next _=>zn s .non s'
     | _=>.bad else .bad
   | none=>match P.tf f with
    | some d=>if l.length=d.ps then bP7 (aa1 P n) d l s else .bad
    | none=>.bad,
  fun id cs l s=>match P.lm id with
   | some d=>if l.length=d.ps/\cs.length=d.cs/\(D.nclL l&&D.nclL cs&&s.all O.ncl)=true then(ev (aa1 P n) d.body (l.map some++cs.map some) s).bind fun v s'=>zn s v s' else .bad
   | none=>.bad,P.con,
  fun f l s=>match P.xf f with
   | some d=>if l.length=d.ps then xB (aa1 P n) d.body (l.map some++aF d.vs none) s else none
   | none=>none,P.xc,P.xt,P.cdc,bY2 P,fun c m l s=>match P.mt c m with|some d=>aY4 (aa1 P n) d l s|none=>.bad,fun c l s=>(aa1 P n).mcall c "__init__" l s,P.att⟩
def KP (s s':Sto):Prop:=∀(i:Nat) (o:O),s[i]?=some o->∃ o',s'[i]?=some o'/\o'.kd=o.kd
theorem KP.refl (s:Sto):KP s s:=fun i o h=>⟨o,h,rfl⟩
theorem KP.trans {a b c:Sto}(h:KP a b)(g:KP b c):KP a c:=fun i o e=>by
 obtain⟨z,e1,k1⟩:=h i o e
 obtain⟨y,e2,k2⟩:=g i z e1
 exact⟨y,e2,k2.trans k1⟩
theorem KP.app (s t:Sto):KP s (s++t):=fun i o e=>⟨o,by rw[aR (ac.mp e).1];exact e,rfl⟩
theorem KP.set {s:Sto}{r:Nat}{o y:O}(h:s[r]?=some y)(k:o.kd=y.kd):KP s (s.set r o):=fun i u e=>by
 by_cases z:r=i
 .subst z
  rw[h]at e;cases e
  exact⟨o,aJ (ac.mp h).1,k⟩
 .exact⟨u,by rw[aw z];exact e,rfl⟩
def KR {α:Type}(s:Sto)(r:R α):Prop:=∀ a s',r=.ok a s'->KP s s'
theorem KR.bad {α:Type}{s:Sto}:KR s (.bad:R α):=fun _ _ h=>by cases h
theorem KR.ok {α:Type}{s:Sto}{a:α}:KR s (.ok a s):=fun _ _ h=>by cases h;exact KP.refl _
theorem KR.bind {α β:Type}{s:Sto}{r:R α}{f:α->Sto->R β}(h:KR s r)(g:∀ a s1,KR s1 (f a s1)):KR s (r.bind f):=fun b s' e=>by
 obtain⟨a,s1,e1,e2⟩:=R.bind_inv e
 exact(h a s1 e1).trans (g a s1 b s' e2)
theorem KR.tru {α:Type}{s:Sto}{r:R D}{f:Bool->Sto->R α}(h:KR s r)(g:∀ a s1,KR s1 (f a s1)):KR s (tru r f):=KR.bind h fun a s1=>by
 cases a with
 | bl b=>exact g b s1
 | _=>exact KR.bad
theorem KR.if {α:Type}{s:Sto}{c:Prop}[Decidable c]{a b:R α}(h:KR s a)(g:KR s b):KR s (if c then a else b):=by split;exact h;exact g
theorem KR.al {s:Sto}{o:O}:KR s (ab4 o s):=fun _ _ h=>by cases h;exact KP.app _ _
theorem KR.pu {s:Sto}{d:D}:KR s (pur d s):=fun _ _ h=>by cases h;exact KP.refl _
theorem KR.bd {s:Sto}:KR s ((DV.bad:M D) s):=fun _ _ h=>by cases h
theorem KR.im {s:Sto}{c:Prop}{_:Decidable c}{d:D}:KR s ((if c then pur d else DV.bad:M D) s):=by split;exact KR.pu;exact KR.bd
theorem KR.ia {s:Sto}{c:Prop}{_:Decidable c}{o:O}:KR s (if c then ab4 o s else .bad):=KR.if KR.al KR.bd
theorem bc4 (op:BOp)(x y:D)(s:Sto):KR s (qw op x y s):=by
 cases op with
 | add=>cases x with
  | int a=>cases y with
   | int b=>exact KR.pu
   | _=>exact KR.bd
  | str a=>cases y with
   | str b=>exact KR.im
   | _=>exact KR.bd
  | tup a=>cases y with
   | tup b=>exact KR.im
   | _=>exact KR.bd
  | ref a=>cases y with
   | ref b =>
    show KR s (match s[a]?,s[b]? with|some (.lst l),some (.lst m)=>if l.length+m.length<=LIM then ab4 (.lst (l++m)) s else .bad|_,_=>.bad)
    split
    .exact KR.ia
    .exact KR.bd
   | _=>exact KR.bd
  | _=>exact KR.bd
 | sub=>intro a s' h;exact absurd h (by nofun)
 | mul=>cases x with
  | int a=>cases y with
   | int b=>exact KR.im
   | _=>exact KR.bd
  | str a=>cases y with
   | int b=>exact KR.im
   | _=>exact KR.bd
  | tup a=>cases y with
   | int b=>exact KR.im
   | _=>exact KR.bd
  | ref a=>cases y with
   | int n =>
    show KR s (match s[a]? with|some (.lst l)=>if 0<=n/\n<=1000000/\l.length*n.toNat<=LIM then ab4 (.lst (aI7 n.toNat l)) s else .bad|_=>.bad)
    split
    .exact KR.ia
    .exact KR.bd
   | _=>exact KR.bd
  | _=>exact KR.bd
 | fdiv=>cases x with
  | int a=>cases y with
   | int b=>exact KR.im
   | _=>exact KR.bd
  | _=>exact KR.bd
 | mod=>cases x with
  | int a=>cases y with
   | int b=>exact KR.im
   | _=>exact KR.bd
  | _=>exact KR.bd
 | pow=>cases x with
  | int a=>cases y with
   | int b=>exact KR.im
   | _=>exact KR.bd
  | _=>exact KR.bd
 | shl=>cases x with
  | int a=>cases y with
   | int b=>exact KR.im
   | _=>exact KR.bd
  | _=>exact KR.bd
 | shr=>cases x with
  | int a=>cases y with
   | int b=>exact KR.im
   | _=>exact KR.bd
  | _=>exact KR.bd
 | band=>cases x with
  | int a=>cases y with
   | int b=>exact KR.im
   | _=>exact KR.bd
  | _=>exact KR.bd
 | bor=>cases x with
  | int a=>cases y with
   | int b=>exact KR.im
   | _=>exact KR.bd
  | _=>exact KR.bd
theorem bk9 (f:Int->List Nat->Int->List Nat->Bool)(x y:D)(s:Sto):KR s (bN6 f x y s):=by
 intro a s' h
 unfold bN6 at h
 split at h<;>cases h
 exact KP.refl _
theorem bG7 (op:COp)(x y:D)(s:Sto):KR s (ac2 op x y s):=by
 have z:∀ a b:D,KR s (inM a b s):=fun a b=>by
  intro r s' h
  unfold inM at h
  split at h
  .split at h<;>cases h;exact KP.refl _
  .split at h
   .split at h<;>cases h;exact KP.refl _
   .split at h<;>cases h;exact KP.refl _
   .cases h
  .split at h<;>cases h;exact KP.refl _
  .cases h
 cases op with
 | isin=>exact KR.bind (z x y) fun _ _=>KR.ok
 | notin=>exact KR.bind (z x y) fun _ _=>KR.ok
 | eq=>intro a s' h;change eqM x y s=_ at h;unfold eqM at h;split at h<;>cases h;exact KP.refl _
 | ne =>
  intro a s' h
  change(match eqv s DEEP x y with|some r=>R.ok (D.bl (!r)) s|none=>.bad)=_ at h
  split at h<;>cases h;exact KP.refl _
 | _ =>
  intro a s' h
  cases x with
  | int i=>(cases y with
   | int j=>cases h<;>exact KP.refl _
   | _=>cases h)
  | tup l=>(cases y with
   | tup m=>first|exact bk9 _ _ _ _ _ _ h|cases h
   | _=>cases h)
  | _=>cases h
theorem bV6 (x y:D)(s:Sto):KR s (ixM x y s):=by
 intro a s' h
 unfold ixM at h
 repeat' split at h
 all_goals first|(cases h;exact KP.refl _;done)|(cases h;done)
theorem br8 (x:D)(s:Sto):KR s (bx4 x s):=by
 intro a s' h
 unfold bx4 at h
 repeat' split at h
 all_goals first|(cases h;exact KP.refl _;done)|(cases h;done)
theorem bk1 (x:D)(s:Sto):KR s (bx5 x s):=by
 intro a s' h
 unfold bx5 at h
 repeat' split at h
 all_goals first|(cases h;exact KP.refl _;done)|(cases h;done)
theorem br1 (x:D)(s:Sto):KR s (av6 x s):=by
 intro a s' h
 unfold av6 at h
 repeat' split at h
 all_goals first|(cases h;exact KP.refl _;done)|(cases h;done)
theorem bu5 (l:List D)(s:Sto):KR s (aO8 l s):=by
 intro a s' h
 unfold aO8 at h
 split at h
 .split at h<;>cases h;exact KP.refl _
 .cases h;exact KP.refl _
 .cases h
theorem bw5 (l:List D)(s:Sto):KR s (aI5 l s):=by
 intro a s' h
 unfold aI5 at h
 split at h
 .split at h<;>cases h;exact KP.refl _
 .cases h
theorem bT3 (b:Bi)(l:List D)(s:Sto):KR s (bi b l s):=by
 have k1:∀ f:D->M D,(∀ d,KR s (f d s))->KR s (bi1 f l s):=fun f z=>by
  cases l with
  | nil=>exact KR.bad
  | cons d t=>(cases t with
   | nil=>exact z d
   | cons _ _=>exact KR.bad)
 have k2:∀ k d,KR s (isK k d s):=fun k d=>by
  intro a s' h
  unfold isK at h
  repeat' split at h
  all_goals first|(cases h;exact KP.refl _;done)|(cases h;done)
 have y:∀ d,KR s (bs3 d s):=fun d=>by
  intro a s' h
  unfold bs3 at h
  repeat' split at h
  all_goals first|(cases h;exact KP.refl _;done)|(cases h;done)
 cases b with
 | len=>exact k1 _ y
 | isInt=>exact k1 _ (k2 1)
 | isBool=>exact k1 _ (k2 2)
 | isStr=>exact k1 _ (k2 3)
 | isTup=>exact k1 _ (k2 4)
 | isList=>exact k1 _ (k2 5)
 | str=>exact bu5 l s
 | int =>
  intro a s' h
  have h:(match ak1 l with|some [b]=>R.ok (D.int (if b then 1 else 0)) s|some _=>.bad|none=>aI5 l s)=.ok a s':=h
  split at h
  .cases h;exact KP.refl _
  .cases h
  .exact bw5 l s a s' h
 | _ =>
  intro a s' h
  unfold bi at h
  first|(cases h;done)|(simp only at h;split at h<;>first|(cases h;exact KP.refl _;done)|(cases h;done))
theorem bQ7 (k:Mk)(l:List D)(s:Sto):KR s (mk k l s):=by
 cases k with
 | tuple=>exact KR.ok
 | list=>exact KR.al
 | lenset=>exact KR.bad
 | _ =>
  intro a s' h
  unfold mk at h
  simp only at h
  repeat' split at h
  all_goals first|(cases h;exact KP.refl _;done)|(cases h;exact KP.app _ _;done)|(cases h;done)
theorem bl1 (m:Mt)(o:D)(l:List D)(s:Sto):KR s (meth m o l s):=by
 have y:∀ {r:Nat} {f:List D->R D},(∀ l,s[r]?=some (.lst l)->KR s (f l))->KR s (match s[r]? with|some (.lst l)=>f l|_=>.bad:R D):=fun {r f} h=>by
  cases e:s[r]? with
  | none=>exact KR.bad
  | some ob=>cases ob with
   | lst l=>exact h l e
   | _=>exact KR.bad
 cases o with
 | ref r=>cases m with
  | append=>match l with
   | [d]=>exact y fun l e=>KR.if (fun _ _ h=>by cases h;exact KP.set e rfl) KR.bad
   | []=>exact KR.bd
   | _::_::_=>exact KR.bd
  | reverse=>match l with
   | []=>exact y fun l e=>fun _ _ h=>by cases h;exact KP.set e rfl
   | _::_=>exact KR.bd
  | _=>exact KR.bd
 | _=>cases m<;>exact KR.bd
theorem aY2 (o i v:D)(s:Sto):KR s (setIx o i v s):=by
 intro a s' h
 unfold setIx at h
 cases o with
 | ref r =>
  simp only at h
  cases e:s[r]? with
  | none=>rw[e]at h;cases h
  | some ob =>
   rw[e]at h
   cases ob with
   | lst l =>
    cases i with
    | int k=>simp only at h;split at h<;>cases h;exact KP.set e rfl
    | _=>cases h
   | dic l=>simp only at h;split at h<;>cases h;exact KP.set e rfl
   | _=>cases h
 | _=>cases h
theorem ba9 (o k:D)(s:Sto):KR s (aL1 o k s):=by
 intro a s' h
 unfold aL1 at h
 repeat' split at h
 all_goals first|(cases h;exact KP.refl _;done)|(cases h;done)
theorem aU9 (d:D)(s:Sto):KR s (aq0 d s):=by
 intro a s' h
 unfold aq0 at h
 split at h
 .split at h
  .rename_i e
   split at h
   .cases h;exact KP.set e rfl
   .cases h
  .cases h
 .cases h
theorem aV1 {α:Type}(src:List Nat)(a:α)(s:Sto):KR s (ao2 src a s):=by
 intro b s' h
 unfold ao2 at h
 split at h
 .split at h
  .rename_i e;cases h;exact KP.set e rfl
  .cases h
 .cases h
theorem aS7 (d:D)(s:Sto):KR s (am6 d s):=by
 intro a s' h
 unfold am6 at h
 repeat' split at h
 all_goals first|(cases h;exact KP.app _ _;done)|(cases h;done)
theorem br2 (l:List D)(s:Sto):KR s (bx3 l s):=by
 intro a s' h
 unfold bx3 at h
 repeat' split at h
 all_goals first|(cases h;exact KP.app _ _;done)|(cases h;done)
theorem bp6 (o k e:D)(s:Sto):KR s (bb6 o k e s):=by
 intro a s' h
 unfold bb6 at h
 repeat' split at h
 all_goals first|(cases h;exact KP.refl _;done)|(cases h;done)
theorem bk0 (o k e:D)(s:Sto):KR s (aO6 o k e s):=by
 intro a s' h
 unfold aO6 at h
 split at h
 .split at h
  .rename_i q
   split at h
   .split at h
    .cases h;exact KP.refl _
    .cases h;exact KP.set q rfl
   .cases h
  .cases h
 .cases h
theorem bt9 (o x:D)(s:Sto):KR s (aZ8 o x s):=by
 intro a s' h
 unfold aZ8 at h
 split at h
 .split at h
  .split at h
   .rename_i q
    split at h
    .split at h
     .cases h;exact KP.set q rfl
     .cases h
    .cases h
   .cases h
  .cases h
 .cases h
theorem be9 (o:D)(s:Sto):KR s (ap3 o s):=by
 intro a s' h
 unfold ap3 at h
 repeat' split at h
 all_goals first|(cases h;exact KP.app _ _;done)|(cases h;done)
theorem aV6 (f:List Nat)(x:D)(s:Sto):KR s (aE9 f x s):=by
 intro a s' h
 unfold aE9 at h
 repeat' split at h
 all_goals first|(cases h;exact KP.refl _;done)|(cases h;done)
theorem bm8 (x:D)(s:Sto):KR s (bC3 x s):=by
 intro a s' h
 unfold bC3 at h
 repeat' split at h
 all_goals first|(cases h;exact KP.refl _;done)|(cases h;done)
theorem aW4 (ok:String->Bool)(f:List Nat)(x v:D)(s:Sto):KR s (aI3 ok f x v s):=by
 intro b s' h
 unfold aI3 at h
 split at h
 .split at h
  .rename_i e
   split at h
   .cases h;exact KP.set e rfl
   .cases h
  .cases h
 .cases h
structure FK (F:Fns):Prop where
 call:∀ f l s,KR s (F.call f l s)
 lam:∀ id cs l s,KR s (F.lam id cs l s)
 xcall:∀ f l s c s',F.xcall f l s=some (c,s')->KP s s'
 mcall:∀ c m l s,KR s (F.mcall c m l s)
 new:∀ c l s,KR s (F.new c l s)
theorem an2 {ok:Sto->Bool}{g:D->Env->Sto->R (Option D×Env)}(hg:∀ d U s,KR s (g d U s)):∀(l:List D) (U:Env) (s:Sto),KR s (ab9 ok g l U s)
 | [],U,s=>KR.if KR.ok KR.bad
 | d::l,U,s=>KR.if (KR.bind (hg d U s) fun p s1=>KR.bind (an2 hg l p.2 s1) fun r s2=>KR.ok) KR.bad
section
variable {F:Fns} (hF:FK F)
theorem bw0 (U:Env)(i:Nat)(s:Sto):KR s (aU2 U i s):=by
 intro a s' h
 unfold aU2 at h
 split at h<;>cases h;exact KP.refl _
include hF
mutual
theorem zf:∀(e:E) (U:Env) (s:Sto),KR s (ev F e U s)
 | .var i,U,s=>bw0 U i s
 | .cst c,U,s=>KR.ok
 | .glob x,U,s=>by
  intro a s' h
  change(match F.con x with|some d=>R.ok d s|none=>.bad)=_ at h
  split at h<;>cases h;exact KP.refl _
 | .bin op a b,U,s=>KR.bind (zf a U s) fun x s=>KR.bind (zf b U s) fun y s=>bc4 op x y s
 | .not a,U,s=>KR.tru (zf a U s) fun b s=>KR.ok
 | .cmp op a b,U,s=>KR.bind (zf a U s) fun x s=>KR.bind (zf b U s) fun y s=>bG7 op x y s
 | .and a b,U,s=>KR.tru (zf a U s) fun c s=>KR.if (KR.tru (zf b U s) fun c s=>KR.ok) KR.ok
 | .or a b,U,s=>KR.tru (zf a U s) fun c s=>KR.if KR.ok (KR.tru (zf b U s) fun c s=>KR.ok)
 | .ite c a b,U,s=>KR.tru (zf c U s) fun k s=>KR.if (zf a U s) (zf b U s)
 | .tup es,U,s=>KR.bind (ai1 es U s) fun l s=>KR.ok
 | .lst es,U,s=>KR.bind (ai1 es U s) fun l s=>KR.al
 | .dic .nil .nil,U,s=>KR.al
 | .dic (.cons k .nil) (.cons v .nil),U,s=>by
  intro a s' h
  obtain⟨kd,s1,e1,h⟩:=R.bind_inv (show(ev F k U (s++[.dic []])).bind _=_ from h)
  obtain⟨B,s2,e2,h⟩:=R.bind_inv h
  split at h
  case isFalse=>cases h
  rename_i hc
  cases h
  exact((KP.app _ _).trans ((zf k U _ _ _ e1).trans (zf v U _ _ _ e2))).trans (KP.set hc.2 rfl)
 | .dic .nil (.cons _ _),U,s=>KR.bad
 | .dic (.cons _ .nil) .nil,U,s=>KR.bad
 | .dic (.cons _ .nil) (.cons _ (.cons _ _)),U,s=>KR.bad
 | .dic (.cons _ (.cons _ _)) _,U,s=>KR.bad
 | .attr o f,U,s=>KR.bind (zf o U s) fun x s=>aV6 f x s
 | .keysL e,U,s=>KR.bind (zf e U s) fun x s=>aS7 x s
 | .srt e,U,s=>KR.bind (zf e U s) fun x s=>KR.bind (bk1 x s) fun q s=>br2 q s
 | .gtd o k d,U,s=>KR.bind (zf o U s) fun x s=>KR.bind (zf k U s) fun y s=>KR.bind (zf d U s) fun z s=>bp6 x y z s
 | .sdf o k d,U,s=>KR.bind (zf o U s) fun x s=>KR.bind (zf k U s) fun y s=>KR.bind (zf d U s) fun z s=>bk0 x y z s
 | .upd o x,U,s=>KR.bind (zf o U s) fun a s=>KR.bind (zf x U s) fun b s=>bt9 a b s
 | .srtD e,U,s=>KR.bind (zf e U s) fun x s=>be9 x s
 | .new c as,U,s=>KR.bind (ae6 as U s) fun l s=>by
  intro a s' h
  obtain⟨d,s1,e1,h⟩:=R.bind_inv h
  split at h<;>cases h
  exact(KP.app _ _).trans (hF.new _ _ _ _ _ e1)
 | .mcall o m as,U,s=>KR.bind (zf o U s) fun x s=>KR.bind (bm8 x s) fun c s=>KR.bind (ae6 as U s) fun l s=>hF.mcall c m _ s
 | .get1 o k,U,s=>KR.bind (zf o U s) fun x s=>KR.bind (zf k U s) fun y s=>ba9 x y s
 | .ix a b,U,s=>KR.bind (zf a U s) fun x s=>KR.bind (zf b U s) fun y s=>bV6 x y s
 | .call f as,U,s=>KR.bind (ae6 as U s) fun l s=>hF.call f l s
 | .bi b es,U,s=>KR.bind (ai1 es U s) fun l s=>bT3 b l s
 | .mk k it,U,s=>KR.bind (bB5 it U s) fun q s=>bQ7 k q s
 | .meth m o es,U,s=>KR.bind (zf o U s) fun x s=>KR.bind (ai1 es U s) fun l s=>bl1 m x l s
theorem ai1:∀(es:Es) (U:Env) (s:Sto),KR s (evs F es U s)
 | .nil,U,s=>KR.ok
 | .cons e es,U,s=>KR.bind (zf e U s) fun d s=>KR.bind (ai1 es U s) fun l s=>KR.ok
theorem ae6:∀(as:As) (U:Env) (s:Sto),KR s (ah5 F as U s)
 | .nil,U,s=>KR.ok
 | .ex e as,U,s=>KR.bind (zf e U s) fun d s=>KR.bind (ae6 as U s) fun l s=>KR.ok
 | .fn f as,U,s=>KR.bind (ae6 as U s) fun l s=>KR.ok
theorem ar0:∀(it:I) (U:Env) (s:Sto),KR s (evI F it U s)
 | .seq e,U,s=>KR.bind (zf e U s) fun d s=>br1 d s
 | .rng1 a,U,s=>KR.bind (zf a U s) fun x s=>by
  cases x with
  | int i=>exact KR.if KR.ok KR.bad
  | _=>exact KR.bad
 | .keys e,U,s=>KR.bind (zf e U s) fun d s=>aU9 d s
theorem bB5:∀(it:L) (U:Env) (s:Sto),KR s (evL F it U s)
 | .comp tg it e caps,U,s=>KR.bind (ar0 it U s) fun q s0=>KR.if (an2 (fun d U s=>by
   intro a s' h
   split at h
   .exact KR.bind (zf e _ s) (fun v s=>KR.ok) _ _ h
   .cases h) _ _ _) KR.bad
 | .compIf tg it c e caps,U,s=>KR.bind (ar0 it U s) fun q s0=>KR.if (an2 (fun d U s=>by
   intro a s' h
   split at h
   .exact KR.tru (zf c _ s) (fun k s=>KR.if (KR.bind (zf e _ s) fun v s=>KR.ok) KR.ok) _ _ h
   .cases h) _ _ _) KR.bad
 | .disp es,U,s=>ai1 es U s
 | .seq e,U,s=>KR.bind (zf e U s) fun d s=>br8 d s
end
theorem ap1 {ok:Sto->Bool}{g:D->Env->Sto->R Ct}(hg:∀ d U s,KR s (g d U s)):∀(l:List D) (U:Env) (s:Sto),KR s (av7 ok g l U s)
 | [],U,s=>KR.if KR.ok KR.bad
 | d::l,U,s=>KR.if (KR.bind (hg d U s) fun c s=>by
   cases c with
   | next U=>exact ap1 hg l U s
   | cont U=>exact ap1 hg l U s
   | brk U=>exact KR.ok
   | ret d=>exact KR.ok) KR.bad
theorem aw1 {c:Env->Sto->R D}{g:Env->Sto->R Ct}(hc:∀ U s,KR s (c U s))(hg:∀ U s,KR s (g U s)):∀(n:Nat) (U:Env) (s:Sto),KR s (qD c g n U s)
 | 0,U,s=>KR.bad
 | n+1,U,s=>KR.tru (hc U s) fun b s=>KR.if (KR.bind (hg U s) fun h s=>by
   cases h with
   | next U=>exact aw1 hc hg n U s
   | cont U=>exact aw1 hc hg n U s
   | brk U=>exact KR.ok
   | ret d=>exact KR.ok) KR.ok
mutual
theorem bM7:∀(st:S) (U:Env) (s:Sto),KR s (ex F st U s)
 | .asg tg e,U,s=>KR.bind (zf hF e U s) fun d s=>by
  intro a s' h
  split at h<;>cases h;exact KP.refl _
 | .setIx o i e,U,s=>KR.bind (zf hF e U s) fun d s=>KR.bind (zf hF o U s) fun x s=>KR.bind (zf hF i U s) fun y s=>KR.bind (aY2 x y d s) fun _ s=>KR.ok
 | .ex e,U,s=>KR.bind (zf hF e U s) fun d s=>KR.ok
 | .ret e,U,s=>KR.bind (zf hF e U s) fun d s=>KR.ok
 | .ite c a b,U,s=>KR.tru (zf hF c U s) fun k s=>KR.if (ab7 a U s) (ab7 b U s)
 | .setA o f e,U,s=>KR.bind (zf hF e U s) fun d s=>KR.bind (zf hF o U s) fun x s=>KR.bind (aW4 _ f x d s) fun _ s=>KR.ok
 | .forK tg e b,U,s=>KR.bind (ar0 hF (.keys e) U s) fun q s0=>KR.if (KR.bind (ap1 hF (fun d U s=>by
   intro a s' h
   split at h
   .exact ab7 b _ _ _ _ h
   .cases h) _ _ _) fun c s=>aV1 _ c s) KR.bad
 | .whl c b,U,s=>by
  intro r s' h
  change whl (ev F c) (exs F b) U s=_ at h
  unfold whl at h
  split at h
  .exact aw1 hF (fun U s=>zf hF c U s) (fun U s=>ab7 b U s) _ U s _ _ h
  .cases h
 | .for_ tg it b,U,s=>KR.bind (ar0 hF it U s) fun q s0=>ap1 hF (fun d U s=>by
   intro a s' h
   split at h
   .exact ab7 b _ _ _ _ h
   .cases h) _ _ _
theorem ab7:∀(h:Ss) (U:Env) (s:Sto),KR s (exs F h U s)
 | .nil,U,s=>KR.ok
 | .cons st h,U,s=>KR.bind (bM7 st U s) fun c s=>by
  cases c with
  | next U=>exact ab7 h U s
  | _=>exact KR.ok
end
end
theorem zt {s st:Sto}{d:D}(h:KP s st):KR s (zn s d st):=by
 have tk:∀ t,KP s (st.take s.length++t):=fun t i o e=>by
  obtain⟨B,e',k⟩:=h i o e
  have z:=(ac.mp e).1
  have hi':=(ac.mp e').1
  refine⟨B,?_,k⟩
  rw[aR (by rw[bK];lia),cN,if_pos z];exact e'
 have y:KP s (st.take s.length):=by have:=tk [];rwa [bt]at this
 intro a s' e
 unfold zn at e
 repeat' split at e
 all_goals first|(cases e;exact y;done)|(cases e;exact tk _;done)|(cases e;exact h;done)|(cases e;done)
theorem ao4 {ok:Sto->Bool}{g:D->Env->Sto->R Ct}{y:D->Env->Sto->Option (String×Sto)}(hg:∀ d U s,KR s (g d U s))(hx:∀ d U s c s',y d U s=some (c,s')->KP s s'):∀(l:List D) (U:Env) (s:Sto) (c:String) (s':Sto),aE2 ok g y l U s=some (c,s')->KP s s'
 | [],U,s,c,s',h=>by cases h
 | d::l,U,s,c,s',h=>by
  unfold aE2 at h
  split at h
  .split at h
   .rename_i e;exact(hg d U s _ _ e).trans (ao4 hg hx l _ _ _ _ h)
   .rename_i e;exact(hg d U s _ _ e).trans (ao4 hg hx l _ _ _ _ h)
   .cases h
   .exact hx _ _ _ _ _ h
  .cases h
theorem ao1 {t:Env->Sto->R D}{g:Env->Sto->R Ct}{z:Env->Sto->Option (String×Sto)}(y:∀ U s,KR s (t U s))(hg:∀ U s,KR s (g U s))(hx:∀ U s c s',z U s=some (c,s')->KP s s'):∀(n:Nat) (U:Env) (s:Sto) (c:String) (s':Sto),aF2 t g z n U s=some (c,s')->KP s s'
 | 0,U,s,c,s',h=>by cases h
 | n+1,U,s,c,s',h=>by
  unfold aF2 at h
  split at h
  .rename_i s1 e1
   have k:=y U s _ _ e1
   split at h
   .rename_i e;exact k.trans ((hg U s1 _ _ e).trans (ao1 y hg hx n _ _ _ _ h))
   .rename_i e;exact k.trans ((hg U s1 _ _ e).trans (ao1 y hg hx n _ _ _ _ h))
   .cases h
   .exact k.trans (hx _ _ _ _ h)
  .cases h
theorem ag7 {F:Fns}(y:FK F):∀(b:XB) (U:Env) (s:Sto) (c:String) (s':Sto),xB F b U s=some (c,s')->KP s s'
 | .no,U,s,c,s',h=>by cases h
 | .alt a b,U,s,c,s',h=>by
  change(match xB F a U s with|some r=>some r|none=>xB F b U s)=_ at h
  split at h
  .rename_i r e
   cases h
   exact ag7 y a _ _ _ _ e
  .exact ag7 y b _ _ _ _ h
 | .rais d,U,s,c,s',h=>by
  change(if F.xc d=true then some (d,s)else none)=_ at h
  split at h
  .cases h;exact KP.refl _
  .cases h
 | .call f as,U,s,c,s',h=>by
  change(match ah5 F as U s with|.ok l s1=>F.xcall f l s1|_=>none)=_ at h
  split at h
  .rename_i l s1 e;exact(ae6 y as U s _ _ e).trans (y.xcall _ _ _ _ _ h)
  .cases h
 | .iteT d a r,U,s,c,s',h=>by
  change(match ev F d U s with|.ok (.bl b) s1=>if b then xB F a U s1 else xB F r U s1|_=>none)=_ at h
  split at h
  .rename_i b s1 e
   have k:=zf y d U s _ _ e
   split at h
   .exact k.trans (ag7 y a _ _ _ _ h)
   .exact k.trans (ag7 y r _ _ _ _ h)
  .cases h
 | .seq st b,U,s,c,s',h=>by
  change(match ex F st U s with|.ok (.next U1) s1=>xB F b U1 s1|_=>none)=_ at h
  split at h
  .rename_i U1 s1 e;exact(bM7 y st U s _ _ e).trans (ag7 y b _ _ _ _ h)
  .cases h
 | .iteE d a r,U,s,c,s',h=>by
  change(match ev F d U s with|.ok (.bl b) s1=>if b then xB F a U s1 else xB F r U s1|_=>none)=_ at h
  split at h
  .rename_i b s1 e
   have k:=zf y d U s _ _ e
   split at h
   .exact k.trans (ag7 y a _ _ _ _ h)
   .exact k.trans (ag7 y r _ _ _ _ h)
  .cases h
 | .forX tg it b x,U,s,c,s',h=>by
  change(match evI F it U s with
   | .ok q s0=>aE2 (fun s=>chk s0 s q.src) (fun d U s=>match qC U tg d with
    | some U=>exs F b U s
    | none=>.bad) (fun d U s=>match qC U tg d with
    | some U=>xB F x U s
    | none=>none) q.its U s0
   | _=>none)=_ at h
  split at h
  .rename_i q s0 e
   refine(ar0 y it U s _ _ e).trans (ao4 ?_ ?_ _ _ _ _ _ h)
   .intro d U s
    split
    .exact ab7 y _ _ _
    .exact KR.bad
   .intro d U s c s' h
    split at h
    .exact ag7 y x _ _ _ _ h
    .cases h
  .cases h
 | .whlX d b x,U,s,c,s',h=>by
  change whlX (ev F d) (exs F b) (xB F x) U s=_ at h
  unfold whlX at h
  split at h
  .exact ao1 (zf y d) (ab7 y b) (fun U s c s' h=>ag7 y x _ _ _ _ h) _ _ _ _ _ h
  .cases h
theorem bE8 {h:Hd}{c:String}{s st:Sto}(k:KP s st):KR s (h.out c s st):=by
 unfold Hd.out
 split
 .exact zt (k.trans (KP.app _ _))
 .split
  .exact zt (k.trans (KP.app _ _))
  .exact zt k
  .exact zt k
theorem aU8 {F:Fns}(y:FK F)(d:Tf){s s0:Sto}(k0:KP s s0)(U0:Env):KR s (bo9 F d s U0 s0):=by
 intro a s' h
 unfold bo9 at h
 split at h
 .rename_i c s1 e
  have k:=k0.trans (ag7 y _ _ _ _ _ e)
  split at h
  .exact bE8 k _ _ h
  .cases h
 .obtain⟨c,s1,e1,h⟩:=R.bind_inv h
  have k1:=k0.trans (ab7 y _ _ _ _ _ e1)
  cases c with
  | ret v=>exact zt k1 _ _ h
  | next U =>
   obtain⟨c,s2,e2,h⟩:=R.bind_inv h
   have k2:=k1.trans (ab7 y _ _ _ _ _ e2)
   cases c with
   | ret v=>exact zt k2 _ _ h
   | next U=>exact zt k2 _ _ h
   | _=>cases h
  | _=>cases h
theorem bm0 {F:Fns}(y:FK F)(d:Tf)(l:List D)(s:Sto):KR s (bP7 F d l s):=by
 intro a s' h
 unfold bP7 at h
 split at h
 .rename_i U0 s0 e
  exact aU8 y d (ab7 y _ _ _ _ _ e) U0 _ _ h
 .cases h
theorem qm (P:Pr):∀ n,FK (aa1 P n)
 | 0=>⟨fun _ _ _=>KR.bad,fun _ _ _ _=>KR.bad,fun _ _ _ _ _ h=>(by cases h),fun _ _ _ _=>KR.bad,fun _ _ _=>KR.bad⟩
 | n+1=>by
  refine⟨fun f l s=>?_,fun id cs l s=>?_,fun f l s c s' h=>?_,fun c m l s=>?_,fun c l s=>(qm P n).mcall c _ l s⟩
  .intro a s' h
   unfold aa1 at h
   simp only at h
   split at h
   case h_2 =>
    split at h
    case h_2=>cases h
    split at h
    case isFalse=>cases h
    exact bm0 (qm P n) _ _ _ _ _ h
   split at h
   case isFalse=>cases h
   obtain⟨c,s1,e1,h⟩:=R.bind_inv h
   have k1:=ab7 (qm P n) _ _ _ _ _ e1
   cases c with
   | ret v=>exact zt k1 _ _ h
   | next U=>exact zt k1 _ _ h
   | _=>cases h
  .intro a s' h
   unfold aa1 at h
   simp only at h
   split at h
   case h_2=>cases h
   split at h
   case isFalse=>cases h
   obtain⟨v,s1,e1,h⟩:=R.bind_inv h
   exact zt (zf (qm P n) _ _ _ _ _ e1) _ _ h
  .unfold aa1 at h
   simp only at h
   split at h
   case h_2=>cases h
   split at h
   case isFalse=>cases h
   exact ag7 (qm P n) _ _ _ _ _ h
  .intro a s' h
   unfold aa1 at h
   simp only at h
   split at h
   case h_2=>cases h
   unfold aY4 at h
   split at h
   case isFalse=>cases h
   obtain⟨c,s1,e1,h⟩:=R.bind_inv h
   have k1:=ab7 (qm P n) _ _ _ _ _ e1
   cases c with
   | ret v=>exact zt k1 _ _ h
   | next U=>exact zt k1 _ _ h
   | _=>cases h
end DV
end
open DV renaming Sto->kQ,D->kR,Env->kT,R->kW,ev->kX,LIM->kZ,aa1->k6,eqv->k7,Fns->k8,look->k9,tru->lf,ac7->lh,DEEP->li,Pr->lj,eqL->ln,rep->lp,kd->lq,O->ls,ab5->lu,Es->lv,evs->lw,zN->lx,qC->ly,chk->lA,Tg->lB,Ct->lC,ah5->lD,aL3->lE,Bi->lF,aI7->lG,ab4->lH,inL->lI,ixn->lJ,ab3->lK,E->lL,aY4->lM,Sq->lN,As->lO,Df->lP,M->lQ,ax1->lR,aA3->lS,ab9->lT,aX9->lU,ak1->lV,ag5->lW,av7->lZ,meth->md,am3->mf,ins->mh,bi->ml,qz->mq,Mk->mr,Mt->mw,mk->my,zf->mz,aR7->mB,COp->mD,inM->mF,bi1->mG,ab6->mH,BOp->mJ,pur->mK,ac2->mM,isK->mO,Ww62->mP,aq0->mQ,ao2->mR,bO8->mU,bx5->mV,evI->mW,aE9->mY,aI3->mZ,am6->m7,bx3->m8,ap3->m9,an4->ng
open DV.D renaming bndL->kS,bnd->kY,hdI->lz
open DV.O renaming bnd->kU
noncomputable section
namespace L2
theorem fb {α:Type}{d:α}{s:kQ}{p:Prop}(h:(DV.R.bad:kW α)=.ok d s):p:=nomatch h
open PySem PySem.Spec PyProof.Rows
structure LamI where
 qual:Str
 params:eO
 body:Expr
 scope:Scope
 ps:List Str
 fr:List Str
 nm:Option (Str×Pos)
def as7 (H:Hp)(f:Addr)(J:LamI)(cap:List V)(clos:yB):Prop:=match J.nm with
 | none=>aJ2 H f J.qual J.params J.body J.scope J.fr cap clos
 | some p=>as0 H f p.1 J.qual J.params [.Return (some J.body) p.2] J.scope J.fr cap clos
def aq6 (H:Hp)(f:Addr)(J:LamI)(clos:yB):Prop:=match J.nm with
 | none=>∃ pm c' ctv,H f=some (bx8 f (jY "<lambda>" J.qual J.params J.body J.scope clos pm (.ref c') ctv))/\H c'=some (aF9 c' J.qual)
 | some p=>∃ doc pm c' ctv,H f=some (bx8 f (kI p.1 J.qual J.params [.Return (some J.body) p.2] J.scope clos .none .none doc pm none (.ref c') ctv))/\H c'=some (aF9 c' J.qual)
structure Gm where
 K:af
 fa:String->Option Addr
 lg:String->LamI->Prop
 T:List (Addr×Str)
 cls:String->Option Addr
variable (Γ:Gm)
mutual
noncomputable def RV (C:Nat->Addr)(H:Hp):kR->V->Prop
 | .non,v=>v=.non
 | .bl b,v=>v=.bl b
 | .int i,v=>v=.int i
 | .str x,v=>v=.str ⟨x.toArray⟩/\x.length<=kZ
 | .tup l,v=>∃ a xs,v=.ref a/\(SqT Γ.K H a xs/\(lz l=true->H a=some (.tup xs)))/\RVL C H l xs
 | .ref n,v=>v=.ref (C n)
 | .fn f,v=>∃ a,Γ.fa f=some a/\v=.ref a
 | .clo id cs,v=>∃ f cap J clos,v=.ref f/\Γ.lg id J/\as7 H f J cap clos/\cap.length=J.fr.length/\RVL C H cs cap
noncomputable def RVL (C:Nat->Addr)(H:Hp):List kR->List V->Prop
 | [],xs=>xs=[]
 | d::l,xs=>∃ x r,xs=x::r/\RV C H d x/\RVL C H l r
end
noncomputable def bL4:HO->Bool
 | .tup _=>true
 | .frz _ (.dK _)=>false
 | .frz _ _=>true
 | .ext _=>true
 | _=>false
def Kp (H H':Hp):Prop:=∀ b o,H b=some o->bL4 o=true->H' b=some o
theorem Kp.refl (H:Hp):Kp H H:=fun _ _ h _=>h
theorem Kp.trans {H z y:Hp}(a:Kp H z)(b:Kp z y):Kp H y:=fun c o h f=>b c o (a c o h f) f
theorem Kp.new {H y:Hp}{p:Addr}{o:HO}(a:Kp H y)(h:y p=none):Kp H (upd y p o):=fun c u e f=>by
 have e1:=a c u e f
 rw[zb (zo e1 h)];exact e1
theorem Kp.put {H y:Hp}{p:Addr}{o u:HO}(a:Kp H y)(h:y p=some u)(hu:bL4 u=false):Kp H (upd y p o):=fun c v e f=>by
 have e1:=a c v e f
 rw[zb (fun z=>by subst z;rw[h]at e1;cases e1;rw[hu]at f;cases f)];exact e1
theorem Kp.sqT {K:af}{H H':Hp}{a:Addr}{y:List V}(e:Kp H H')(h:SqT K H a y):SqT K H' a y:=by
 rcases h with(h|⟨o,h⟩)|h
 .exact .inl (.inl (e _ _ h rfl))
 .exact .inl (.inr ⟨o,e _ _ h rfl⟩)
 .exact .inr h
theorem aJ2.kp {H H':Hp}{f:Addr}{qual:Str}{params:eO}{body:Expr}{scope:Scope}{fr:yH}{cap:List V}{y:yB}(h:aJ2 H f qual params body scope fr cap y)(e:Kp H H'):aJ2 H' f qual params body scope fr cap y:=by
 obtain⟨pm,c',B,h1,Z,h3,h4,J,G⟩:=h
 refine⟨pm,c',B,e _ _ h1 rfl,e _ _ Z rfl,fun x c q=>?_,h4,J,fun i x v a b=>?_⟩
 .obtain⟨o,v,z,d⟩:=h3 x c q
  exact⟨o,v,e _ _ z rfl,d⟩
 .obtain⟨c,o,u,z1,z2,z3⟩:=G i x v a b
  exact⟨c,o,u,z1,e _ _ z2 rfl,z3⟩
theorem as0.kp {H H':Hp}{f:Addr}{name qual:Str}{params:eO}{body:yL}{scope:Scope}{fr:yH}{cap:List V}{y:yB}(h:as0 H f name qual params body scope fr cap y)(e:Kp H H'):as0 H' f name qual params body scope fr cap y:=by
 obtain⟨B,pm,c',G,h1,h2,h3,h4,Z,J⟩:=h
 refine⟨B,pm,c',G,e _ _ h1 rfl,e _ _ h2 rfl,fun x c q=>?_,h4,Z,fun i x v a b=>?_⟩
 .obtain⟨o,v,z,d⟩:=h3 x c q
  exact⟨o,v,e _ _ z rfl,d⟩
 .obtain⟨c,o,u,z1,z2,z3⟩:=J i x v a b
  exact⟨c,o,u,z1,e _ _ z2 rfl,z3⟩
theorem as7.kp {H H':Hp}{f:Addr}{J:LamI}{cap:List V}{y:yB}(h:as7 H f J cap y)(e:Kp H H'):as7 H' f J cap y:=by
 unfold as7 at h ⊢
 cases q:J.nm with
 | none=>rw[q]at h;exact aJ2.kp h e
 | some p=>rw[q]at h;exact as0.kp h e
theorem aq6.kp {H H':Hp}{f:Addr}{J:LamI}{y:yB}(h:aq6 H f J y)(e:Kp H H'):aq6 H' f J y:=by
 unfold aq6 at h ⊢
 cases q:J.nm with
 | none =>
  rw[q]at h
  obtain⟨pm,Z,z,h1,G⟩:=h
  exact⟨pm,Z,z,e _ _ h1 rfl,e _ _ G rfl⟩
 | some p =>
  rw[q]at h
  obtain⟨B,pm,Z,z,h1,G⟩:=h
  exact⟨B,pm,Z,z,e _ _ h1 rfl,e _ _ G rfl⟩
theorem as7.fn {K:af}{H:Hp}{f:Addr}{J:LamI}{cap:List V}{y:yB}(h:as7 H f J cap y):bO0 K H f:=by
 unfold as7 at h
 cases q:J.nm with
 | none=>rw[q]at h;obtain⟨Z,G,z,B,_⟩:=h;exact .inl ⟨_,B⟩
 | some p=>rw[q]at h;exact as0.fn h
structure Gw (C:Nat->Addr)(n:Nat)(H:Hp)(C':Nat->Addr)(H':Hp):Prop where
 map:∀ i,i<n->C' i=C i
 kp:Kp H H'
variable {Γ:Gm}
mutual
theorem RV.monoW {C C':Nat->Addr}{n:Nat}{H H':Hp}(g:Gw C n H C' H'):∀(d:kR) (v:V),d.bnd n=true->RV Γ C H d v->RV Γ C' H' d v
 | .non,_,_,h=>by unfold RV at h ⊢;exact h
 | .bl _,_,_,h=>by unfold RV at h ⊢;exact h
 | .int _,_,_,h=>by unfold RV at h ⊢;exact h
 | .str _,_,_,h=>by unfold RV at h ⊢;exact h
 | .tup l,_,b,h=>by
  unfold RV at h ⊢
  unfold kY at b
  obtain⟨a,B,e,q,r⟩:=h
  exact⟨a,B,e,⟨g.kp.sqT q.1,fun z=>g.kp _ _ (q.2 z) rfl⟩,RVL.monoW g l B b r⟩
 | .ref k,_,b,h=>by
  unfold RV at h ⊢
  unfold kY at b
  rw[g.map k (of_decide_eq_true b)];exact h
 | .fn _,_,_,h=>by unfold RV at h ⊢;exact h
 | .clo id cs,_,b,h=>by
  unfold RV at h ⊢
  unfold kY at b
  obtain⟨f,cap,J,y,e,h1,G,h3,Z⟩:=h
  exact⟨f,cap,J,y,e,h1,G.kp g.kp,h3,RVL.monoW g cs cap b Z⟩
theorem RVL.monoW {C C':Nat->Addr}{n:Nat}{H H':Hp}(g:Gw C n H C' H'):∀(l:List kR) (y:List V),kS n l=true->RVL Γ C H l y->RVL Γ C' H' l y
 | [],_,_,h=>by unfold RVL at h ⊢;exact h
 | d::l,_,b,h=>by
  unfold RVL at h ⊢
  unfold kS at b
  rw[ai]at b
  obtain⟨x,r,e,q,t⟩:=h
  exact⟨x,r,e,RV.monoW g d x b.1 q,RVL.monoW g l r b.2 t⟩
end
mutual
theorem zg {n m:Nat}(h:n<=m):∀ d:kR,d.bnd n=true->d.bnd m=true
 | .non,_=>rfl
 | .bl _,_=>rfl
 | .int _,_=>rfl
 | .str _,_=>rfl
 | .tup l,b=>by unfold kY at b ⊢;exact aa3 h l b
 | .ref k,b=>by unfold kY at b ⊢;exact decide_eq_true (aA (of_decide_eq_true b) h)
 | .fn _,_=>rfl
 | .clo _ l,b=>by unfold kY at b ⊢;exact aa3 h l b
theorem aa3 {n m:Nat}(h:n<=m):∀ l:List kR,kS n l=true->kS m l=true
 | [],_=>rfl
 | d::l,b=>by
  unfold kS at b ⊢
  rw[ai]at b ⊢
  exact⟨zg h d b.1,aa3 h l b.2⟩
end
theorem aa2 {n:Nat}:∀ {l:List kR},kS n l=true↔∀ d∈l,d.bnd n=true
 | []=>by unfold kS;simp
 | d::l=>by
  unfold kS
  rw[ai,aa2 (l:=l)]
  simp
theorem zJ {n:Nat}{l m:List kR}(h:kS n l=true)(h':kS n m=true):kS n (l++m)=true :=
 aa2.mpr fun d hd=>(aN.mp hd).elim (aa2.mp h d) (aa2.mp h' d)
theorem aV0 {n:Nat}{l m:List kR}(h:kS n l=true)(s:∀ d∈m,d∈l):kS n m=true:=aa2.mpr fun d hd=>aa2.mp h d (s d hd)
theorem an8 {n:Nat}{l:List kR}{i:Nat}{d:kR}(h:kS n l=true)(e:l[i]?=some d):d.bnd n=true:=aa2.mp h d (aG e)
section
variable {C:Nat->Addr} {H:Hp}
theorem RVL.nil:RVL Γ C H [] []:=by unfold RVL;rfl
theorem RVL.cons {d:kR}{l:List kR}{x:V}{h:List V}(a:RV Γ C H d x)(b:RVL Γ C H l h):RVL Γ C H (d::l) (x::h):=by unfold RVL;exact⟨x,h,rfl,a,b⟩
theorem RVL.unnil {y:List V}(h:RVL Γ C H [] y):y=[]:=by unfold RVL at h;exact h
theorem RVL.uncons {d:kR}{l:List kR}{y:List V}(h:RVL Γ C H (d::l) y):∃ x r,y=x::r/\RV Γ C H d x/\RVL Γ C H l r:=by unfold RVL at h;exact h
theorem RVL.length:∀ {l:List kR} {y:List V},RVL Γ C H l y->y.length=l.length
 | [],_,h=>by rw[h.unnil];rfl
 | d::l,_,h=>by
  obtain⟨x,r,rfl,_,t⟩:=h.uncons
  rw[aI,aI,RVL.length t]
theorem RVL.get:∀ {l:List kR} {z:List V} {i:Nat} {d:kR},RVL Γ C H l z->l[i]?=some d->∃ x,z[i]?=some x/\RV Γ C H d x
 | [],_,_,_,_,e=>by simp at e
 | d::l,_,0,d',h,e=>by
  obtain⟨x,r,rfl,q,t⟩:=h.uncons
  have e':d=d':=by simpa using e
  subst e'
  exact⟨x,rfl,q⟩
 | d::l,_,i+1,_,h,e=>by
  obtain⟨x,r,rfl,q,t⟩:=h.uncons
  obtain⟨y,e1,e2⟩:=RVL.get (i:=i) t (by simpa using e)
  exact⟨y,by simpa using e1,e2⟩
theorem RVL.append:∀ {l m:List kR} {y ys:List V},RVL Γ C H l y->RVL Γ C H m ys->RVL Γ C H (l++m) (y++ys)
 | [],_,_,_,h,h'=>by rw[h.unnil];exact h'
 | d::l,_,_,_,h,h'=>by
  obtain⟨x,r,rfl,q,t⟩:=h.uncons
  exact .cons q (RVL.append t h')
theorem RVL.drop:∀ {l:List kR} {y:List V} (n:Nat),RVL Γ C H l y->RVL Γ C H (l.drop n) (y.drop n)
 | _,_,0,h=>h
 | [],_,n+1,h=>by rw[h.unnil];exact .nil
 | d::l,_,n+1,h=>by
  obtain⟨x,r,rfl,q,t⟩:=h.uncons
  exact RVL.drop n t
theorem RVL.take:∀ {l:List kR} {y:List V} (n:Nat),RVL Γ C H l y->RVL Γ C H (l.take n) (y.take n)
 | _,_,0,h=>.nil
 | [],_,n+1,h=>by rw[h.unnil];exact .nil
 | d::l,_,n+1,h=>by
  obtain⟨x,r,rfl,q,t⟩:=h.uncons
  exact .cons q (RVL.take n t)
theorem RVL.set:∀ {l:List kR} {y:List V} {d:kR} {x:V} (i:Nat),RVL Γ C H l y->RV Γ C H d x->RVL Γ C H (l.set i d) (y.set i x)
 | [],_,_,_,_,h,_=>by rw[h.unnil];exact .nil
 | d::l,_,_,_,0,h,q=>by
  obtain⟨x,r,rfl,_,t⟩:=h.uncons
  exact .cons q t
 | d::l,_,_,_,i+1,h,q=>by
  obtain⟨x,r,rfl,z,t⟩:=h.uncons
  exact .cons z (RVL.set i t q)
theorem RVL.reverse:∀ {l:List kR} {y:List V},RVL Γ C H l y->RVL Γ C H l.reverse y.reverse
 | [],_,h=>by rw[h.unnil];exact .nil
 | d::l,_,h=>by
  obtain⟨x,r,rfl,q,t⟩:=h.uncons
  rw[et,et]
  exact(RVL.reverse t).append (.cons q .nil)
theorem RV.intE {i:Int}{v:V}(h:RV Γ C H (.int i) v):v=.int i:=by unfold RV at h;exact h
theorem RV.blE {i:Bool}{v:V}(h:RV Γ C H (.bl i) v):v=.bl i:=by unfold RV at h;exact h
theorem RV.nonE {v:V}(h:RV Γ C H .non v):v=.non:=by unfold RV at h;exact h
theorem RV.strE {x:List Nat}{v:V}(h:RV Γ C H (.str x) v):v=.str ⟨x.toArray⟩:=by unfold RV at h;exact h.1
theorem RV.strL {x:List Nat}{v:V}(h:RV Γ C H (.str x) v):x.length<=kZ:=by unfold RV at h;exact h.2
theorem RV.tupE {l:List kR}{v:V}(h:RV Γ C H (.tup l) v):∃ a y,v=.ref a/\SqT Γ.K H a y/\RVL Γ C H l y:=by unfold RV at h;obtain⟨a,y,e,q,r⟩:=h;exact⟨a,y,e,q.1,r⟩
theorem RV.tupZ {l:List kR}{v:V}(h:RV Γ C H (.tup l) v):∃ a y,(v=.ref a/\(lz l=true->H a=some (.tup y)))/\SqT Γ.K H a y/\RVL Γ C H l y:=by unfold RV at h;obtain⟨a,y,e,q,r⟩:=h;exact⟨a,y,⟨e,q.2⟩,q.1,r⟩
theorem RVL.tonil {l:List kR}(h:RVL Γ C H l []):l=[]:=ee.mp h.length.symm
theorem RV.refE {n:Nat}{v:V}(h:RV Γ C H (.ref n) v):v=.ref (C n):=by unfold RV at h;exact h
theorem RV.intI {i:Int}:RV Γ C H (.int i) (.int i):=by unfold RV;rfl
theorem RV.blI {i:Bool}:RV Γ C H (.bl i) (.bl i):=by unfold RV;rfl
theorem RV.nonI:RV Γ C H .non .non:=by unfold RV;rfl
theorem RV.strI {x:List Nat}(h:x.length<=kZ):RV Γ C H (.str x) (.str ⟨x.toArray⟩):=by unfold RV;exact⟨rfl,h⟩
theorem RV.tupI {l:List kR}{a:Addr}{y:List V}(h:H a=some (.tup y))(q:RVL Γ C H l y):RV Γ C H (.tup l) (.ref a):=by unfold RV;exact⟨a,y,rfl,⟨SqT.of h,fun _=>h⟩,q⟩
theorem RV.tupC {l:List kR}{a:Addr}{y:List V}(h:SqT Γ.K H a y)(z:lz l=true->H a=some (.tup y))(q:RVL Γ C H l y):RV Γ C H (.tup l) (.ref a):=by unfold RV;exact⟨a,y,rfl,⟨h,z⟩,q⟩
theorem RV.refI {n:Nat}:RV Γ C H (.ref n) (.ref (C n)):=by unfold RV;rfl
end
theorem bt3 {n:Nat}{l:List kR}(h:lz (lG n l)=true):lz l=true:=by
 cases n with
 | zero=>cases h
 | succ n =>
  cases l with
  | nil => 
   have:∀ k,lG k ([]:List kR)=[]:=fun k=>by
    induction k with
    | zero=>rfl
    | succ k ih=>show[]++lG k []=[];rw[ih];rfl
   rw[this]at h;cases h
  | cons a l =>
   have e:lG (n+1) (a::l)=a::(l++lG n (a::l)):=rfl
   rw[e]at h
   cases a with
   | int _=>rfl
   | non=>rfl
   | tup _=>rfl
   | _=>cases h
def SqF (K:af)(H:Hp)(a:Addr)(xs:List V):Prop:=SqL K H a xs/\∀ H',Kp H H'->SqL K H' a xs
noncomputable def qv:kR->Option Key
 | .int i=>some (.inl i)
 | .str x=>some (.inr ⟨x.toArray⟩)
 | _=>none
noncomputable def RVD {κ:Type}(kf:kR->Option κ)(Γ:Gm)(C:Nat->Addr)(H:Hp):List (kR×kR)->List (κ×V)->Prop
 | [],kvs=>kvs=[]
 | (d,e)::l,kvs=>∃ k v r,kvs=(k,v)::r/\kf d=some k/\RV Γ C H e v/\RVD kf Γ C H l r
noncomputable def bA1:kR->Option Str
 | .str x=>some ⟨x.toArray⟩
 | _=>none
variable (Γ)
noncomputable def RO (C:Nat->Addr)(H:Hp)(a:Addr):ls->Prop
 | .lst l=>∃ xs,H a=some (.lst xs)/\RVL Γ C H l xs
 | .ro l=>∃ xs,SqF Γ.K H a xs/\RVL Γ C H l xs
 | .dic l=>∃ kvs,H a=some (.dK kvs)/\RVD qv Γ C H l kvs
 | .dicF l=>∃ o kvs,H a=some (.frz o (.dK kvs))/\RVD qv Γ C H l kvs
 | .ins c l=>∃ Cc dx gs,(Γ.cls c=some Cc/\Cls Γ.K Cc)/\(∀ p∈gs,NoAttr Γ.K Cc p.1)/\H a=some (.ins Cc dx gs)/\RVD bA1 Γ C H l gs
noncomputable abbrev okd:ls->Nat:=DV.O.kd
noncomputable def isMut:ls->Bool
 | .ro _=>false
 | _=>true
structure Rp (C:Nat->Addr)(H:Hp)(s:kQ):Prop where
 inj:∀(i j:Nat) (o o':ls),s[i]?=some o->s[j]?=some o'->isMut o=true->isMut o'=true->C i=C j->i=j
 obj:∀(i:Nat) (o:ls),s[i]?=some o->RO Γ C H (C i) o
 wf:∀(i:Nat) (o:ls),s[i]?=some o->o.bnd s.length=true
 tab:TabsH Γ.T H
structure RE (C:Nat->Addr)(H:Hp)(n:Nat)(U:kT)(W:St):Prop where
 len:U.length=W.length
 val:∀(i:Nat) (d:kR),U[i]?=some (some d)->d.bnd n=true/\∃ v,W[i]?=some (some v)/\RV Γ C H d v
structure Gr (C:Nat->Addr)(s:kQ)(H:Hp)(C':Nat->Addr)(s':kQ)(H':Hp):Prop where
 w:Gw C s.length H C' H'
 le:s.length<=s'.length
 new:∀ i:Nat,s.length<=i->i<s'.length->H (C' i)=none
 kd:∀(i:Nat) (o o':ls),s[i]?=some o->s'[i]?=some o'->okd o'=okd o
 st:∀ b,H b≠none->H' b≠none
 fz:∀ b o kvs,H b=some (.frz o (.dK kvs))->H' b=some (.frz o (.dK kvs))
 fr:∀ b o,H b=some o->(∀ ps,o≠.tbl ps)->(∀(i:Nat) (ob:ls),s[i]?=some ob->isMut ob=true->C i≠b)->H' b=some o
variable {Γ}
theorem bw1 {o y:ls}(h:okd y=okd o)(m:isMut y=true):isMut o=true:=by
 cases o with
 | ro _=>cases y with
  | ro _=>cases m
  | _=>cases h
 | _=>rfl
theorem Gr.mu {C C':Nat->Addr}{s s':kQ}{H H':Hp}(g:Gr C s H C' s' H')(i:Nat)(o h:ls)(e:s[i]?=some o)(e':s'[i]?=some h)(m:isMut h=true):isMut o=true:=bw1 (g.kd i o h e e') m
theorem Gr.refl (C:Nat->Addr)(s:kQ)(H:Hp):Gr C s H C s H:=⟨⟨fun _ _=>rfl,Kp.refl H⟩,ah _,fun i B y=>absurd y (by lia),fun i o z e e'=>by rw[e]at e';cases e';rfl,fun _ h=>h,fun _ _ _ h=>h,fun _ _ h _ _=>h⟩
theorem Gr.trans {C C1 C2:Nat->Addr}{s s1 s2:kQ}{H H1 J:Hp}(a:Gr C s H C1 s1 H1)(b:Gr C1 s1 H1 C2 s2 J)(_h:s.length<=s1.length):Gr C s H C2 s2 J:=by
 refine⟨⟨fun i y=>(b.w.map i (aA y a.le)).trans (a.w.map i y),a.w.kp.trans b.w.kp⟩,aj a.le b.le,fun i h1 h2=>?_,fun i o o' e e'=>?_,fun c h=>b.st c (a.st c h),fun c o kvs h=>b.fz c o kvs (a.fz c o kvs h),fun c o h nt ne=>?_⟩
 .by_cases y:i<s1.length
  .rw[b.w.map i y];exact a.new i h1 y
  .have e:=b.new i (by lia) h2
   cases q:H (C2 i)with
   | none=>rfl
   | some o=>exact absurd e (a.st _ (by rw[q];simp))
 .have hl:i<s1.length:=aA (ac.mp e).1 a.le
  obtain⟨B,e1⟩:∃ B,s1[i]?=some B:=⟨s1[i],ag hl⟩
  exact(b.kd i B o' e1 e').trans (a.kd i o B e e1)
 .refine b.fr c o (a.fr c o h nt ne) nt fun i ob e m z=>?_
  by_cases y:i<s.length
  .obtain⟨G,Z⟩:∃ G,s[i]?=some G:=⟨s[i],ag y⟩
   exact ne i G Z (a.mu i G ob Z e m) (by rw[<-a.w.map i y];exact z)
  .have:=a.new i (by lia) (ac.mp e).1
   rw[z,h]at this;cases this
theorem RV.mono {C C':Nat->Addr}{s s':kQ}{H H':Hp}(g:Gr C s H C' s' H')(d:kR)(v:V)(b:d.bnd s.length=true)(h:RV Γ C H d v):RV Γ C' H' d v:=RV.monoW g.w d v b h
theorem RVL.mono {C C':Nat->Addr}{s s':kQ}{H H':Hp}(g:Gr C s H C' s' H')(d:List kR)(v:List V)(b:kS s.length d=true)(h:RVL Γ C H d v):RVL Γ C' H' d v:=RVL.monoW g.w d v b h
theorem RE.mono {C C':Nat->Addr}{s s':kQ}{H H':Hp}{U:kT}{W:St}(h:RE Γ C H s.length U W)(g:Gr C s H C' s' H')(hn:s.length<=s'.length):RE Γ C' H' s'.length U W :=
 ⟨h.len,fun i d e=>by
  obtain⟨b,v,e1,e2⟩:=h.val i d e
  exact⟨zg hn d b,v,e1,RV.mono g d v b e2⟩⟩
def ac3 (Γ:Gm)(C:Nat->Addr)(s:kQ)(H:Hp)(d:kR)(s':kQ)(Q:VK):Prop :=
 ∀ v C' H',Gr C s H C' s' H'->s.length<=s'.length->d.bnd s'.length=true->RV Γ C' H' d v->Rp Γ C' H' s'->Q v H'
theorem ac3.trans {C C1:Nat->Addr}{s s1 s':kQ}{H y:Hp}{d:kR}{Q:VK}(h:ac3 Γ C s H d s' Q)(g:Gr C s H C1 s1 y)(l:s.length<=s1.length):ac3 Γ C1 s1 y d s' Q :=
 fun v C' H' g' z b r p=>h v C' H' (g.trans g' l) (aj l z) b r p
theorem ac3.here {C:Nat->Addr}{s:kQ}{H:Hp}{d:kR}{Q:VK}{v:V}(h:ac3 Γ C s H d s Q)(p:Rp Γ C H s)(b:d.bnd s.length=true)(r:RV Γ C H d v):Q v H :=
 h v C H (Gr.refl C s H) (ah _) b r p
theorem RVD.monoW {κ:Type}{y:kR->Option κ}{C C':Nat->Addr}{n:Nat}{H H':Hp}(g:Gw C n H C' H'):∀(l:List (kR×kR)) (kvs:List (κ×V)),kS n (l.map (·.2))=true->RVD y Γ C H l kvs->RVD y Γ C' H' l kvs
 | [],_,_,h=>h
 | (d,e)::l,_,b,h=>by
  obtain⟨k,v,r,e1,e2,B,z⟩:=h
  rw[aU]at b
  unfold kS at b
  rw[ai]at b
  exact⟨k,v,r,e1,e2,RV.monoW g e v b.1 B,RVD.monoW g l r b.2 z⟩
theorem RO.mono {C C':Nat->Addr}{n:Nat}{H H':Hp}{a:Addr}{o:ls}(h:RO Γ C H a o)(g:Gw C n H C' H')(b:o.bnd n=true)(z:isMut o=true->∀ u,H a=some u->H' a=some u):RO Γ C' H' a o:=by
 cases o with
 | lst l =>
  unfold kU at b
  obtain⟨y,e,r⟩:=h
  exact⟨y,z rfl _ e,RVL.monoW g l y b r⟩
 | ro l =>
  unfold kU at b
  obtain⟨y,e,r⟩:=h
  exact⟨y,⟨e.2 _ g.kp,fun H2 k=>e.2 _ (g.kp.trans k)⟩,RVL.monoW g l y b r⟩
 | dic l =>
  unfold kU at b
  rw[ai]at b
  obtain⟨kvs,e,r⟩:=h
  exact⟨kvs,z rfl _ e,RVD.monoW g l kvs b.2 r⟩
 | dicF l =>
  unfold kU at b
  rw[ai]at b
  obtain⟨ob,kvs,e,r⟩:=h
  exact⟨ob,kvs,z rfl _ e,RVD.monoW g l kvs b.2 r⟩
 | ins c l =>
  unfold kU at b
  rw[ai]at b
  obtain⟨Cc,G,B,Z,J,e,r⟩:=h
  exact⟨Cc,G,B,Z,J,z rfl _ e,RVD.monoW g l B b.2 r⟩
theorem RO.there {C:Nat->Addr}{H:Hp}{a:Addr}{o:ls}(h:RO Γ C H a o)(m:isMut o=true):∃ u,H a=some u/\bL4 u=false/\(∀ ps,u≠.tbl ps)/\((∀ l,o≠.dicF l)->∀ ob kvs,u≠.frz ob (.dK kvs)):=by
 cases o with
 | lst l=>obtain⟨y,e,_⟩:=h;exact⟨_,e,rfl,by nofun,fun _ _ _ z=>(by cases z)⟩
 | ro l=>cases m
 | dic l=>obtain⟨y,e,_⟩:=h;exact⟨_,e,rfl,by nofun,fun _ _ _ z=>(by cases z)⟩
 | dicF l=>obtain⟨ob,y,e,_⟩:=h;exact⟨_,e,rfl,by nofun,fun z=>absurd rfl (z l)⟩
 | ins c l=>obtain⟨_,_,_,_,_,e,_⟩:=h;exact⟨_,e,rfl,by nofun,fun _ _ _ z=>(by cases z)⟩
theorem Rp.addr {C:Nat->Addr}{H:Hp}{s:kQ}(p:Rp Γ C H s){i:Nat}{l:List kR}(e:s[i]?=some (.lst l)):∃ h,H (C i)=some (.lst h)/\RVL Γ C H l h:=p.obj i _ e
theorem zH {n m:Nat}(h:n<=m)(o:ls)(b:o.bnd n=true):o.bnd m=true:=by
 cases o with
 | lst l=>unfold kU at b ⊢;exact aa3 h l b
 | ro l=>unfold kU at b ⊢;exact aa3 h l b
 | dic l =>
  unfold kU at b ⊢
  rw[ai]at b ⊢
  exact⟨aa3 h _ b.1,aa3 h _ b.2⟩
 | dicF l =>
  unfold kU at b ⊢
  rw[ai]at b ⊢
  exact⟨aa3 h _ b.1,aa3 h _ b.2⟩
 | ins c l =>
  unfold kU at b ⊢
  rw[ai]at b ⊢
  exact⟨aa3 h _ b.1,aa3 h _ b.2⟩
theorem TabsH.keepF {T:List (Addr×Str)}{H H':Hp}(h:TabsH T H)(k:∀ b o,(bL4 o=true\/∃ ps,o=.tbl ps)->H b=some o->H' b=some o):TabsH T H':=fun y hy=>by
 obtain⟨ps,e,t,c⟩:=h y hy
 refine⟨ps,k _ _ (.inr ⟨_,rfl⟩) e,t,fun pos z q=>?_⟩
 obtain⟨B,e1,e2⟩:=c pos z q
 exact⟨B,e1,k _ _ (.inl rfl) e2⟩
theorem Rp.new {C:Nat->Addr}{H:Hp}{s:kQ}{p:Addr}{u:HO}{o:ls}(r:Rp Γ C H s)(hp:H p=none)(hb:o.bnd s.length=true)
  (ho:∀ C' H',Gw C s.length H C' H'->H' p=some u->RO Γ C' H' p o):Gr C s H (fun i=>if i=s.length then p else C i) (s++[o]) (upd H p u)/\Rp Γ (fun i=>if i=s.length then p else C i) (upd H p u) (s++[o]):=by
 have g:Gw C s.length H (fun i=>if i=s.length then p else C i) (upd H p u):=⟨fun i y=>if_neg (aB y),(Kp.refl H).new hp⟩
 have key:∀ i z,(s++[o])[i]?=some z->(i<s.length/\s[i]?=some z)\/(i=s.length/\z=o):=fun i z e=>by
  rcases gb i s.length with h|h|h
  .rw[aR h]at e;exact .inl ⟨h,e⟩
  .subst h;simp at e;exact .inr ⟨rfl,e.symm⟩
  .rw[cg (by simp;lia)]at e;cases e
 refine⟨⟨g,by simp,fun i h1 h2=>?_,fun i o1 o2 e1 e2=>?_,fun b hb=>?_,fun b ob kvs hb=>by rw[zb (zo hb hp)];exact hb,fun b ob hb _ _=>by rw[zb (zo hb hp)];exact hb⟩,fun i j G J B ej Z mj e=>?_,fun i z e=>?_,fun i z e=>?_,r.tab.new hp⟩
 .rw[aC,bO]at h2
  rw[if_pos (by lia)];exact hp
 .rcases key i o2 e2 with⟨_,e⟩|⟨y,_⟩
  .rw[e1]at e;cases e;rfl
  .have:=(ac.mp e1).1;lia
 .unfold upd;split
  .simp
  .exact hb
 .rcases key i G B with⟨y,B⟩|⟨y,rfl⟩<;>rcases key j J ej with⟨hj,ej⟩|⟨hj,ej'⟩
  .rw[if_neg (aB y),if_neg (aB hj)]at e
   exact r.inj i j G J B ej Z mj e
  .rw[if_neg (aB y),if_pos hj]at e
   obtain⟨u,hu,_⟩:=(r.obj i G B).there Z
   rw[e,hp]at hu;cases hu
  .rw[if_neg (aB hj),if_pos y]at e
   obtain⟨u,hu,_⟩:=(r.obj j J ej).there mj
   rw[<-e,hp]at hu;cases hu
  .rw[y,hj]
 .rcases key i z e with⟨y,e⟩|⟨y,rfl⟩
  .show RO Γ _ _ (if i=s.length then p else C i) z
   rw[if_neg (aB y)]
   exact(r.obj i z e).mono g (r.wf i z e) fun _ v hv=>by rw[zb (zo hv hp)];exact hv
  .show RO Γ _ _ (if i=s.length then p else C i) z
   rw[if_pos y]
   exact ho _ _ g zp
 .rw[aC,bO]
  rcases key i z e with⟨y,e⟩|⟨y,rfl⟩
  .exact zH (cT _) _ (r.wf i z e)
  .exact zH (cT _) _ hb
theorem Rp.set1 {C:Nat->Addr}{H:Hp}{s:kQ}{k:Nat}{u:HO}{o B:ls}(r:Rp Γ C H s)(hk:s[k]?=some B)(Z:isMut B=true)(hb:o.bnd s.length=true)
  (ho:∀ H',Gw C s.length H C H'->H' (C k)=some u->RO Γ C H' (C k) o) (a2:okd o=okd B):((∀ l,B≠.dicF l)->Gr C s H C (s.set k o) (upd H (C k) u))/\Rp Γ C (upd H (C k) u) (s.set k o):=by
 obtain⟨v0,G,f0,a3,a0⟩:=(r.obj k B hk).there Z
 have a1:k<s.length:=(ac.mp hk).1
 have g:Gw C s.length H C (upd H (C k) u):=⟨fun _ _=>rfl,(Kp.refl H).put G f0⟩
 have key:∀ i y,(s.set k o)[i]?=some y->(i≠k/\s[i]?=some y)\/(i=k/\y=o):=fun i y e=>by
  by_cases h:i=k
  .subst h;rw[aJ a1]at e;exact .inr ⟨rfl,(au e).symm⟩
  .rw[aw (cC h)]at e;exact .inl ⟨h,e⟩
 have mm:∀ i y,(s.set k o)[i]?=some y->isMut y=true->∃ J,s[i]?=some J/\isMut J=true:=fun i y e m=>by
  rcases key i y e with⟨_,e⟩|⟨h,_⟩
  .exact⟨y,e,m⟩
  .exact⟨B,by rw[h];exact hk,Z⟩
 refine⟨fun nf=>⟨g,by simp,fun i h1 h2=>by rw[aK]at h2;lia,fun i o1 o2 e1 e2=>?_,fun b hb=>?_,fun b ob kvs hb=>by rw[zb fun z=>by subst z;rw[G]at hb;cases hb;exact a0 nf _ _ rfl];exact hb,fun b ob hb nt ne=>by rw[zb (cC (ne k B hk Z))];exact hb⟩,fun i j oi oj ei ej mi mj e=>?_,fun i y e=>?_,fun i y e=>?_,r.tab.keepF fun b v hv q=>?_⟩
 .rcases key i o2 e2 with⟨_,e⟩|⟨h,rfl⟩
  .rw[e1]at e;cases e;rfl
  .subst h;rw[hk]at e1;cases e1;exact a2
 .unfold upd;split
  .simp
  .exact hb
 .obtain⟨o1,e1,m1⟩:=mm i oi ei mi
  obtain⟨o2,e2,m2⟩:=mm j oj ej mj
  exact r.inj i j o1 o2 e1 e2 m1 m2 e
 .rcases key i y e with⟨h,e⟩|⟨h,rfl⟩
  .refine(r.obj i y e).mono g (r.wf i y e) fun m v hv=>?_
   rw[zb fun z=>h (r.inj i k y B e hk m Z z)];exact hv
  .subst h
   exact ho _ g zp
 .rw[aK]
  rcases key i y e with⟨_,e⟩|⟨_,rfl⟩
  .exact r.wf i y e
  .exact hb
 .rw[zb fun z=>by
   subst z;rw[G]at q;cases q
   rcases hv with h|⟨ps,h⟩
   .rw[f0]at h;cases h
   .exact a3 _ h]
  exact q
theorem Rp.set {C:Nat->Addr}{H:Hp}{s:kQ}{k:Nat}{u:HO}{o y:ls}(r:Rp Γ C H s)(hk:s[k]?=some y)(z:isMut y=true)(hb:o.bnd s.length=true)
  (ho:∀ H',Gw C s.length H C H'->H' (C k)=some u->RO Γ C H' (C k) o) (h:okd o=okd y:=by rfl) (B:∀ l,y≠.dicF l:=by nofun):Gr C s H C (s.set k o) (upd H (C k) u)/\Rp Γ C (upd H (C k) u) (s.set k o) :=
 ⟨(r.set1 hk z hb ho h).1 B,(r.set1 hk z hb ho h).2⟩
theorem Rp.same {C:Nat->Addr}{H H':Hp}{s:kQ}(r:Rp Γ C H s)(e:ae3 H H'):Gr C s H C s H'/\Rp Γ C H' s:=by
 have g:Gw C s.length H C H':=⟨fun _ _=>rfl,fun b o h _=>e b o h⟩
 exact⟨⟨g,ah _,fun i z y=>absurd y (by omega),fun i o B e e'=>by rw[e]at e';cases e';rfl,fun b hb=>by
  cases q:H b with
  | none=>exact absurd q hb
  | some o=>rw[e b o q];simp,fun b o kvs h=>e b _ h,fun b o h _ _=>e b o h⟩,r.inj,fun i o h=>(r.obj i o h).mono g (r.wf i o h) fun _ u hu=>e _ u hu,r.wf,r.tab.same e⟩
section
variable {C:Nat->Addr} {H:Hp} {s:kQ} {Q:VK}
theorem ac3.alloc {l:List kR}{y:List V}(h:ac3 Γ C s H (.ref s.length) (s++[.lst l]) Q)(r:Rp Γ C H s)(z:RVL Γ C H l y)(hb:kS s.length l=true){p:Addr}(hp:H p=none):Q (.ref p) (upd H p (.lst y)):=by
 obtain⟨g,B⟩:=r.new (o:=.lst l) (u:=.lst y) hp hb fun C' H' g e=>⟨y,e,RVL.monoW g l y hb z⟩
 have:=h (.ref p) _ _ g (by simp) (by unfold kY;simp) (by unfold RV;simp) B
 exact this
theorem ac3.tup {l:List kR}{y:List V}(h:ac3 Γ C s H (.tup l) s Q)(r:Rp Γ C H s)(z:RVL Γ C H l y)(hb:kS s.length l=true){p:Addr}(hp:H p=none):Q (.ref p) (upd H p (.tup y)):=by
 obtain⟨g,B⟩:=r.same (H':=upd H p (.tup y)) ((ae3.refl H).new hp)
 exact h _ _ _ g (ah _) (by unfold kY;exact hb) (RV.tupI zp (RVL.mono g l y hb z)) B
theorem ac3.put {k:Nat}{l l0:List kR}{y:List V}{d:kR}{v:V}(h:ac3 Γ C s H d (s.set k (.lst l)) Q)(r:Rp Γ C H s)(hk:s[k]?=some (.lst l0))(z:RVL Γ C H l y)(hb:kS s.length l=true)
  (hd:d.bnd s.length=true) (hv:RV Γ C H d v):Q v (upd H (C k) (.lst y)):=by
 obtain⟨g,B⟩:=r.set (o:=.lst l) (u:=.lst y) hk rfl hb fun H' g e=>⟨y,e,RVL.monoW g l y hb z⟩
 exact h _ _ _ g (by simp) (by rw[aK];exact hd) (RV.mono g d v hd hv) B
end
variable {Γ:Gm}
theorem zy {a b:kR}{k:Key}(ha:qv a=some k)(hb:qv b=some k):a=b:=by
 cases a with
 | int i =>
  cases ha
  cases b with
  | int j=>cases hb;rfl
  | str y=>cases hb
  | _=>cases hb
 | str x =>
  cases ha
  cases b with
  | int j=>cases hb
  | str y =>
   have h:=au hb
   injection h with h
   injection h with h
   have z:y=x:=by simpa using h
   rw[z]
  | _=>cases hb
 | _=>cases ha
theorem zW {d:kR}(h:d.key=true):∃ k,qv d=some k:=by
 cases d with
 | int i=>exact⟨_,rfl⟩
 | str x=>exact⟨_,rfl⟩
 | _=>cases h
theorem ag2 {C:Nat->Addr}{H:Hp}{d:kR}{k:Key}{v:V}(h:qv d=some k)(r:RV Γ C H d v):v=kV k:=by
 cases d with
 | int i=>cases h;exact r.intE
 | str x=>cases h;exact r.strE
 | _=>cases h
def bJ5 {κ:Type}(kf:kR->Option κ):Prop:=∀ {a b:kR} {k:κ},kf a=some k->kf b=some k->a=b
section
variable {κ:Type} [DecidableEq κ] {kf:kR->Option κ}
theorem RVD.val {C:Nat->Addr}{H:Hp}{d:kR}{k:κ}(B:bJ5 kf)(hk:kf d=some k):∀ {l:List (kR×kR)} {kvs:List (κ×V)},RVD kf Γ C H l kvs->(k9 d l=none/\ak0 kvs k=none)\/∃ e v,k9 d l=some e/\ak0 kvs k=some v/\RV Γ C H e v/\e∈l.map (·.2)
 | [],kvs,h=>by
  have h:kvs=[]:=h
  subst h
  exact .inl ⟨rfl,rfl⟩
 | (a,e)::l,kvs,h=>by
  obtain⟨y,v,r,rfl,e2,e3,J⟩:=h
  by_cases z:a=d
  .subst z
   rw[hk]at e2;cases e2
   exact .inr ⟨e,v,by unfold k9;rw[if_pos rfl],af6 rfl,e3,by simp⟩
  .have Z:¬ y=k:=fun q=>z (B e2 (by rw[q];exact hk))
   have G:k9 d ((a,e)::l)=k9 d l:=by
    conv=>lhs;unfold k9
    rw[if_neg z]
   rw[G,ag0 (show ¬(y,v).1=k from Z)]
   rcases RVD.val B hk J with q|⟨e',v',q1,q2,q3,q4⟩
   .exact .inl q
   .exact .inr ⟨e',v',q1,q2,q3,by simp at q4 ⊢;exact .inr q4⟩
theorem RVD.repl {C:Nat->Addr}{H:Hp}{d e:kR}{k:κ}{v:V}(B:bJ5 kf)(hk:kf d=some k)(hv:RV Γ C H e v):∀ {l:List (kR×kR)} {kvs:List (κ×V)},RVD kf Γ C H l kvs->RVD kf Γ C H (l.map fun p=>if p.1=d then(p.1,e)else p) (kvs.map fun y=>if y.1=k then(y.1,v)else y)
 | [],kvs,h=>by
  have h:kvs=[]:=h
  subst h;exact(rfl:([]:List (κ×V))=[])
 | (a,e0)::l,kvs,h=>by
  obtain⟨G,v0,r,rfl,e2,e3,J⟩:=h
  rw[aU,aU]
  by_cases z:a=d
  .subst z
   rw[hk]at e2;cases e2
   rw[if_pos rfl,if_pos rfl]
   exact⟨k,v,_,rfl,hk,hv,RVD.repl B hk hv J⟩
  .have Z:¬ G=k:=fun q=>z (B e2 (by rw[q];exact hk))
   rw[if_neg z,if_neg Z]
   exact⟨G,v0,_,rfl,e2,e3,RVD.repl B hk hv J⟩
theorem RVD.snoc {C:Nat->Addr}{H:Hp}{d e:kR}{k:κ}{v:V}(G:bJ5 kf)(hk:kf d=some k)(hv:RV Γ C H e v):∀ {l:List (kR×kR)} {kvs:List (κ×V)},RVD kf Γ C H l kvs->RVD kf Γ C H (l++[(d,e)]) (kvs++[(k,v)])
 | [],kvs,h=>by
  have h:kvs=[]:=h
  subst h;exact⟨k,v,[],rfl,hk,hv,rfl⟩
 | (a,e0)::l,kvs,h=>by
  obtain⟨y,v0,r,rfl,e2,B,z⟩:=h
  exact⟨y,v0,_,rfl,e2,B,RVD.snoc G hk hv z⟩
theorem RVD.put {C:Nat->Addr}{H:Hp}{d e:kR}{k:κ}{v:V}{l:List (kR×kR)}{kvs:List (κ×V)}(y:bJ5 kf)(hk:kf d=some k)(hv:RV Γ C H e v)(h:RVD kf Γ C H l kvs):RVD kf Γ C H (lh d e l) (ak5 kvs k v):=by
 unfold lh ak5
 rw[ao9]
 rcases h.val y hk with⟨q1,q2⟩|⟨e',v',q1,q2,_⟩
 .rw[q1,q2];exact h.snoc y hk hv
 .rw[q1,q2];exact h.repl y hk hv
theorem RVD.get {C:Nat->Addr}{H:Hp}:∀ {l:List (kR×kR)} {kvs:List (κ×V)} {i:Nat} {d e:kR},RVD kf Γ C H l kvs->l[i]?=some (d,e)->∃ k v,kvs[i]?=some (k,v)/\kf d=some k/\RV Γ C H e v
 | [],_,_,_,_,_,h=>by cases h
 | (a,b)::l,kvs,0,d,e,h,q=>by
  obtain⟨k,v,r,rfl,e2,z,y⟩:=h
  cases q
  exact⟨k,v,rfl,e2,z⟩
 | (a,b)::l,kvs,i+1,d,e,h,q=>by
  obtain⟨k,v,r,rfl,e2,z,y⟩:=h
  exact RVD.get (i:=i) y (show l[i]?=some (d,e)from q)
theorem RVD.keys {C:Nat->Addr}{H:Hp}:∀ {l:List (kR×kR)} {kvs:List (κ×V)},RVD kf Γ C H l kvs->∀ kv∈kvs,∃ d,kf d=some kv.1
 | [],kvs,h,kv,hk=>by
  have h:kvs=[]:=h
  subst h;cases hk
 | (a,b)::l,kvs,h,kv,hk=>by
  obtain⟨k,v,r,rfl,e2,B,y⟩:=h
  rcases ay.mp hk with z|z
  .subst z;exact⟨a,e2⟩
  .exact RVD.keys y kv z
theorem RVD.length {C:Nat->Addr}{H:Hp}:∀ {l:List (kR×kR)} {kvs:List (κ×V)},RVD kf Γ C H l kvs->kvs.length=l.length
 | [],kvs,h=>by
  have h:kvs=[]:=h
  subst h;rfl
 | (a,e)::l,kvs,h=>by
  obtain⟨z,v,r,rfl,e2,B,y⟩:=h
  rw[aI,aI,RVD.length y]
end
theorem an1 {n:Nat}{d e:kR}{l:List (kR×kR)}(h:(DV.O.dic l).bnd n=true)(hd:d.bnd n=true)(he:e.bnd n=true):(DV.O.dic (lh d e l)).bnd n=true:=by
 unfold kU at h ⊢
 rw[ai]at h ⊢
 obtain⟨z,y⟩:=h
 have g1:=aa2.mp z
 have g2:=aa2.mp y
 unfold lh
 refine⟨aa2.mpr fun x hx=>?_,aa2.mpr fun x hx=>?_⟩
 .obtain⟨p,hp,rfl⟩:=bf.mp hx
  split at hp
  .obtain⟨q,hq,rfl⟩:=bf.mp hp
   split
   .exact g1 _ (bw (f:=(·.1)) hq)
   .exact g1 _ (bw (f:=(·.1)) hq)
  .rcases aN.mp hp with q|q
   .exact g1 _ (bw (f:=(·.1)) q)
   .rw[aO.mp q];exact hd
 .obtain⟨p,hp,rfl⟩:=bf.mp hx
  split at hp
  .obtain⟨q,hq,rfl⟩:=bf.mp hp
   split
   .exact he
   .exact g2 _ (bw (f:=(·.2)) hq)
  .rcases aN.mp hp with q|q
   .exact g2 _ (bw (f:=(·.2)) q)
   .rw[aO.mp q];exact he
theorem af4 {f:kR->kR->Option Bool}{a b:kR}{l m:List kR}{z:Bool}(h:ln f (a::l) (b::m)=some z):∃ x y,f a b=some x/\ln f l m=some y/\z=(x&&y):=by
 unfold ln at h
 cases e1:f a b with
 | none=>rw[e1]at h;cases h
 | some x =>
  cases e2:ln f l m with
  | none=>rw[e1,e2]at h;cases h
  | some y=>rw[e1,e2]at h;exact⟨x,y,rfl,rfl,(au h).symm⟩
theorem aJ9 {f:kR->kR->Option Bool}:∀ {l m:List kR} {z:Bool},ln f l m=some z->∃ e:Nat->Bool,(∀ j d d',l[j]?=some d->m[j]?=some d'->f d d'=some (e j))/\((l.length==m.length)&&(bj (min l.length m.length)).all e)=z
 | [],[],z,h=>by
  unfold ln at h
  cases h
  exact⟨fun _=>true,fun j d d' h=>by simp at h,by simp⟩
 | [],b::m,z,h=>by
  unfold ln at h
  cases h
  exact⟨fun _=>true,fun j d d' h=>by simp at h,by simp⟩
 | a::l,[],z,h=>by
  unfold ln at h
  cases h
  exact⟨fun _=>true,fun j d d' G B=>by simp at B,by simp⟩
 | a::l,b::m,z,h=>by
  obtain⟨x,y,e1,e2,J⟩:=af4 h
  obtain⟨e,G,B⟩:=aJ9 e2
  refine⟨fun j=>match j with|0=>x|j+1=>e j,fun j d d' g1 g2=>?_,?_⟩
  .cases j with
   | zero=>simp at g1 g2;subst g1;subst g2;exact e1
   | succ j=>exact G j d d' (by simpa using g1) (by simpa using g2)
  .rw[aI,aI,show min (l.length+1) (m.length+1)=min l.length m.length+1 by lia,List.range_succ_eq_map,dz,kC,J,<-B]
   have:((l.length+1==m.length+1)=(l.length==m.length)):=by
    by_cases q:l.length=m.length
    .simp[q]
    .have:¬ l.length+1=m.length+1:=by lia
     simp[q]
   rw[this]
   show((l.length==m.length)&&(x&&(bj _).all e))=_
   cases x<;>cases(l.length==m.length)<;>simp
section
variable {X:Cx} {pins:yA} {W:St} {H:Hp} {sh:ae} {C:Nat->Addr} {s:kQ}
theorem ai0 (I:Inv X pins W H sh){a:Addr}{y ys:List V}(h:H a=some (.lst y))(h':SqT X.K H a ys):False:=by
 rcases h' with(z|⟨o,z⟩)|⟨o,its,n,hk,_⟩
 .rw[h]at z;cases z
 .rw[h]at z;cases z
 .have:=(I.bs a o (I.mod.kin a o hk)).2
  rw[h]at this;cases this
theorem rv_two (I:Inv X pins W H sh)(Z:X.K=Γ.K)(R:Rp Γ C H s){a b:kR}{x:V}(G:RV Γ C H a x)(y:RV Γ C H b x)(n1:lq s a≠9)(z:lq s b≠9):a=b\/∃ l m p J,a=.tup l/\b=.tup m/\x=.ref p/\RVL Γ C H l J/\RVL Γ C H m J:=by
 have B:∀ {r:Nat},lq s (.ref r)≠9->∃ l,s[r]?=some (.lst l):=fun {r} h=>by
  have h:(match s[r]? with|some (DV.O.lst l)=>4|_=>9:Nat)≠9:=h
  cases hs:s[r]? with
  | none=>rw[hs]at h;exact absurd rfl h
  | some o =>
   rw[hs]at h
   cases o with
   | lst l=>exact⟨l,rfl⟩
   | _=>exact absurd rfl h
 cases a with
 | non=>have e:=G.nonE;subst e;cases b with
  | non=>exact .inl rfl
  | bl _=>cases y.blE
  | int _=>cases y.intE
  | str _=>cases y.strE
  | tup _=>obtain⟨_,_,e,_⟩:=y.tupE;cases e
  | ref _=>cases y.refE
  | fn _=>exact absurd rfl z
  | clo _ _=>exact absurd rfl z
 | bl p=>have e:=G.blE;subst e;cases b with
  | non=>cases y.nonE
  | bl _=>cases y.blE;exact .inl rfl
  | int _=>cases y.intE
  | str _=>cases y.strE
  | tup _=>obtain⟨_,_,e,_⟩:=y.tupE;cases e
  | ref _=>cases y.refE
  | fn _=>exact absurd rfl z
  | clo _ _=>exact absurd rfl z
 | int p=>have e:=G.intE;subst e;cases b with
  | non=>cases y.nonE
  | bl _=>cases y.blE
  | int _=>cases y.intE;exact .inl rfl
  | str _=>cases y.strE
  | tup _=>obtain⟨_,_,e,_⟩:=y.tupE;cases e
  | ref _=>cases y.refE
  | fn _=>exact absurd rfl z
  | clo _ _=>exact absurd rfl z
 | str p=>have e:=G.strE;subst e;cases b with
  | non=>cases y.nonE
  | bl _=>cases y.blE
  | int _=>cases y.intE
  | str q =>
   have e':p.toArray=q.toArray:=Str.mk.inj (V.str.inj y.strE)
   have a0:p=q:=by simpa using congrArg jf e'
   subst a0;exact .inl rfl
  | tup _=>obtain⟨_,_,e,_⟩:=y.tupE;cases e
  | ref _=>cases y.refE
  | fn _=>exact absurd rfl z
  | clo _ _=>exact absurd rfl z
 | tup l =>
  obtain⟨p,J,e,q1,d1⟩:=G.tupE;subst e;cases b with
  | non=>cases y.nonE
  | bl _=>cases y.blE
  | int _=>cases y.intE
  | str _=>cases y.strE
  | tup m =>
   obtain⟨p',ys,e,q2,d2⟩:=y.tupE
   cases e
   rw[<-Z]at q1 q2
   rw[I.tuple_inj q2 q1]at d2
   exact .inr ⟨l,m,p,J,rfl,rfl,rfl,d1,d2⟩
  | ref r =>
   cases y.refE
   obtain⟨m,hm⟩:=B z
   obtain⟨ys,hy,_⟩:=R.addr hm
   rw[<-Z]at q1
   exact(ai0 I hy q1).elim
  | fn _=>exact absurd rfl z
  | clo _ _=>exact absurd rfl z
 | ref r =>
  have e:=G.refE;subst e
  obtain⟨l,hl⟩:=B n1
  obtain⟨J,hx,_⟩:=R.addr hl
  cases b with
  | non=>cases y.nonE
  | bl _=>cases y.blE
  | int _=>cases y.intE
  | str _=>cases y.strE
  | tup m =>
   obtain⟨p',ys,e,q2,d2⟩:=y.tupE
   cases e
   rw[<-Z]at q2
   exact(ai0 I hx q2).elim
  | ref r' =>
   obtain⟨m,hm⟩:=B z
   have e:C r=C r':=V.ref.inj y.refE
   rw[R.inj r r' _ _ hl hm rfl rfl e]
   exact .inl rfl
  | fn _=>exact absurd rfl z
  | clo _ _=>exact absurd rfl z
 | fn _=>exact absurd rfl n1
 | clo _ _=>exact absurd rfl n1
theorem qu {a b:kR}{z:Bool}(h:lu s a b=some z):mB a b=some z\/(mB a b=none/\lR (lq s a) (lq s b)=false/\z=false):=by
 unfold lu at h
 cases e:mB a b with
 | some w=>rw[e]at h;exact .inl h
 | none =>
  rw[e]at h
  cases q:lR (lq s a) (lq s b)with
  | true=>rw[q]at h;cases h
  | false=>rw[q]at h;exact .inr ⟨rfl,rfl,(au h).symm⟩
theorem bc6 {a b:kR}{z:Bool}(h:mB a b=some z):lq s a≠9/\lq s b≠9:=by
 cases a<;>cases b<;>first|(cases h;done)|(constructor<;>(intro z;cases z))
theorem ac9 {a b:kR}{z:Bool}(h:lu s a b=some z):lq s a≠9/\lq s b≠9:=by
 rcases qu h with h|⟨_,h,_⟩
 .exact bc6 h
 .unfold lR at h
  simp only[eV,beq_eq_false_iff_ne]at h
  exact⟨h.1.1,h.1.2⟩
theorem ax3 {a:kR}{z:Bool}(h:lu s a a=some z):z=true:=by
 rcases qu h with h|⟨_,h,_⟩
 .cases a<;>cases h<;>first|rfl|exact beq_self_eq_true _
 .unfold lR at h;simp at h
theorem aD1 (I:Inv X pins W H sh)(hK:X.K=Γ.K)(R:Rp Γ C H s):∀(n:Nat) (a b:kR) (x:V) (z:Bool),k7 s n a b=some z->RV Γ C H a x->RV Γ C H b x->z=true:=by
 have J:∀(a b:kR) (x:V) (z:Bool),lu s a b=some z->RV Γ C H a x->RV Γ C H b x->z=true:=by
  intro a b x z h B y
  rcases rv_two I hK R B y (ac9 h).1 (ac9 h).2 with e|⟨l,m,_,_,rfl,rfl,_⟩
  .subst e;exact ax3 h
  .rcases qu h with h|⟨_,h,_⟩
   .cases h
   .unfold lR at h;simp[lq]at h
 intro n
 induction n with
 | zero=>intro a b x z h;unfold k7 at h;exact J a b x z h
 | succ n ih =>
  have Z:∀(l m:List kR) (G:List V) (z:Bool),ln (k7 s n) l m=some z->RVL Γ C H l G->RVL Γ C H m G->z=true:=by
   intro l
   induction l with
   | nil =>
    intro m G z h B y
    cases m with
    | nil=>unfold ln at h;exact(au h).symm
    | cons b m=>obtain⟨x,r,e,_⟩:=y.uncons;rw[B.unnil]at e;cases e
   | cons a l ihl =>
    intro m G z h B y
    cases m with
    | nil=>obtain⟨x,r,e,_⟩:=B.uncons;rw[y.unnil]at e;cases e
    | cons b m =>
     obtain⟨p,q,e1,e2,ez⟩:=af4 h
     obtain⟨v,r,rfl,g1,g2⟩:=B.uncons
     obtain⟨v',r',e,g3,g4⟩:=y.uncons
     cases e
     rw[ez,ih a b v p e1 g1 g3,ihl m r q e2 g2 g4];rfl
  intro a b x z h B y
  unfold k7 at h
  split at h
  .rename_i l m
   obtain⟨a,G,rfl,q1,d1⟩:=B.tupE
   obtain⟨b,ys,e,q2,d2⟩:=y.tupE
   cases e
   rw[<-hK]at q1 q2
   rw[I.tuple_inj q2 q1]at d2
   exact Z l m G z h d1 d2
  .rename_i p q
   split at h
   .rename_i l m hl hm
    obtain⟨G,e1,d1⟩:=R.addr hl
    obtain⟨ys,e2,d2⟩:=R.addr hm
    have e:=B.refE.symm.trans y.refE
    have e':C p=C q:=V.ref.inj e
    rw[e',e2]at e1
    have e3:ys=G:=by injection (au e1)
    subst e3
    split at h
    .exact Z l m ys z h d1 d2
    .rename_i a0;exact absurd (d1.length.symm.trans d2.length) a0
   .cases h
  .exact J a b x z h B y
end
variable {Γ:Gm}
inductive Vw (sh:ae):Nat->Value->Prop where
 | non:Vw sh 0 .none
 | bl (b:Bool):Vw sh 1 (.bool b)
 | int (i:Int) (t:Tok):Vw sh 1 (.int i t)
 | str (x:Str) (t:Tok):Vw sh 2 (.str x t)
 | tup {l:Addr} {items:yJ} (h:sh.heap.IsTuple l items):Vw sh 3 (.ref l)
 | lst {l:Addr} {items:yJ} (h:sh.heap.IsList l items):Vw sh 4 (.ref l)
theorem Vw.eq {A:aP}{sh:ae}{k z:Nat}{u v:Value}(a:Vw sh k u)(b:Vw sh z v)(y:k≠z)(hu:A.units<cLine):gX A sh u v false:=by
 cases a with
 | non=>cases b with
  | non=>exact absurd rfl y
  | bl b=>exact SeqAt.EqAt.none_bool b
  | int i t=>exact iC i t
  | str x t=>exact iD x t
  | tup h=>exact SeqAt.EqAt.none_tuple h hu
  | lst h=>exact SeqAt.EqAt.none_list h hu
 | bl a=>cases b with
  | non=>exact SeqAt.EqAt.bool_none a
  | bl b=>exact absurd rfl y
  | int i t=>exact absurd rfl y
  | str x t=>exact SeqAt.EqAt.bool_str a x t
  | tup h=>exact SeqAt.EqAt.bool_tuple a h hu
  | lst h=>exact SeqAt.EqAt.bool_list a h hu
 | int a q=>cases b with
  | non=>exact iE a q
  | bl b=>exact absurd rfl y
  | int i t=>exact absurd rfl y
  | str x t=>exact iT a q x t
  | tup h=>exact SeqAt.EqAt.int_tuple a q h hu
  | lst h=>exact SeqAt.EqAt.int_list a q h hu
 | str a q=>cases b with
  | non=>exact iG a q
  | bl b=>exact SeqAt.EqAt.str_bool a q b
  | int i t=>exact iU a q i t
  | str x t=>exact absurd rfl y
  | tup h=>exact SeqAt.EqAt.str_tuple a q h hu
  | lst h=>exact SeqAt.EqAt.str_list a q h hu
 | tup g=>cases b with
  | non=>exact SeqAt.EqAt.tuple_none g hu
  | bl b=>exact SeqAt.EqAt.tuple_bool b g hu
  | int i t=>exact SeqAt.EqAt.tuple_int i t g hu
  | str x t=>exact SeqAt.EqAt.tuple_str x t g hu
  | tup h=>exact absurd rfl y
  | lst h=>exact SeqAt.EqAt.tuple_list g h hu
 | lst g=>cases b with
  | non=>exact SeqAt.EqAt.list_none g hu
  | bl b=>exact SeqAt.EqAt.list_bool b g hu
  | int i t=>exact SeqAt.EqAt.list_int i t g hu
  | str x t=>exact SeqAt.EqAt.list_str x t g hu
  | tup h=>exact SeqAt.EqAt.list_tuple g h hu
  | lst h=>exact absurd rfl y
theorem Vw.rc {A:aP}{sh:ae}{k z:Nat}{u v:Value}(a:Vw sh k u)(b:Vw sh z v)(y:k≠z)(hu:A.units<cLine):kP A sh u v false:=by
 cases a with
 | non=>cases b with
  | non=>exact absurd rfl y
  | bl b=>exact SeqAt.RcAt.none_bool b
  | int i t=>exact SeqAt.RcAt.none_int i t
  | str x t=>exact SeqAt.RcAt.none_str x t
  | tup h=>exact SeqAt.RcAt.none_tuple h hu
  | lst h=>exact SeqAt.RcAt.none_list h hu
 | bl a=>cases b with
  | non=>exact SeqAt.RcAt.bool_none a
  | bl b=>exact absurd rfl y
  | int i t=>exact absurd rfl y
  | str x t=>exact SeqAt.RcAt.bool_str a x t
  | tup h=>exact SeqAt.RcAt.bool_tuple a h hu
  | lst h=>exact SeqAt.RcAt.bool_list a h hu
 | int a q=>cases b with
  | non=>exact SeqAt.RcAt.int_none a q
  | bl b=>exact absurd rfl y
  | int i t=>exact absurd rfl y
  | str x t=>exact SeqAt.RcAt.int_str a q x t
  | tup h=>exact SeqAt.RcAt.int_tuple a q h hu
  | lst h=>exact SeqAt.RcAt.int_list a q h hu
 | str a q=>cases b with
  | non=>exact SeqAt.RcAt.str_none a q
  | bl b=>exact SeqAt.RcAt.str_bool a q b
  | int i t=>exact SeqAt.RcAt.str_int a q i t
  | str x t=>exact absurd rfl y
  | tup h=>exact SeqAt.RcAt.str_tuple a q h hu
  | lst h=>exact SeqAt.RcAt.str_list a q h hu
 | tup g=>cases b with
  | non=>exact SeqAt.RcAt.tuple_none g hu
  | bl b=>exact SeqAt.RcAt.tuple_bool b g hu
  | int i t=>exact SeqAt.RcAt.tuple_int i t g hu
  | str x t=>exact SeqAt.RcAt.tuple_str x t g hu
  | tup h=>exact absurd rfl y
  | lst h=>exact SeqAt.RcAt.tuple_list g h hu
 | lst g=>cases b with
  | non=>exact SeqAt.RcAt.list_none g hu
  | bl b=>exact SeqAt.RcAt.list_bool b g hu
  | int i t=>exact SeqAt.RcAt.list_int i t g hu
  | str x t=>exact SeqAt.RcAt.list_str x t g hu
  | tup h=>exact SeqAt.RcAt.list_tuple g h hu
  | lst h=>exact absurd rfl y
theorem Vw.ne {A:aP}{sh:ae}{k z:Nat}{u v:Value}(a:Vw sh k u)(b:Vw sh z v)(y:k≠z)(hu:A.units<cLine):kD A sh u v true:=by
 cases a with
 | non=>cases b with
  | non=>exact absurd rfl y
  | bl b=>exact SeqAt.RcNeAt.none_bool b
  | int i t=>exact SeqAt.RcNeAt.none_int i t
  | str x t=>exact SeqAt.RcNeAt.none_str x t
  | tup h=>exact SeqAt.RcNeAt.none_tuple h hu
  | lst h=>exact SeqAt.RcNeAt.none_list h hu
 | bl a=>cases b with
  | non=>exact SeqAt.RcNeAt.bool_none a
  | bl b=>exact absurd rfl y
  | int i t=>exact absurd rfl y
  | str x t=>exact SeqAt.RcNeAt.bool_str a x t
  | tup h=>exact SeqAt.RcNeAt.bool_tuple a h hu
  | lst h=>exact SeqAt.RcNeAt.bool_list a h hu
 | int a q=>cases b with
  | non=>exact SeqAt.RcNeAt.int_none a q
  | bl b=>exact absurd rfl y
  | int i t=>exact absurd rfl y
  | str x t=>exact SeqAt.RcNeAt.int_str a q x t
  | tup h=>exact SeqAt.RcNeAt.int_tuple a q h hu
  | lst h=>exact SeqAt.RcNeAt.int_list a q h hu
 | str a q=>cases b with
  | non=>exact SeqAt.RcNeAt.str_none a q
  | bl b=>exact SeqAt.RcNeAt.str_bool a q b
  | int i t=>exact SeqAt.RcNeAt.str_int a q i t
  | str x t=>exact absurd rfl y
  | tup h=>exact SeqAt.RcNeAt.str_tuple a q h hu
  | lst h=>exact SeqAt.RcNeAt.str_list a q h hu
 | tup g=>cases b with
  | non=>exact SeqAt.RcNeAt.tuple_none g hu
  | bl b=>exact SeqAt.RcNeAt.tuple_bool b g hu
  | int i t=>exact SeqAt.RcNeAt.tuple_int i t g hu
  | str x t=>exact SeqAt.RcNeAt.tuple_str x t g hu
  | tup h=>exact absurd rfl y
  | lst h=>exact SeqAt.RcNeAt.tuple_list g h hu
 | lst g=>cases b with
  | non=>exact SeqAt.RcNeAt.list_none g hu
  | bl b=>exact SeqAt.RcNeAt.list_bool b g hu
  | int i t=>exact SeqAt.RcNeAt.list_int i t g hu
  | str x t=>exact SeqAt.RcNeAt.list_str x t g hu
  | tup h=>exact SeqAt.RcNeAt.list_tuple g h hu
  | lst h=>exact absurd rfl y
theorem bK9 (a b:List Nat):((⟨a.toArray⟩:Str)==⟨b.toArray⟩)=(a==b):=by
 by_cases e:a=b
 .subst e;simp
 .have:(⟨a.toArray⟩:Str)≠⟨b.toArray⟩:=fun q=>e (by simpa using congrArg (fun z=>z.cps.toList) q)
  rw[beq_eq_false_iff_ne.mpr this,beq_eq_false_iff_ne.mpr e]
structure Cmp (A:aP)(sh:ae)(u v:Value)(z:Bool):Prop where
 rc:kP A sh u v z
 ne:kD A sh u v (!z)
section
variable {X:Cx} {pins:yA} {W:St} {H:Hp} {sh:ae} {C:Nat->Addr} {s:kQ}
theorem bM1 (I:Inv X pins W H sh)(B:X.K=Γ.K)(R:Rp Γ C H s){d:kR}{x:V}{u:Value}(h:RV Γ C H d x)(r:RelV x u)(hk:lq s d≠9):Vw sh (lq s d) u:=by
 cases d with
 | non=>have e:=h.nonE;subst e;cases r;exact .non
 | bl b=>have e:=h.blE;subst e;cases r;exact .bl b
 | int i=>have e:=h.intE;subst e;obtain⟨t,rfl⟩:=r;exact .int i t
 | str y=>have e:=h.strE;subst e;obtain⟨t,rfl⟩:=r;exact .str _ t
 | tup l =>
  obtain⟨a,z,e,q,_⟩:=h.tupE
  subst e;cases r
  rw[<-B]at q
  obtain⟨its,_,t,_⟩:=I.tuple q
  exact .tup t
 | ref n =>
  have e:=h.refE;subst e;cases r
  have hk:(match s[n]? with|some (DV.O.lst l)=>4|_=>9:Nat)≠9:=hk
  show Vw sh (match s[n]? with|some (DV.O.lst l)=>4|_=>9:Nat) _
  cases hs:s[n]? with
  | none=>rw[hs]at hk;exact absurd rfl hk
  | some o =>
   rw[hs]at hk
   cases o with
   | lst l =>
    obtain⟨z,e,_⟩:=R.addr hs
    obtain⟨its,_,t,_⟩:=I.list (SqL.of e)
    exact .lst t.isList
   | _=>exact absurd rfl hk
 | fn _=>exact absurd rfl hk
 | clo _ _=>exact absurd rfl hk
theorem au8 (I:Inv X pins W H sh)(hK:X.K=Γ.K)(R:Rp Γ C H s){a b:kR}{x y:V}{u v:Value}{A:aP}{z:Bool}(h:lu s a b=some z)(J:RV Γ C H a x)(G:RV Γ C H b y)(r1:RelV x u)(B:RelV y v)(hu:A.units<cLine) :
  gX A sh u v z/\Cmp A sh u v z:=by
 rcases qu h with h|⟨_,hn,hz⟩
 .cases a<;>cases b<;>try cases h
  .cases J.nonE;cases G.nonE;cases r1;cases B
   exact⟨e8 _,SeqAt.RcAt.none_none,SeqAt.RcNeAt.none_none⟩
  .cases J.blE;cases G.blE;cases r1;cases B
   exact⟨SeqAt.EqAt.bool_bool _ _,SeqAt.RcAt.bool_bool _ _,SeqAt.RcNeAt.bool_bool _ _⟩
  .cases J.blE;cases G.intE;cases r1;obtain⟨t',rfl⟩:=B
   exact⟨SeqAt.EqAt.bool_int _ _ _,SeqAt.RcAt.bool_int _ _ _,SeqAt.RcNeAt.bool_int _ _ _⟩
  .cases J.intE;cases G.blE;obtain⟨t,rfl⟩:=r1;cases B
   exact⟨SeqAt.EqAt.int_bool _ _ _,SeqAt.RcAt.int_bool _ _ _,SeqAt.RcNeAt.int_bool _ _ _⟩
  .cases J.intE;cases G.intE;obtain⟨t,rfl⟩:=r1;obtain⟨t',rfl⟩:=B
   exact⟨SeqAt.EqAt.int_int _ _ _ _,SeqAt.RcAt.int_int _ _ _ _,SeqAt.RcNeAt.int_int _ _ _ _⟩
  .cases J.strE;cases G.strE;obtain⟨t,rfl⟩:=r1;obtain⟨t',rfl⟩:=B
   rw[<-bK9]
   exact⟨SeqAt.EqAt.str_str _ _ _ _,SeqAt.RcAt.str_str _ _ _ _,SeqAt.RcNeAt.str_str _ _ _ _⟩
 .subst hz
  unfold lR at hn
  simp only[eV,beq_eq_false_iff_ne]at hn
  have Z:=bM1 I hK R J r1 hn.1.1
  have w2:=bM1 I hK R G B hn.1.2
  exact⟨Z.eq w2 hn.2 hu,Z.rc w2 hn.2 hu,Z.ne w2 hn.2 hu⟩
theorem aT6 (I:Inv X pins W H sh)(hK:X.K=Γ.K)(R:Rp Γ C H s):∀(n:Nat) (a b:kR) (x y:V) (u v:Value) (A:aP) (z:Bool),k7 s n a b=some z->RV Γ C H a x->RV Γ C H b y->RelV x u->RelV y v->Room n A ->
  gX A sh u v z/\Cmp A sh u v z:=by
 intro n
 induction n with
 | zero=>intro a b x y u v A z h h1 h2 r1 r2 hr;unfold k7 at h;exact au8 I hK R h h1 h2 r1 r2 hr.units0
 | succ n ih =>
  have B:∀ {l m:List kR} {xs ys:List V} {its its':yG} {A:aP} {e:Nat->Bool},RVL Γ C H l xs->RVL Γ C H m ys->Vals xs its->Vals ys its'->Room n A->(∀ j d d',l[j]?=some d->m[j]?=some d'->k7 s n d d'=some (e j)) ->
    ∀ j (h1:j<its.toArray.size) (h2:j<its'.toArray.size),gX A sh its.toArray[j] its'.toArray[j] (e j):=by
   intro l m xs ys its its' A e d1 d2 v1 Z hr he j h1 h2
   have l1:=v1.length
   have l2:=Z.length
   have e1:=d1.length
   have e2:=d2.length
   have a3:j<its.length:=by simpa using h1
   have a4:j<its'.length:=by simpa using h2
   have hj:j<l.length:=by lia
   have a1:j<m.length:=by lia
   obtain⟨x,ex,dx⟩:=d1.get (ag hj)
   obtain⟨y,ey,dy⟩:=d2.get (ag a1)
   obtain⟨u,eu,ru⟩:=v1.get ex
   obtain⟨w,ew,a2⟩:=Z.get ey
   have g1:its.toArray[j]=u:=by
    have:=ag a3
    rw[eu]at this
    simpa using(au this).symm
   have g2:its'.toArray[j]=w:=by
    have:=ag a4
    rw[ew]at this
    simpa using(au this).symm
   rw[g1,g2]
   exact(ih _ _ x y u w A (e j) (he j _ _ (ag hj) (ag a1)) dx dy ru a2 hr).1
  intro a b x y u v A z h h1 h2 r1 r2 hr
  have hz:=h
  unfold k7 at h
  split at h
  .rename_i l m
   obtain⟨p,xs,ex,q1,d1⟩:=id h1.tupE
   obtain⟨q,ys,ey,q2,d2⟩:=id h2.tupE
   subst ex;subst ey
   cases r1;cases r2
   rw[<-hK]at q1 q2
   obtain⟨its,v1,t1,_⟩:=I.tuple q1
   obtain⟨its',Z,t2,_⟩:=I.tuple q2
   obtain⟨e,he,G⟩:=aJ9 h
   have l1:=v1.length
   have l2:=Z.length
   have e1:=d1.length
   have e2:=d2.length
   have sz:((bj (min its.toArray.size its'.toArray.size)).all e&&its.toArray.size==its'.toArray.size)=z:=by
    rw[<-G,Bool.and_comm,show its.toArray.size=l.length by simp;lia,show its'.toArray.size=m.length by simp;lia]
   have key:=SeqAt.RcAt.tuples (A:=A) (s:=sh) (e:=e) t1 t2 hr.units0 (B d1 d2 v1 Z hr.in1 he)
   have J:=SeqAt.RcNeAt.tuples (A:=A) (s:=sh) (e:=e) t1 t2 hr.units0 (B d1 d2 v1 Z hr.in1 he)
   rw[sz]at key J
   refine⟨?_,key,J⟩
   by_cases hab:p=q
   .subst hab
    rw[aD1 I hK R _ _ _ _ _ hz h1 h2]
    exact e8 _
   .exact jb hab key
  .rename_i p q
   split at h
   .rename_i l m hl hm
    obtain⟨xs,e1,d1⟩:=R.addr hl
    obtain⟨ys,e2,d2⟩:=R.addr hm
    have ex:=h1.refE
    have ey:=h2.refE
    subst ex;subst ey
    cases r1;cases r2
    obtain⟨its,v1,t1,_⟩:=I.list (SqL.of e1)
    obtain⟨its',Z,t2,_⟩:=I.list (SqL.of e2)
    have l1:=v1.length
    have l2:=Z.length
    have c1:=d1.length
    have c2:=d2.length
    have fin:Cmp A sh (.ref (C p)) (.ref (C q)) z:=by
     split at h
     .rename_i a0
      obtain⟨e,he,G⟩:=aJ9 h
      have sz:(bj its.toArray.size).all e=z:=by
       rw[<-G,show its.toArray.size=l.length by simp;omega,a0]
       simp
      have key:=SeqAt.RcAt.lists (A:=A) (s:=sh) (e:=e) t1.isList t2.isList (by simp;lia) hr.units0 (B d1 d2 v1 Z hr.in1 he)
      have J:=SeqAt.RcNeAt.lists (A:=A) (s:=sh) (e:=e) t1.isList t2.isList (by simp;omega) hr.units0 (B d1 d2 v1 Z hr.in1 he)
      rw[sz]at key J
      exact⟨key,J⟩
     .rename_i a0
      cases h
      have hs:(its.toArray.size != its'.toArray.size)=true:=by simp;lia
      exact⟨SeqAt.RcAt.lists_lengths t1.isList t2.isList hs hr.units0,SeqAt.RcNeAt.lists_lengths t1.isList t2.isList hs hr.units0⟩
    refine⟨?_,fin⟩
    by_cases hab:C p=C q
    .rw[aD1 I hK R _ _ _ _ _ hz RV.refI (by rw[hab];exact RV.refI),hab]
     exact e8 _
    .exact jb hab fin.rc
   .cases h
  .exact au8 I hK R h h1 h2 r1 r2 hr.units0
end
variable {Γ:Gm} {X:Cx}
noncomputable def bQ9:mJ->Operator
 | .add=>.Add|.sub=>.Sub|.mul=>.Mult|.fdiv=>.FloorDiv|.mod=>.Mod|.pow=>.Pow|.shl=>.LShift|.shr=>.RShift|.band=>.BitAnd|.bor=>.BitOr
noncomputable def br9:mD->CmpOp
 | .eq=>.Eq|.ne=>.NotEq|.lt=>.Lt|.le=>.LtE|.gt=>.Gt|.ge=>.GtE|.isin=>.In|.notin=>.NotIn
def rOp (Γ:Gm)(f:kR->kR->kQ->kW kR):R2:=fun x y H Q=>∃ C s a b d s',Rp Γ C H s/\RV Γ C H a x/\RV Γ C H b y/\a.bnd s.length=true/\b.bnd s.length=true/\f a b s=.ok d s'/\ac3 Γ C s H d s' Q
theorem zD {d e:kR}{s t:kQ}(h:mK d s=.ok e t):d=e/\s=t:=by
 unfold mK at h
 cases h
 exact⟨rfl,rfl⟩
theorem zT {o:ls}{e:kR}{s t:kQ}(h:lH o s=.ok e t):e=.ref s.length/\t=s++[o]:=by
 unfold lH at h
 cases h
 exact⟨rfl,rfl⟩
theorem aJ4 (a b:List Nat):(⟨a.toArray⟩:Str)++⟨b.toArray⟩=⟨(a++b).toArray⟩:=by
 show Str.append _ _=_
 unfold Str.append
 simp
theorem zB:kZ<=aL:=by rw[cF];decide
theorem bt4:OpR X (b7 .LShift) (rI (fun i j=>0<=j/\j<=1000000/\i.natAbs<2^128) fun i j=>.int (i*2^j.toNat)):=opI fun _ _ _ _ _ _ _ hc q=>lshift_int hc.1 (by
 have h:=intBits_le hc.2.2
 have y:=hc.2.1
 lia) q
theorem bo5:OpR X (b7 .Mult) (rI (fun i j=>DV.mulOk i j=true) fun i j=>.int (i*j)):=opI fun i j _ _ _ _ _ hc q=>mul_int q (by
 unfold DV.mulOk at hc
 simp only[bR,ai,decide_eq_true_eq]at hc
 rcases hc with(h|h)|⟨z,y⟩
 .exact bN8.ok (.inl (by omega))
 .exact bN8.ok (.inr (by omega))
 .unfold DV.BIG at z y
  exact IntMulOk.of_le (m:=60000) (n:=60000) (intBits_le_iff.mpr z) (intBits_le_iff.mpr y) (by decide))
theorem aA1 (l:List Nat):∀(n:Nat) (h:Array Nat),(aF n l.toArray).foldl (·++·) h=h++(lp n l).toArray
 | 0,h=>by simp[lp]
 | n+1,h=>by
  rw[bH,dr,aA1 l n]
  simp[lp,iV]
theorem bq0 (l:List Nat):lp 1 l=l:=by simp[lp]
theorem aR6:∀ n,lp n []=[]
 | 0=>rfl
 | n+1=>by simp[lp,aR6 n]
theorem rep_len (l:List Nat):∀ n,(lp n l).length=l.length*n
 | 0=>by simp[lp]
 | n+1=>by simp[lp,rep_len l n,jJ];lia
theorem bl8:OpR X (b7 .Mult) (fun x y H Q=>∃(l:List Nat) (n:Int),x=.str ⟨l.toArray⟩/\y=.int n/\(0<=n/\n<=1000000/\l.length*n.toNat<=kZ)/\Q (.str ⟨(lp n.toNat l).toArray⟩) H):=by
 intro G s W H x y v u Q I Z J h
 obtain⟨l,n,rfl,rfl,⟨h0,h1,h2⟩,q⟩:=h
 obtain⟨t,rfl⟩:=Z
 obtain⟨t',rfl⟩:=J
 have z:(⟨l.toArray⟩:Str).length=l.length:=by show l.toArray.size=_;simp
 have hL:=zB
 have h64:=ai3
 refine SB.mul ⟨?_,fun hn _=>?_,fun hn _=>?_⟩ fun t2 k=>?_
 .rw[decide_eq_false (by lia),decide_eq_false (by lia)];rfl
 .rw[z]
  have B:1<=n:=by lia
  intro hgt
  have h3:(l.length:Int)*n<=1000000:=by
   have:((l.length*n.toNat:Nat):Int)<=(kZ:Nat):=Int.ofNat_le.mpr h2
   rw[jL,c7 h0]at this
   have e:((kZ:Nat):Int)=1000000:=by unfold kZ;rfl
   lia
  have h4:(l.length:Int)<=1000000:=by
   have:(l.length:Int)*1<=(l.length:Int)*n:=eZ B (by lia)
   lia
  have h5:(1000000:Int)<=(2^63 - 1) / n:=by
   rw[Int.le_ediv_iff_mul_le (by omega)]
   have:(1000000:Int)*n<=1000000*1000000:=eZ h1 (by lia)
   lia
  lia
 .rw[z]
  unfold kc
  exact decide_eq_false (by lia)
 .have e:Txt.mul ⟨l.toArray⟩ n=⟨(lp n.toNat l).toArray⟩:=by
   unfold Txt.mul
   split
   .have:n.toNat=0:=by lia
    rw[this];rfl
   .split
    .rename_i hc
     rw[bR]at hc
     rcases hc with hc|hc
     .have:n=1:=by simpa using hc
      subst this
      show(⟨l.toArray⟩:Str)=⟨(lp 1 l).toArray⟩
      rw[bq0]
     .have:l=[]:=by
       have:=eq_of_beq hc
       rw[z]at this
       exact ee.mp this
      subst this
      rw[aR6]
    .show(⟨(aF n.toNat l.toArray).foldl (·++·) #[]⟩:Str)=_
     rw[aA1];simp
  rw[e]
  exact⟨.str _,H,I.tok _,⟨_,rfl⟩,q⟩
theorem aj5 {n:Nat}{l:List kR}(h:kS n l=true):∀ k,kS n (lG k l)=true
 | 0=>rfl
 | k+1=>zJ h (aj5 h k)
theorem RVL.repD {C:Nat->Addr}{H:Hp}{l:List kR}{y:List V}(h:RVL Γ C H l y):∀ k,RVL Γ C H (lG k l) (aj8 k y)
 | 0=>RVL.nil
 | k+1=>h.append (RVL.repD h k)
theorem aq8 {α:Type}(h:List α):∀ k,aj8 k h=(aF k h).flatten
 | 0=>rfl
 | k+1=>by rw[bH,cV,<-aq8 h k];rfl
theorem bb3 {x y:Int}(hx:0<=x)(hy:0<=y):gg x y=((x.toNat ||| y.toNat:Nat):Int):=by
 have nn:∀ z:Int,eI (eI z)=z:=fun z=>by unfold eI;lia
 unfold gg
 rw[bitAnd_nn (by unfold eI;lia) (by unfold eI;lia),nn,nn,nn]
theorem by3 (hK:X.K=Γ.K)(op:mJ):OpR X (b7 (bQ9 op)) (rOp Γ (DV.qw op)):=by
 intro G s W H x y v u Q I rx Z h
 obtain⟨C,st,a,b,d,a0,R,ha,hb,na,nb,B,q⟩:=h
 cases op with
 | add =>
  cases a with
  | int a =>
   cases b with
   | int b =>
    change(mK _) st=_ at B
    obtain⟨rfl,rfl⟩:=zD B
    have ex:=ha.intE;have J:=hb.intE;subst ex;subst J
    exact bH3 G s W H _ _ v u Q I rx Z ⟨_,_,rfl,rfl,q.here R rfl RV.intI⟩
   | _=>exact fb B
  | str a =>
   cases b with
   | str b =>
    change(if _ then _ else _:lQ kR) st=_ at B
    split at B
    .rename_i hl
     obtain⟨rfl,rfl⟩:=zD B
     have ex:=ha.strE;have J:=hb.strE;subst ex;subst J
     refine aI4 G s W H _ _ v u Q I rx Z ⟨_,_,rfl,rfl,?_,?_⟩
     .show a.toArray.size+b.toArray.size<=_
      simp only[av]
      exact aj hl zB
     .rw[aJ4];exact q.here R rfl (RV.strI (by rw[aC];exact hl))
    .exact fb B
   | _=>exact fb B
  | tup a =>
   cases b with
   | tup b =>
    change(if _ then _ else _:lQ kR) st=_ at B
    split at B
    .rename_i hl
     obtain⟨rfl,rfl⟩:=zD B
     obtain⟨p,xs,⟨rfl,z1⟩,h1,d1⟩:=ha.tupZ
     obtain⟨p',ys,⟨rfl,z2⟩,h2,d2⟩:=hb.tupZ
     refine bu9 hK G s W H _ _ v u Q I rx Z ⟨p,p',xs,ys,rfl,rfl,h1,h2,?_,fun t H' e ht hn=>?_⟩
     .rw[d1.length,d2.length];exact aj hl zB
     .obtain⟨g,r'⟩:=R.same e
      unfold kY at na nb
      refine q _ _ _ g (ah _) (by unfold kY;exact zJ na nb) (RV.tupC ht (fun z=>?_) ((RVL.mono g _ _ na d1).append (RVL.mono g _ _ nb d2))) r'
      rcases hn with hn|⟨rfl,rfl⟩|⟨rfl,rfl⟩
      .exact hn
      .rw[d2.tonil,bt]at z;rw[bt];exact e _ _ (z1 z)
      .rw[d1.tonil]at z;exact e _ _ (z2 z)
    .exact fb B
   | _=>exact fb B
  | ref a =>
   cases b with
   | ref b =>
    change(match st[a]?,st[b]? with|some (DV.O.lst l),some (DV.O.lst m)=>if l.length+m.length<=kZ then lH (.lst (l++m)) st else .bad|_,_=>.bad:kW kR)=_ at B
    split at B
    .rename_i l m h1 h2
     split at B
     .rename_i hl
      obtain⟨rfl,rfl⟩:=zT B
      obtain⟨xs,e1,d1⟩:=R.addr h1
      obtain⟨ys,e2,d2⟩:=R.addr h2
      have ex:=ha.refE;have J:=hb.refE;subst ex;subst J
      have b1:=R.wf _ _ h1
      have b2:=R.wf _ _ h2
      unfold kU at b1 b2
      refine bE7 G s W H _ _ v u Q I rx Z ⟨C a,C b,xs,ys,rfl,rfl,e1,e2,?_,fun p hp=>?_⟩
      .rw[d1.length,d2.length];exact aj hl zB
      .exact q.alloc R (d1.append d2) (zJ b1 b2) hp
     .exact fb B
    .exact fb B
   | _=>exact fb B
  | _=>exact fb B
 | sub=>exact fb B
 | mul =>
  cases a with
  | int a =>
   cases b with
   | int b =>
    change(if _ then _ else _:lQ kR) st=_ at B
    split at B
    .rename_i hc
     obtain⟨rfl,rfl⟩:=zD B
     have ex:=ha.intE;have J:=hb.intE;subst ex;subst J
     exact bo5 G s W H _ _ v u Q I rx Z ⟨_,_,rfl,rfl,hc,q.here R rfl RV.intI⟩
    .exact fb B
   | _=>exact fb B
  | str a =>
   cases b with
   | int b =>
    change(if _ then _ else _:lQ kR) st=_ at B
    split at B
    .rename_i hc
     obtain⟨rfl,rfl⟩:=zD B
     have ex:=ha.strE;have J:=hb.intE;subst ex;subst J
     exact bl8 G s W H _ _ v u Q I rx Z ⟨_,_,rfl,rfl,hc,q.here R rfl (RV.strI (by rw[rep_len];exact hc.2.2))⟩
    .exact fb B
   | _=>exact fb B
  | tup a =>
   cases b with
   | int b =>
    change(if _ then _ else _:lQ kR) st=_ at B
    split at B
    .rename_i hc
     obtain⟨rfl,rfl⟩:=zD B
     obtain⟨p,xs,⟨rfl,z1⟩,h1,d1⟩:=ha.tupZ
     have J:=hb.intE;subst J
     refine bw8 hK G s W H _ _ v u Q I rx Z ⟨p,xs,_,rfl,rfl,h1,⟨hc.1,hc.2.1,by rw[d1.length];exact hc.2.2⟩,fun t H' e ht hn=>?_⟩
     obtain⟨g,r'⟩:=R.same e
     unfold kY at na
     refine q _ _ _ g (ah _) (by unfold kY;exact aj5 na _) (RV.tupC ht (fun z=>?_) (RVL.repD (RVL.mono g _ _ na d1) _)) r'
     rcases hn with hn|⟨rfl,ex⟩
     .exact hn
     .rw[ex];exact e _ _ (z1 (bt3 z))
    .exact fb B
   | _=>exact fb B
  | ref a =>
   cases b with
   | int b =>
    change(match st[a]? with|some (DV.O.lst l)=>if 0<=b/\b<=1000000/\l.length*b.toNat<=kZ then lH (.lst (lG b.toNat l)) st else .bad|_=>.bad:kW kR)=_ at B
    split at B
    .rename_i l h1
     split at B
     .rename_i hc
      obtain⟨rfl,rfl⟩:=zT B
      obtain⟨xs,e1,d1⟩:=R.addr h1
      have ex:=ha.refE;have J:=hb.intE;subst ex;subst J
      have b1:=R.wf _ _ h1
      unfold kU at b1
      refine bz4 G s W H _ _ v u Q I rx Z ⟨C a,b,xs,rfl,rfl,e1,by lia,by omega,?_,fun p hp=>?_⟩
      .rw[d1.length];exact aj hc.2.2 zB
      .rw[<-aq8];exact q.alloc R (RVL.repD d1 _) (aj5 b1 _) hp
     .exact fb B
    .exact fb B
   | _=>exact fb B
  | _=>exact fb B
 | fdiv =>
  cases a with
  | int a =>
   cases b with
   | int b =>
    change(if _ then _ else _:lQ kR) st=_ at B
    split at B
    .rename_i hc
     obtain⟨rfl,rfl⟩:=zD B
     have ex:=ha.intE;have J:=hb.intE;subst ex;subst J
     refine aW3 G s W H _ _ v u Q I rx Z ⟨_,_,rfl,rfl,⟨hc.1,?_⟩,q.here R rfl RV.intI⟩
     have:=hc.2
     unfold DV.DIVL at this
     simpa using this
    .exact fb B
   | _=>exact fb B
  | _=>exact fb B
 | mod =>
  cases a with
  | int a =>
   cases b with
   | int b =>
    change(if _ then _ else _:lQ kR) st=_ at B
    split at B
    .rename_i hc
     obtain⟨rfl,rfl⟩:=zD B
     have ex:=ha.intE;have J:=hb.intE;subst ex;subst J
     exact bC1 G s W H _ _ v u Q I rx Z ⟨_,_,rfl,rfl,hc,q.here R rfl RV.intI⟩
    .exact fb B
   | _=>exact fb B
  | _=>exact fb B
 | pow =>
  cases a with
  | int a =>
   cases b with
   | int b =>
    change(if _ then _ else _:lQ kR) st=_ at B
    split at B
    .rename_i hc
     obtain⟨rfl,rfl⟩:=zD B
     have ex:=ha.intE;have J:=hb.intE;subst ex;subst J
     exact bK3 G s W H _ _ v u Q I rx Z ⟨_,_,rfl,rfl,hc,q.here R rfl RV.intI⟩
    .exact fb B
   | _=>exact fb B
  | _=>exact fb B
 | shl =>
  cases a with
  | int a =>
   cases b with
   | int b =>
    change(if _ then _ else _:lQ kR) st=_ at B
    split at B
    .rename_i hc
     obtain⟨rfl,rfl⟩:=zD B
     have ex:=ha.intE;have J:=hb.intE;subst ex;subst J
     exact bt4 G s W H _ _ v u Q I rx Z ⟨_,_,rfl,rfl,hc,q.here R rfl RV.intI⟩
    .exact fb B
   | _=>exact fb B
  | _=>exact fb B
 | shr =>
  cases a with
  | int a =>
   cases b with
   | int b =>
    change(if _ then _ else _:lQ kR) st=_ at B
    split at B
    .rename_i hc
     obtain⟨rfl,rfl⟩:=zD B
     have ex:=ha.intE;have J:=hb.intE;subst ex;subst J
     exact bD9 G s W H _ _ v u Q I rx Z ⟨_,_,rfl,rfl,hc,q.here R rfl RV.intI⟩
    .exact fb B
   | _=>exact fb B
  | _=>exact fb B
 | band =>
  cases a with
  | int a =>
   cases b with
   | int b =>
    change(if _ then _ else _:lQ kR) st=_ at B
    split at B
    .rename_i hc
     obtain⟨rfl,rfl⟩:=zD B
     have ex:=ha.intE;have J:=hb.intE;subst ex;subst J
     exact bq7 G s W H _ _ v u Q I rx Z ⟨_,_,rfl,rfl,hc,q.here R rfl RV.intI⟩
    .exact fb B
   | _=>exact fb B
  | _=>exact fb B
 | bor =>
  cases a with
  | int a =>
   cases b with
   | int b =>
    change(if _ then _ else _:lQ kR) st=_ at B
    split at B
    .rename_i hc
     obtain⟨rfl,rfl⟩:=zD B
     have ex:=ha.intE;have J:=hb.intE;subst ex;subst J
     exact bP2 G s W H _ _ v u Q I rx Z ⟨_,_,rfl,rfl,by show Q (V.int (gg a b)) H;rw[bb3 hc.1 hc.2];exact q.here R rfl RV.intI⟩
    .exact fb B
   | _=>exact fb B
  | _=>exact fb B
variable {Γ:Gm} {X:Cx} {pins:yA} {W:St} {H:Hp} {sh:ae} {C:Nat->Addr} {s:kQ}
theorem aD9 {n:Nat}{a b:kR}{z:Bool}(h:k7 s n a b=some z):lq s a≠9:=by
 cases n with
 | zero=>unfold k7 at h;exact(ac9 h).1
 | succ n =>
  unfold k7 at h
  split at h
  .simp[lq]
  .split at h
   .rename_i y _;simp[lq,y]
   .cases h
  .exact(ac9 h).1
theorem aK2 (I:Inv X pins W H sh)(G:X.K=Γ.K)(R:Rp Γ C H s):∀(n:Nat) (a b c:kR) (x:V) (p q:Bool),RV Γ C H a x->RV Γ C H b x->k7 s n a c=some p->k7 s n b c=some q->p=q:=by
 intro n
 induction n with
 | zero =>
  intro a b c x p q y h e1 e2
  rcases rv_two I G R y h (aD9 e1) (aD9 e2)with e|⟨l,m,_,_,rfl,rfl,_⟩
  .subst e;rw[e1]at e2;exact au e2
  .unfold k7 at e1 e2
   have:lu s (.tup l) c=lu s (.tup m) c:=by unfold lu;cases c<;>rfl
   rw[this,e2]at e1;exact(au e1).symm
 | succ n ih =>
  have B:∀(l m k:List kR) (z:List V) (p q:Bool),RVL Γ C H l z->RVL Γ C H m z->ln (k7 s n) l k=some p->ln (k7 s n) m k=some q->p=q:=by
   intro l
   induction l with
   | nil =>
    intro m k z p q y h e1 e2
    have:=y.unnil;subst this
    have hm:m=[]:=by have:=h.length;exact ee.mp this.symm
    subst hm
    rw[e1]at e2;exact au e2
   | cons a l ihl =>
    intro m k z p q y h e1 e2
    obtain⟨x,r,rfl,g1,g2⟩:=y.uncons
    cases m with
    | nil=>have:=h.unnil;cases this
    | cons b m =>
     obtain⟨x',r',e,g3,g4⟩:=h.uncons
     cases e
     cases k with
     | nil=>unfold ln at e1 e2;rw[<-au e1,<-au e2]
     | cons c k =>
      obtain⟨p1,J,a1,a2,a3⟩:=af4 e1
      obtain⟨q1,q2,Z,b2,b3⟩:=af4 e2
      rw[a3,b3,ih a b c x p1 q1 g1 g3 a1 Z,ihl m k r J q2 g2 g4 a2 b2]
  intro a b c x p q y h e1 e2
  rcases rv_two I G R y h (aD9 e1) (aD9 e2)with e|⟨l,m,_,z,rfl,rfl,_,d1,d2⟩
  .subst e;rw[e1]at e2;exact au e2
  .cases c with
   | tup k=>unfold k7 at e1 e2;exact B l m k z p q d1 d2 e1 e2
   | _ =>
    unfold k7 at e1 e2
    simp only at e1 e2
    have e3:lu s (.tup l)=lu s (.tup m):=by funext c;unfold lu;cases c<;>rfl
    rw[e3]at e1
    exact au (e1.symm.trans e2)
theorem bj4 {x:kR}:∀ {l:List kR} {z:Bool},lI s x l=some z->∃ e:Nat->Bool,(∀ j d,l[j]?=some d->k7 s li d x=some (e j))/\(z=true↔∃ j,j<l.length/\e j=true)
 | [],z,h=>by
  unfold lI at h
  cases h
  exact⟨fun _=>true,fun j d h=>by simp at h,by simp⟩
 | y::l,z,h=>by
  unfold lI at h
  cases e1:k7 s li y x with
  | none=>rw[e1]at h;cases h
  | some a =>
   cases e2:lI s x l with
   | none=>rw[e1,e2]at h;cases h
   | some b =>
    rw[e1,e2]at h
    obtain⟨e,G,B⟩:=bj4 e2
    refine⟨fun j=>match j with|0=>a|j+1=>e j,fun j d g=>?_,?_⟩
    .cases j with
     | zero=>simp at g;subst g;exact e1
     | succ j=>exact G j d (by simpa using g)
    .have hz:(a||b)=z:=au h
     rw[<-hz,bR,B]
     constructor
     .rintro(q|⟨j,hj,q⟩)
      .exact⟨0,by simp,q⟩
      .exact⟨j+1,by simpa using hj,q⟩
     .rintro⟨j,hj,q⟩
      cases j with
      | zero=>exact .inl q
      | succ j=>exact .inr ⟨j,by simpa using hj,q⟩
theorem bg0 (I:Inv X pins W H sh)(hK:X.K=Γ.K)(R:Rp Γ C H s){x:kR}{xv:V}{Z:Value}(hx:RV Γ C H x xv)(rx:RelV xv Z){l:List kR}{ys:List V}{its:yG}(hl:RVL Γ C H l ys)(hv:Vals ys its){z:Bool}(h:lI s x l=some z){A:aP}(hr:Room li A) :
  ∃ e:Value->Bool,(∀ y,y∈its.toArray->gX A sh y Z (e y))/\its.toArray.any e=z:=by
 obtain⟨e,h1,h2⟩:=bj4 h
 have len:its.length=l.length:=by rw[<-hv.length];exact hl.length
 have B:∀ j u,its[j]?=some u->∃ d y,l[j]?=some d/\ys[j]?=some y/\RV Γ C H d y/\RelV y u:=fun j u g=>by
  have hj:j<l.length:=by rw[<-len];exact(ac.mp g).1
  obtain⟨y,g1,g2⟩:=hl.get (ag hj)
  obtain⟨u',g3,g4⟩:=hv.get g1
  rw[g]at g3;cases g3
  exact⟨_,y,ag hj,g1,g2,g4⟩
 classical
 let f:Value->Bool:=fun u=>decide (∃ j,its[j]?=some u/\e j=true)
 have J:∀ j u,its[j]?=some u->f u=e j:=fun j u g=>by
  obtain⟨d,y,g1,g2,g3,g4⟩:=B j u g
  cases q:e j with
  | true=>exact decide_eq_true ⟨j,g,q⟩
  | false =>
   refine decide_eq_false fun⟨k,g',q'⟩=>?_
   obtain⟨d',y',k1,k2,k3,k4⟩:=B k u g'
   have ey:y'=y:=k4.inj g4
   subst ey
   have:=aK2 I hK R _ d d' x _ _ _ g3 k3 (h1 j d g1) (h1 k d' k1)
   rw[q,q']at this;cases this
 refine⟨f,fun u hu=>?_,?_⟩
 .obtain⟨j,hj,g⟩:=bI.mp (by simpa using hu:u∈its)
  have g':its[j]?=some u:=by rw[ag hj,g]
  obtain⟨d,y,g1,g2,g3,g4⟩:=B j u g'
  rw[J j u g']
  exact(aT6 I hK R _ d x y xv u Z A _ (h1 j d g1) g3 hx g4 rx hr).1
 .have e1:its.toArray.any f=true↔z=true:=by
   rw[h2,List.any_toArray,jD]
   constructor
   .rintro⟨u,hu,q⟩
    obtain⟨j,hj,g⟩:=bI.mp hu
    have g':its[j]?=some u:=by rw[ag hj,g]
    exact⟨j,by lia,by rw[<-J j u g'];exact q⟩
   .rintro⟨j,hj,q⟩
    have G:j<its.length:=by lia
    exact⟨its[j],List.getElem_mem G,by rw[J j _ (ag G)];exact q⟩
  cases z<;>cases q:its.toArray.any f
  .rfl
  .have:=e1.mp q;cases this
  .rw[q]at e1;have:=e1.mpr rfl;cases this
  .rfl
variable {Γ:Gm} {X:Cx}
theorem aa0 {α β:Type}{r:kW α}{f:α->kQ->kW β}{b:β}{t:kQ}(h:r.bind f=.ok b t):∃ a s,r=.ok a s/\f a s=.ok b t:=DV.R.bind_inv h
theorem bi2 (hK:X.K=Γ.K)(hr:Room (li+1) X.A)(B:Bool){G:yA}{sh:ae}{W:St}{H:Hp}{x y:V}{v u:Value}{C:Nat->Addr}{st Z:kQ}{a b:kR}{z:Bool}
  (I:Inv X G W H sh) (rx:RelV x v) (ry:RelV y u) (R:Rp Γ C H st) (ha:RV Γ C H a x) (hb:RV Γ C H b y) (h:mF a b st=.ok z Z) :
  Z=st/\∀ Q:Value->ae->Prop,(∀ a0,Inv X G W H a0->Q (.bool (if B then !z else z)) a0)->wpAny (model X.prog X.w) X.A (d8 (if B then .NotIn else .In) v u) Q X.xe sh:=by
 unfold mF at h
 cases b with
 | tup l =>
  simp only at h
  cases e:lI st a l with
  | none=>rw[e]at h;cases h
  | some w =>
   rw[e]at h
   cases h
   obtain⟨p,ys,rfl,q,d⟩:=hb.tupE
   cases ry
   rw[<-hK]at q
   obtain⟨its,rv,t,_⟩:=I.tuple q
   obtain⟨f,h1,h2⟩:=bg0 I hK R ha rx d rv e (A:=X.A.in1) hr.in1
   refine⟨rfl,fun Q hq=>?_⟩
   cases B with
   | false=>exact SeqAt.in_tupleAt f t h1 (by rw[h2];exact hq _ I)
   | true=>exact SeqAt.notIn_tupleAt f t h1 (by rw[h2];exact hq _ I)
 | str y0 =>
  simp only at h
  split at h
  case h_2=>exact fb h
  rename_i c
  cases h
  refine⟨rfl,fun Q hq=>?_⟩
  have e1:=ha.strE
  have e2:=hb.strE
  subst e1 e2
  obtain⟨t1,rfl⟩:=rx
  obtain⟨t2,rfl⟩:=ry
  have J:=kt (⟨y0.toArray⟩:Str) c
  cases B with
  | false=>exact in_str (by rw[show(⟨[c].toArray⟩:Str)=⟨#[c]⟩from rfl,J];simpa using hq _ I)
  | true=>exact notIn_str (by rw[show(⟨[c].toArray⟩:Str)=⟨#[c]⟩from rfl,J];simpa using hq _ I)
 | ref r =>
  simp only at h
  cases hs:st[r]? with
  | none=>rw[hs]at h;cases h
  | some o =>
   rw[hs]at h
   cases o with
   | lst l =>
    simp only at h
    cases e:lI st a l with
    | none=>rw[e]at h;cases h
    | some w =>
     rw[e]at h
     cases h
     obtain⟨ys,e1,d⟩:=R.addr hs
     have ey:=hb.refE;subst ey
     cases ry
     obtain⟨its,rv,t,_⟩:=I.list (SqL.of e1)
     obtain⟨f,h1,h2⟩:=bg0 I hK R ha rx d rv e (A:=X.A.in1) hr.in1
     refine⟨rfl,fun Q hq=>?_⟩
     cases B with
     | false=>exact SeqAt.in_listAt f t.isList h1 (by rw[h2];exact hq _ I)
     | true=>exact SeqAt.notIn_listAt f t.isList h1 (by rw[h2];exact hq _ I)
   | dic l =>
    simp only at h
    split at h
    case isFalse=>exact fb h
    rename_i a1
    cases h
    obtain⟨k,hk⟩:=zW a1
    obtain⟨kvs,e1,d⟩:=R.obj r _ hs
    have ey:=hb.refE;subst ey
    cases ry
    have ex:=ag2 hk ha;subst ex
    have ez:(k9 a l).isSome=(ak0 kvs k).isSome:=by
     rcases d.val zy hk with⟨q1,q2⟩|⟨_,_,q1,q2,_⟩<;>rw[q1,q2]<;>rfl
    refine⟨rfl,fun Q hq=>?_⟩
    rw[ez]at hq
    cases B with
    | false=>exact bY7 (al0 hr) I (av5.k e1) rx hq
    | true=>exact bq8 (al0 hr) I (av5.k e1) rx hq
   | ro l=>exact fb h
   | ins c l=>exact fb h
   | dicF l=>exact fb h
 | _=>exact fb h
theorem bF5 {a b d:kR}{st y:kQ}(h:mM .le a b st=.ok d y):∃ i j,a=.int i/\b=.int j:=by
 cases a with
 | int i =>
  (cases b with
  | int j=>exact⟨i,j,rfl,rfl⟩
  | _=>exact fb h)
 | _=>exact fb h
theorem ar1 {a:kR}{i:Int}{x:List Nat}(h:DV.ba1 a=some (i,x)):a=.tup [.int i,.str x]:=by
 unfold DV.ba1 at h
 split at h
 .cases h;rfl
 .cases h
theorem aZ4 {f:Int->List Nat->Int->List Nat->Bool}{a b d:kR}{st z:kQ}(h:DV.bN6 f a b st=.ok d z):∃ i x j y,a=.tup [.int i,.str x]/\b=.tup [.int j,.str y]:=by
 unfold DV.bN6 at h
 split at h
 .rename_i i x j y e1 e2
  exact⟨i,x,j,y,ar1 e1,ar1 e2⟩
 .exact fb h
theorem ord_inv {op:mD}{a b d:kR}{st z:kQ}(ho:op=.lt\/op=.gt\/op=.ge)(h:mM op a b st=.ok d z):(∃ i j,a=.int i/\b=.int j)\/∃ i x j y,a=.tup [.int i,.str x]/\b=.tup [.int j,.str y]:=by
 rcases ho with rfl|rfl|rfl <;>
 (cases a with
 | int i =>
  (cases b with
  | int j=>exact .inl ⟨i,j,rfl,rfl⟩
  | _=>exact fb h)
 | tup l =>
  (cases b with
  | tup m=>first|exact .inr (aZ4 h)|exact fb h
  | _=>exact fb h)
 | _=>exact fb h)
section
variable {pins:yA} {sh:ae} {W:St} {H:Hp} {C:Nat->Addr} {st:kQ}
end
theorem bF2 (hK:X.K=Γ.K)(hr:Room (li+1) X.A)(op:mD):OpR X (d8 (br9 op)) (rOp Γ (mM op)):=by
 intro G s W H x y v u Q I rx Z h
 obtain⟨C,st,a,b,d,J,R,ha,hb,na,nb,B,q⟩:=h
 cases op with
 | eq =>
  have B:DV.eqM a b st=.ok d J:=B
  unfold DV.eqM at B
  cases e:k7 st li a b with
  | none=>rw[e]at B;cases B
  | some z =>
   rw[e]at B;cases B
   exact(aT6 I hK R _ a b x y v u X.A z e ha hb rx Z (hr.mono (by lia))).2.rc X.prog X.w X.xe _ ⟨.bl z,H,I,rfl,q.here R rfl RV.blI⟩
 | ne =>
  have B:(match k7 st li a b with|some r=>.ok (.bl (!r)) st|none=>.bad:kW kR)=.ok d J:=B
  cases e:k7 st li a b with
  | none=>rw[e]at B;cases B
  | some z =>
   rw[e]at B;cases B
   exact(aT6 I hK R _ a b x y v u X.A z e ha hb rx Z (hr.mono (by omega))).2.ne X.prog X.w X.xe _ ⟨.bl (!z),H,I,rfl,q.here R rfl RV.blI⟩
 | lt =>
  rcases ord_inv (.inl rfl) B with⟨i,j,rfl,rfl⟩|⟨i,x0,j,y0,rfl,rfl⟩
  .cases B
   have ex:=ha.intE;have ey:=hb.intE;subst ex;subst ey
   exact bS4 G s W H _ _ v u Q I rx Z ⟨_,_,rfl,rfl,q.here R rfl RV.blI⟩
  .exact fb B
 | le =>
  obtain⟨i,j,rfl,rfl⟩:=bF5 B
  cases B
  have ex:=ha.intE;have ey:=hb.intE;subst ex;subst ey
  exact bT0 G s W H _ _ v u Q I rx Z ⟨_,_,rfl,rfl,q.here R rfl RV.blI⟩
 | gt =>
  rcases ord_inv (.inr (.inl rfl)) B with⟨i,j,rfl,rfl⟩|⟨i,x0,j,y0,rfl,rfl⟩
  .cases B
   have ex:=ha.intE;have ey:=hb.intE;subst ex;subst ey
   exact bP1 G s W H _ _ v u Q I rx Z ⟨_,_,rfl,rfl,q.here R rfl RV.blI⟩
  .exact fb B
 | ge=>exact fb B
 | isin =>
  have B:(mF a b st).bind (fun r s=>.ok (.bl r) s)=.ok d J:=B
  obtain⟨z,s1,e1,e2⟩:=aa0 B
  obtain⟨rfl,w⟩:=bi2 hK hr false I rx Z R ha hb e1
  cases e2
  exact w _ fun s' I'=>⟨.bl z,H,I',rfl,q.here R rfl RV.blI⟩
 | notin =>
  have B:(mF a b st).bind (fun r s=>.ok (.bl (!r)) s)=.ok d J:=B
  obtain⟨z,s1,e1,e2⟩:=aa0 B
  obtain⟨rfl,w⟩:=bi2 hK hr true I rx Z R ha hb e1
  cases e2
  exact w _ fun s' I'=>⟨.bl (!z),H,I',rfl,q.here R rfl RV.blI⟩
theorem aT7 {C:Nat->Addr}{H:Hp}{l:List kR}{y:List V}{i:Int}{d:kR}(h:RVL Γ C H l y)(e:((lJ l.length i).bind fun j=>l[j]?)=some d):∃ v,atI y i=some v/\RV Γ C H d v:=by
 cases hj:lJ l.length i with
 | none=>rw[hj]at e;cases e
 | some j =>
  rw[hj]at e
  obtain⟨v,e1,e2⟩:=h.get (show l[j]?=some d from e)
  refine⟨v,?_,e2⟩
  unfold atI
  have:ixN y.length i=some j:=by rw[h.length];exact hj
  rw[this];exact e1
theorem ay2 {l:List kR}{i:Int}{d:kR}(e:((lJ l.length i).bind fun j=>l[j]?)=some d):d∈l:=by
 cases hj:lJ l.length i with
 | none=>rw[hj]at e;cases e
 | some j=>rw[hj]at e;exact aG (show l[j]?=some d from e)
theorem bP0 (hK:X.K=Γ.K)(hu:X.A.units+2<cLine):IxR X (rOp Γ DV.ixM):=by
 intro B G J s W H x y v u Q I rx ry h hs
 obtain⟨C,st,a,b,d,a2,R,ha,hb,na,nb,z,q⟩:=h
 unfold DV.ixM at z
 cases a with
 | tup l =>
  cases b with
  | int i =>
   simp only at z
   split at z
   .rename_i d' e
    cases z
    obtain⟨p,xs,rfl,h1,d1⟩:=ha.tupE
    have Z:=hb.intE;subst Z
    obtain⟨w,e1,e2⟩:=aT7 d1 e
    unfold kY at na
    exact bk3 hK B G J s W H _ _ v u Q I rx ry ⟨p,xs,i,w,rfl,rfl,h1,e1,q.here R (aa2.mp na _ (ay2 e)) e2⟩ hs
   .exact fb z
  | _=>exact fb z
 | str l =>
  cases b with
  | int i =>
   simp only at z
   split at z
   .rename_i c e
    cases z
    have hl:=ha.strL
    have ex:=ha.strE;have Z:=hb.intE;subst ex;subst Z
    exact ix_str B G J s W H _ _ v u Q I rx ry ⟨⟨l.toArray⟩,i,c,rfl,rfl,by show l.toArray.size<=_;rw[av];exact aj hl zB,e,q.here R rfl (RV.strI (by simp;decide))⟩ hs
   .exact fb z
  | _=>exact fb z
 | ref r =>
  have ex:=ha.refE;subst ex
  simp only at z
  cases hsr:st[r]? with
  | none=>rw[hsr]at z;cases z
  | some o =>
   rw[hsr]at z
   cases o with
   | lst l =>
    cases b with
    | int i =>
     simp only at z
     split at z
     .rename_i d' e
      cases z
      have Z:=hb.intE;subst Z
      obtain⟨xs,e1,d1⟩:=R.addr hsr
      obtain⟨w,e2,e3⟩:=aT7 d1 e
      have wf:=R.wf _ _ hsr
      unfold kU at wf
      exact az5 hK B G J s W H _ _ v u Q I rx ry ⟨C r,xs,i,w,rfl,rfl,SqL.of e1,e2,q.here R (aa2.mp wf _ (ay2 e)) e3⟩ hs
     .exact fb z
    | _=>exact fb z
   | ro l =>
    cases b with
    | int i =>
     simp only at z
     split at z
     .rename_i d' e
      cases z
      have Z:=hb.intE;subst Z
      obtain⟨xs,e1,d1⟩:=R.obj _ _ hsr
      obtain⟨w,e2,e3⟩:=aT7 d1 e
      have wf:=R.wf _ _ hsr
      unfold kU at wf
      exact az5 hK B G J s W H _ _ v u Q I rx ry ⟨C r,xs,i,w,rfl,rfl,e1.1,e2,q.here R (aa2.mp wf _ (ay2 e)) e3⟩ hs
     .exact fb z
    | _=>exact fb z
   | dic l =>
    simp only at z
    split at z
    case isFalse=>exact fb z
    rename_i a0
    obtain⟨k,hk⟩:=zW a0
    obtain⟨kvs,e1,d1⟩:=R.obj r _ hsr
    have Z:=ag2 hk hb;subst Z
    cases rx
    rcases d1.val zy hk with⟨q1,_⟩|⟨e,v',q1,q2,q3,q4⟩
    .rw[q1]at z;cases z
    .rw[q1]at z
     cases z
     have wf:=R.wf _ _ hsr
     unfold kU at wf
     rw[ai]at wf
     have g:av5 H (C r) (kV k) (some v'):=by rw[<-q2];exact av5.k e1
     exact tail_any (aw5 I g) PySem.F.slot_dict_getitem.lookup (aT5 hu I g ry fun w' s' I' a1=>⟨v',H,I',a1,q.here R (aa2.mp wf.2 _ q4) q3⟩) hs
   | ins c l=>cases b<;>cases z
   | dicF l=>cases b<;>cases z
 | _=>cases b<;>cases z
variable {Γ:Gm} {X:Cx}
def rCl (Γ:Gm)(f:List kR->kQ->kW kR):List V->Hp->VK->Prop:=fun xs H Q=>∃ C s l d s',Rp Γ C H s/\RVL Γ C H l xs/\kS s.length l=true/\f l s=.ok d s'/\ac3 Γ C s H d s' Q
theorem RVL.one {C:Nat->Addr}{H:Hp}{d:kR}{y:List V}(h:RVL Γ C H [d] y):∃ x,y=[x]/\RV Γ C H d x:=by
 obtain⟨x,r,rfl,B,z⟩:=h.uncons
 rw[z.unnil];exact⟨x,rfl,B⟩
noncomputable def biN:lF->Option (String×Nat)
 | .len=>some ("len",1)|.abs=>some ("abs",1)|.min2=>some ("min",2)|_=>none
theorem qr:∀ {l:List kR} {is:List Int},lx l=some is->l=is.map DV.D.int
 | [],is,h=>by unfold lx at h;cases h;rfl
 | d::l,is,h=>by
  cases d with
  | int i =>
   have h:(lx l).map (i::·)=some is:=h
   cases e:lx l with
   | none=>rw[e]at h;cases h
   | some m=>rw[e]at h;cases h;rw[qr e];rfl
  | _=>cases h
theorem au9:∀ {l:List kR} {is:List Bool},lV l=some is->l=is.map DV.D.bl
 | [],is,h=>by unfold lV at h;cases h;rfl
 | d::l,is,h=>by
  cases d with
  | bl i =>
   have h:(lV l).map (i::·)=some is:=h
   cases e:lV l with
   | none=>rw[e]at h;cases h
   | some m=>rw[e]at h;cases h;rw[au9 e];rfl
  | _=>cases h
theorem RVL.ints {C:Nat->Addr}{H:Hp}:∀ {is:List Int} {y:List V},RVL Γ C H (is.map DV.D.int) y->y=is.map V.int
 | [],_,h=>h.unnil
 | i::is,_,h=>by
  obtain⟨x,r,rfl,B,z⟩:=RVL.uncons h
  rw[B.intE,RVL.ints z];rfl
theorem RVL.bls {C:Nat->Addr}{H:Hp}:∀ {is:List Bool} {y:List V},RVL Γ C H (is.map DV.D.bl) y->y=is.map V.bl
 | [],_,h=>h.unnil
 | i::is,_,h=>by
  obtain⟨x,r,rfl,B,z⟩:=RVL.uncons h
  rw[B.blE,RVL.bls z];rfl
theorem aO4 {f:kR->lQ kR}{l:List kR}{s s':kQ}{d:kR}(h:mG f l s=.ok d s'):∃ a,l=[a]/\f a s=.ok d s':=by
 match l,h with
 | [a],h=>exact⟨a,rfl,h⟩
 | [],h=>exact fb h
 | _::_::_,h=>exact fb h
theorem bs7 (G:X.K=Γ.K)(hc:X.calm=true){b:lF}{Z:String}{k:Nat}(hn:biN b=some (Z,k)):aa9 X (.builtin Z) (rCl Γ (ml b)):=by
 intro y s W H xs us Q I r h
 obtain⟨C,st,l,d,B,R,J,nl,z,q⟩:=h
 cases b with
 | len =>
  cases hn
  have z:mG DV.bs3 l st=.ok d B:=z
  obtain⟨a,rfl,hg⟩:=aO4 z
  clear z
  obtain⟨x,rfl,hx⟩:=J.one
  unfold DV.bs3 at hg
  cases a with
  | tup l =>
   cases hg
   obtain⟨p,ys,rfl,h1,d1⟩:=hx.tupE
   refine ah3 G y s W H _ us Q I r ⟨p,ys,rfl,.inr h1,?_⟩
   rw[d1.length];exact q.here R rfl RV.intI
  | str l =>
   cases hg
   have hL:=hx.strL
   have e:=hx.strE;subst e
   refine au4 y s W H _ us Q I r ⟨_,rfl,by show l.toArray.size<=_;rw[av];exact aj hL zB,?_⟩
   show Q (.int ((l.toArray.size:Nat):Int)) H
   rw[av]
   exact q.here R rfl RV.intI
  | ref n =>
   have e:=hx.refE;subst e
   simp only at hg
   cases hs:st[n]? with
   | none=>rw[hs]at hg;cases hg
   | some o =>
    rw[hs]at hg
    cases o with
    | lst l =>
     cases hg
     obtain⟨ys,e1,d1⟩:=R.addr hs
     refine ah3 G y s W H _ us Q I r ⟨C n,ys,rfl,.inl (SqL.of e1),?_⟩
     rw[d1.length];exact q.here R rfl RV.intI
    | ro l =>
     cases hg
     obtain⟨ys,e1,d1⟩:=R.obj _ _ hs
     refine ah3 G y s W H _ us Q I r ⟨C n,ys,rfl,.inl e1.1,?_⟩
     rw[d1.length];exact q.here R rfl RV.intI
    | dic l=>exact fb hg
    | ins c l=>exact fb hg
    | dicF l=>exact fb hg
  | _=>exact fb hg
 | abs =>
  cases hn
  have z:(match lx l with|some [i]=>.ok (.int (if i<0 then -i else i)) st|_=>.bad:kW kR)=.ok d B:=z
  split at z
  .rename_i i e
   cases z
   have:=qr e;subst this
   have:=RVL.ints J;subst this
   exact bf0 y s W H _ us Q I r ⟨i,rfl,q.here R rfl RV.intI⟩
  .exact fb z
 | min2 =>
  cases hn
  have z:(match lx l with|some [a,b]=>.ok (.int (if b<a then b else a)) st|_=>.bad:kW kR)=.ok d B:=z
  split at z
  .rename_i a b e
   cases z
   have:=qr e;subst this
   have:=RVL.ints J;subst this
   exact aP4 hc y s W H _ us Q I r ⟨_,_,rfl,q.here R rfl RV.intI⟩
  .exact fb z
 | _=>cases hn
theorem aC1:∀ j:Nat,j<=9->cP (toString (j:Int))=(⟨[48+j].toArray⟩:Str):=by decide
theorem bG1:aa9 X (.type "int") (rCl Γ (ml .int)):=by
 intro z s W H xs us Q I r h
 obtain⟨C,st,l,d,B,R,J,nl,y,q⟩:=h
 have y:(match lV l with|some [b]=>.ok (.int (if b then 1 else 0)) st|some _=>.bad|none=>DV.aI5 l st:kW kR)=.ok d B:=y
 split at y
 .rename_i b e
  cases y
  have:=au9 e;subst this
  have:=RVL.bls J;subst this
  exact aO5 z s W H _ us Q I r (.inr ⟨b,rfl,q.here R rfl RV.intI⟩)
 .exact fb y
 .unfold DV.aI5 at y
  split at y
  .rename_i c _ _
   split at y
   .rename_i hc
    cases y
    obtain⟨x,G,rfl,r1,Z⟩:=J.uncons
    cases(show G=[]from Z)
    have:=r1.strE
    subst this
    obtain⟨u,rfl,t,rfl⟩:=qy r
    obtain⟨j,hj,rfl⟩:∃ j:Nat,j<=9/\c=48+j:=⟨c - 48,by omega,by omega⟩
    rw[show(⟨[48+j].toArray⟩:Str)=cP (toString (j:Int))from(aC1 j hj).symm]
    refine PySem.W.KIN.call_num (by lia) (by lia) ⟨.int (j:Int),H,I.tok _,⟨_,rfl⟩,?_⟩
    have:=q.here R rfl (RV.intI (i:=((48+j - 48:Nat):Int)))
    rw[show 48+j - 48=j by lia]at this
    exact this
   .exact fb y
  .exact fb y
theorem bH1:aa9 X (.type "str") (rCl Γ (ml .str)):=by
 intro Z s W H xs us Q I r h
 obtain⟨C,st,l,d,B,R,J,nl,y,q⟩:=h
 have y:DV.aO8 l st=.ok d B:=y
 unfold DV.aO8 at y
 split at y
 .rename_i i _
  split at y
  .rename_i hi
   cases y
   obtain⟨x,z,rfl,r1,G⟩:=J.uncons
   cases(show z=[]from G)
   have:=r1.intE
   subst this
   obtain⟨u,rfl,t,rfl⟩:=qy r
   obtain⟨j,rfl⟩:∃ j:Nat,i=(j:Int):=⟨i.toNat,by lia⟩
   have hj:j<=9:=by lia
   refine PySem.P.str_of_int ?_ ⟨.str ⟨[48+j].toArray⟩,H,I.tok _,⟨s.toks,?_⟩,?_⟩
   .have:(j:Int).natAbs.log2<=(j:Int).natAbs:=Nat.log2_le_self _
    lia
   .rw[<-aC1 j hj]
   .have:=q.here R rfl (RV.strI (x:=[48+(j:Int).toNat]) (by show 1<=kZ;decide))
    rw[bN]at this
    exact this
  .exact fb y
 .rename_i w _
  cases y
  obtain⟨x,z,rfl,r1,G⟩:=J.uncons
  cases(show z=[]from G)
  have e:=r1.strE
  subst e
  obtain⟨u,rfl,t,rfl⟩:=qy r
  refine PySem.P.str_of_str ⟨.str ⟨w.toArray⟩,H,I,⟨_,rfl⟩,?_⟩
  unfold kS at nl
  exact q.here R rfl r1
 .exact fb y
noncomputable def aj9:Nat->String
 | 1 => "int" | 2 => "bool" | 3 => "str" | 4 => "tuple" | _ => "list"
theorem bp9 {K:af}(k:Nat)(hk:1<=k/\k<=5):b9 K (.type "NoneType") (.type (aj9 k))=some false/\b9 K (.type "bool") (.type (aj9 k))=some (k==1||k==2) /\
  b9 K (.type "int") (.type (aj9 k))=some (k==1)/\b9 K (.type "str") (.type (aj9 k))=some (k==3)/\b9 K (.type "tuple") (.type (aj9 k))=some (k==4)/\b9 K (.type "list") (.type (aj9 k))=some (k==5):=by
 obtain⟨z,y⟩:=hk
 rcases(by lia:k=1\/k=2\/k=3\/k=4\/k=5)with h|h|h|h|h<;>subst h<;>refine⟨?_,?_,?_,?_,?_,?_⟩<;>with_unfolding_all rfl
theorem aE8 {y:yA}{W:St}{H:Hp}{s:ae}{A:aP}{E:Value->ae->Prop}{Q:Value->ae->Prop}{c:Value}{b:Bool}{a:Addr}{B:List V}(I:Inv X y W H s)(G:SqT X.K H a B)(e:b9 X.K (.type "tuple") c=some b)
  (h:∀ tk,Q (.bool b) { s with toks:=tk }):wpAny (model X.prog X.w) A (call (.builtin "isinstance") [.ref a,c]) Q E s:=by
 obtain⟨its,_,⟨o,g1,g2,_⟩,_⟩:=I.tuple G
 exact bJ i0 I.kIn ⟨o,g1,g2⟩ e (fun z=>nomatch z) h
theorem bJ4 (Z:X.K=Γ.K){k:Nat}(hk:1<=k/\k<=5):aa9 X (.builtin "isinstance") (fun G H Q=>∃ x,G=[x,.ty (aj9 k)]/\rCl Γ (mG (mO k)) [x] H Q):=by
 intro B s W H G us Q I r h
 obtain⟨x,rfl,C,st,l,d,y,R,hl,nl,z,q⟩:=h
 obtain⟨a,rfl,hg⟩:=aO4 z
 clear z
 obtain⟨u,w',rfl,r1,r2⟩:=bC7 r
 cases r2
 obtain⟨x',e',hx⟩:=hl.one
 cases e'
 obtain⟨k0,k1,k2,k3,k4,k5⟩:=bp9 (K:=X.K) k hk
 unfold mO at hg
 cases a with
 | non=>cases hg;have e:=hx.nonE;subst e;exact qi I r1 .non k0 fun tk=>⟨.bl _,H,I.tok _,rfl,q.here R rfl RV.blI⟩
 | bl b=>cases hg;have e:=hx.blE;subst e;exact qi I r1 (.bl b) k1 fun tk=>⟨.bl _,H,I.tok _,rfl,q.here R rfl RV.blI⟩
 | int b=>cases hg;have e:=hx.intE;subst e;exact qi I r1 (.int b) k2 fun tk=>⟨.bl _,H,I.tok _,rfl,q.here R rfl RV.blI⟩
 | str b=>cases hg;have e:=hx.strE;subst e;exact qi I r1 (.str _) k3 fun tk=>⟨.bl _,H,I.tok _,rfl,q.here R rfl RV.blI⟩
 | tup l =>
  cases hg
  obtain⟨p,ys,rfl,J,d1⟩:=hx.tupE
  cases r1
  rw[<-Z]at J
  exact aE8 I J k4 fun tk=>⟨.bl _,H,I.tok _,rfl,q.here R rfl RV.blI⟩
 | ref n =>
  have e:=hx.refE;subst e
  have hg:(match st[n]? with|some (.lst _)=>.ok (.bl (k==5)) st|_=>.bad:kW kR)=.ok d y:=hg
  cases hs:st[n]? with
  | none=>rw[hs]at hg;cases hg
  | some o =>
   rw[hs]at hg
   cases o with
   | lst l =>
    cases hg
    obtain⟨ys,e1,d1⟩:=R.addr hs
    exact qi I r1 (.lst e1) k5 fun tk=>⟨.bl _,H,I.tok _,rfl,q.here R rfl RV.blI⟩
   | _=>exact fb hg
 | _=>exact fb hg
variable {X:Cx}
noncomputable def sgV (x:List Nat):List V:=x.map fun c=>.str ⟨#[c]⟩
theorem bx0 {vs:List V}{y:yG}(z:vs.length=y.length)(h:∀(i:Nat) (x:V) (u:Value),vs[i]?=some x->y[i]?=some u->RelV x u):Vals vs y:=by
 induction vs generalizing y with
 | nil=>cases y with
  | nil=>exact .nil
  | cons _ _=>cases z
 | cons v vs ih=>cases y with
  | nil=>cases z
  | cons a y=>exact .cons (h 0 v a rfl rfl) (ih (by simpa using z) fun i x u e1 e2=>h (i+1) x u e1 e2)
theorem am0 {x:List Nat}{y:yJ}(h:jw (SignAt ⟨x.toArray⟩) y x.length):Vals (sgV x) y.toList:=by
 have G:(sgV x).length=y.toList.length:=by unfold sgV;rw[az];simpa using h.1.symm
 refine bx0 G fun i v u e1 e2=>?_
 obtain⟨c,t,z,B⟩:=h.2 i u (by rw[<-ci];exact e2)
 unfold sgV at e1
 rw[aE]at e1
 have z:x[i]?=some c:=by simpa using z
 rw[z]at e1
 cases e1
 exact⟨t,B⟩
theorem ax2 (hc:X.calm=true):aa9 X (.type "tuple") (fun Z H Q=>∃ x:List Nat,Z=[.str ⟨x.toArray⟩]/\x.length<=kZ/\∀ l,H l=none->Q (.ref l) (upd H l (.tup (sgV x)))):=by
 intro y s W H Z us Q I r h
 obtain⟨x,rfl,J,q⟩:=h
 obtain⟨u,rfl,rx⟩:=qy r
 obtain⟨t,rfl⟩:=rx
 have hz:(sgV x).length<=aL:=by unfold sgV;rw[az];exact aj J zB
 refine call_tuple_str (I.ok.hd hc) _ t (fun h' tk z kp B=>?_) (by show x.toArray.size<=_;rw[av];exact aj J zB)
 have B:jw (SignAt ⟨x.toArray⟩) z x.length:=by simpa using B
 have rv:=am0 B
 have G:Inv X y W H { s with heap:=h',toks:=tk }:=I.kept (t':=tk) kp
 have I2:Inv X y W (upd H h'.objs.size (.tup (sgV x))) { s with heap:=h'.push { cls:=.type "tuple",data:=.seq z },toks:=tk } :=
  G.laid (t':=tk) (fun b o e=>ak _ e) (ah _) (show aa7 X.prog X.w _ _ _ (.tup (sgV x))from⟨hz,z.toList,rv,kr _ _⟩)
 exact⟨.ref h'.objs.size,_,I2,rfl,q _ (G.hok.fresh (ah _))⟩
theorem aF1 (hc:X.calm=true):aa9 X (.type "list") (fun J H Q=>∃ x:List Nat,J=[.str ⟨x.toArray⟩]/\x.length<=kZ/\∀ l,H l=none->Q (.ref l) (upd H l (.lst (sgV x)))):=by
 intro G s W H J us Q I r h
 obtain⟨x,rfl,B,q⟩:=h
 obtain⟨u,rfl,Z⟩:=qy r
 obtain⟨t,rfl⟩:=Z
 have hz:(sgV x).length<=aL:=by unfold sgV;rw[az];exact aj B zB
 refine call_list_str (I.ok.hd hc) _ t (fun h' tk y c' kp e z=>?_) (by show x.toArray.size<=_;rw[av];exact aj B zB)
 have z:jw (SignAt ⟨x.toArray⟩) y x.length:=by simpa using z
 have rv:=am0 z
 exact⟨.ref s.heap.objs.size,_,I.laid (t':=tk) kp (ah _) (show aa7 X.prog X.w _ h' _ (.lst (sgV x))from⟨hz,y.toList,c',rv,e⟩),rfl,q _ (I.hok.fresh (ah _))⟩
section
variable {Γ:Gm} {C C':Nat->Addr} {H H' H1 H2 H3:Hp} {clos:yB} {s s':kQ}
theorem Gr.put (hc:Cells clos H)(y:∀ b,isC clos b=true->H' b=none)(J:∀ b o,Γ.K.lookup b=some o->H b=none)(R':Rp Γ C' H' s')(g:Gr C s (al5 clos H) C' s' H'):Gr C s H C' s' (Put clos H H'):=by
 refine⟨⟨g.w.map,fun b o e f=>?_⟩,g.le,fun i h1 G=>?_,g.kd,fun b e=>?_,fun b o kvs e=>?_,fun b o e nt no=>?_⟩
 .by_cases z:isC clos b=true
  .rw[Put.cell z];exact e
  .rw[Put.ne z];exact g.w.kp b o (by rw[al5.ne z];exact e) f
 .have hd:=g.new i h1 G
  by_cases z:isC clos (C' i)=true
  .have hg:=y _ z
   obtain⟨o,Z⟩:∃ o,s'[i]?=some o:=⟨s'[i],ag G⟩
   have h:=R'.obj i o Z
   cases o with
   | lst l=>obtain⟨B,e,_⟩:=h;rw[hg]at e;cases e
   | ro l =>
    obtain⟨B,e,_⟩:=h
    rcases e.1 with(e|⟨_,e⟩)|⟨ob,its,n,e,_⟩
    .rw[hg]at e;cases e
    .rw[hg]at e;cases e
    .exact J _ _ e
   | dic l=>obtain⟨B,e,_⟩:=h;rw[hg]at e;cases e
   | dicF l=>obtain⟨_,B,e,_⟩:=h;rw[hg]at e;cases e
   | ins _ _=>obtain⟨_,_,_,_,_,e,_⟩:=h;rw[hg]at e;cases e
  .rw[al5.ne z]at hd;exact hd
 .by_cases z:isC clos b=true
  .rw[Put.cell z];exact e
  .rw[Put.ne z];exact g.st b (by rw[al5.ne z];exact e)
 .by_cases z:isC clos b=true
  .rw[Put.cell z];exact e
  .rw[Put.ne z];exact g.fz b o kvs (by rw[al5.ne z];exact e)
 .by_cases z:isC clos b=true
  .rw[Put.cell z];exact e
  .rw[Put.ne z];exact g.fr b o (by rw[al5.ne z];exact e) nt no
theorem Cells.kp {H H':Hp}(h:Cells clos H)(k:Kp H H'):Cells clos H':=fun x c e=>by
 obtain⟨o,v,q,d⟩:=h x c e
 exact⟨o,v,k _ _ q rfl,d⟩
def PVp (Γ:Gm)(cells:yB)(N:yH)(W:St)(C:Nat->Addr)(H:Hp)(d:kR)(v:V):Prop:=RV Γ C H d v\/∃ id cs,d=.clo id cs/\∃ f J,v=.ref f/\Γ.lg id J/\aq6 H f J (ak2 cells J.scope.names []) /\
  cs.length=J.fr.length/\(∀ x,J.scope.names.lookup x=some .free->∃ c,cells.lookup x=some c) /\
  ∃ cap,RVL Γ C H cs cap/\∀(i:Nat) (x:Str) (v:V),J.fr[i]?=some x->cap[i]?=some v->J.scope.names.lookup x=some .free/\∃ j:Nat,N[j]?=some x/\W[j]?=some (some v)
inductive PVL (Γ:Gm)(cells:yB)(N:yH)(W:St)(C:Nat->Addr)(H:Hp):List kR->List V->Prop where
 | nil:PVL Γ cells N W C H [] []
 | cons {d v l vs} (a:PVp Γ cells N W C H d v) (b:PVL Γ cells N W C H l vs):PVL Γ cells N W C H (d::l) (v::vs)
theorem PVp.mono {cells:yB}{N:yH}{W:St}{C C':Nat->Addr}{s s':kQ}{H H':Hp}(g:Gr C s H C' s' H'){d:kR}{v:V}(b:d.bnd s.length=true)(h:PVp Γ cells N W C H d v):PVp Γ cells N W C' H' d v:=by
 rcases h with h|⟨id,cs,rfl,h⟩
 .exact .inl (RV.mono g _ _ b h)
 .obtain⟨f,J,e,Z,z,B,y,cap,G,h7⟩:=h
  unfold kY at b
  exact .inr ⟨id,cs,rfl,f,J,e,Z,z.kp g.w.kp,B,y,cap,RVL.mono g cs cap b G,h7⟩
end
variable {Γ:Gm} {X:Cx}
def TEv (Γ:Gm)(m:kT->kQ->kW kR):TE:=fun W H Q=>∃ C U s d s',RE Γ C H s.length U W/\Rp Γ C H s/\m U s=.ok d s'/\ac3 Γ C s H d s' Q
def bE3 (Γ:Gm)(C:Nat->Addr)(s:kQ)(H:Hp)(l:List kR)(s':kQ)(Q:List V->Hp->Prop):Prop :=
 ∀ vs C' H',Gr C s H C' s' H'->s.length<=s'.length->kS s'.length l=true->RVL Γ C' H' l vs->Rp Γ C' H' s'->Q vs H'
def TAv (Γ:Gm)(m:kT->kQ->kW (List kR)):TA:=fun W H Q=>∃ C U s l s',RE Γ C H s.length U W/\Rp Γ C H s/\m U s=.ok l s'/\bE3 Γ C s H l s' Q
def aB0 (Γ:Gm)(C:Nat->Addr)(s:kQ)(H:Hp)(b:Bool)(s':kQ)(Q:Bool->Hp->Prop):Prop :=
 ∀ C' H',Gr C s H C' s' H'->s.length<=s'.length->Rp Γ C' H' s'->Q b H'
def TTv (Γ:Gm)(m:kT->kQ->kW kR):TT:=fun W H Q=>∃ C U s b s',RE Γ C H s.length U W/\Rp Γ C H s/\m U s=.ok (.bl b) s'/\aB0 Γ C s H b s' Q
theorem PE.imp {e:Expr}{t t':TE}(h:PE X e t)(i:∀ W H Q,t' W H Q->t W H Q):PE X e t':=fun y s W H Q I q=>h y s W H Q I (i W H Q q)
theorem PT.imp {e:Expr}{t t':TT}(h:PT X e t)(i:∀ W H Q,t' W H Q->t W H Q):PT X e t':=fun y s W H Q I q=>h y s W H Q I (i W H Q q)
theorem PA.imp {e:yK}{t t':TA}(h:PA X e t)(i:∀ W H Q,t' W H Q->t W H Q):PA X e t':=fun pos y s W H Q I q=>h pos y s W H Q I (i W H Q q)
theorem aB0.trans {C C1:Nat->Addr}{s s1 s':kQ}{H y:Hp}{b:Bool}{Q:Bool->Hp->Prop}(h:aB0 Γ C s H b s' Q)(g:Gr C s H C1 s1 y)(l:s.length<=s1.length):aB0 Γ C1 s1 y b s' Q :=
 fun C' H' g' z p=>h C' H' (g.trans g' l) (aj l z) p
theorem by1 (i:Nat){W:St}{H:Hp}{Q:VK}(h:TEv Γ (fun U s=>DV.aU2 U i s) W H Q):bX2 i W H Q:=by
 obtain⟨C,U,s,d,s',E,R,hm,q⟩:=h
 simp only[DV.aU2]at hm
 split at hm
 .rename_i d' e
  cases hm
  obtain⟨b,v,e1,e2⟩:=E.val i _ e
  exact⟨v,e1,q.here R b e2⟩
 .exact fb hm
theorem au1 {c:kR}{v:V}(hb:∀ n,c.bnd n=true)(hv:∀ C H,RV Γ C H c v){W:St}{H:Hp}{Q:VK}(h:TEv Γ (fun U s=>.ok c s) W H Q):tC v W H Q:=by
 obtain⟨C,U,s,d,s',E,R,hm,q⟩:=h
 cases hm
 exact q.here R (hb _) (hv _ _)
theorem bc2 {G z:kT->kQ->kW kR}{f:kR->kR->kQ->kW kR}{W:St}{H:Hp}{Q:VK}(h:TEv Γ (fun U s=>(G U s).bind fun x s=>(z U s).bind fun y s=>f x y s) W H Q):tOp (rOp Γ f) (TEv Γ G) (TEv Γ z) W H Q:=by
 obtain⟨C,U,s,d,s',E,R,hm,q⟩:=h
 obtain⟨x,s1,e1,hm⟩:=aa0 hm
 obtain⟨y,s2,e2,hm⟩:=aa0 hm
 refine⟨C,U,s,x,s1,E,R,e1,fun v1 C1 H1 g1 l1 B r1 R1=>?_⟩
 refine⟨C1,U,s1,y,s2,E.mono g1 l1,R1,e2,fun v2 C2 H2 g2 J Z r2 R2=>?_⟩
 exact⟨C2,s2,x,y,d,s',R2,RV.mono g2 x v1 B r1,r2,zg J x B,Z,hm,q.trans (g1.trans g2 l1) (aj l1 J)⟩
theorem zv {α:Type}{r:kW kR}{f:Bool->kQ->kW α}{a:α}{t:kQ}(h:lf r f=.ok a t):∃ b s,r=.ok (.bl b) s/\f b s=.ok a t:=by
 unfold lf at h
 obtain⟨d,s,e,h⟩:=aa0 h
 cases d with
 | bl b=>exact⟨b,s,e,h⟩
 | _=>exact fb h
theorem bg2 {m:kT->kQ->kW kR}{W:St}{H:Hp}{Q:Bool->Hp->Prop}(h:TTv Γ m W H Q):tB (TEv Γ m) W H Q:=by
 obtain⟨C,U,s,b,s',E,R,hm,q⟩:=h
 refine⟨C,U,s,.bl b,s',E,R,hm,fun v C' H' g l z r y=>?_⟩
 exact⟨b,r.blE,q C' H' g l y⟩
theorem bn7 {m:kT->kQ->kW kR}{W:St}{H:Hp}{Q:Bool->Hp->Prop}(h:TTv Γ m W H Q):bE9 (TEv Γ m) W H Q:=bg2 h
theorem bH9 {m:kT->kQ->kW kR}{W:St}{H:Hp}{Q:Bool->Hp->Prop}(h:TTv Γ (fun U s=>lf (m U s) fun b s=>.ok (.bl (!b)) s) W H Q):bX7 (TTv Γ m) W H Q:=by
 obtain⟨C,U,s,b,s',E,R,hm,q⟩:=h
 obtain⟨c,s1,e1,hm⟩:=zv hm
 cases hm
 exact⟨C,U,s,c,_,E,R,e1,q⟩
theorem bj0 {y z:kT->kQ->kW kR}{W:St}{H:Hp}{Q:Bool->Hp->Prop}(h:TTv Γ (fun U s=>lf (y U s) fun c s=>if c then lf (z U s) fun c s=>.ok (.bl c) s else .ok (.bl false) s) W H Q):bX5 (TTv Γ y) (TTv Γ z) W H Q:=by
 obtain⟨C,U,s,b,s',E,R,hm,q⟩:=h
 obtain⟨c,s1,e1,hm⟩:=zv hm
 refine⟨C,U,s,c,s1,E,R,e1,fun C1 B g1 l1 R1=>?_⟩
 cases c with
 | true =>
  rw[if_pos rfl]at hm ⊢
  obtain⟨G,s2,e2,hm⟩:=zv hm
  cases hm
  exact⟨C1,U,s1,_,_,E.mono g1 l1,R1,e2,q.trans g1 l1⟩
 | false =>
  rw[if_neg aQ]at hm ⊢
  cases hm
  exact q C1 B g1 l1 R1
theorem bI6 {y z:kT->kQ->kW kR}{W:St}{H:Hp}{Q:Bool->Hp->Prop}(h:TTv Γ (fun U s=>lf (y U s) fun c s=>if c then .ok (.bl true) s else lf (z U s) fun c s=>.ok (.bl c) s) W H Q):tOr (TTv Γ y) (TTv Γ z) W H Q:=by
 obtain⟨C,U,s,b,s',E,R,hm,q⟩:=h
 obtain⟨c,s1,e1,hm⟩:=zv hm
 refine⟨C,U,s,c,s1,E,R,e1,fun C1 B g1 l1 R1=>?_⟩
 cases c with
 | true =>
  rw[if_pos rfl]at hm ⊢
  cases hm
  exact q C1 B g1 l1 R1
 | false =>
  rw[if_neg aQ]at hm ⊢
  obtain⟨G,s2,e2,hm⟩:=zv hm
  cases hm
  exact⟨C1,U,s1,_,_,E.mono g1 l1,R1,e2,q.trans g1 l1⟩
theorem bJ1 {m:kT->kQ->kW kR}{W:St}{H:Hp}{Q:VK}(h:TEv Γ (fun U s=>lf (m U s) fun b s=>.ok (.bl (!b)) s) W H Q):bN3 (TEv Γ m) W H Q:=by
 obtain⟨C,U,s,d,s',E,R,hm,q⟩:=h
 obtain⟨c,s1,e1,hm⟩:=zv hm
 cases hm
 exact⟨C,U,s,.bl c,_,E,R,e1,fun v C1 y g l b r R1=>⟨c,r.blE,q _ C1 y g l rfl RV.blI R1⟩⟩
theorem bh4 {z y:kT->kQ->kW kR}{W:St}{H:Hp}{Q:VK}(h:TEv Γ (fun U s=>lf (z U s) fun c s=>if c then lf (y U s) fun c s=>.ok (.bl c) s else .ok (.bl false) s) W H Q):bB1 (TEv Γ z) (TEv Γ y) W H Q:=by
 obtain⟨C,U,s,d,s',E,R,hm,q⟩:=h
 obtain⟨c,s1,e1,hm⟩:=zv hm
 refine⟨C,U,s,.bl c,s1,E,R,e1,fun v C1 B g1 l1 G r1 R1=>⟨c,r1.blE,?_⟩⟩
 cases c with
 | true =>
  rw[if_pos rfl]at hm ⊢
  obtain⟨c,s2,e2,hm⟩:=zv hm
  cases hm
  exact⟨C1,U,s1,.bl c,_,E.mono g1 l1,R1,e2,q.trans g1 l1⟩
 | false =>
  rw[if_neg aQ]at hm ⊢
  cases hm
  exact q _ C1 B g1 l1 rfl RV.blI R1
theorem bI8 {z y:kT->kQ->kW kR}{W:St}{H:Hp}{Q:VK}(h:TEv Γ (fun U s=>lf (z U s) fun c s=>if c then .ok (.bl true) s else lf (y U s) fun c s=>.ok (.bl c) s) W H Q):bY0 (TEv Γ z) (TEv Γ y) W H Q:=by
 obtain⟨C,U,s,d,s',E,R,hm,q⟩:=h
 obtain⟨c,s1,e1,hm⟩:=zv hm
 refine⟨C,U,s,.bl c,s1,E,R,e1,fun v C1 B g1 l1 G r1 R1=>⟨c,r1.blE,?_⟩⟩
 cases c with
 | true =>
  rw[if_pos rfl]at hm ⊢
  cases hm
  exact q _ C1 B g1 l1 rfl RV.blI R1
 | false =>
  rw[if_neg aQ]at hm ⊢
  obtain⟨c,s2,e2,hm⟩:=zv hm
  cases hm
  exact⟨C1,U,s1,.bl c,_,E.mono g1 l1,R1,e2,q.trans g1 l1⟩
theorem bL5 {mc z y:kT->kQ->kW kR}{W:St}{H:Hp}{Q:VK}(h:TEv Γ (fun U s=>lf (mc U s) fun k s=>if k then z U s else y U s) W H Q):tIf (TTv Γ mc) (TEv Γ z) (TEv Γ y) W H Q:=by
 obtain⟨C,U,s,d,s',E,R,hm,q⟩:=h
 obtain⟨c,s1,e1,hm⟩:=zv hm
 refine⟨C,U,s,c,s1,E,R,e1,fun C1 B g1 l1 R1=>?_⟩
 cases c with
 | true =>
  rw[if_pos rfl]at hm ⊢
  exact⟨C1,U,s1,d,s',E.mono g1 l1,R1,hm,q.trans g1 l1⟩
 | false =>
  rw[if_neg aQ]at hm ⊢
  exact⟨C1,U,s1,d,s',E.mono g1 l1,R1,hm,q.trans g1 l1⟩
theorem am2 {W:St}{H:Hp}{Q:List V->Hp->Prop}(h:TAv Γ (fun U s=>.ok [] s) W H Q):aM0 W H Q:=by
 obtain⟨C,U,s,d,s',E,R,hm,q⟩:=h
 cases hm
 exact q [] C H (Gr.refl _ _ _) (ah _) rfl .nil R
theorem bk5 {m:kT->kQ->kW kR}{G:kT->kQ->kW (List kR)}{W:St}{H:Hp}{Q:List V->Hp->Prop}(h:TAv Γ (fun U s=>(m U s).bind fun d s=>(G U s).bind fun l s=>.ok (d::l) s) W H Q):aF5 (TEv Γ m) (TAv Γ G) W H Q:=by
 obtain⟨C,U,s,l,s',E,R,hm,q⟩:=h
 obtain⟨x,s1,e1,hm⟩:=aa0 hm
 obtain⟨y,s2,e2,hm⟩:=aa0 hm
 cases hm
 refine⟨C,U,s,x,s1,E,R,e1,fun v1 C1 H1 g1 l1 z r1 R1=>?_⟩
 refine⟨C1,U,s1,y,_,E.mono g1 l1,R1,e2,fun J C2 Z g2 B b2 r2 R2=>?_⟩
 refine q (v1::J) C2 Z (g1.trans g2 l1) (aj l1 B) ?_ (.cons (RV.mono g2 x v1 z r1) r2) R2
 unfold kS
 rw[zg B x z,b2];rfl
theorem aw2 {y:kT->kQ->kW (List kR)}{f:List kR->kQ->kW kR}{W:St}{H:Hp}{Q:VK}(h:TEv Γ (fun U s=>(y U s).bind fun l s=>f l s) W H Q):tCB (rCl Γ f) (TAv Γ y) W H Q:=by
 obtain⟨C,U,s,d,s',E,R,hm,q⟩:=h
 obtain⟨l,s1,e1,hm⟩:=aa0 hm
 exact⟨C,U,s,l,s1,E,R,e1,fun vs C1 B g1 l1 z r1 R1=>⟨C1,s1,l,d,s',R1,r1,z,hm,q.trans g1 l1⟩⟩
variable {Γ:Gm} {X:Cx}
def ah7 (Γ:Gm)(J:It)(C0:Nat->Addr)(H0:Hp)(s0:kQ)(q:lN):Prop :=
 ∀ C H s,Gr C0 s0 H0 C s H->s0.length<=s.length->Rp Γ C H s->lA s0 s q.src=true->∀ i:Nat,
  (i<q.its.length->J.go i H/\∀ x H',J.yld i H x H'->ae3 H H'/\∀ d,q.its[i]?=some d->RV Γ C H' d x)/\(q.its.length<=i->J.stop i H)
def TIv (Γ:Gm)(m:kT->kQ->kW lN):TI:=fun W H R=>∃ C U s q s',RE Γ C H s.length U W/\Rp Γ C H s/\m U s=.ok q s' /\
 ∀ J C' H',Gr C s H C' s' H'->s.length<=s'.length->kS s'.length q.its=true->Rp Γ C' H' s'->ah7 Γ J C' H' s' q->R J H'
theorem PI.imp {tg e:Expr}{t t':TI}(h:PI X tg e t)(i:∀ W H R,t' W H R->t W H R):PI X tg e t':=fun y s W H R I q=>h y s W H R I (i W H R q)
theorem PI.or {tg e:Expr}{t t':TI}(h:PI X tg e t)(h':PI X tg e t'):PI X tg e (fun W H R=>t W H R\/t' W H R):=fun y s W H R I q=>q.elim (h y s W H R I) (h' y s W H R I)
theorem bb1 {C0:Nat->Addr}{H0:Hp}{s0:kQ}{a:Addr}{z:List V}{l:List kR}(h:SqT Γ.K H0 a z)(G:RVL Γ C0 H0 l z)(hb:kS s0.length l=true):ah7 Γ (Itt Γ.K a) C0 H0 s0 ⟨l,[]⟩:=by
 intro C H s g _ R _ i
 have h':=g.w.kp.sqT h
 have B:=RVL.mono g l z hb G
 refine⟨fun hlt=>⟨⟨z,z[i]'(by rw[B.length];exact hlt),h',ag _⟩,fun x H' y=>?_⟩,fun hle=>⟨z,h',by rw[B.length];exact hle⟩⟩
 obtain⟨e,y⟩:=y
 subst e
 refine⟨ae3.refl _,fun d hd=>?_⟩
 obtain⟨v,e1,e2⟩:=B.get hd
 rw[y z h']at e1;cases e1
 exact e2
theorem bm5 {C0:Nat->Addr}{H0:Hp}{s0:kQ}{a:Addr}{z:List V}{l:List kR}(h:SqF Γ.K H0 a z)(G:RVL Γ C0 H0 l z)(hb:kS s0.length l=true):ah7 Γ (Itl Γ.K a) C0 H0 s0 ⟨l,[]⟩:=by
 intro C H s g _ R _ i
 have h':=h.2 _ g.w.kp
 have B:=RVL.mono g l z hb G
 refine⟨fun hlt=>⟨⟨z,z[i]'(by rw[B.length];exact hlt),h',ag _⟩,fun x H' y=>?_⟩,fun hle=>⟨z,h',by rw[B.length];exact hle⟩⟩
 obtain⟨e,y⟩:=y
 subst e
 refine⟨ae3.refl _,fun d hd=>?_⟩
 obtain⟨v,e1,e2⟩:=B.get hd
 rw[y z h']at e1;cases e1
 exact e2
theorem aY9 {C0:Nat->Addr}{H0:Hp}{s0:kQ}{r:Nat}{l:List kR}(hr:s0[r]?=some (.lst l)):ah7 Γ (Itl Γ.K (C0 r)) C0 H0 s0 ⟨l,[r]⟩:=by
 intro C H s g _ R G i
 have z:r<s0.length:=(ac.mp hr).1
 have hs:s[r]?=some (.lst l):=by
  unfold lA at G
  simp only[dz,kE,iR,decide_eq_true_eq]at G
  rw[G];exact hr
 obtain⟨B,e,h⟩:=R.addr hs
 rw[g.w.map r z]at e
 have h':SqL Γ.K H (C0 r) B:=SqL.of e
 refine⟨fun hlt=>⟨⟨B,B[i]'(by rw[h.length];exact hlt),h',ag _⟩,fun x H' y=>?_⟩,fun hle=>⟨B,h',by rw[h.length];exact hle⟩⟩
 obtain⟨e,y⟩:=y
 subst e
 refine⟨ae3.refl _,fun d hd=>?_⟩
 obtain⟨v,e1,e2⟩:=h.get hd
 rw[y B h']at e1;cases e1
 exact e2
theorem bb9 {C0:Nat->Addr}{H0:Hp}{s0:kQ}{l:List Nat}:ah7 Γ (Its ⟨l.toArray⟩) C0 H0 s0 ⟨l.map fun c=>.str [c],[]⟩:=by
 intro C H s g _ R _ i
 have hsz:(⟨l.toArray⟩:Str).cps.size=l.length:=by simp
 refine⟨fun hlt=>?_,fun hle=>?_⟩
 .simp only[az]at hlt
  refine⟨show i<(⟨l.toArray⟩:Str).cps.size by rw[hsz];exact hlt,fun x H' y=>?_⟩
  obtain⟨e,c,hc,rfl⟩:=y
  subst e
  refine⟨ae3.refl _,fun d hd=>?_⟩
  have h:l[i]?=some c:=by simpa using hc
  rw[aE,h]at hd
  cases hd
  exact RV.strI (by simp;decide)
 .simp only[az]at hle
  show(⟨l.toArray⟩:Str).cps.size<=i
  rw[hsz];exact hle
theorem be3 {C0:Nat->Addr}{H0:Hp}{s0:kQ}{a b:Int}:ah7 Γ (Itr a (b - a).toNat) C0 H0 s0 ⟨mq a b,[]⟩:=by
 intro C H s g _ R _ i
 have hn:(mq a b).length=(b - a).toNat:=by simp[mq]
 refine⟨fun hlt=>⟨show i<(b - a).toNat by rw[<-hn];exact hlt,fun x H' y=>?_⟩,fun hle=>show(b - a).toNat<=i by rw[<-hn];exact hle⟩
 obtain⟨e,rfl⟩:=y
 subst e
 refine⟨ae3.refl _,fun d hd=>?_⟩
 simp only[mq]at hd hlt
 rw[aE,fq (by simpa using hlt)]at hd
 cases hd
 exact RV.intI
theorem br3 {m:kT->kQ->kW kR}{W:St}{H:Hp}{R:It->Hp->Prop}(h:TIv Γ (fun U s=>(m U s).bind fun x s=>match x with|.int i=>if -mP<=i/\i<mP then .ok ⟨mq 0 i,[]⟩ s else .bad|_=>.bad) W H R) :
  bL7 (aF5 (TEv Γ m) aM0) W H R:=by
 obtain⟨C,U,s,q,s',E,P,hm,k⟩:=h
 obtain⟨x,s1,e1,hm⟩:=aa0 hm
 refine⟨C,U,s,x,s1,E,P,e1,fun v C1 z g l b r B=>?_⟩
 cases x with
 | int i =>
  simp only at hm
  split at hm
  .rename_i y
   cases hm
   have hw:mP=2^62:=by decide
   rw[hw]at y
   refine⟨i,by rw[r.intE],y.1,y.2,k _ C1 z g l ?_ B ?_⟩
   .refine aa2.mpr fun d hd=>?_
    simp only[mq,bf]at hd
    obtain⟨_,_,rfl⟩:=hd
    rfl
   .have:=be3 (Γ:=Γ) (C0:=C1) (H0:=z) (s0:=s') (a:=0) (b:=i)
    rwa [jx]at this
  .exact fb hm
 | _=>exact fb hm
theorem bM8 {m:kT->kQ->kW kR}{W:St}{H:Hp}{R:It->Hp->Prop}(h:TIv Γ (fun U s=>(m U s).bind fun d s=>DV.av6 d s) W H R) :
  bQ3 Γ.K (TEv Γ m) W H R\/bq1 Γ.K (TEv Γ m) W H R\/bX0 (TEv Γ m) W H R:=by
 obtain⟨C,U,s,q,s',E,P,hm,k⟩:=h
 obtain⟨x,s1,e1,hm⟩:=aa0 hm
 unfold DV.av6 at hm
 cases x with
 | tup l =>
  cases hm
  refine .inl ⟨C,U,s,_,_,E,P,e1,fun v C1 z g l b r y=>?_⟩
  obtain⟨a,B,rfl,Z,d1⟩:=r.tupE
  unfold kY at b
  exact⟨a,rfl,⟨B,Z⟩,k _ C1 z g l b y (bb1 Z d1 b)⟩
 | str l =>
  cases hm
  refine .inr (.inr ⟨C,U,s,_,_,E,P,e1,fun v C1 z g G b r y=>?_⟩)
  refine⟨_,r.strE,k _ C1 z g G ?_ y bb9⟩
  refine aa2.mpr fun d hd=>?_
  simp only[bf]at hd
  obtain⟨_,_,rfl⟩:=hd
  rfl
 | ref r =>
  simp only at hm
  cases hs:s1[r]? with
  | none=>rw[hs]at hm;cases hm
  | some o =>
   rw[hs]at hm
   cases o with
   | lst l =>
    cases hm
    refine .inr (.inl ⟨C,U,s,_,_,E,P,e1,fun v C1 z g G b J y=>?_⟩)
    have e:=J.refE;subst e
    obtain⟨B,e2,d1⟩:=y.addr hs
    have wf:=y.wf _ _ hs
    unfold kU at wf
    exact⟨C1 r,rfl,⟨B,SqL.of e2⟩,k _ C1 z g G wf y (aY9 hs)⟩
   | ro l =>
    cases hm
    refine .inr (.inl ⟨C,U,s,_,_,E,P,e1,fun v C1 z g G b J y=>?_⟩)
    have e:=J.refE;subst e
    obtain⟨B,e2,d1⟩:=y.obj _ _ hs
    have wf:=y.wf _ _ hs
    unfold kU at wf
    exact⟨C1 r,rfl,⟨B,e2.1⟩,k _ C1 z g G wf y (bm5 e2 d1 wf)⟩
   | dic l=>exact fb hm
   | ins c l=>exact fb hm
   | dicF l=>exact fb hm
 | _=>exact fb hm
theorem aU0 {C:Nat->Addr}{H:Hp}{d:kR}{k:Key}(h:qv d=some k)(y:d.keyF=true):RV Γ C H d (kV k):=by
 cases d with
 | int i=>cases h;exact RV.intI
 | str x=>cases h;exact RV.strI (aj (of_decide_eq_true y) (by decide))
 | _=>cases h
theorem RVD.keyAt {C:Nat->Addr}{H:Hp}:∀ {l:List (kR×kR)} {kvs:List (Key×V)} {i:Nat} {k:Key} {v:V},RVD qv Γ C H l kvs->kvs[i]?=some (k,v)->∃ p,l[i]?=some p/\qv p.1=some k
 | [],_,_,_,_,h,e=>by cases(show _=[]from h);simp at e
 | (d,e0)::l,_,0,_,_,h,e=>by
  obtain⟨y,v',r,rfl,e2,B,z⟩:=h
  cases(au e:(y,v')=_)
  exact⟨_,rfl,e2⟩
 | (d,e0)::l,_,i+1,_,_,h,e=>by
  obtain⟨y,v',r,rfl,e2,B,z⟩:=h
  exact RVD.keyAt (i:=i) z (by simpa using e)
theorem aS8 {C0:Nat->Addr}{H0:Hp}{s0:kQ}{a:Addr}{o:Obj}{r:Nat}{l:List (kR×kR)}{kvs:List (Key×V)}(h:H0 a=some (.frz o (.dK kvs)))(z:RVD qv Γ C0 H0 l kvs)(hk:l.all (fun p=>p.1.keyF)=true):ah7 Γ (Jk a o kvs) C0 H0 s0 ⟨l.map (·.1),[r]⟩:=by
 intro C H s g _ R _ i
 have h':=g.fz _ _ _ h
 have len:kvs.length=l.length:=z.length
 refine⟨fun hlt=>⟨⟨h',by rw[len];simpa using hlt⟩,fun x H' y=>?_⟩,fun hle=>⟨h',by rw[len];simpa using hle⟩⟩
 obtain⟨e,k,v,B,rfl⟩:=y
 subst e
 refine⟨ae3.refl _,fun d hd=>?_⟩
 obtain⟨p,e1,e2⟩:=z.keyAt B
 have hd:(l.map (·.1))[i]?=some d:=hd
 rw[aE,e1]at hd
 cases hd
 exact aU0 e2 (bh.mp hk p (aG e1))
theorem aK5 {d:kR}{q:lN}{s s':kQ}(h:mQ d s=.ok q s'):∃ r l,d=.ref r/\s[r]?=some (.dic l)/\l.all (fun p=>p.1.keyF)=true/\q=⟨l.map (·.1),[r]⟩/\s'=s.set r (.dicF l):=by
 unfold mQ at h
 split at h
 .split at h
  .rename_i l e
   split at h
   .rename_i hk;cases h;exact⟨_,l,rfl,e,hk,rfl,rfl⟩
   .exact fb h
  .exact fb h
 .exact fb h
theorem bn6 {m:kT->kQ->kW kR}{W:St}{H:Hp}{R:It->Hp->Prop}(h:TIv Γ (fun U s=>(m U s).bind fun d s=>mQ d s) W H R):by2 (TEv Γ m) W H R:=by
 obtain⟨C,U,s,q,s',E,P,hm,k⟩:=h
 obtain⟨x,s1,e1,hm⟩:=aa0 hm
 obtain⟨r,l,rfl,hs,hk,rfl,rfl⟩:=aK5 hm
 refine⟨C,U,s,_,s1,E,P,e1,fun v C1 J g B b G z=>?_⟩
 obtain⟨kvs,e2,d1⟩:=z.obj r _ hs
 have wf:=z.wf _ _ hs
 have y:=wf
 unfold kU at y
 rw[ai]at y
 refine⟨C1 r,kvs,G.refE,e2,fun o=>?_⟩
 obtain⟨g2,R2⟩:=z.set (o:=.dicF l) (u:=.frz o (.dK kvs)) hs rfl wf fun H' g e=>⟨o,kvs,e,RVD.monoW g l kvs y.2 d1⟩
 exact k _ C1 _ (g.trans g2 B) (by rw[aK];exact B) (by rw[aK];exact y.1) R2 (aS8 zp (RVD.monoW g2.w l kvs y.2 d1) hk)
variable {Γ:Gm} {X:Cx}
noncomputable def bO6:List Nat->TGs
 | []=>bW3
 | i::is=>bz0 (at3 i) (bO6 is)
noncomputable def gOf (K:af):lB->TG
 | .one i=>at3 i
 | .tup is=>bS7 K is.length (bO6 is)
theorem bg5 {C:Nat->Addr}{H:Hp}{n:Nat}{U U':kT}{W:St}{i:Nat}{d:kR}{v:V}(E:RE Γ C H n U W)(r:RV Γ C H d v)(b:d.bnd n=true)(h:lS U i d=some U'):RE Γ C H n U' (W.set i (some v)):=by
 unfold lS at h
 split at h
 .rename_i y
  cases h
  refine⟨by rw[aK,aK];exact E.len,fun j e hj=>?_⟩
  by_cases hij:j=i
  .subst hij
   rw[aJ y]at hj
   cases hj
   exact⟨b,v,by rw[aJ (by rw[<-E.len];exact y)],r⟩
  .rw[aw (cC hij)]at hj
   obtain⟨G,w,z,B⟩:=E.val j e hj
   exact⟨G,w,by rw[aw (cC hij)];exact z,B⟩
 .cases h
theorem bA0 {C:Nat->Addr}{H:Hp}{n:Nat}{Q:St->Hp->Prop}:∀(is:List Nat) (l:List kR) (y:List V) (U U':kT) (W:St),RE Γ C H n U W->RVL Γ C H l y->kS n l=true->lW U is l=some U'->(∀ W',RE Γ C H n U' W'->Q W' H)->bO6 is y W H Q
 | [],[],y,U,U',W,E,r,_,h,k=>by
  cases h
  exact⟨r.unnil,k W E⟩
 | [],d::l,_,_,_,_,_,_,_,h,_=>by cases h
 | i::is,[],_,_,_,_,_,_,_,h,_=>by cases h
 | i::is,d::l,y,U,U',W,E,r,b,h,k=>by
  have h:(lS U i d).bind (fun U=>lW U is l)=some U':=h
  obtain⟨x,z,rfl,G,B⟩:=r.uncons
  unfold kS at b
  rw[ai]at b
  cases e:lS U i d with
  | none=>rw[e]at h;cases h
  | some U1 =>
   rw[e]at h
   exact⟨x,z,rfl,bA0 is l z U1 U' _ (bg5 E G b.1 e) B b.2 h k⟩
theorem aP2 {l:List kR}:∀ {is:List Nat} {U U':kT},lW U is l=some U'->is.length=l.length:=by
 induction l with
 | nil=>intro is U U' h;cases is with
  | nil=>rfl
  | cons i is=>cases h
 | cons d l ih=>intro is U U' h;cases is with
  | nil=>cases h
  | cons i is =>
   have h:(lS U i d).bind (fun U=>lW U is l)=some U':=h
   cases e:lS U i d with
   | none=>rw[e]at h;cases h
   | some U1=>rw[e]at h;rw[aI,aI,ih h]
theorem bp0 {C:Nat->Addr}{H:Hp}{n:Nat}{Q:St->Hp->Prop}{tg:lB}{d:kR}{v:V}{U U':kT}{W:St}(E:RE Γ C H n U W)(r:RV Γ C H d v)(b:d.bnd n=true)(h:ly U tg d=some U')(k:∀ W',RE Γ C H n U' W'->Q W' H):gOf Γ.K tg v W H Q:=by
 cases tg with
 | one i=>exact k _ (bg5 E r b h)
 | tup is =>
  cases d with
  | tup l =>
   have h:lW U is l=some U':=h
   obtain⟨a,y,rfl,z,d1⟩:=r.tupE
   unfold kY at b
   exact⟨a,y,rfl,z,by rw[d1.length,aP2 h],bA0 is l y U U' W E d1 b h k⟩
  | _=>cases h
def Off (C:Nat->Addr)(s:kQ)(b:Addr):Prop:=∀(i:Nat) (ob:ls),s[i]?=some ob->isMut ob=true->C i≠b
theorem Off.mono {C C':Nat->Addr}{s s':kQ}{H H':Hp}{b:Addr}{o:HO}(h:Off C s b)(g:Gr C s H C' s' H')(hb:H b=some o):Off C' s' b:=fun i ob e m z=>by
 by_cases G:i<s.length
 .obtain⟨y,B⟩:∃ y,s[i]?=some y:=⟨s[i],ag G⟩
  exact h i y B (g.mu i y ob B e m) (by rw[<-g.w.map i G];exact z)
 .have:=g.new i (by lia) (ac.mp e).1
  rw[z,hb]at this;cases this
theorem Off.new {C:Nat->Addr}{s:kQ}{H:Hp}{b:Addr}(r:Rp Γ C H s)(h:H b=none):Off C s b:=fun i ob e m z=>by
 obtain⟨u,hu,_⟩:=(r.obj i ob e).there m
 rw[z,h]at hu;cases hu
theorem Rp.foreign {C:Nat->Addr}{s:kQ}{H:Hp}{b:Addr}{ys h:List V}(r:Rp Γ C H s)(hb:H b=some (.lst ys))(ho:Off C s b):Rp Γ C (upd H b (.lst h)) s:=by
 have g:Gw C s.length H C (upd H b (.lst h)):=⟨fun _ _=>rfl,(Kp.refl H).put hb rfl⟩
 exact⟨r.inj,fun i o e=>(r.obj i o e).mono g (r.wf i o e) fun m u hu=>by rw[zb (ho i o e m)];exact hu,r.wf,r.tab.put hb⟩
theorem Gr.foreign {C C':Nat->Addr}{s s':kQ}{H H':Hp}{b:Addr}{ys y:List V}(g:Gr C s H C' s' H')(h0:H b=none)(hb:H' b=some (.lst ys)):Gr C s H C' s' (upd H' b (.lst y)):=by
 have ne:∀ c o,H c=some o->c≠b:=fun c o e=>zo e h0
 refine⟨⟨g.w.map,fun c o e f=>?_⟩,g.le,g.new,g.kd,fun c hc=>?_,fun c o kvs e=>by rw[zb (ne c _ e)];exact g.fz c o kvs e,fun c o e h z=>?_⟩
 .rw[zb (ne c o e)];exact g.w.kp c o e f
 .unfold upd;split
  .simp
  .exact g.st c hc
 .rw[zb (ne c o e)];exact g.fr c o e h z
def bD8 (Γ:Gm)(C:Nat->Addr)(s:kQ)(H:Hp)(l:List kR)(s':kQ)(Q:VK):Prop :=
 ∀ p ys C' H',Gr C s H C' s' H'->s.length<=s'.length->kS s'.length l=true->H' p=some (.lst ys)->H p=none->Off C' s' p->RVL Γ C' H' l ys->Rp Γ C' H' s'->Q (.ref p) H'
def TFv (Γ:Gm)(m:kT->kQ->kW (List kR)):TE:=fun W H Q=>∃ C U s l s',RE Γ C H s.length U W/\Rp Γ C H s/\m U s=.ok l s'/\bD8 Γ C s H l s' Q
theorem aO9 {m:kT->kQ->kW (List kR)}{W:St}{H:Hp}{Q:VK}(h:TEv Γ (fun U s=>(m U s).bind fun l s=>lH (.lst l) s) W H Q):TFv Γ m W H Q:=by
 obtain⟨C,U,s,d,s',E,R,hm,q⟩:=h
 obtain⟨l,s1,e1,hm⟩:=aa0 hm
 obtain⟨rfl,rfl⟩:=zT hm
 refine⟨C,U,s,l,s1,E,R,e1,fun p ys C' H' g hl hb hp h0 ho r B=>?_⟩
 have gw:Gw C' s1.length H' (fun i=>if i=s1.length then p else C' i) H':=⟨fun i y=>if_neg (aB y),Kp.refl _⟩
 have key:∀(i:Nat) (z:ls),(s1++[DV.O.lst l])[i]?=some z->(i<s1.length/\s1[i]?=some z)\/(i=s1.length/\z=.lst l):=fun i z e=>by
  rcases gb i s1.length with h|h|h
  .rw[aR h]at e;exact .inl ⟨h,e⟩
  .subst h;simp at e;exact .inr ⟨rfl,e.symm⟩
  .rw[cg (by simp;lia)]at e;cases e
 have G:Gr C s H (fun i=>if i=s1.length then p else C' i) (s1++[.lst l]) H':=by
  refine⟨⟨fun i y=>by show(if i=s1.length then p else C' i)=_;rw[if_neg (by lia)];exact g.w.map i y,g.w.kp⟩,by simp;lia,fun i h1 h2=>?_,fun i o z e e'=>?_,g.st,g.fz,g.fr⟩
  .by_cases y:i=s1.length
   .show H (if i=s1.length then p else C' i)=none
    rw[if_pos y];exact h0
   .show H (if i=s1.length then p else C' i)=none
    rw[if_neg y];exact g.new i h1 (by simp at h2;lia)
  .rcases key i z e' with⟨_,e2⟩|⟨y,_⟩
   .exact g.kd i o z e e2
   .have:=(ac.mp e).1;lia
 have P:Rp Γ (fun i=>if i=s1.length then p else C' i) H' (s1++[.lst l]):=by
  refine⟨fun i j Z oj J ej mi mj e=>?_,fun i o e=>?_,fun i o e=>?_,B.tab⟩
  .rcases key i Z J with⟨y,J⟩|⟨y,_⟩<;>rcases key j oj ej with⟨hj,ej⟩|⟨hj,_⟩
   .rw[if_neg (aB y),if_neg (aB hj)]at e
    exact B.inj i j Z oj J ej mi mj e
   .rw[if_neg (aB y),if_pos hj]at e
    exact absurd e (ho i Z J mi)
   .rw[if_neg (aB hj),if_pos y]at e
    exact absurd e.symm (ho j oj ej mj)
   .rw[y,hj]
  .rcases key i o e with⟨y,e⟩|⟨y,rfl⟩
   .show RO Γ _ _ (if i=s1.length then p else C' i) o
    rw[if_neg (aB y)]
    exact(B.obj i o e).mono gw (B.wf i o e) fun _ u hu=>hu
   .show RO Γ _ _ (if i=s1.length then p else C' i) _
    rw[if_pos y]
    exact⟨ys,hp,RVL.monoW gw l ys hb r⟩
  .rw[aC,bO]
   rcases key i o e with⟨_,e⟩|⟨_,rfl⟩
   .exact zH (cT _) _ (B.wf i o e)
   .exact zH (cT _) _ (by unfold kU;exact hb)
 exact q (.ref p) _ H' G (by simp;omega) (by unfold kY;simp) (by unfold RV;simp) P
theorem bH7 {C:Nat->Addr}{H:Hp}{n:Nat}{U:kT}{W:St}(E:RE Γ C H n U W)(h:yD):RE Γ C H n (lK U h) (au7 h W):=by
 refine⟨by unfold lK au7;simp,fun i d e=>?_⟩
 unfold lK at e
 rw[aE]at e
 cases q:h[i]? with
 | none=>rw[q]at e;cases e
 | some o =>
  rw[q]at e
  cases o with
  | none=>cases e
  | some j =>
   have e':(U[j]?).join=some d:=au e
   have ej:U[j]?=some (some d):=by
    cases q2:U[j]? with
    | none=>rw[q2]at e';cases e'
    | some o2=>rw[q2]at e';exact congrArg some e'
   obtain⟨b,v,z,y⟩:=E.val j d ej
   refine⟨b,v,?_,y⟩
   unfold au7
   rw[aE,q]
   show some ((W[j]?).join)=_
   rw[z];rfl
theorem aI9 {mI:kT->kQ->kW lN}{mc me:kT->kQ->kW kR}{tg:lB}{B:yD}{W:St}{H:Hp}{Q:VK}
  (h:TFv Γ (fun U s=>(mI U s).bind fun q s0=>if q.its.length<=kZ then lT (fun s=>lA s0 s q.src) (fun d U s=>match ly U tg d with
   | some U=>lf (mc U s) fun k s=>if k then(me U s).bind fun v s=>.ok (some v,U) s else .ok (none,U) s
   | none=>.bad) q.its (lK U B) s0 else .bad) W H Q):tComp B (TIv Γ mI) (gOf Γ.K tg) (TTv Γ mc) (TEv Γ me) W H Q:=by
 obtain⟨C,U,s,l,s',E,R,hm,k⟩:=h
 obtain⟨q,s0,e1,hm⟩:=aa0 hm
 split at hm
 case isFalse=>exact fb hm
 rename_i b3
 refine⟨C,U,s,q,s0,E,R,e1,fun J C1 H1 g1 l1 b1 R1 wk D hD=>?_⟩
 have h0:H D=none:=by
  cases e:H D with
  | none=>rfl
  | some o=>exact absurd hD (g1.st D (by rw[e];simp))
 refine⟨fun i m W' H'=>∃ C' U' t y ys rest,Gr C1 s0 H1 C' t H'/\Rp Γ C' H' t/\RE Γ C' H' t.length U' W'/\H' D=some (.lst ys)/\Off C' t D/\RVL Γ C' H' y ys/\kS t.length y=true/\y.length<=i/\i<=q.its.length/\m=q.its.length - i /\
  lT (fun s=>lA s0 s q.src) (fun d U s=>match ly U tg d with
   | some U=>lf (mc U s) fun k s=>if k then(me U s).bind fun v s=>.ok (some v,U) s else .ok (none,U) s
   | none=>.bad) (q.its.drop i) U' t=.ok rest s'/\l=y++rest,⟨q.its.length,?_⟩,?_⟩
 .obtain⟨g2,R2⟩:=R1.same (H':=upd H1 D (.lst [])) ((ae3.refl H1).new hD)
  exact⟨C1,lK U B,s0,[],[],l,g2,R2,bH7 ((E.mono g1 l1).mono g2 (ah _)) B,zp,Off.new R1 hD,.nil,rfl,ah _,dJ _,by simp,by rw[bQ];exact hm,rfl⟩
 .rintro i m W' H' ⟨C',U',t,y,ys,rest,g,R',E',hy,a1,ra,ba,b6,b4,rfl,hc,hl⟩
  have hle:=g.le
  rcases dS i q.its.length with hlt|hge
  .have hd:q.its[i]?=some q.its[i]:=ag hlt
   rw[cQ hlt]at hc
   unfold lT at hc
   split at hc
   case isFalse=>exact fb hc
   rename_i a2
   obtain⟨a5,b0⟩:=(wk C' H' t g hle R' a2 i).1 hlt
   refine .inr ⟨a5,_,fun W2 H2 n=>⟨q.its.length - (i+1),by omega,n⟩,fun x H2 a6=>?_⟩
   obtain⟨sm,rv⟩:=b0 x H2 a6
   obtain⟨g2,R2⟩:=R'.same sm
   have rd:=rv _ hd
   have bd:(q.its[i]).bnd t.length=true:=zg hle _ (an8 b1 hd)
   obtain⟨p,t3,hs,hc⟩:=aa0 hc
   obtain⟨r2,t4,hr2,hc⟩:=aa0 hc
   cases hb:ly U' tg q.its[i]with
   | none=>rw[hb]at hs;cases hs
   | some U3 =>
    rw[hb]at hs
    refine bp0 (E'.mono g2 (ah _)) rd bd hb fun W3 E3=>?_
    obtain⟨c,t1,ec,hs⟩:=zv hs
    refine⟨C',U3,t,c,t1,E3,R2,ec,fun C2 H4 g4 l4 R4=>?_⟩
    have a4:H2 D=some (.lst ys):=sm _ _ hy
    have a3:H4 D=some (.lst ys):=g4.fr D _ a4 (by nofun) a1
    have G:Off C2 t1 D:=a1.mono g4 a4
    have G4:=(g.trans g2 hle).trans g4 hle
    cases c with
    | true =>
     rw[if_pos rfl]at hs
     refine iteT ?_
     obtain⟨v,t2,ev,hs⟩:=aa0 hs
     cases hs
     refine⟨C2,U3,t1,v,t3,E3.mono g4 l4,R4,ev,fun w C3 H5 g5 l5 b5 r5 R5=>?_⟩
     have Z:H5 D=some (.lst ys):=g5.fr D _ a3 (by nofun) G
     have a0:Off C3 t3 D:=G.mono g5 a3
     refine⟨ys,Z,?_,?_⟩
     .rw[ra.length]
      have:=zB
      lia
     .have gw:Gw C3 t3.length H5 C3 (upd H5 D (.lst (ys++[w]))):=⟨fun _ _=>rfl,(Kp.refl H5).put Z rfl⟩
      have G5:=G4.trans g5 (aj hle l4)
      have GG:=g2.trans (g4.trans g5 l4) (ah _)
      have b2:RVL Γ C3 H5 y ys:=RVL.mono GG _ _ ba ra
      have bb:kS t3.length (y++[v])=true:=zJ (aa3 GG.le _ ba) (by unfold kS;rw[b5];rfl)
      refine⟨C3,U3,t3,y++[v],ys++[w],r2,G5.foreign hD Z,R5.foreign Z a0,?_,zp,a0,RVL.monoW gw _ _ bb (b2.append (.cons r5 .nil)),bb,by simp;omega,hlt,rfl,?_,?_⟩
      .have E5:=(E3.mono g4 l4).mono g5 l5
       exact⟨E5.len,fun j e hj=>by
        obtain⟨h1,z,h2,h3⟩:=E5.val j e hj
        exact⟨h1,z,h2,RV.monoW gw _ _ h1 h3⟩⟩
      .cases hc;exact hr2
      .cases hc;rw[hl];simp
    | false =>
     rw[if_neg aQ]at hs
     refine ca5 ?_
     cases hs
     have GG:=g2.trans g4 (ah _)
     exact⟨C2,U3,t3,y,ys,r2,G4,R4,E3.mono g4 l4,a3,G,RVL.mono GG _ _ ba ra,aa3 l4 _ ba,by lia,hlt,rfl,by cases hc;exact hr2,by cases hc;exact hl⟩
  .have hi:i=q.its.length:=by lia
   rw[gY hge]at hc
   unfold lT at hc
   split at hc
   case isFalse=>exact fb hc
   rename_i a2
   cases hc
   refine .inl ⟨(wk C' H' s' g hle R' a2 i).2 hge,?_⟩
   rw[bt]at hl
   subst hl
   exact k D ys C' H' (g1.trans g l1) (aj l1 hle) ba hy h0 a1 ra R'
variable {Γ:Gm} {X:Cx}
noncomputable def bY3 (Γ:Gm)(C:Nat->Addr)(H:Hp)(n:Nat)(D:Ends):lC->Prop
 | .next U=>∀ W,RE Γ C H n U W->D.nx W H
 | .ret d=>∀ v,d.bnd n=true->RV Γ C H d v->D.rt v H
 | .cont U=>∀ W,RE Γ C H n U W->D.ct W H
 | .brk U=>∀ W,RE Γ C H n U W->D.bk W H
def ai4 (Γ:Gm)(C:Nat->Addr)(s:kQ)(H:Hp)(c:lC)(s':kQ)(D:Ends):Prop :=
 ∀ C' H',Gr C s H C' s' H'->s.length<=s'.length->Rp Γ C' H' s'->bY3 Γ C' H' s'.length D c
def TSv (Γ:Gm)(m:kT->kQ->kW lC):TS:=fun D W H=>∃ C U s c s',RE Γ C H s.length U W/\Rp Γ C H s/\m U s=.ok c s'/\ai4 Γ C s H c s' D
theorem PS.imp {e:Stmt}{t t':TS}(h:PS X e t)(i:∀ D W H,t' D W H->t D W H):PS X e t':=fun y s W H Q I q=>h y s W H Q I (i Q W H q)
theorem PSs.imp {e:yL}{t t':TS}(h:PSs X e t)(i:∀ D W H,t' D W H->t D W H):PSs X e t':=fun y s W H Q I q=>h y s W H Q I (i Q W H q)
theorem ai4.trans {C C1:Nat->Addr}{s s1 s':kQ}{H y:Hp}{c:lC}{D:Ends}(h:ai4 Γ C s H c s' D)(g:Gr C s H C1 s1 y)(l:s.length<=s1.length):ai4 Γ C1 s1 y c s' D :=
 fun C' H' g' z p=>h C' H' (g.trans g' l) (aj l z) p
theorem ai4.here {C:Nat->Addr}{s:kQ}{H:Hp}{c:lC}{D:Ends}(h:ai4 Γ C s H c s D)(p:Rp Γ C H s):bY3 Γ C H s.length D c:=h C H (Gr.refl C s H) (ah _) p
variable {D:Ends} {W:St} {H:Hp}
theorem bt0 {m:kT->kQ->kW lC}(hm:∀ U s,m U s=.ok (.next U) s)(h:TSv Γ m D W H):bA5 D W H:=by
 obtain⟨C,U,s,c,s',E,R,e,q⟩:=h
 rw[hm]at e;cases e
 exact q.here R W E
theorem bE5 {m:kT->kQ->kW kR}(h:TSv Γ (fun U s=>(m U s).bind fun d s=>.ok (.ret d) s) D W H):bX3 (TEv Γ m) D W H:=by
 obtain⟨C,U,s,c,s',E,R,e,q⟩:=h
 obtain⟨x,s1,e1,e⟩:=aa0 e
 cases e
 exact⟨C,U,s,x,_,E,R,e1,fun v C1 z g1 l1 y r1 R1=>q C1 z g1 l1 R1 v y r1⟩
theorem bn0 {m:kT->kQ->kW kR}(h:TSv Γ (fun U s=>(m U s).bind fun _ s=>.ok (.next U) s) D W H):bI0 (TEv Γ m) D W H:=by
 obtain⟨C,U,s,c,s',E,R,e,q⟩:=h
 obtain⟨x,s1,e1,e⟩:=aa0 e
 cases e
 exact⟨C,U,s,x,_,E,R,e1,fun v C1 y g1 l1 z r1 R1=>q C1 y g1 l1 R1 W (E.mono g1 l1)⟩
theorem aQ5 {m:kT->kQ->kW kR}{tg:lB}(h:TSv Γ (fun U s=>(m U s).bind fun d s=>match ly U tg d with|some U=>.ok (.next U) s|none=>.bad) D W H):bc1 (TEv Γ m) (gOf Γ.K tg) D W H:=by
 obtain⟨C,U,s,c,s',E,R,e,q⟩:=h
 obtain⟨x,s1,e1,e⟩:=aa0 e
 refine⟨C,U,s,x,s1,E,R,e1,fun v C1 B g1 l1 z r1 R1=>?_⟩
 cases hb:ly U tg x with
 | none=>rw[hb]at e;cases e
 | some U1 =>
  rw[hb]at e
  cases e
  exact bp0 (E.mono g1 l1) r1 z hb fun W' y=>q C1 B g1 l1 R1 W' y
theorem ba3 {m:kT->kQ->kW (List kR)}(h:TSv Γ (fun U s=>((m U s).bind fun l s=>lH (.lst l) s).bind fun d s=>match ly U tg d with|some U=>.ok (.next U) s|none=>.bad) D W H):bc1 (TFv Γ m) (gOf Γ.K tg) D W H :=
 aO9 (aQ5 h)
def bE0 (Γ:Gm):bN7:=fun o i v H Q=>∃ C s x y d s',Rp Γ C H s/\RV Γ C H x o/\RV Γ C H y i/\RV Γ C H d v/\x.bnd s.length=true/\y.bnd s.length=true/\d.bnd s.length=true/\DV.setIx x y d s=.ok () s' /\
 ∀ C' H',Gr C s H C' s' H'->s.length<=s'.length->Rp Γ C' H' s'->Q H'
theorem bd4 {me mo mi:kT->kQ->kW kR}(h:TSv Γ (fun U s=>(me U s).bind fun d s=>(mo U s).bind fun x s=>(mi U s).bind fun y s=>(DV.setIx x y d s).bind fun _ s=>.ok (.next U) s) D W H) :
  bc1 (TEv Γ me) (bX6 (TEv Γ mo) (TEv Γ mi) (bE0 Γ)) D W H:=by
 obtain⟨C,U,s,c,s',E,R,e,q⟩:=h
 obtain⟨d,s1,e1,e⟩:=aa0 e
 obtain⟨x,s2,e2,e⟩:=aa0 e
 obtain⟨y,s3,e3,e⟩:=aa0 e
 obtain⟨u,s4,e4,e⟩:=aa0 e
 cases e
 refine⟨C,U,s,d,s1,E,R,e1,fun v1 C1 H1 g1 l1 b1 r1 R1=>?_⟩
 refine⟨C1,U,s1,x,s2,E.mono g1 l1,R1,e2,fun v2 C2 H2 g2 B b2 r2 R2=>?_⟩
 have Z:=g1.trans g2 l1
 have L2:=aj l1 B
 refine⟨C2,U,s2,y,s3,E.mono Z L2,R2,e3,fun v3 C3 H3 g3 z b3 r3 R3=>?_⟩
 refine⟨C3,s3,x,y,d,_,R3,RV.mono g3 x v2 b2 r2,r3,RV.mono (g2.trans g3 B) d v1 b1 r1,zg z x b2,b3,zg (aj B z) d b1,e4,fun C4 H4 g4 G R4=>?_⟩
 have J:=Z.trans g3 L2
 have L3:=aj L2 z
 exact q C4 H4 (J.trans g4 L3) (aj L3 G) R4 W (E.mono (J.trans g4 L3) (aj L3 G))
theorem bz2 (hu:X.A.units+2<cLine):bR4 X (bE0 Γ):=by
 intro G sh W H o i v ov iv u Q I ro ri rv h
 obtain⟨C,s,x,y,d,s',R,rx,ry,rd,bx,Z,bd,hm,q⟩:=h
 cases x with
 | ref r =>
  have hm:(match s[r]? with
   | some (.lst l)=>(match y with
    | .int i=>(match lJ l.length i with|some j=>DV.R.ok () (s.set r (.lst (l.set j d)))|none=>.bad)
    | _=>.bad)
   | some (.dic l)=>if y.key&&decide (l.length<kZ)then .ok () (s.set r (.dic (lh y d l)))else .bad
   | _=>.bad)=.ok () s':=hm
  cases e:s[r]? with
  | none=>rw[e]at hm;cases hm
  | some ob =>
   rw[e]at hm
   cases ob with
   | lst l =>
    cases y with
    | int k =>
     have hm:(match lJ l.length k with|some j=>DV.R.ok () (s.set r (.lst (l.set j d)))|none=>.bad)=.ok () s':=hm
     cases ej:lJ l.length k with
     | none=>rw[ej]at hm;cases hm
     | some j =>
      rw[ej]at hm
      cases hm
      obtain⟨xs,h1,B⟩:=R.addr e
      have hb:kS s.length (l.set j d)=true:=aa2.mpr fun z hz=>by
       rcases List.mem_or_eq_of_mem_set hz with h|h
       .exact aa2.mp (by have:=R.wf r _ e;unfold kU at this;exact this) z h
       .subst h;exact bd
      refine bc5 G sh W H o i v ov iv u Q I ro ri rv ⟨C r,xs,k,j,rx.refE,ry.intE,h1,?_,?_⟩
      .rw[B.length];exact ej
      .obtain⟨g,R'⟩:=R.set (o:=.lst (l.set j d)) (u:=.lst (xs.set j v)) e rfl hb fun H' g e=>⟨_,e,RVL.monoW g _ _ hb (B.set j rd)⟩
       exact q _ _ g (by simp) R'
    | _=>exact fb hm
   | dic l =>
    have hm:(if y.key&&decide (l.length<kZ)then DV.R.ok () (s.set r (.dic (lh y d l)))else .bad)=.ok () s':=hm
    split at hm
    case isFalse=>exact fb hm
    rename_i hc
    cases hm
    rw[ai]at hc
    obtain⟨k,hk⟩:=zW hc.1
    have hlt:=of_decide_eq_true hc.2
    obtain⟨kvs,h1,B⟩:=R.obj r _ e
    have ex:=rx.refE;subst ex
    cases ro
    have ey:=ag2 hk ry;subst ey
    have hb:(DV.O.dic (lh y d l)).bnd s.length=true:=an1 (R.wf r _ e) Z bd
    have J:kS s.length ((lh y d l).map (·.2))=true:=by
     unfold kU at hb
     rw[ai]at hb
     exact hb.2
    obtain⟨g,R'⟩:=R.set (o:=.dic (lh y d l)) (u:=.dK (ak5 kvs k v)) e rfl hb fun H' g e=>⟨_,e,RVD.monoW g _ _ J (B.put zy hk rd)⟩
    exact aQ9 hu I (bO3.k h1 (by rw[B.length];exact aA hlt zB)) ri rv fun s4 I4=>⟨_,I4,q _ _ g (by simp) R'⟩
   | _=>exact fb hm
 | _=>exact fb hm
theorem bQ5 {mc:kT->kQ->kW kR}{z y:kT->kQ->kW lC}(h:TSv Γ (fun U s=>lf (mc U s) fun k s=>if k then z U s else y U s) D W H):bV9 (TTv Γ mc) (TSv Γ z) (TSv Γ y) D W H:=by
 obtain⟨C,U,s,d,s',E,R,hm,q⟩:=h
 obtain⟨c,s1,e1,hm⟩:=zv hm
 refine⟨C,U,s,c,s1,E,R,e1,fun C1 B g1 l1 R1=>?_⟩
 cases c with
 | true =>
  rw[if_pos rfl]at hm ⊢
  exact⟨C1,U,s1,d,s',E.mono g1 l1,R1,hm,q.trans g1 l1⟩
 | false =>
  rw[if_neg aQ]at hm ⊢
  exact⟨C1,U,s1,d,s',E.mono g1 l1,R1,hm,q.trans g1 l1⟩
theorem bD0 {z B:kT->kQ->kW lC}(h:TSv Γ (fun U s=>(z U s).bind fun c s=>match c with|.next U=>B U s|c=>.ok c s) D W H):bY1 (TSv Γ z) (TSv Γ B) D W H:=by
 obtain⟨C,U,s,c,s',E,R,hm,q⟩:=h
 obtain⟨G,s1,e1,hm⟩:=aa0 hm
 refine⟨C,U,s,G,s1,E,R,e1,fun C1 y g1 l1 R1=>?_⟩
 cases G with
 | next U1=>exact fun W1 J=>⟨C1,U1,s1,c,s',J,R1,hm,q.trans g1 l1⟩
 | ret d=>cases hm;exact q C1 y g1 l1 R1
 | cont U=>cases hm;exact q C1 y g1 l1 R1
 | brk U=>cases hm;exact q C1 y g1 l1 R1
theorem be8 {mc:kT->kQ->kW kR}{z:kT->kQ->kW lC}(h:TSv Γ (DV.whl mc z) D W H):bg4 (TTv Γ mc) (TSv Γ z) D W H:=by
 obtain⟨C,U,s,c,s',E,R,hm,q⟩:=h
 unfold DV.whl at hm
 split at hm
 case isFalse=>exact fb hm
 rename_i hn
 generalize hn.choose=n at hm
 refine⟨fun n W H=>∃ C U s,RE Γ C H s.length U W/\Rp Γ C H s/\DV.qD mc z n U s=.ok c s'/\ai4 Γ C s H c s' D,⟨n,C,U,s,E,R,hm,q⟩,?_⟩
 clear E R hm q hn
 rintro n W H ⟨C,U,s,E,R,hm,q⟩
 cases n with
 | zero=>exact fb hm
 | succ n =>
  unfold DV.qD at hm
  obtain⟨b,s1,e1,hm⟩:=zv hm
  refine⟨C,U,s,b,s1,E,R,e1,fun C1 Z g1 l1 R1=>?_⟩
  cases b with
  | false =>
   rw[if_neg aQ]at hm ⊢
   cases hm
   exact q C1 Z g1 l1 R1 W (E.mono g1 l1)
  | true =>
   rw[if_pos rfl]at hm ⊢
   obtain⟨J,s2,e2,hm⟩:=aa0 hm
   refine⟨_,fun W' H' w=>⟨n,c9 n,w⟩,C1,U,s1,J,s2,E.mono g1 l1,R1,e2,fun C2 B g2 l2 R2=>?_⟩
   have G:=g1.trans g2 l1
   have L:=aj l1 l2
   cases J with
   | next U1=>exact fun W1 y=>⟨C2,U1,s2,y,R2,hm,q.trans G L⟩
   | cont U1=>exact fun W1 y=>⟨C2,U1,s2,y,R2,hm,q.trans G L⟩
   | ret d=>cases hm;exact q C2 B G L R2
   | brk U=>cases hm;exact q C2 B G L R2
theorem bi6 {mI:kT->kQ->kW lN}{Z:kT->kQ->kW lC}{tg:lB} (h:TSv Γ (fun U s=>(mI U s).bind fun q s0=>lZ (fun s=>lA s0 s q.src) (fun d U s=>match ly U tg d with
  | some U=>Z U s
  | none=>.bad) q.its U s0) D W H):bU2 (TIv Γ mI) (gOf Γ.K tg) (TSv Γ Z) D W H:=by
 obtain⟨C,U,s,c,s',E,R,hm,k⟩:=h
 obtain⟨q,s0,e1,hm⟩:=aa0 hm
 refine⟨C,U,s,q,s0,E,R,e1,fun J C1 H1 g1 l1 b1 R1 wk=>?_⟩
 refine⟨fun i m W' H'=>∃ C' U' t,Gr C1 s0 H1 C' t H'/\Rp Γ C' H' t/\RE Γ C' H' t.length U' W'/\i<=q.its.length/\m=q.its.length - i /\
  lZ (fun s=>lA s0 s q.src) (fun d U s=>match ly U tg d with
   | some U=>Z U s
   | none=>.bad) (q.its.drop i) U' t=.ok c s',⟨q.its.length,?_⟩,?_⟩
 .exact⟨C1,U,s0,Gr.refl _ _ _,R1,E.mono g1 l1,dJ _,by simp,by rw[bQ];exact hm⟩
 .rintro i m W' H' ⟨C',U',t,g,z,E',a3,rfl,hc⟩
  have hle:=g.le
  rcases dS i q.its.length with hlt|hge
  .have hd:q.its[i]?=some q.its[i]:=ag hlt
   rw[cQ hlt]at hc
   unfold lZ at hc
   split at hc
   case isFalse=>exact fb hc
   rename_i y
   obtain⟨a2,a1⟩:=(wk C' H' t g hle z y i).1 hlt
   refine .inr ⟨a2,_,fun W2 H2 n=>⟨q.its.length - (i+1),by omega,n⟩,fun x H2 a0=>?_⟩
   obtain⟨sm,rv⟩:=a1 x H2 a0
   obtain⟨g2,R2⟩:=z.same sm
   have rd:=rv _ hd
   have bd:(q.its[i]).bnd t.length=true:=zg hle _ (an8 b1 hd)
   obtain⟨c1,t3,hs,hc⟩:=aa0 hc
   cases hb:ly U' tg q.its[i]with
   | none=>rw[hb]at hs;cases hs
   | some U3 =>
    rw[hb]at hs
    refine bp0 (E'.mono g2 (ah _)) rd bd hb fun W3 E3=>?_
    refine⟨C',U3,t,c1,t3,E3,R2,hs,fun C2 H4 g4 l4 B=>?_⟩
    have G4:=(g.trans g2 hle).trans g4 hle
    have L4:=aj hle l4
    have GG:=g1.trans G4 l1
    cases c1 with
    | next U1=>exact fun W1 G=>⟨C2,U1,t3,G4,B,G,hlt,rfl,hc⟩
    | cont U1=>exact fun W1 G=>⟨C2,U1,t3,G4,B,G,hlt,rfl,hc⟩
    | ret d=>cases hc;exact k C2 H4 GG (aj l1 L4) B
    | brk U=>cases hc;exact k C2 H4 GG (aj l1 L4) B
  .rw[gY hge]at hc
   unfold lZ at hc
   split at hc
   case isFalse=>exact fb hc
   rename_i y
   cases hc
   exact .inl ⟨(wk C' H' s' g hle z y i).2 hge,k C' H' (g1.trans g l1) (aj l1 hle) z W' E'⟩
noncomputable def bG6 (H0:Hp)(D:Ends):Ends where
 nx:=fun W H=>∃ a o kvs,H a=some (.frz o (.dK kvs))/\(∀ o u,H0 a≠some (.frz o u))/\D.nx W (upd H a (.dK kvs))
 rt:=fun v H=>∃ a o kvs,H a=some (.frz o (.dK kvs))/\(∀ o u,H0 a≠some (.frz o u))/\D.rt v (upd H a (.dK kvs))
 bk:=fun W H=>∃ a o kvs,H a=some (.frz o (.dK kvs))/\(∀ o u,H0 a≠some (.frz o u))/\D.bk W (upd H a (.dK kvs))
 ct:=fun W H=>∃ a o kvs,H a=some (.frz o (.dK kvs))/\(∀ o u,H0 a≠some (.frz o u))/\D.ct W (upd H a (.dK kvs))
theorem bq5 {st:Stmt}{t:TS}(h:PS X st t):PS X st (fun D W H=>t (bG6 H D) W H):=by
 intro B s W H D I q
 have G:∀ {a:Addr},(∀ o u,H a≠some (.frz o u))->∀ o u,X.H₀ a≠some (.frz o u):=fun n o u z=>n o u (I.base.frzs _ _ _ z)
 refine thn (h B s W H _ I q) fun f s' hs=>?_
 cases f with
 | next=>obtain⟨W',H',y,a,o,kvs,e,n,q⟩:=hs;exact⟨W',_,y.thawK e (G n),q⟩
 | brk=>obtain⟨W',H',y,a,o,kvs,e,n,q⟩:=hs;exact⟨W',_,y.thawK e (G n),q⟩
 | cont=>obtain⟨W',H',y,a,o,kvs,e,n,q⟩:=hs;exact⟨W',_,y.thawK e (G n),q⟩
 | ret u=>obtain⟨v,W',H',y,r,a,o,kvs,e,n,q⟩:=hs;exact⟨v,W',_,y.thawK e (G n),r,q⟩
theorem aN9 {α:Type}{src:List Nat}{a b:α}{s s':kQ}(h:mR src a s=.ok b s'):∃ r l,src=[r]/\s[r]?=some (.dicF l)/\b=a/\s'=s.set r (.dic l):=by
 unfold mR at h
 split at h
 .split at h
  .rename_i l e;cases h;exact⟨_,l,rfl,e,rfl,rfl⟩
  .exact fb h
 .exact fb h
theorem bv7 {mI:kT->kQ->kW lN}{mb:kT->kQ->kW lC}{tg:lB} (h:TSv Γ (fun U s=>(mI U s).bind fun q s0=>if DV.aF4 s q.src then(lZ (fun s=>lA s0 s q.src) (fun d U s=>match ly U tg d with
  | some U=>mb U s
  | none=>.bad) q.its U s0).bind (fun c s=>mR q.src c s)else .bad) D W H):bU2 (TIv Γ mI) (gOf Γ.K tg) (TSv Γ mb) (bG6 H D) W H:=by
 obtain⟨C,U,s,c,s',E,R,hm,k⟩:=h
 obtain⟨q,s0,e1,hm⟩:=aa0 hm
 split at hm
 case isFalse=>exact fb hm
 rename_i hz
 obtain⟨c',s1,e2,hm⟩:=aa0 hm
 obtain⟨r,l,hq,hr,rfl,rfl⟩:=aN9 hm
 refine bi6 ⟨C,U,s,c,s1,E,R,(by show(mI U s).bind _=_;rw[e1];exact e2),fun C' H' g hl R'=>?_⟩
 obtain⟨o,kvs,Z,rd⟩:=R'.obj r _ hr
 have wf:=R'.wf _ _ hr
 have J:=wf
 unfold kU at J
 rw[ai]at J
 have y:∀ o u,H (C' r)≠some (.frz o u):=fun o2 u z=>by
  by_cases hi:r<s.length
  .obtain⟨ob,eo⟩:∃ ob,s[r]?=some ob:=⟨s[r],ag hi⟩
   have ho:=R.obj r ob eo
   rw[g.w.map r hi]at z
   have kd:=g.kd r ob _ eo hr
   rw[hq]at hz
   unfold DV.aF4 at hz
   rw[dz,eo]at hz
   cases ob with
   | dic l2=>obtain⟨_,e,_⟩:=ho;rw[z]at e;cases e
   | dicF l2=>cases hz
   | _=>cases kd
  .have:=g.new r (by omega) (ac.mp hr).1
   rw[z]at this;cases this
 have R2:=(R'.set1 (o:=.dic l) (u:=.dK kvs) hr rfl wf (fun H' g e=>⟨kvs,e,RVD.monoW g l kvs J.2 rd⟩) rfl).2
 have gw:Gw C' s1.length H' C' (upd H' (C' r) (.dK kvs)):=⟨fun _ _=>rfl,(Kp.refl H').put Z rfl⟩
 have ne:∀ b u,H b=some u->(bL4 u=true\/(∃ ob kv,u=.frz ob (.dK kv))\/H' b=some u)->H' b=some u->b≠C' r:=fun b u hb hu a0 zz=>by
  subst zz
  rw[Z]at a0;cases a0
  exact y _ _ hb
 have g2:Gr C s H C' (s1.set r (.dic l)) (upd H' (C' r) (.dK kvs)):=by
  refine⟨⟨g.w.map,fun b u hb hu=>?_⟩,by rw[aK];exact g.le,fun i h1 G=>g.new i h1 (by rw[aK]at G;exact G),fun i o1 o2 h1 G=>?_,fun b hb=>?_,fun b ob kv hb=>?_,fun b u hb nt no=>?_⟩
  .have:=g.w.kp b u hb hu
   rw[zb (ne b u hb (.inl hu) this)];exact this
  .by_cases hi:i=r
   .subst hi
    rw[aJ (ac.mp hr).1]at G
    cases G
    have kd:=g.kd i o1 (.dicF l) h1 hr
    exact kd
   .rw[aw (cC hi)]at G;exact g.kd i o1 o2 h1 G
  .unfold upd;split
   .simp
   .exact g.st b hb
  .have:=g.fz b ob kv hb
   rw[zb (ne b _ hb (.inr (.inl ⟨_,_,rfl⟩)) this)];exact this
  .have:=g.fr b u hb nt no
   rw[zb (ne b u hb (.inr (.inr this)) this)];exact this
 have fin:=k C' _ g2 (by rw[aK];exact hl) R2
 rw[aK]at fin
 have re:∀ {U1:kT} {W1:St},RE Γ C' H' s1.length U1 W1->RE Γ C' (upd H' (C' r) (.dK kvs)) s1.length U1 W1:=fun B=>⟨B.len,fun i d e=>by
  obtain⟨b,v,e1,e2⟩:=B.val i d e
  exact⟨b,v,e1,RV.monoW gw d v b e2⟩⟩
 cases c with
 | next U1=>exact fun W1 B=>⟨_,_,_,Z,y,fin W1 (re B)⟩
 | ret d=>exact fun v b rv=>⟨_,_,_,Z,y,fin v b (RV.monoW gw d v b rv)⟩
 | cont U1=>exact fun W1 B=>⟨_,_,_,Z,y,fin W1 (re B)⟩
 | brk U1=>exact fun W1 B=>⟨_,_,_,Z,y,fin W1 (re B)⟩
structure Ck where
 N:List Str
 sc:Scope
 lk:String->List Nat->Expr->Bool
noncomputable def Ck.vis (c:Ck)(x:Str):Bool:=match c.sc.names.lookup x with|some .local=>true|some .cell=>true|some .free=>true|_=>false
noncomputable def Ck.loc (c:Ck)(x:Str):Bool:=match c.sc.names.lookup x with|some .local=>true|some .cell=>true|_=>false
noncomputable def Ck.gl (c:Ck)(x:Str):Bool:=(match c.sc.names.lookup x with|some .globalImplicit=>true|_=>false)&&!(x==("__debug__":Str))&&!decide (x=("__name__":Str))
noncomputable def Ck.var (c:Ck)(i:Nat)(x:Str):Bool:=decide (c.N[i]?=some x)&&c.vis x&&!(x==("__debug__":Str))&&!(x==("__classdict__":Str))
noncomputable def shp:Expr->Bool
 | .Starred ..=>false
 | .Set ..=>false
 | .SetComp ..=>false
 | .DictComp ..=>false
 | .GeneratorExp ..=>false
 | .Slice ..=>false
 | .NamedExpr ..=>false
 | _=>true
noncomputable def ai7:Expr->Bool
 | .ListComp ..=>false
 | .SetComp ..=>false
 | .DictComp ..=>false
 | _=>true
noncomputable def bA4:Expr->Bool
 | .Tuple ..=>false
 | _=>true
noncomputable def aG2:Expr->Bool
 | .Call _ [] [] _=>false
 | _=>true
noncomputable def mC:DV.Cn->Const->Bool
 | .non,.none=>true
 | .bl b,.bool c=>b==c
 | .int i,.int j=>decide (i=j)
 | .str x,.str y=>decide (y=⟨x.toArray⟩)&&decide (x.length<=1000)
 | _,_=>false
noncomputable def bO1 (ck:Ck):List Nat->List Expr->Bool
 | [],[]=>true
 | i::is,.Name x _::es=>decide (ck.N[i]?=some x)&&ck.loc x&&bO1 ck is es
 | _,_=>false
noncomputable def mTg (ck:Ck):lB->Expr->Bool
 | .one i,.Name x _=>decide (ck.N[i]?=some x)&&ck.loc x
 | .tup is,.Tuple es _ _=>bO1 ck is es
 | _,_=>false
noncomputable def tgN:Expr->List Str
 | .Name x _=>[x]
 | .Tuple es _ _=>es.filterMap fun e=>match e with|.Name x _=>some x|_=>none
 | _=>[]
structure ItT where
 x:Str
 y:Str
 ob:Expr
 sc:Scope
 p1:Pos
 p2:Pos
 p3:Pos
 p4:Pos
 p5:Pos
 p6:Pos
 p7:Pos
 k1:Nat
 k2:Nat
 ap:Pos
 cp:Pos
 pos:Pos
noncomputable def ItT.tg (q:ItT):Expr:=.Tuple [.Name q.x q.p5,.Name q.y q.p6] q.k2 q.p7
noncomputable def ItT.it (q:ItT):Expr:=.Call (.Attribute q.ob "items" q.ap) [] [] q.cp
noncomputable def ItT.text (q:ItT):Expr:=.ListComp (.BinOp (.Name q.x q.p1) .Add (.Tuple [.Name q.y q.p2] q.k1 q.p3) q.p4) [⟨q.tg,q.it,[],0⟩] q.sc q.pos
noncomputable def ckC (ck:Ck)(tgt:Expr)(caps:yD)(scope:Scope):Ck:=⟨tgN tgt++(caps.filterMap id).map fun j=>ck.N.getD j "",scope,fun _ _ _=>false⟩
noncomputable def aI0 (ck:Ck)(tg:lB)(tgt iter:Expr)(caps:yD)(scope:Scope):Bool :=
 zG (ckC ck tgt caps scope).N caps scope ck.N ck.sc&&decide ((ckC ck tgt caps scope).N.Nodup)&&mTg (ckC ck tgt caps scope) tg tgt&&shp iter
noncomputable def biT:lF->Option Str
 | .len=>some "len" | .abs=>some "abs" | .min2=>some "min" | .int=>some "int" | .str=>some "str" | _=>none
noncomputable def biK:lF->Option (Nat×Str)
 | .isInt=>some (1, "int")|.isBool=>some (2, "bool")|.isStr=>some (3, "str")|.isTup=>some (4, "tuple")|.isList=>some (5, "list")|_=>none
noncomputable def mkT:mr->Option Str
 | .tuple=>some "tuple" | .list=>some "list" | _=>none
noncomputable def mkF:mr->Option Str
 | .min=>some "min" | _=>none
noncomputable def mtT:mw->Option (Str×Nat)
 | .append=>some ("append",1)|.reverse=>some ("reverse",0)|_=>none
noncomputable def bO7 (ck:Ck)(b:lF)(x:Str)(xs:yK)(m1 m2:Bool):Bool:=match biK b with
 | some p=>(match xs with|[_,.Name y _]=>decide (x=("isinstance":Str))&&ck.gl x&&decide (y=p.2)&&ck.gl y&&m2|_=>false)
 | none=>(match xs with|_::_=>decide (biT b=some x)&&ck.gl x&&m1|[]=>false)
mutual
noncomputable def mE (ck:Ck):lL->Expr->Bool
 | .var i,E=>match E with|.Name x _=>ck.var i x|_=>false
 | .cst c,E=>match E with|.Constant v _ _=>mC c v|_=>false
 | .glob g,E=>match E with|.Name x _=>decide (x=(g:Str))&&ck.gl x|_=>false
 | .bin op a b,E=>match E with|.BinOp l o r _=>decide (o=bQ9 op)&&mE ck a l&&mE ck b r|_=>false
 | .not a,E=>match E with|.UnaryOp .Not l _=>mE ck a l|_=>false
 | .cmp op a b,E=>match E with|.Compare l [o] [r] _=>decide (o=br9 op)&&mE ck a l&&mE ck b r|_=>false
 | .and a b,E=>match E with
  | .BoolOp .And [l,r] _=>mE ck a l&&mE ck b r
  | .BoolOp .And (l::m::r::es) p=>mE ck a l&&mE ck b (.BoolOp .And (m::r::es) p)
  | _=>false
 | .or a b,E=>match E with
  | .BoolOp .Or [l,r] _=>mE ck a l&&mE ck b r
  | .BoolOp .Or (l::m::r::es) p=>mE ck a l&&mE ck b (.BoolOp .Or (m::r::es) p)
  | _=>false
 | .ite c a b,E=>match E with|.IfExp t l r _=>mE ck c t&&mE ck a l&&mE ck b r|_=>false
 | .tup es,E=>match E with|.Tuple xs _ _=>mEs ck es xs&&decide (xs.length<=1000)|_=>false
 | .lst es,E=>match E with|.List xs _=>mEs ck es xs&&decide (xs.length<=1000)|_=>false
 | .dic ks vs,E=>match E with|.Dict a b _=>(match a,b with|[],[]=>mEs ck ks []&&mEs ck vs []|[some x],[y]=>mEs ck ks [x]&&mEs ck vs [y]|_,_=>false)|_=>false
 | .get1 o k,E=>match E with|.Call (.Attribute ob x ap) [a] [] cp=>decide (x=("get":Str))&&aG2 ob&&(ap.endLine==cp.line)&&mE ck o ob&&mE ck k a&&shp a|_=>false
 | .ix a b,E=>match E with|.Subscript o i _=>mE ck a o&&mE ck b i|_=>false
 | .call f as,E=>match E with|.Call (.Name x _) xs [] _=>decide (x=(f:Str))&&ck.gl x&&mAs ck as xs|_=>false
 | .bi b es,E=>match E with|.Call (.Name x _) xs [] _=>bO7 ck b x xs (mEs ck es xs) (mEs ck es (xs.take 1))|_=>false
 | .mk k l,E=>match E with
  | .Call (.Name x _) [a] [] _=>ck.gl x&&shp a&&((decide (mkT k=some x)&&mL ck 2 l a)||(decide (mkF k=some x)&&mL ck 1 l a))
  | .ListComp e gs sc p=>decide (k=.list)&&mL ck 0 l (.ListComp e gs sc p)
  | _=>false
 | .meth m o es,E=>match E with
  | .Call (.Attribute ob x ap) xs [] cp=>decide (mtT m=some (x,xs.length))&&aG2 ob&&(ap.endLine==cp.line)&&mE ck o ob&&mEs ck es xs
  | _=>false
 | .attr o f,E=>match E with|.Attribute ob x _=>decide (x=⟨f.toArray⟩)&&aG2 ob&&mE ck o ob|_=>false
 | .keysL e,E=>match E with|.Call (.Name x _) [a] [] _=>decide (x=("list":Str))&&ck.gl x&&shp a&&mE ck e a|_=>false
 | .srt e,E=>match E with|.Call (.Name x _) [a] [] _=>decide (x=("sorted":Str))&&ck.gl x&&shp a&&mE ck e a|_=>false
 | .new c as,E=>match E with|.Call (.Name x _) xs [] _=>decide (x=(c:Str))&&ck.gl x&&mAs ck as xs|_=>false
 | .gtd o k d,E=>match E with|.Call (.Attribute ob x ap) [a,b] [] cp=>decide (x=("get":Str))&&aG2 ob&&(ap.endLine==cp.line)&&mE ck o ob&&mE ck k a&&mE ck d b&&shp a&&shp b|_=>false
 | .sdf o k d,E=>match E with|.Call (.Attribute ob x ap) [a,b] [] cp=>decide (x=("setdefault":Str))&&aG2 ob&&(ap.endLine==cp.line)&&mE ck o ob&&mE ck k a&&mE ck d b&&shp a&&shp b|_=>false
 | .upd o e,E=>match E with|.Call (.Attribute ob x ap) [a] [] cp=>decide (x=("update":Str))&&aG2 ob&&(ap.endLine==cp.line)&&mE ck o ob&&mE ck e a&&shp a|_=>false
 | .srtD e,E=>match E with|.Call (.Name x _) [a] [] _=>decide (x=("sorted":Str))&&ck.gl x&&shp a&&mE ck e a|_=>false
 | .mcall o m as,E=>match E with|.Call (.Attribute ob x ap) xs [] cp=>(match ob with|.Name y py=>decide (x=(m:Str))&&mE ck o (.Name y py)&&(ap.endLine==cp.line)&&decide (xs.length<29)&&mAs ck as xs|_=>false)|_=>false
noncomputable def mEs (ck:Ck):lv->List Expr->Bool
 | .nil,xs=>match xs with|[]=>true|_=>false
 | .cons e es,xs=>match xs with|x::xs=>mE ck e x&&shp x&&mEs ck es xs|_=>false
noncomputable def mFs (ck:Ck):lv->List Expr->Bool
 | .nil,xs=>match xs with|[]=>true|_=>false
 | .cons e es,xs=>match xs with
  | .FormattedValue v c none _::xs=>decide (c=-1)&&mE ck e v&&mFs ck es xs
  | .Constant v j p::xs=>mE ck e (.Constant v j p)&&mFs ck es xs
  | _=>false
noncomputable def mAs (ck:Ck):lO->List Expr->Bool
 | .nil,xs=>match xs with|[]=>true|_=>false
 | .ex e es,xs=>match xs with|x::xs=>mE ck e x&&shp x&&mAs ck es xs|_=>false
 | .fn _ _,_=>false
noncomputable def bW6 (ck:Ck):lO->List Expr->Bool
 | .nil,xs=>match xs with|[]=>true|_=>false
 | .ex e es,xs=>match xs with|x::xs=>mE ck e x&&shp x&&bW6 ck es xs|_=>false
 | .fn _ _,_=>false
noncomputable def mI (ck:Ck)(tgt:Expr):DV.I->Expr->Bool
 | .rng1 a,E=>match E with|.Call (.Name x _) [l] [] _=>decide (x=("range":Str))&&ck.gl x&&mE ck a l&&shp l|_=>false
 | .seq e,x=>mE ck e x&&shp x
 | .keys e,x=>mE ck e x&&shp x
noncomputable def mL (ck:Ck)(k:Nat):DV.L->Expr->Bool
 | .comp tg it e caps,E=>match E with|.ListComp elt [⟨tgt,iter,[],z⟩] scope _=>decide (z=0)&&aI0 ck tg tgt iter caps scope&&mI ck tgt it iter&&mE (ckC ck tgt caps scope) e elt|_=>false
 | .compIf tg it c e caps,E=>match E with|.ListComp elt [⟨tgt,iter,[i],z⟩] scope _=>decide (z=0)&&aI0 ck tg tgt iter caps scope&&mI ck tgt it iter&&mE (ckC ck tgt caps scope) c i&&mE (ckC ck tgt caps scope) e elt|_=>false
 | .disp es,E=>match E with|.List xs _=>decide (1<=k)&&mEs ck es xs&&decide (xs.length<=1000)|_=>false
 | .seq e,x=>decide (k=2)&&mE ck e x
end
theorem ff {p:Prop}(h:false=true):p:=Bool.noConfusion h
mutual
noncomputable def mS (ck:Ck):DV.S->Stmt->Bool
 | .asg tg e,S=>match S with
  | .Assign [t] v _=>mTg ck tg t&&mE ck e v&&(match tg with|.one _=>true|.tup _=>bA4 v&&ai7 v)
  | _=>false
 | .setIx o i e,S=>match S with|.Assign [.Subscript ob ix _] v _=>mE ck o ob&&mE ck i ix&&mE ck e v&&ai7 v|_=>false
 | .ex e,S=>match S with|.Expr v _=>mE ck e v&&ai7 v|_=>false
 | .ret e,S=>match S with|.Return (some v) _=>mE ck e v|_=>false
 | .ite c a b,S=>match S with|.If t l r _=>mE ck c t&&mSs ck a l&&mSs ck b r|_=>false
 | .whl c b,S=>match S with|.While t l [] _=>mE ck c t&&mSs ck b l|_=>false
 | .for_ tg it b,S=>match S with|.For tgt iter l [] _=>mTg ck tg tgt&&mI ck tgt it iter&&mSs ck b l|_=>false
 | .setA o f e,S=>match S with|.Assign [.Attribute ob x _] v _=>decide (x=⟨f.toArray⟩)&&mE ck o ob&&mE ck e v&&ai7 v|_=>false
 | .forK tg e b,S=>match S with|.For tgt iter l [] _=>mTg ck tg tgt&&(mE ck e iter&&shp iter)&&mSs ck b l|_=>false
noncomputable def mSs (ck:Ck):DV.Ss->List Stmt->Bool
 | .nil,xs=>match xs with|[]=>true|_=>false
 | .cons s ss,xs=>match xs with|x::xs=>(mS ck s x&&mSs ck ss xs)|_=>false
end
theorem az9 {y:Ck}{e:lL}{E:Expr}(h:mE y e E=true):shp E=true:=by
 cases E<;>first|rfl|(exfalso;cases e<;>exact ff h)
theorem bJ9 {y:Ck}{z:Expr}{e:DV.I}{E:Expr}(h:mI y z e E=true):shp E=true:=by
 cases e with
 | seq e=>have h:(mE y e E&&shp E)=true:=h;rw[ai]at h;exact h.2
 | keys e=>have h:(mE y e E&&shp E)=true:=h;rw[ai]at h;exact h.2
 | _=>cases E<;>first|rfl|exact ff h
theorem za {e:Expr}{es:yK}{env:Env}(h:shp e=true):aV (e::es) env=(false,eval e env)::aV es env:=by
 cases e<;>first|rfl|cases h
theorem zh {env:Env}{pos:Pos}:∀ {es:yK},(∀ e∈es,shp e=true)->(cD pos (aV es env)).any (·.1)=false/\(cD pos (aV es env)).all (fun x=>!x.1)=true
 | [],_=>⟨rfl,rfl⟩
 | e::es,h=>by
  have B:=za (es:=es) (env:=env) (h e (ar ..))
  obtain⟨y,z⟩:=zh (env:=env) (pos:=pos) (es:=es) fun x hx=>h x (ao _ hx)
  rw[B]
  unfold cD at y z ⊢
  simp only[aU,gk,dz,y,z]
  exact⟨rfl,rfl⟩
theorem aq1 {e:Expr}{env:Env}(h:shp e=true)(x:Value):dD e env x=pure x:=by
 cases e<;>first|rfl|cases h
theorem av3 {e:Expr}{op:CmpOp}(h:shp e=true):iP op e=false:=by
 cases e<;>first|rfl|cases h
theorem ag3 {e:Expr}{t:Option Expr}{l:Nat}{env:Env}(h:ai7 e=true):eM e t l env=pure false:=by
 cases e<;>first|rfl|cases h
theorem qk {e:Expr}{f:Str}{env:Env}(h:aG2 e=true):c5 e f env (eval e env)=eval e env:=by
 cases e with
 | Call g a k p =>
  cases g with
  | Name x p' =>
   cases a with
   | nil=>cases k with
    | nil=>cases h
    | cons _ _=>rfl
   | cons _ _=>rfl
  | _=>rfl
 | _=>rfl
theorem aH7 {es:yK}{k:Nat}{p:Pos}{e:Expr}{env:Env}(h:bA4 e=true):iO [.Tuple es k p] e env=pure none:=by
 cases e<;>first|rfl|cases h
theorem aG4 {o i:Expr}{p:Pos}{e:Expr}{env:Env}:iO [.Subscript o i p] e env=pure none:=by
 cases e<;>rfl
theorem aH9 {e:Expr}(h:shp e=true):aN6 e:=by
 intro o i
 cases e<;>first|rfl|cases h
def spV (Γ:Gm)(c:List kR->kQ->kW kR):Sp:=fun vs H Q _=>rCl Γ c vs H Q
noncomputable def bNames:List Str:=["len", "abs", "min", "max", "int", "isinstance", "bool", "str", "tuple", "list", "range", "sum", "all", "any", "sorted", "zip", "enumerate", "ord"]
noncomputable def LamI.own (J:LamI):Str:=match J.nm with|none => "<lambda>" | some p=>p.1
noncomputable def strD (kvs:List (List Nat×List Nat)):List (PyData×PyData):=kvs.map fun p=>(.str ⟨p.1.toArray⟩,.str ⟨p.2.toArray⟩)
structure ObOk (Γ:Gm)(prog:aD)(w:World)(K:af)(mg:yC)(base:Heap)(F:k8)(n:Nat):Prop where
 att:∀(c:String) (f:List Nat) (Cc:Addr),F.att c f=true->Γ.cls c=some Cc->NoAttr K Cc ⟨f.toArray⟩
 mc:∀ c m:String,(∀ l s,F.mcall c m l s=.bad)\/∃ Cc a fd ps,Γ.cls c=some Cc/\Cls K Cc/\Meth K Cc (m:Str) a/\FnOk prog w K mg base CX0 n a fd ps (spV Γ (F.mcall c m))/\Binds K fd ps []
 nw:∀ c:String,(∀ l s,F.new c l s=.bad)\/∃ k Cc a fd ps,k+1<=n/\(Γ.cls c=some Cc/\Cls K Cc)/\mg (c:Str)=some (.ref Cc)/\Mk K Cc a/\FnOk prog w K mg base CX0 k a fd ps (spV Γ (F.new c))/\Binds K fd ps []
structure CG (Γ:Gm)(F:k8)(n:Nat)(X:Cx)(ck:Ck):Prop where
 K:X.K=Γ.K
 N:X.N=ck.N
 nd:ck.N.Nodup
 xe:X.xe=fun _ _=>False
 calm:X.calm=true
 deep:li+1<=n
 room:Room n X.A
 sc:∀ x k,ck.sc.names.lookup x=some k->X.env.scope.names.lookup x=some k\/(k=.free/\X.env.scope.names.lookup x=some .cell)
 fn:∀ x,ck.sc.names.lookup x=some .cell->X.fn x=true
 bi:∀ x∈bNames,X.mg x=none
 call:∀ f:String,(∀ l s,F.call f l s=.bad)\/∃ a fd ps,FnOk X.prog X.w X.K X.mg X.base CX0 n a fd ps (spV Γ (F.call f))/\X.mg (f:Str)=some (.ref a)/\b8 X.K (.ref a)=true/\Binds X.K fd ps []
 con:∀ x d,F.con x=some d->∃ v u,X.mg (x:Str)=some u/\RelV v u/\(∀ m,d.bnd m=true)/\∀ C H,RV Γ C H d v
 lam:∀ id caps E,ck.lk id caps E=true->False
 cl:True
 fa:∀(f:String) (a:Addr),Γ.fa f=some a->X.mg (f:Str)=some (.ref a)/\∃ oc od fd sl,X.K.lookup a=some ⟨oc,od,.func fd,sl⟩
 fk:DV.FK F
 cdc:∀ c kvs,F.cdc c=some kvs->∃ a,X.mg (c:Str)=some (.ref a)/\∀ h:Heap,X.K.In h->StrTab X.prog X.w h a (strD kvs)
 ob:ObOk Γ X.prog X.w X.K X.mg X.base F n
section
variable {Γ:Gm} {F:k8} {n:Nat} {X:Cx} {ck:Ck}
theorem CG.vis (G:CG Γ F n X ck){x:Str}(h:ck.vis x=true):Vis X.env.scope x:=by
 unfold Ck.vis at h
 split at h
 .rename_i e;rcases G.sc _ _ e with z|⟨z,_⟩
  .exact .inl z
  .cases z
 .rename_i e;rcases G.sc _ _ e with z|⟨z,_⟩
  .exact .inr (.inl z)
  .cases z
 .rename_i e;rcases G.sc _ _ e with z|⟨_,z⟩
  .exact .inr (.inr z)
  .exact .inr (.inl z)
 .cases h
theorem CG.loc (G:CG Γ F n X ck){x:Str}(h:ck.loc x=true):Loc X.env.scope x/\(X.fn x=true\/X.env.scope.names.lookup x=some .local):=by
 unfold Ck.loc at h
 split at h
 .rename_i e;rcases G.sc _ _ e with z|⟨z,_⟩
  .exact⟨.inl z,.inr z⟩
  .cases z
 .rename_i e;rcases G.sc _ _ e with z|⟨z,_⟩
  .exact⟨.inr z,.inl (G.fn _ e)⟩
  .cases z
 .cases h
theorem CG.gl (G:CG Γ F n X ck){x:Str}(h:ck.gl x=true):Gl X x/\(x==("__debug__":Str))=false/\x ≠ "__name__":=by
 unfold Ck.gl at h
 simp only[ai,Bool.not_eq_true']at h
 obtain⟨⟨y,B⟩,J⟩:=h
 refine⟨?_,B,of_decide_eq_false J⟩
 split at y
 .rename_i e;rcases G.sc _ _ e with z|⟨z,_⟩
  .exact z
  .cases z
 .cases y
theorem bg8 (G:CG Γ F n X ck):∀ {is:List Nat} {es:yK},bO1 ck is es=true->PGs X es (bO6 is)/\(cH es X.env).length=is.length/\(cH es X.env).findIdx? (·.1)=none
 | [],[],_=>⟨bv2,rfl,rfl⟩
 | [],_::_,h=>by cases h
 | i::is,[],h=>by cases h
 | i::is,e::es,h=>by
  cases e with
  | Name x p =>
   unfold bO1 at h
   simp only[ai,decide_eq_true_eq]at h
   obtain⟨⟨B,y⟩,z⟩:=h
   obtain⟨l1,J⟩:=G.loc y
   obtain⟨a,b,c⟩:=bg8 G z
   have hs:cH (.Name x p::es) X.env=(false,gG (.Name x p) X.env)::cH es X.env:=rfl
   refine⟨aZ0 (aP6 (by rw[G.N];exact G.nd) (by rw[G.N];exact B) l1 J) a (by rw[hs];rfl),by rw[hs,aI,aI,b],?_⟩
   rw[hs,List.findIdx?_cons]
   simp[c]
  | _=>cases h
theorem aY0 (G:CG Γ F n X ck){tg:lB}{e:Expr}(h:mTg ck tg e=true):PG X e (gOf Γ.K tg):=by
 unfold mTg at h
 split at h
 .simp only[ai,decide_eq_true_eq]at h
  obtain⟨l1,y⟩:=G.loc h.2
  exact aP6 (by rw[G.N];exact G.nd) (by rw[G.N];exact h.1) l1 y
 .obtain⟨a,b,c⟩:=bg8 G h
  exact bl6 G.K G.calm a b c
 .cases h
theorem CG.comp (G:CG Γ F n X ck){tg:lB}{J iter:Expr}{B:yD}{scope:Scope}(h:aI0 ck tg J iter B scope=true) :
  zG (ckC ck J B scope).N B scope X.N X.env.scope=true/\shp iter=true /\
  ∀(Cc:Addr) (cells:yB) (s:ae) (H:Hp) (ex:List Addr),CG Γ F n (zr X (ckC ck J B scope).N scope Cc cells s H ex) (ckC ck J B scope)/\PG (zr X (ckC ck J B scope).N scope Cc cells s H ex) J (gOf Γ.K tg):=by
 unfold aI0 at h
 simp only[ai,decide_eq_true_eq]at h
 obtain⟨⟨⟨Z,h2⟩,h3⟩,h4⟩:=h
 refine⟨?_,h4,fun Cc cells s H ex=>?_⟩
 .rw[G.N]
  unfold zG at Z ⊢
  simp only[ai]at Z ⊢
  obtain⟨⟨⟨⟨⟨a1,a2⟩,a3⟩,a4⟩,a5⟩,a6⟩:=Z
  refine⟨⟨⟨⟨⟨a1,?_⟩,a3⟩,a4⟩,a5⟩,a6⟩
  rw[bh]at a2 ⊢
  intro y hy
  have:=a2 y hy
  rw[bR]at this ⊢
  rcases this with q|q
  .exact .inl q
  .right
   rw[bR]at q ⊢
   rcases q with q|q
   .rcases G.sc _ _ (eq_of_beq q)with z|⟨z,_⟩
    .left;rw[z];exact beq_self_eq_true _
    .cases z
   .rcases G.sc _ _ (eq_of_beq q)with z|⟨_,z⟩
    .right;rw[z];exact beq_self_eq_true _
    .left;rw[z];exact beq_self_eq_true _
 .have G':CG Γ F n (zr X (ckC ck J B scope).N scope Cc cells s H ex) (ckC ck J B scope):=by
   refine⟨G.K,rfl,h2,rfl,G.calm,G.deep,G.room,fun x k e=>?_,fun x e=>?_,G.bi,G.call,G.con,fun _ _ _ h=>(by cases h),G.cl,G.fa,G.fk,G.cdc,G.ob⟩
   .have q:=zS (env:=X.env) e
    have q':(eT scope X.env).names.lookup x=some (if(k==NameKind.free&&X.env.scope.kind==.function&&X.env.kindOf x==some .cell)then NameKind.cell else k):=q
    show(eT scope X.env).names.lookup x=some k\/_
    rw[q']
    split
    .rename_i hc
     simp only[ai]at hc
     exact .inr ⟨eq_of_beq hc.1.1,rfl⟩
    .exact .inl rfl
   .show(scope.names.lookup x==some .cell)=true
    rw[show scope.names.lookup x=some .cell from e];rfl
  exact⟨G',aY0 G' h3⟩
end
section
variable {Γ:Gm} {F:k8} {n:Nat} {X:Cx} {ck:Ck} {W:St} {H:Hp} {Q:VK}
theorem TEv.eq {m m':kT->kQ->kW kR}(e:∀ U s,m U s=m' U s)(q:TEv Γ m W H Q):TEv Γ m' W H Q:=by
 have:m=m':=funext fun U=>funext fun s=>e U s
 subst this;exact q
theorem TTv.eq {m m':kT->kQ->kW kR}{Q:Bool->Hp->Prop}(e:∀ U s,m U s=m' U s)(q:TTv Γ m W H Q):TTv Γ m' W H Q:=by
 have:m=m':=funext fun U=>funext fun s=>e U s
 subst this;exact q
theorem TAv.eq {m m':kT->kQ->kW (List kR)}{Q:List V->Hp->Prop}(e:∀ U s,m U s=m' U s)(q:TAv Γ m W H Q):TAv Γ m' W H Q:=by
 have:m=m':=funext fun U=>funext fun s=>e U s
 subst this;exact q
theorem TFv.eq {m m':kT->kQ->kW (List kR)}(e:∀ U s,m U s=m' U s)(q:TFv Γ m W H Q):TFv Γ m' W H Q:=by
 have:m=m':=funext fun U=>funext fun s=>e U s
 subst this;exact q
theorem TIv.eq {m m':kT->kQ->kW lN}{R:It->Hp->Prop}(e:∀ U s,m U s=m' U s)(q:TIv Γ m W H R):TIv Γ m' W H R:=by
 have:m=m':=funext fun U=>funext fun s=>e U s
 subst this;exact q
theorem TSv.eq {m m':kT->kQ->kW lC}{D:Ends}(e:∀ U s,m U s=m' U s)(q:TSv Γ m D W H):TSv Γ m' D W H:=by
 have:m=m':=funext fun U=>funext fun s=>e U s
 subst this;exact q
def EvT (Γ:Gm)(X:Cx)(E:Expr)(m:kT->kQ->kW kR):Prop:=PE X E (TEv Γ m)/\PT X E (TTv Γ m)
theorem EvT.val {E:Expr}{m:kT->kQ->kW kR}(h:PE X E (TEv Γ m))(he:∀ y,dY E X.env y=(do let v <- y;je E.pos;gF [v] (truthy v)):=by intro _;rfl):EvT Γ X E m :=
 ⟨h,(by5 h he).imp fun W H Q q=>bg2 q⟩
theorem aU5 {c a b:Expr}{pos:Pos}{J tb B:TT}(hc:PT X c J)(ha:PT X a tb)(hb:PT X b B):PT X (.IfExp c a b pos) (fun W H Q=>J W H fun k z=>if k=true then tb W z Q else B W z Q):=by
 intro y s W H Q I h
 have e:dY (.IfExp c a b pos) X.env (eval (.IfExp c a b pos) X.env)=(do if <- dY c X.env (eval c X.env)then dY a X.env (eval a X.env)else dY b X.env (eval b X.env)):=by rw[dY]
 rw[e]
 refine aq (thn (hc y s W H _ I h) fun k s1 ⟨z,G,q1⟩=>?_)
 cases k with
 | true=>exact ha y s1 W z Q G q1
 | false=>exact hb y s1 W z Q G q1
theorem by4 {mc z B:kT->kQ->kW kR}{Q:Bool->Hp->Prop}(h:TTv Γ (fun U s=>lf (mc U s) fun k s=>if k then z U s else B U s) W H Q):TTv Γ mc W H fun k y=>if k=true then TTv Γ z W y Q else TTv Γ B W y Q:=by
 obtain⟨C,U,s,d,s',E,R,hm,q⟩:=h
 obtain⟨c,s1,e1,hm⟩:=zv hm
 refine⟨C,U,s,c,s1,E,R,e1,fun C1 y g1 l1 R1=>?_⟩
 cases c with
 | true =>
  rw[if_pos rfl]at hm ⊢
  exact⟨C1,U,s1,d,s',E.mono g1 l1,R1,hm,q.trans g1 l1⟩
 | false =>
  rw[if_neg aQ]at hm ⊢
  exact⟨C1,U,s1,d,s',E.mono g1 l1,R1,hm,q.trans g1 l1⟩
section
variable {a b c:lL} {l r t:Expr} {pos:Pos}
theorem bu6 (G:CG Γ F n X ck)(op:mJ)(ha:EvT Γ X l (kX F a))(hb:EvT Γ X r (kX F b)):EvT Γ X (.BinOp l (bQ9 op) r pos) (kX F (.bin op a b)) :=
 .val ((bS9 (by3 G.K op) ha.1 hb.1).imp fun W H Q q=>bc2 (TEv.eq (fun U s=>rfl) q))
theorem bo8 (ha:EvT Γ X l (kX F a)):EvT Γ X (.UnaryOp .Not l pos) (kX F (.not a)) :=
 ⟨(bI3 ha.1).imp fun W H Q q=>bJ1 (TEv.eq (fun U s=>rfl) q),(bA9 ha.2).imp fun W H Q q=>bH9 (TTv.eq (fun U s=>rfl) q)⟩
theorem bp7 (G:CG Γ F n X ck)(op:mD)(hs:shp r=true)(ha:EvT Γ X l (kX F a))(hb:EvT Γ X r (kX F b)):EvT Γ X (.Compare l [br9 op] [r] pos) (kX F (.cmp op a b)):=by
 have ho:=bF2 (Γ:=Γ) G.K (G.room.mono G.deep) op
 refine⟨(bn2 ho ha.1 hb.1 (av3 hs)).imp fun W H Q q=>bc2 (TEv.eq (fun U s=>rfl) q),(bl3 ho ha.1 hb.1 (av3 hs)).imp fun W H Q q=>?_⟩
 have q:=bn7 q
 exact bc2 (TEv.eq (fun U s=>rfl) q)
theorem aM3 {op:BoolOp}{es:yK}{t:TT}(h:PT X (.BoolOp op es pos) t):PW X (.BoolOp op es pos) t:=by
 intro z y s W H Q I q
 have:=h y s W H Q I q
 have e:∀ w,dY (.BoolOp op es pos) X.env w=allTrue op es X.env:=fun w=>by rw[dY]
 rw[e]at this ⊢
 exact this
theorem bw7 (ha:EvT Γ X l (kX F a))(hb:EvT Γ X r (kX F b)):EvT Γ X (.BoolOp .And [l,r] pos) (kX F (.and a b)) :=
 ⟨(bg6 ha.1 (bg9 hb.1)).imp fun W H Q q=>bh4 (TEv.eq (fun U s=>rfl) q),(bg1 ha.2 (bp3 hb.2)).pt.imp fun W H Q q=>bj0 (TTv.eq (fun U s=>rfl) q)⟩
theorem bt5 {es:yK}(ha:EvT Γ X l (kX F a))(hb:EvT Γ X (.BoolOp .And (r::es) pos) (kX F b)):EvT Γ X (.BoolOp .And (l::r::es) pos) (kX F (.and a b)) :=
 ⟨(bg6 ha.1 hb.1).imp fun W H Q q=>bh4 (TEv.eq (fun U s=>rfl) q),(bg1 ha.2 (aM3 hb.2)).pt.imp fun W H Q q=>bj0 (TTv.eq (fun U s=>rfl) q)⟩
theorem bG0 (ha:EvT Γ X l (kX F a))(hb:EvT Γ X r (kX F b)):EvT Γ X (.BoolOp .Or [l,r] pos) (kX F (.or a b)) :=
 ⟨(bA8 ha.1 (bg9 hb.1)).imp fun W H Q q=>bI8 (TEv.eq (fun U s=>rfl) q),(bG8 ha.2 (bC6 hb.2)).pt.imp fun W H Q q=>bI6 (TTv.eq (fun U s=>rfl) q)⟩
theorem bJ0 {es:yK}(ha:EvT Γ X l (kX F a))(hb:EvT Γ X (.BoolOp .Or (r::es) pos) (kX F b)):EvT Γ X (.BoolOp .Or (l::r::es) pos) (kX F (.or a b)) :=
 ⟨(bA8 ha.1 hb.1).imp fun W H Q q=>bI8 (TEv.eq (fun U s=>rfl) q),(bG8 ha.2 (aM3 hb.2)).pt.imp fun W H Q q=>bI6 (TTv.eq (fun U s=>rfl) q)⟩
theorem bj9 (hc:EvT Γ X t (kX F c))(ha:EvT Γ X l (kX F a))(hb:EvT Γ X r (kX F b)):EvT Γ X (.IfExp t l r pos) (kX F (.ite c a b)) :=
 ⟨(bd9 hc.2 ha.1 hb.1).imp fun W H Q q=>bL5 (TEv.eq (fun U s=>rfl) q),(aU5 hc.2 ha.2 hb.2).imp fun W H Q q=>by4 (TTv.eq (fun U s=>rfl) q)⟩
theorem bz6 (G:CG Γ F n X ck)(hs:shp r=true)(ha:EvT Γ X l (kX F a))(hb:EvT Γ X r (kX F b)):EvT Γ X (.Subscript l r pos) (kX F (.ix a b)) :=
 .val ((bP9 (bP0 G.K (al0 G.room)) ha.1 hb.1 (aH9 hs)).imp fun W H Q q=>bc2 (TEv.eq (fun U s=>rfl) q))
end
end
section
variable {Γ:Gm} {F:k8} {n:Nat} {X:Cx} {ck:Ck} {W:St} {H:Hp} {Q:VK}
theorem an6:∀ {es:lv} {U:kT} {s s':kQ} {l:List kR} {y:yK} {z:Ck},lw F es U s=.ok l s'->mEs z es y=true->l.length=y.length
 | .nil,U,s,s',l,y,z,h,m=>by
  cases h
  cases y with
  | nil=>rfl
  | cons _ _=>rw[mEs]at m<;>first|cases m|(intros;simp_all)
 | .cons e es,U,s,s',l,y,z,h,m=>by
  obtain⟨d,s1,e1,h⟩:=aa0 h
  obtain⟨r,s2,e2,h⟩:=aa0 h
  cases h
  cases y with
  | nil=>rw[mEs]at m<;>first|cases m|(intros;simp_all)
  | cons x y =>
   rw[mEs,ai]at m
   rw[aI,aI,an6 e2 m.2]
theorem av8:∀ {es:lv} {z:yK},mEs ck es z=true->∀ x∈z,shp x=true
 | .nil,[],_,x,hx=>by cases hx
 | .nil,_::_,m,_,_=>by rw[mEs]at m<;>first|cases m|(intros;simp_all)
 | .cons e es,[],m,x,hx=>by cases hx
 | .cons e es,y::z,m,x,hx=>by
  rw[mEs,ai,ai]at m
  rcases ay.mp hx with h|h
  .rw[h];exact m.1.2
  .exact av8 m.2 x h
theorem ag9:∀ {es:lO} {z:yK},mAs ck es z=true->∀ x∈z,shp x=true
 | .nil,[],_,x,hx=>by cases hx
 | .nil,_::_,m,_,_=>by rw[mAs]at m<;>first|cases m|(intros;simp_all)
 | .ex e es,[],m,x,hx=>by cases hx
 | .fn _ _,_,m,_,_=>by rw[mAs]at m<;>first|cases m|(intros;simp_all)
 | .ex e es,y::z,m,x,hx=>by
  rw[mAs,ai,ai]at m
  rcases ay.mp hx with h|h
  .rw[h];exact m.1.2
  .exact ag9 m.2 x h
theorem aD3 {e:lL}{x:Expr}{h:yK}{y:kT->kQ->kW (List kR)}(hs:shp x=true)(B:PE X x (TEv Γ (kX F e)))(z:PA X h (TAv Γ y)) :
  PA X (x::h) (TAv Γ (fun U s=>(kX F e U s).bind fun d s=>(y U s).bind fun l s=>.ok (d::l) s)) :=
 (zI B z (za hs)).imp fun W H Q q=>bk5 q
theorem aL8 {k:Nat}(h:k<=1000):k<=aL:=by rw[cF];lia
theorem bu7 {es:lv}{y:yK}{k:Nat}{pos:Pos}(m:mEs ck es y=true)(hz:y.length<=1000)(h:PA X y (TAv Γ (lw F es))):EvT Γ X (.Tuple y k pos) (kX F (.tup es)) :=
 .val ((bL2 h).imp fun W H Q q=>tv_tup' hz m q)
where
 tv_tup' {es:lv} {y:yK} {W:St} {H:Hp} {Q:VK} (hz:y.length<=1000) (m:mEs ck es y=true) (q:TEv Γ (kX F (.tup es)) W H Q):bW7 (TAv Γ (lw F es)) W H Q:=by
  obtain⟨C,U,s,d,s',E,R,hm,q⟩:=q
  obtain⟨l,s1,e1,hm⟩:=aa0 hm
  cases hm
  refine⟨C,U,s,l,_,E,R,e1,fun vs C1 B g1 l1 z r1 R1=>⟨by rw[r1.length,an6 e1 m];exact aL8 hz,fun p hp=>?_⟩⟩
  exact(q.trans g1 l1).tup R1 r1 z hp
theorem bs2 {es:lv}{y:yK}{pos:Pos}(m:mEs ck es y=true)(hz:y.length<=1000)(h:PA X y (TAv Γ (lw F es))):EvT Γ X (.List y pos) (kX F (.lst es)):=by
 refine .val ((bi7 h).imp fun W H Q q=>?_)
 obtain⟨C,U,s,d,s',E,R,hm,q⟩:=q
 obtain⟨l,s1,e1,hm⟩:=aa0 hm
 obtain⟨rfl,rfl⟩:=zT hm
 refine⟨C,U,s,l,_,E,R,e1,fun vs C1 B g1 l1 z r1 R1=>⟨by rw[r1.length,an6 e1 m];exact aL8 hz,fun p hp=>?_⟩⟩
 exact(q.trans g1 l1).alloc R1 r1 z hp
theorem aX4 {f:String}{as:lO}{y:yK}{p pos:Pos}(G:CG Γ F n X ck)(hg:ck.gl (f:Str)=true)(m:mAs ck as y=true)(h:PA X y (TAv Γ (lD F as))):EvT Γ X (.Call (.Name (f:Str) p) y [] pos) (kX F (.call f as)):=by
 refine .val ?_
 obtain⟨g1,g2,g3⟩:=G.gl hg
 rcases G.call f with hbad|⟨a,Z,ps,J,z,hk,hb⟩
 .intro B s W H Q I q
  obtain⟨C,U,s,d,s',E,R,hm,q⟩:=q
  obtain⟨l,s1,e1,hm⟩:=aa0 hm
  rw[hbad]at hm
  cases hm
 have key:∀ W H Q,TEv Γ (kX F (.call f as)) W H Q->aE7 (spV Γ (F.call f)) [] E0 (TAv Γ (lD F as)) W H Q:=fun W H Q q=>by
  have:=aw2 (TEv.eq (m':=fun U s=>(lD F as U s).bind fun l s=>F.call f l s) (fun U s=>rfl) q)
  unfold tCB at this
  unfold aE7 spV
  simpa only[bt]using this
 cases y with
 | nil =>
  have h0:PE X (.Call (.Name (f:Str) p) [] [] pos) (aE7 (spV Γ (F.call f)) [] E0 aM0):=bc7 J G.room g1 z hk hb .nil aE1 g2
  cases as with
  | nil =>
   refine h0.imp fun W H Q q=>?_
   have q1:=key W H Q q
   unfold aE7 at q1 ⊢
   exact am2 (TAv.eq (fun U s=>rfl) q1)
  | _=>rw[mAs]at m<;>first|cases m|(intros;simp_all)
 | cons x y =>
  have hs:=ag9 m
  exact(bo2 J G.room g1 z hk hb .nil aE1 h g2 (za (hs x (ar ..))) (zh fun e he=>hs e (ao _ he)).1).imp key
def BiC (Γ:Gm)(X:Cx)(b:lF)(x:Str):Prop:=(∃ id,bq x=some (.builtin id)/\aa9 X (.builtin id) (rCl Γ (ml b)))\/∃ T,bq x=some (.type T)/\aa9 X (.type T) (rCl Γ (ml b))
theorem bH4 (G:CG Γ F n X ck){b:lF}{x:Str}(h:biT b=some x):x∈bNames/\BiC Γ X b x:=by
 cases b<;>first|cases h|skip
 .exact⟨by decide,.inl ⟨_,bU8,bs7 G.K G.calm (k:=1) rfl⟩⟩
 .exact⟨by decide,.inl ⟨_,bV8,bs7 G.K G.calm (k:=1) rfl⟩⟩
 .exact⟨by decide,.inr ⟨_,bM0,bG1⟩⟩
 .exact⟨by decide,.inr ⟨_,bB2,bH1⟩⟩
 .exact⟨by decide,.inl ⟨_,bA2,bs7 G.K G.calm (k:=2) rfl⟩⟩
theorem bI9 {b:lF}{es:lv}{x:Str}{y:Expr}{z:yK}{p pos:Pos}(G:CG Γ F n X ck)(hb:biT b=some x)(hg:ck.gl x=true)(m:mEs ck es (y::z)=true)(h:PA X (y::z) (TAv Γ (lw F es))) :
  EvT Γ X (.Call (.Name x p) (y::z) [] pos) (kX F (.bi b es)):=by
 refine .val ?_
 obtain⟨g1,g2,g3⟩:=G.gl hg
 obtain⟨hm,hc⟩:=bH4 G hb
 have hs:=av8 m
 have s1:=za (es:=z) (env:=X.env) (hs y (ar ..))
 have s2:=(zh (env:=X.env) (pos:=pos) fun e he=>hs e (ao _ he)).1
 rcases hc with⟨id,J,B⟩|⟨T,J,B⟩
 .exact(ad1 B g1 (G.bi _ hm) J h g3 g2 s1 s2).imp fun W H Q q=>aw2 (TEv.eq (fun U s=>rfl) q)
 .exact(ae1 B g1 (G.bi _ hm) J h g3 g2 s1 s2).imp fun W H Q q=>aw2 (TEv.eq (fun U s=>rfl) q)
theorem bG5 {b:lF}{k:Nat}{t:Str}(h:biK b=some (k,t)):(1<=k/\k<=5)/\t∈bNames/\bq t=some (.type (aj9 k))/\ml b=mG (mO k):=by
 cases b<;>cases h
 .exact⟨by lia,by decide,bM0,rfl⟩
 .exact⟨by lia,by decide,bz8,rfl⟩
 .exact⟨by lia,by decide,bB2,rfl⟩
 .exact⟨by lia,by decide,aL2,rfl⟩
 .exact⟨by lia,by decide,aR4,rfl⟩
noncomputable def PEs (Γ:Gm)(F:k8)(X:Cx):lv->List Expr->Prop
 | .nil,[]=>True
 | .cons e es,x::xs=>(shp x=true/\EvT Γ X x (kX F e))/\PEs Γ F X es xs
 | _,_=>False
theorem al6:∀ {es:lv} {y:yK},PEs Γ F X es y->PA X y (TAv Γ (lw F es))
 | .nil,[],_=>ac0.imp fun W H Q q=>am2 (TAv.eq (fun U s=>rfl) q)
 | .nil,_::_,h=>h.elim
 | .cons _ _,[],h=>h.elim
 | .cons e es,x::y,h=>(aD3 h.1.1 h.1.2.1 (al6 h.2)).imp fun W H Q q=>TAv.eq (fun U s=>rfl) q
theorem bu2 {b:lF}{es:lv}{k:Nat}{t:Str}{a:Expr}{p z pos:Pos}(G:CG Γ F n X ck)(hb:biK b=some (k,t))(hg:ck.gl "isinstance"=true)(y:ck.gl t=true)(h:PEs Γ F X es [a]) :
  EvT Γ X (.Call (.Name "isinstance" p) [a,.Name t z] [] pos) (kX F (.bi b es)):=by
 refine .val ?_
 obtain⟨g1,g2,g3⟩:=G.gl hg
 obtain⟨t1,t2,t3⟩:=G.gl y
 obtain⟨hk,hm,hv,J⟩:=bG5 hb
 have B:PE X (.Name t z) (tC (.ty (aj9 k))):=bp2 t1 (G.bi _ hm) hv rfl t3 t2
 cases es with
 | nil=>exact h.elim
 | cons e es =>
  cases es with
  | cons _ _=>exact h.2.elim
  | nil =>
   obtain⟨⟨hs,ha,_⟩,_⟩:=h
   have Z:PA X [a,.Name t z] (aF5 (TEv Γ (kX F e)) (aF5 (tC (.ty (aj9 k))) aM0)):=zI ha (zI B ac0 (za rfl)) (za hs)
   refine(ad1 (bJ4 G.K hk) g1 (G.bi _ (by decide)) ar9 Z g3 g2 (za hs) (zh fun e he=>by rw[aO.mp he];rfl).1).imp fun W H Q q=>?_
   obtain⟨C,U,s,d,s',E,R,hm,q⟩:=q
   obtain⟨l,s1,e1,hm⟩:=aa0 hm
   obtain⟨x,s2,e2,e1⟩:=aa0 e1
   obtain⟨l2,s3,e3,e1⟩:=aa0 e1
   cases e3
   cases e1
   rw[J]at hm
   refine⟨C,U,s,x,_,E,R,e2,fun v C1 H1 g1 l1 b1 r1 R1=>?_⟩
   exact⟨v,rfl,C1,_,[x],d,s',R1,.cons r1 .nil,by unfold kS;rw[b1];rfl,hm,q.trans g1 l1⟩
end
section
variable {Γ:Gm} {F:k8} {n:Nat} {X:Cx} {ck:Ck} {W:St} {H:Hp}
def TAp (Γ:Gm)(cells:yB)(N:yH)(m:kT->kQ->kW (List kR)):TA:=fun W H Q=>∃ C U s l s',RE Γ C H s.length U W/\Rp Γ C H s/\m U s=.ok l s' /\
 ∀ vs C' H',Gr C s H C' s' H'->s.length<=s'.length->kS s'.length l=true->PVL Γ cells N W C' H' l vs->Rp Γ C' H' s'->Q vs H'
theorem TAp.eq {cells:yB}{N:yH}{m m':kT->kQ->kW (List kR)}{Q:List V->Hp->Prop}(e:∀ U s,m U s=m' U s)(q:TAp Γ cells N m W H Q):TAp Γ cells N m' W H Q:=by
 obtain⟨C,U,s,l,s',E,R,hm,q⟩:=q
 exact⟨C,U,s,l,s',E,R,by rw[<-e];exact hm,q⟩
theorem bk8 {cells:yB}{N:yH}{Q:List V->Hp->Prop}(h:TAp Γ cells N (fun U s=>.ok [] s) W H Q):aM0 W H Q:=by
 obtain⟨C,U,s,l,s',E,R,hm,q⟩:=h
 cases hm
 exact q [] C H (Gr.refl _ _ _) (ah _) rfl .nil R
theorem bF7 {cells:yB}{N:yH}{m:kT->kQ->kW kR}{G:kT->kQ->kW (List kR)}{Q:List V->Hp->Prop}(h:TAp Γ cells N (fun U s=>(m U s).bind fun d s=>(G U s).bind fun l s=>.ok (d::l) s) W H Q):aF5 (TEv Γ m) (TAp Γ cells N G) W H Q:=by
 obtain⟨C,U,s,l,s',E,R,hm,q⟩:=h
 obtain⟨x,s1,e1,hm⟩:=aa0 hm
 obtain⟨y,s2,e2,hm⟩:=aa0 hm
 cases hm
 refine⟨C,U,s,x,s1,E,R,e1,fun v C1 H1 g1 l1 z r1 R1=>?_⟩
 refine⟨C1,U,s1,y,s',E.mono g1 l1,R1,e2,fun vs C2 J g2 B Z r2 R2=>?_⟩
 exact q (v::vs) C2 J (g1.trans g2 l1) (aj l1 B) (by unfold kS;rw[zg B x z,Z];rfl) (.cons (PVp.mono g2 z (.inl r1)) r2) R2
end
section
variable {Γ:Gm} {F:k8} {n:Nat} {X:Cx} {ck:Ck} {W:St} {H:Hp} {Q:VK}
def bZ0 (K:af)(H:Hp)(v:V)(ys:List V)(z:Bool):Prop:=(∃ a,v=.ref a/\(SqL K H a ys\/(SqT K H a ys/\(z=true->H a=some (.tup ys)))))\/∃ x:List Nat,v=.str ⟨x.toArray⟩/\x.length<=kZ/\ys=sgV x
def TLv (Γ:Gm)(m:kT->kQ->kW (List kR)):TE:=fun W H Q=>∃ C U s l s',RE Γ C H s.length U W/\Rp Γ C H s/\m U s=.ok l s' /\
 ∀ v ys C' H',Gr C s H C' s' H'->s.length<=s'.length->kS s'.length l=true->bZ0 Γ.K H' v ys (lz l)->RVL Γ C' H' l ys->Rp Γ C' H' s'->Q v H'
theorem aA6 {m:kT->kQ->kW (List kR)}(h:TLv Γ m W H Q):TFv Γ m W H Q:=by
 obtain⟨C,U,s,l,s',E,R,hm,q⟩:=h
 exact⟨C,U,s,l,s',E,R,hm,fun p ys C' H' g y hb hp h0 ho r z=>q (.ref p) ys C' H' g y hb (.inl ⟨p,rfl,.inl (SqL.of hp)⟩) r z⟩
theorem au2 {C:Nat->Addr}:∀ x:List Nat,RVL Γ C H (x.map fun c=>.str [c]) (sgV x)
 | []=>.nil
 | c::x=>.cons (RV.strI (by unfold kZ;simp)) (au2 x)
theorem am7 {k:Nat}:∀ x:List Nat,kS k (x.map fun c=>.str [c])=true
 | []=>rfl
 | c::x=>by rw[aU];unfold kS;rw[am7 x];rfl
theorem bC8 {m:kT->kQ->kW kR}(h:TLv Γ (fun U s=>(m U s).bind fun d s=>DV.bx4 d s) W H Q):TEv Γ m W H Q:=by
 obtain⟨C,U,s,l,s',E,R,hm,q⟩:=h
 obtain⟨d,s1,e1,hm⟩:=aa0 hm
 refine⟨C,U,s,d,s1,E,R,e1,fun v C1 G g1 l1 J r1 R1=>?_⟩
 cases d with
 | tup l' =>
  cases hm
  obtain⟨a,y,⟨rfl,z1⟩,B,z⟩:=r1.tupZ
  unfold kY at J
  exact q _ y C1 G g1 l1 J (.inl ⟨a,rfl,.inr ⟨B,z1⟩⟩) z R1
 | str x =>
  cases hm
  exact q v (sgV x) C1 G g1 l1 (am7 x) (.inr ⟨x,r1.strE,r1.strL,rfl⟩) (au2 x) R1
 | ref k =>
  have hm:(match s1[k]? with
   | some (.lst l)=>DV.R.ok l s1
   | some (.ro l)=>.ok l s1
   | _=>.bad)=.ok l s':=hm
  rw[r1.refE]
  cases e:s1[k]? with
  | none=>rw[e]at hm;exact fb hm
  | some ob =>
   rw[e]at hm
   cases ob with
   | lst l' =>
    cases hm
    obtain⟨y,B,z⟩:=R1.addr e
    have:=R1.wf k _ e
    unfold kU at this
    exact q _ y C1 G g1 l1 this (.inl ⟨_,rfl,.inl (SqL.of B)⟩) z R1
   | ro l' =>
    cases hm
    obtain⟨y,B,z⟩:=R1.obj k _ e
    have:=R1.wf k _ e
    unfold kU at this
    exact q _ y C1 G g1 l1 this (.inl ⟨_,rfl,.inl B.1⟩) z R1
   | _=>exact fb hm
 | _=>exact fb hm
theorem TLv.eq {m m':kT->kQ->kW (List kR)}(e:∀ U s,m U s=m' U s)(q:TLv Γ m W H Q):TLv Γ m' W H Q:=by
 have:m=m':=funext fun U=>funext fun s=>e U s
 subst this;exact q
theorem aH1 {m:kT->kQ->kW (List kR)}{a:Expr}{p pos:Pos}(G:CG Γ F n X ck)(hg:ck.gl "tuple"=true)(hs:shp a=true)(h:PE X a (TLv Γ m)) :
  PE X (.Call (.Name "tuple" p) [a] [] pos) (TEv Γ (fun U s=>(m U s).bind fun l s=>my .tuple l s)):=by
 obtain⟨g1,g2,g3⟩:=G.gl hg
 refine(ae1 ((ax5 G.K).or (ax2 G.calm)) g1 (G.bi _ (by decide)) aL2 (zI h ac0 (za hs)) g3 g2 (za hs) rfl).imp fun W H Q q=>?_
 obtain⟨C,U,s,d,s',E,R,hm,q⟩:=q
 obtain⟨l,s1,e1,hm⟩:=aa0 hm
 cases hm
 refine⟨C,U,s,l,_,E,R,e1,fun v ys C1 z g1 l1 y hq r1 R1=>?_⟩
 rcases hq with⟨a,rfl,hq|hq⟩|⟨x,rfl,hx,rfl⟩
 .exact .inl ⟨a,ys,rfl,.inl ⟨hq,fun p hp=>(q.trans g1 l1).tup R1 r1 y hp⟩⟩
 .exact .inl ⟨a,ys,rfl,.inr ⟨hq.1,q _ C1 z g1 l1 (by unfold kY;exact y) (RV.tupC hq.1 hq.2 r1) R1⟩⟩
 .exact .inr ⟨x,rfl,hx,fun p hp=>(q.trans g1 l1).tup R1 r1 y hp⟩
theorem aQ7 {m:kT->kQ->kW (List kR)}{a:Expr}{p pos:Pos}(G:CG Γ F n X ck)(hg:ck.gl "list"=true)(hs:shp a=true)(h:PE X a (TLv Γ m)) :
  PE X (.Call (.Name "list" p) [a] [] pos) (TEv Γ (fun U s=>(m U s).bind fun l s=>my .list l s)):=by
 obtain⟨g1,g2,g3⟩:=G.gl hg
 refine(ae1 ((aG5 G.K).or (aF1 G.calm)) g1 (G.bi _ (by decide)) aR4 (zI h ac0 (za hs)) g3 g2 (za hs) rfl).imp fun W H Q q=>?_
 obtain⟨C,U,s,d,s',E,R,hm,q⟩:=q
 obtain⟨l,s1,e1,hm⟩:=aa0 hm
 obtain⟨rfl,rfl⟩:=zT hm
 refine⟨C,U,s,l,_,E,R,e1,fun v ys C1 z g1 l1 y hq r1 R1=>?_⟩
 rcases hq with⟨a,rfl,hq⟩|⟨x,rfl,hx,rfl⟩
 .exact .inl ⟨a,ys,rfl,hq.imp id (·.1),fun p hp=>(q.trans g1 l1).alloc R1 r1 y hp⟩
 .exact .inr ⟨x,rfl,hx,fun p hp=>(q.trans g1 l1).alloc R1 r1 y hp⟩
theorem bB9 {m:kT->kQ->kW (List kR)}{k:mr}{x:Str}{a:Expr}{p pos:Pos}(G:CG Γ F n X ck)(hk:mkT k=some x)(hg:ck.gl x=true)(hs:shp a=true)(h:PE X a (TLv Γ m)) :
  PE X (.Call (.Name x p) [a] [] pos) (TEv Γ (fun U s=>(m U s).bind fun l s=>my k l s)):=by
 cases k<;>cases hk
 .exact aH1 G hg hs h
 .exact aQ7 G hg hs h
def FrC (Γ:Gm)(X:Cx)(x:Str)(k:mr):Prop:=∃ id r,bq x=some (.builtin id)/\x∈bNames/\aa9 X (.builtin id) r/\∀ C H s l ys p d s' Q,Rp Γ C H s->RVL Γ C H l ys->H p=some (.lst ys)->my k l s=.ok d s'->ac3 Γ C s H d s' Q->r [.ref p] H Q
theorem aD2:∀(l:List Int) (a:Int),(l.foldl min a=a\/l.foldl min a∈l)/\l.foldl min a<=a/\∀ y∈l,l.foldl min a<=y
 | [],a=>⟨.inl rfl,cy _,fun y hy=>by cases hy⟩
 | b::l,a=>by
  obtain⟨G,J,B⟩:=aD2 l (min a b)
  rw[dr]
  refine⟨?_,by lia,fun y hy=>?_⟩
  .rcases G with h|h
   .rw[h]
    rcases Int.le_total a b with z|z
    .left;lia
    .right;rw[show min a b=b by lia];exact ar ..
   .exact .inr (ao _ h)
  .rcases ay.mp hy with z|z
   .rw[z];lia
   .exact B y z
theorem bd7 {l:List Int}{m:Int}(h:mU l=some m):m∈l/\∀ y∈l,m<=y:=by
 cases l with
 | nil=>cases h
 | cons a l =>
  cases h
  obtain⟨J,B,G⟩:=aD2 l a
  refine⟨?_,fun y hy=>?_⟩
  .rcases J with h|h
   .rw[h];exact ar ..
   .exact ao _ h
  .rcases ay.mp hy with z|z
   .rw[z];exact B
   .exact G y z
theorem bp5 (G:CG Γ F n X ck){k:mr}{x:Str}(hk:mkF k=some x):FrC Γ X x k:=by
 cases k<;>cases hk
 .refine⟨_,_,bA2,by decide,aL7 G.calm G.K,fun C H s l ys p d s' Q R r hp hm q=>?_⟩
  unfold my at hm
  dsimp only at hm
  cases e:lx l with
  | none=>rw[e]at hm;exact fb hm
  | some is =>
   rw[e]at hm
   have hm:(match mU is with|some m=>DV.R.ok (DV.D.int m) s|none=>.bad)=.ok d s':=hm
   cases e2:mU is with
   | none=>rw[e2]at hm;exact fb hm
   | some mm =>
    rw[e2]at hm
    cases hm
    have:=qr e
    subst this
    refine⟨p,is,rfl,SqL.of (by rw[<-r.ints];exact hp),(fun(z:is=[])=>by rw[z]at e2;cases e2),fun m hm h=>?_⟩
    obtain⟨a,b⟩:=bd7 e2
    have:m=mm:=Int.le_antisymm (h mm a) (b m hm)
    rw[this]
    exact q.here R rfl RV.intI
theorem bG9 {m:kT->kQ->kW (List kR)}{k:mr}{x:Str}{a:Expr}{p pos:Pos}(G:CG Γ F n X ck)(hk:mkF k=some x)(hg:ck.gl x=true)(hs:shp a=true)(h:PE X a (TFv Γ m)) :
  PE X (.Call (.Name x p) [a] [] pos) (TEv Γ (fun U s=>(m U s).bind fun l s=>my k l s)):=by
 obtain⟨g1,g2,g3⟩:=G.gl hg
 obtain⟨id,r,hb,hx,hc,hr⟩:=bp5 (Γ:=Γ) G hk
 refine(ad1 hc g1 (G.bi _ hx) hb (zI h ac0 (za hs)) g3 g2 (za hs) rfl).imp fun W H Q q=>?_
 obtain⟨C,U,s,d,s',E,R,hm,q⟩:=q
 obtain⟨l,s1,e1,hm⟩:=aa0 hm
 exact⟨C,U,s,l,_,E,R,e1,fun p ys C1 y g1 l1 z hp h0 ho r1 R1=>hr C1 y s1 l ys p d s' Q R1 r1 hp hm (q.trans g1 l1)⟩
theorem be1 {x:kR}{s s':kQ}{l:List kR}(h:mV x s=.ok l s'):s'=s/\∃ r,x=.ref r/\s[r]?=some (.lst l):=by
 unfold mV at h
 split at h
 .rename_i r
  split at h
  .rename_i y e;cases h;exact⟨rfl,r,rfl,e⟩
  .exact fb h
 .exact fb h
theorem aX6 {C C':Nat->Addr}{s s':kQ}{H':Hp}{r:Nat}{l:List kR}(R:Rp Γ C H s)(g:Gr C s H C' s' H')(hb:r<s.length)(e:s'[r]?=some (.lst l)):tyV Γ.K "list" (.ref (C r)) H:=by
 obtain⟨h,y⟩:∃ h,s[r]?=some h:=⟨s[r],ag hb⟩
 have hm:=g.mu r h _ y e rfl
 have ho:=R.obj r h y
 cases h with
 | lst l0 =>
  obtain⟨z,B,_⟩:=ho
  exact .inl ⟨rfl,z,SqL.of B⟩
 | ro _=>cases hm
 | _=>have:=g.kd r _ _ y e;cases this
def mtR (Γ:Gm)(m:mw):V->List V->Hp->VK->Prop:=fun x vs H Q=>∃ C s a l d s',Rp Γ C H s/\RV Γ C H a x/\RVL Γ C H l vs/\a.bnd s.length=true/\kS s.length l=true/\md m a l s=.ok d s'/\ac3 Γ C s H d s' Q
theorem bG2:kZ<aL:=by rw[cF];decide
theorem am8 {m:mw}{x:Str}{k:Nat}(hm:mtT m=some (x,k)){a:kR}{l:List kR}{s s':kQ}{d:kR}(h:md m a l s=.ok d s'):∃ r l0,a=.ref r/\s[r]?=some (.lst l0):=by
 have go:∀ {r:Nat} {f:List kR->kW kR},(match s[r]? with|some (.lst l)=>f l|_=>.bad)=.ok d s'->∃ l0,s[r]?=some (.lst l0):=fun {r f} h=>by
  cases e:s[r]? with
  | none=>rw[e]at h;exact fb h
  | some ob =>
   cases ob with
   | lst l0=>exact⟨l0,rfl⟩
   | _=>rw[e]at h;exact fb h
 cases a with
 | ref r =>
  have y:∀ {f:List kR->kW kR},(match s[r]? with|some (.lst l)=>f l|_=>.bad)=.ok d s'->∃ z l0,DV.D.ref r=.ref z/\s[z]?=some (.lst l0):=fun h=>by obtain⟨l0,e⟩:=go h;exact⟨_,l0,rfl,e⟩
  cases m with
  | append=>match l with
   | [d]=>exact y h
   | []=>exact fb h
   | _::_::_=>exact fb h
  | reverse=>match l with
   | []=>exact y h
   | _::_=>exact fb h
  | _=>exact fb h
 | _=>cases m<;>exact fb h
theorem aW6:MtR X "list.append" (mtR Γ .append):=by
 intro B sh W H x vs v us Q I rx rv h
 obtain⟨C,s,a,l,d,s',R,Z,rl,ba,bl,hm,q⟩:=h
 obtain⟨r,l0,rfl,e⟩:=am8 (m:=.append) rfl hm
 cases l with
 | nil=>exact fb hm
 | cons y t =>
  cases t with
  | cons _ _=>exact fb hm
  | nil =>
   simp only[md,e]at hm
   split at hm
   case isFalse=>exact fb hm
   rename_i hlt
   cases hm
   obtain⟨z,rfl,rz⟩:=rl.one
   obtain⟨xs,h1,J⟩:=R.addr e
   have G:kS s.length l0=true:=by have:=R.wf r _ e;unfold kU at this;exact this
   refine aq9 B sh W H x [z] v us Q I rx rv ⟨C r,xs,z,Z.refE,rfl,h1,by rw[J.length];have:=bG2;lia,?_⟩
   exact q.put R e (J.append (.cons rz .nil)) (zJ G bl) rfl RV.nonI
theorem aK3:MtR X "list.reverse" (mtR Γ .reverse):=by
 intro y sh W H x vs v us Q I G rv h
 obtain⟨C,s,a,l,d,s',R,B,rl,ba,bl,hm,q⟩:=h
 obtain⟨r,l0,rfl,e⟩:=am8 (m:=.reverse) rfl hm
 cases l with
 | cons _ _=>exact fb hm
 | nil =>
  simp only[md,e]at hm
  cases hm
  have hv:=rl.unnil
  subst hv
  obtain⟨Z,h1,J⟩:=R.addr e
  have z:kS s.length l0=true:=by have:=R.wf r _ e;unfold kU at this;exact this
  refine aF0 y sh W H x [] v us Q I G rv ⟨C r,Z,B.refE,rfl,h1,?_⟩
  exact q.put R e J.reverse (aV0 z fun d hd=>gy.mp hd) rfl RV.nonI
structure MtOk (Γ:Gm)(X:Cx)(m:mw)(x:Str):Prop where
 ex:∃ id,PySem.Slot "list" x id/\typeOf (.builtin id)=pure (.type "method_descriptor")/\MtR X id (mtR Γ m)
theorem bD6 (z:X.K=Γ.K)(y:Room (li+1) X.A){m:mw}{x:Str}{k:Nat}(h:mtT m=some (x,k)):MtOk Γ X m x:=by
 cases m<;>cases h
 .exact⟨_,h9,PySem.F.type_list_append,aW6⟩
 .exact⟨_,gO,PySem.F.type_list_reverse,aK3⟩
theorem bf6 {m:mw}{o:lL}{es:lv}{ob:Expr}{B:yK}{x:Str}{ap cp:Pos}(G:CG Γ F n X ck)(hm:mtT m=some (x,B.length))(hab:aG2 ob=true)(hl:(ap.endLine==cp.line)=true)(ho:PE X ob (TEv Γ (kX F o)))
  (a2:mEs ck es B=true) (h:PEs Γ F X es B):EvT Γ X (.Call (.Attribute ob x ap) B [] cp) (kX F (.meth m o es)):=by
 refine .val ?_
 obtain⟨id,slot,a1,hr⟩:=(bD6 (Γ:=Γ) (X:=X) G.K (G.room.mono G.deep) hm).ex
 have hs:=av8 a2
 have key:∀ W H Q,TEv Γ (kX F (.meth m o es)) W H Q->tBM Γ.K "list" (mtR Γ m) (TEv Γ (kX F o)) (TAv Γ (lw F es)) W H Q:=fun W H Q q=>by
  obtain⟨C,U,s,d,s',E,R,z,q⟩:=q
  obtain⟨a,s1,e1,z⟩:=aa0 z
  obtain⟨l,s2,e2,z⟩:=aa0 z
  refine⟨C,U,s,a,s1,E,R,e1,fun v C1 H1 g1 l1 J r1 R1=>?_⟩
  obtain⟨r,l0,rfl,er⟩:=am8 hm z
  rw[r1.refE]
  have hk:∀ C2 H2,Gr C1 s1 H1 C2 s2 H2->tyV Γ.K "list" (.ref (C1 r)) H1:=fun C2 H2 g2=>aX6 R1 g2 (by unfold kY at J;exact of_decide_eq_true J) er
  have Z:TAv Γ (lw F es) W H1 fun B H2=>mtR Γ m (.ref (C1 r)) B H2 Q:=by
   refine⟨C1,U,s1,l,s2,E.mono g1 l1,R1,e2,fun vs C2 H2 g2 l2 b2 r2 R2=>?_⟩
   refine⟨C2,s2,.ref r,l,d,s',R2,?_,r2,zg l2 _ J,b2,z,q.trans (g1.trans g2 l1) (aj l1 l2)⟩
   have:=RV.mono g2 _ _ J r1
   rw[r1.refE]at this
   exact this
  refine⟨?_,Z⟩
  have hlt:r<s1.length:=by unfold kY at J;exact of_decide_eq_true J
  obtain⟨o0,e0⟩:∃ o0,s1[r]?=some o0:=⟨s1[r],ag hlt⟩
  have a0:=R1.obj r o0 e0
  cases o0 with
  | lst l0 =>
   obtain⟨B,h1,_⟩:=a0
   exact .inl ⟨rfl,B,SqL.of h1⟩
  | ro l0 =>
   obtain⟨B,h1,_⟩:=a0
   exact .inl ⟨rfl,B,h1.1⟩
  | _ =>
   obtain⟨o',eo,ek⟩:=DV.ai1 G.fk es U s1 _ _ e2 r _ e0
   rw[er]at eo;cases eo;cases ek
 cases B with
 | nil =>
  have p0:PE X (.Call (.Attribute ob x ap) [] [] cp) (bX1 X.K "list" (mtR Γ m) (TEv Γ (kX F o))):=bJ3 gB slot a1 hr ho (qk hab) hl
  rw[G.K]at p0
  refine p0.imp fun W H Q q=>?_
  cases es with
  | cons _ _=>exact h.elim
  | nil =>
   obtain⟨C,U,s,d,s',E,R,z,k⟩:=key W H Q q
   refine⟨C,U,s,d,s',E,R,z,fun v C1 H1 g1 l1 J r1 R1=>?_⟩
   obtain⟨h1,h2⟩:=k v C1 H1 g1 l1 J r1 R1
   exact⟨h1,am2 (TAv.eq (fun U s=>rfl) h2)⟩
 | cons y ys =>
  refine(bB7 G.K gB slot a1 hr ho (al6 h) (qk hab) ?_ hl (za (hs y (ar ..))) (zh fun e he=>hs e (ao _ he)).1).imp key
  rw[(zh hs).2]
  have:(y::ys).length<=1:=by
   unfold mtT at hm
   split at hm<;>first|(have:=au hm;have:=congrArg Prod.snd this;simp at this;simp;omega)|cases hm
  simp only[dW,fh,gW]
  show(true&&decide ((y::ys).length+0+0<30))=true
  rw[dW]
  exact decide_eq_true (by lia)
end
section
variable {Γ:Gm} {F:k8} {n:Nat} {X:Cx} {ck:Ck} {W:St} {H:Hp} {Q:VK}
theorem PIf.imp {e:yK}{t t':TT}(h:PIf X e t)(i:∀ W H Q,t' W H Q->t W H Q):PIf X e t':=fun y s W H Q I q=>h y s W H Q I (i W H Q q)
structure CompF (Γ:Gm)(X:Cx)(m:kT->kQ->kW (List kR))(E:Expr):Prop where
 ex:∃ elt tgt iter ifs scope pos N' caps wi g tc te,E=.ListComp elt [⟨tgt,iter,ifs,0⟩] scope pos/\zG N' caps scope X.N X.env.scope=true/\PI X tgt iter wi /\
  (∀(Cc:Addr) (cells:yB) (s:ae) (H:Hp) (ex:List Addr),PG (zr X N' scope Cc cells s H ex) tgt g/\PIf (zr X N' scope Cc cells s H ex) ifs tc/\PE (zr X N' scope Cc cells s H ex) elt te) /\
  (∀ x,dD iter X.env x=pure x)/\∀ W H Q,TFv Γ m W H Q->tComp caps wi g tc te W H Q
theorem CompF.pe {m:kT->kQ->kW (List kR)}{E:Expr}(h:CompF Γ X m E)(hc:X.calm=true):PE X E (TFv Γ m):=by
 obtain⟨Z,J,iter,a0,scope,pos,N',y,wi,g,tc,te,rfl,h1,B,h3,G,z⟩:=h.ex
 exact(aR3 N' y h1 B hc h3 G).imp z
theorem bu4 {tg:lB}{mI:kT->kQ->kW lN}{mc B:kT->kQ->kW kR}{h:yD}{z y iter i:Expr}{scope:Scope}{pos:Pos}(G:CG Γ F n X ck)(hm:aI0 ck tg y iter h scope=true)
  (Z:PI X y iter (TIv Γ mI)) (hc:∀ Cc cells s H ex,PT (zr X (ckC ck y h scope).N scope Cc cells s H ex) i (TTv Γ mc)) (he:∀ Cc cells s H ex,PE (zr X (ckC ck y h scope).N scope Cc cells s H ex) z (TEv Γ B)) :
  CompF Γ X (fun U s=>(mI U s).bind fun q s0=>if q.its.length<=kZ then lT (fun s=>lA s0 s q.src) (fun d U s=>match ly U tg d with
   | some U=>lf (mc U s) fun k s=>if k then(B U s).bind fun v s=>.ok (some v,U) s else .ok (none,U) s
   | none=>.bad) q.its (lK U h) s0 else .bad) (.ListComp z [⟨y,iter,[i],0⟩] scope pos):=by
 obtain⟨c1,c2,J⟩:=G.comp hm
 exact⟨z,y,iter,[i],scope,pos,_,h,_,_,_,_,rfl,c1,Z,fun Cc cells s H ex=>⟨(J Cc cells s H ex).2,bo7 (hc Cc cells s H ex),he Cc cells s H ex⟩,aq1 c2,fun W H Q q=>aI9 q⟩
theorem be2 {tg:lB}{mI:kT->kQ->kW lN}{B:kT->kQ->kW kR}{h:yD}{z y iter:Expr}{scope:Scope}{pos:Pos}(G:CG Γ F n X ck)(hm:aI0 ck tg y iter h scope=true)
  (Z:PI X y iter (TIv Γ mI)) (he:∀ Cc cells s H ex,PE (zr X (ckC ck y h scope).N scope Cc cells s H ex) z (TEv Γ B)) :
  CompF Γ X (fun U s=>(mI U s).bind fun q s0=>if q.its.length<=kZ then lT (fun s=>lA s0 s q.src) (fun d U s=>match ly U tg d with
   | some U=>(B U s).bind fun v s=>.ok (some v,U) s
   | none=>.bad) q.its (lK U h) s0 else .bad) (.ListComp z [⟨y,iter,[],0⟩] scope pos):=by
 obtain⟨c1,c2,J⟩:=G.comp hm
 refine⟨z,y,iter,[],scope,pos,_,h,_,_,TTv Γ (fun U s=>.ok (.bl true) s),_,rfl,c1,Z,fun Cc cells s H ex=>⟨(J Cc cells s H ex).2,bl0.imp fun W H Q q=>?_,he Cc cells s H ex⟩,aq1 c2,fun W H Q q=>aI9 (TFv.eq (fun U s=>?_) q)⟩
 .obtain⟨C,U,s,b,s',E,R,hm,q⟩:=q
  cases hm
  exact q C H (Gr.refl _ _ _) (ah _) R
 .congr 1
theorem bs9 {tg:Expr}{e:lL}{E:Expr}(G:CG Γ F n X ck)(h:PE X E (TEv Γ (kX F e))):PI X tg E (TIv Γ (mW F (.seq e))):=by
 refine(PI.or (bm9 G.K h) (PI.or (aW0 G.K h) (bK2 h))).imp fun W H R q=>bM8 (TIv.eq (fun U s=>rfl) q)
theorem bf3 {tg:Expr}{a:lL}{l:Expr}{p pos:Pos}(G:CG Γ F n X ck)(hg:ck.gl "range"=true)(hs:shp l=true)(h:PE X l (TEv Γ (kX F a))):PI X tg (.Call (.Name "range" p) [l] [] pos) (TIv Γ (mW F (.rng1 a))) :=
 (aP1 (G.gl hg).1 (G.bi _ (by decide)) (zI h ac0 (za hs)) (za hs)).imp fun W H R q=>br3 (TIv.eq (fun U s=>rfl) q)
theorem bH2 (h:TEv Γ (fun U s=>lH (.dic []) s) W H Q):bf7 W H Q:=by
 obtain⟨C,U,s,d,s',E,R,hm,q⟩:=h
 obtain⟨rfl,rfl⟩:=zT hm
 intro p hp
 obtain⟨g,y⟩:=R.new (o:=.dic []) (u:=.dK []) hp rfl fun C' H' g e=>⟨[],e,rfl⟩
 exact q (.ref p) _ _ g (by simp) (by unfold kY;simp) (by unfold RV;simp) y
theorem bG3 {mk J:kT->kQ->kW kR}(h:TEv Γ (fun U s=>(mk U (s++[.dic []])).bind fun kd s1=>(J U s1).bind fun z s2=>if kd.key=true/\s2[s.length]?=some (.dic [])then .ok (.ref s.length) (s2.set s.length (.dic [(kd,z)]))else .bad) W H Q):bM4 [(TEv Γ mk,TEv Γ J)] W H Q:=by
 obtain⟨C,U,s,d,s',E,R,hm,q⟩:=h
 obtain⟨kd,s1,e1,hm⟩:=aa0 hm
 obtain⟨z,s2,e2,hm⟩:=aa0 hm
 split at hm
 case isFalse=>exact fb hm
 rename_i hc
 cases hm
 intro p hp
 obtain⟨g0,R0⟩:=R.new (o:=.dic []) (u:=.dK []) hp rfl fun C' H' g e=>⟨[],e,rfl⟩
 have l0:s.length<=(s++[DV.O.dic []]).length:=by simp
 refine⟨_,U,s++[DV.O.dic []],kd,s1,E.mono g0 l0,R0,e1,fun v1 C1 H1 g1 l1 Z r1 R1=>?_⟩
 refine⟨C1,U,s1,z,s2,(E.mono g0 l0).mono g1 l1,R1,e2,fun B C2 H2 g2 G b2 r2 R2=>?_⟩
 have y:C2 s.length=p:=by
  rw[g2.w.map s.length (aA (by simp) l1),g1.w.map s.length (by simp)];simp
 obtain⟨k,hk⟩:=zW hc.1
 have ek:=ag2 hk (RV.mono g2 kd v1 Z r1)
 obtain⟨kvs,z1,z2⟩:=R2.obj s.length _ hc.2
 have z2:kvs=[]:=z2
 subst z2
 rw[y]at z1
 refine⟨z1,[(k,B)],by rw[ek];rfl,by simp,?_⟩
 have hb:(DV.O.dic [(kd,z)]).bnd s2.length=true:=by
  unfold kU
  simp only[aU,fw,kS,iR,ai]
  exact⟨zg G _ Z,b2⟩
 obtain⟨g3,R3⟩:=R2.set (o:=.dic [(kd,z)]) (u:=.dK [(k,B)]) hc.2 rfl hb fun H' g e=>⟨_,e,k,B,[],rfl,hk,RV.monoW g _ _ b2 r2,rfl⟩
 rw[y]at g3 R3
 have L:s.length<=s2.length:=aj l0 (aj l1 G)
 have lt:s.length<s2.length:=aA (by simp) (aj l1 G)
 exact q (.ref p) _ _ (((g0.trans g1 l0).trans g2 (aj l0 l1)).trans g3 L) (by rw[aK];exact L) (by unfold kY;rw[aK];exact decide_eq_true lt) (by unfold RV;rw[y]) R3
theorem aK4 {x y d:kR}{s s':kQ}(h:DV.aL1 x y s=.ok d s'):∃ r l,x=.ref r/\s[r]?=some (.dic l)/\y.key=true/\d=(k9 y l).getD .non/\s'=s:=by
 unfold DV.aL1 at h
 split at h
 .split at h
  .split at h
   .cases h;exact⟨_,_,rfl,by assumption,by assumption,rfl,rfl⟩
   .exact fb h
  .exact fb h
 .exact fb h
theorem dic_kd2 {o:ls}(h:o.kd=2):(∃ l,o=.dic l)\/∃ l,o=.dicF l:=by
 cases o with
 | dic l=>exact .inl ⟨l,rfl⟩
 | dicF l=>exact .inr ⟨l,rfl⟩
 | _=>cases h
theorem aV7 {o k:lL}{ob a:Expr}{ap cp:Pos}(G:CG Γ F n X ck)(hab:aG2 ob=true)(hl:(ap.endLine==cp.line)=true)(s1:shp a=true)(ho:PE X ob (TEv Γ (kX F o)))(hk:PE X a (TEv Γ (kX F k))) :
  EvT Γ X (.Call (.Attribute ob "get" ap) [a] [] cp) (kX F (.get1 o k)):=by
 have a0:∀ x∈[a],shp x=true:=fun x hx=>by rw[aO.mp hx];exact s1
 refine .val ((bc8 (al0 G.room) ho hk ⟨qk hab,by rw[(zh a0).2];rfl,hl,by rw[za s1];rfl⟩).imp fun W H Q q=>?_)
 obtain⟨C,U,s,d,s',E,R,hm,q⟩:=q
 obtain⟨x,z,e1,J⟩:=aa0 hm
 obtain⟨y,t2,e2,Z⟩:=aa0 J
 clear hm J
 obtain⟨r,l,rfl,er,hy,rfl,rfl⟩:=aK4 Z
 refine⟨C,U,s,_,z,E,R,e1,fun v1 C1 H1 g1 l1 b1 r1 R1=>?_⟩
 have hlt:r<z.length:=by unfold kY at b1;exact of_decide_eq_true b1
 obtain⟨o1,f1⟩:∃ o1,z[r]?=some o1:=⟨z[r],ag hlt⟩
 obtain⟨o2,f2,k2⟩:=mz G.fk k U z _ _ e2 r _ f1
 rw[er]at f2;cases f2
 have a2:IsD H1 (C1 r):=by
  rcases dic_kd2 k2.symm with⟨l0,rfl⟩|⟨l0,rfl⟩
  .obtain⟨h,a1,_⟩:=R1.obj r _ f1
   exact .inl ⟨h,.inl a1⟩
  .obtain⟨o0,h,a1,_⟩:=R1.obj r _ f1
   exact .inl ⟨h,.inr ⟨o0,a1⟩⟩
 refine⟨C1 r,r1.refE,a2,C1,U,z,y,_,E.mono g1 l1,R1,e2,fun v2 C2 H2 g2 l2 b2 r2 R2=>?_⟩
 obtain⟨kk,B⟩:=zW hy
 have ey:=ag2 B r2
 subst ey
 obtain⟨kvs,c1,c2⟩:=R2.obj r _ er
 have hr2:C2 r=C1 r:=g2.w.map r hlt
 rw[hr2]at c1
 refine⟨ak0 kvs kk,av5.k c1,?_⟩
 have hq:=q.trans (g1.trans g2 l1) (aj l1 l2)
 rcases c2.val zy B with⟨q1,q2⟩|⟨e',v',q1,q2,q3,q4⟩
 .rw[q1]at hq;rw[q2];exact hq.here R2 rfl RV.nonI
 .rw[q1]at hq;rw[q2]
  have wf:=R2.wf _ _ er
  unfold kU at wf
  rw[ai]at wf
  exact hq.here R2 (aa2.mp wf.2 _ q4) q3
section
variable {c:String} {kvs:List (List Nat×List Nat)} {a:Addr}
end
end
section
variable {Γ:Gm} {F:k8} {n:Nat} {X:Cx} {ck:Ck}
end
section
variable {Γ:Gm} {F:k8} {n:Nat} {X:Cx} {ck:Ck}
def TJv (Γ:Gm)(m:kT->kQ->kW (List kR))(out:List Nat):TE:=fun W H Q=>∃ C U s l s' ws,RE Γ C H s.length U W/\Rp Γ C H s/\m U s=.ok l s'/\mf l=some ws/\(out++ws.flatten).length<=kZ /\
 ∀ C' H',Gr C s H C' s' H'->s.length<=s'.length->Rp Γ C' H' s'->Q (.str ⟨(out++ws.flatten).toArray⟩) H'
def PF (Γ:Gm)(X:Cx)(vs:yK)(m:kT->kQ->kW (List kR)):Prop :=
 ∀(out:List Nat) (pins:yA) (s:ae) (W:St) (H:Hp) (Q:VK),Inv X pins W H s->TJv Γ m out W H Q->wpAny (model X.prog X.w) X.A (joinParts ⟨out.toArray⟩ (evalEach vs X.env)) (EP X pins W Q) X.xe s
theorem PF.eq {vs:yK}{m m':kT->kQ->kW (List kR)}(e:∀ U s,m U s=m' U s)(h:PF Γ X vs m):PF Γ X vs m':=fun out y s W H Q I q=>by
 obtain⟨C,U,s0,l,s',ws,E,R,hm,q⟩:=q
 exact h out y s W H Q I ⟨C,U,s0,l,s',ws,E,R,by rw[e];exact hm,q⟩
theorem ax9 (w:List Nat):(⟨w.toArray⟩:Str).length=w.length:=by simp[Str.length]
theorem bF3:PF Γ X [] (fun _ s=>.ok [] s):=fun out h s W H Q I q=>by
 obtain⟨C,U,s0,l,s',ws,E,R,hm,hw,y,q⟩:=q
 cases hm
 cases hw
 rw[List.flatten_nil,bt]at q y
 exact joinParts_nilE (joinParts_nil ⟨.str ⟨out.toArray⟩,H,I.tok _,⟨_,rfl⟩,q C H (Gr.refl _ _ _) (ah _) R⟩ (by rw[ax9];exact aj y zB))
theorem aR1 {d:kR}{l:List kR}{ws:List (List Nat)}(h:mf (d::l)=some ws):∃ w y,d=.str w/\mf l=some y/\ws=w::y:=by
 cases d with
 | str w =>
  have h:(mf l).map (w::·)=some ws:=h
  cases e:mf l with
  | none=>rw[e]at h;cases h
  | some y=>rw[e]at h;cases h;exact⟨w,y,rfl,rfl,rfl⟩
 | _=>cases h
theorem aQ1 {v:Expr}{vs:yK}{m1:kT->kQ->kW kR}{m2:kT->kQ->kW (List kR)}(h2:PF Γ X vs m2)
  (h1:∀(h:yA) (s:ae) (W:St) (H:Hp) (w:List Nat) (Q:VK),w.length<=kZ->Inv X h W H s->TEv Γ m1 W H (fun x y=>x=.str ⟨w.toArray⟩/\Q x y) ->
   wpAny (model X.prog X.w) X.A (eval v X.env) (fun u s1=>∃ t y,u=.str ⟨w.toArray⟩ t/\Inv X h W y s1/\Q (.str ⟨w.toArray⟩) y) X.xe s) :
  PF Γ X (v::vs) (fun U s=>(m1 U s).bind fun d s=>(m2 U s).bind fun l s=>.ok (d::l) s):=fun out h s W H Q I q=>by
 obtain⟨C,U,s0,l,s',ws,E,R,hm,hw,G,q⟩:=q
 obtain⟨d,s1,e1,hm⟩:=aa0 hm
 obtain⟨l2,s2,e2,hm⟩:=aa0 hm
 cases hm
 obtain⟨w,Z,rfl,J,rfl⟩:=aR1 hw
 rw[cV,<-aM]at G q
 have B:(out++w).length<=kZ:=by rw[aC]at G;lia
 have z:w.length<=kZ:=by rw[aC]at B;lia
 refine joinParts_consE (joinParts_cons (bS (h1 h s W H w (fun x y=>∃ C1,Gr C s0 H C1 s1 y/\s0.length<=s1.length/\Rp Γ C1 y s1) z I ⟨C,U,s0,.str w,s1,E,R,e1,fun v C1 y g1 l1 b1 r1 R1=>⟨r1.strE,C1,g1,l1,R1⟩⟩) (fun u a0 hu=>?_) fun _ _ x=>x))
 obtain⟨t,y,rfl,I1,C1,g1,l1,R1⟩:=hu
 show(_++_:Str).length<=aL/\_
 rw[aJ4]
 refine⟨by rw[ax9];exact aj B zB,h2 (out++w) h a0 W y Q I1 ⟨C1,U,s1,l2,s',Z,E.mono g1 l1,R1,e2,J,G,fun C2 H2 g2 l2 R2=>q C2 H2 (g1.trans g2 l1) (aj l1 l2) R2⟩⟩
theorem bj2 {v:Expr}{z:kT->kQ->kW kR}(hv:PE X v (TEv Γ z))(h:yA)(s:ae)(W:St)(H:Hp)(w:List Nat)(Q:VK)(I:Inv X h W H s)(q:TEv Γ z W H (fun x y=>x=.str ⟨w.toArray⟩/\Q x y)) :
  wpAny (model X.prog X.w) X.A (eval v X.env) (fun u s1=>∃ t y,u=.str ⟨w.toArray⟩ t/\Inv X h W y s1/\Q (.str ⟨w.toArray⟩) y) X.xe s :=
 bS (hv h s W H _ I q) (fun u s1 hu=>by
  obtain⟨x,y,G,B,ex,J⟩:=hu
  subst ex
  obtain⟨t,rfl⟩:=(show ∃ t,u=Value.str ⟨w.toArray⟩ t from B)
  exact⟨t,y,rfl,G,J⟩) fun _ _ x=>x
theorem bL8 {v:Expr}{p:Pos}{vs:yK}{z:kT->kQ->kW kR}{y:kT->kQ->kW (List kR)}(hv:PE X v (TEv Γ z))(J:PF Γ X vs y) :
  PF Γ X (.FormattedValue v (-1) none p::vs) (fun U s=>(z U s).bind fun d s=>(y U s).bind fun l s=>.ok (d::l) s) :=
 aQ1 J fun h s W H w Q hw I q=>FormattedValue_plain (bS (bj2 hv h s W H w Q I q) (fun u s1 hu=>by
  obtain⟨t,Z,rfl,B,G⟩:=hu
  exact formatField_str (fun t' tk=>⟨t',Z,rfl,B.tok tk,G⟩) (by rw[ax9];exact aj hw zB)) fun _ _ x=>x)
theorem bI2 {v:Expr}{vs:yK}{y:kT->kQ->kW kR}{z:kT->kQ->kW (List kR)}(hv:PE X v (TEv Γ y))(B:PF Γ X vs z) :
  PF Γ X (v::vs) (fun U s=>(y U s).bind fun d s=>(z U s).bind fun l s=>.ok (d::l) s) :=
 aQ1 B fun h s W H w Q hw I q=>bj2 hv h s W H w Q I q
end
section
variable {Γ:Gm} {F:k8} {n:Nat} {X:Cx} {ck:Ck} {W:St} {H:Hp} {Q:VK}
theorem az7:bJ5 bA1:=fun {a b k} ha hb=>by
 cases a with
 | str x =>
  cases ha
  cases b with
  | str y =>
   have h:=au hb
   injection h with h
   have z:y=x:=by simpa using h
   rw[z]
  | _=>cases hb
 | _=>cases ha
theorem RVD.lk {C:Nat->Addr}{f:List Nat}{d:kR}:∀ {l:List (kR×kR)} {y:List (Str×V)},RVD bA1 Γ C H l y->k9 (.str f) l=some d->∃ v,y.lookup ⟨f.toArray⟩=some v/\RV Γ C H d v/\((⟨f.toArray⟩,v):Str×V)∈y/\d∈l.map (·.2)
 | [],_,_,e=>by cases e
 | (a,e0)::l,_,h,e=>by
  obtain⟨B,v',r,rfl,e2,J,G⟩:=h
  unfold k9 at e
  split at e
  .rename_i ha
   subst ha
   cases e2
   cases e
   exact⟨v',by simp[aZ],J,by simp,by simp⟩
  .rename_i ha
   obtain⟨v,q1,q2,q3,q4⟩:=RVD.lk G e
   refine⟨v,?_,q2,ao _ q3,by simp at q4 ⊢;exact .inr q4⟩
   have ne:((⟨f.toArray⟩:Str)==B)=false:=beq_eq_false_iff_ne.mpr fun z=>ha (az7 e2 (by rw[<-z];rfl))
   rw[aZ,ne];exact q1
theorem RVD.putA {C:Nat->Addr}{f:List Nat}{d:kR}{v:V}(hv:RV Γ C H d v):∀ {l:List (kR×kR)} {B:List (Str×V)},RVD bA1 Γ C H l B->RVD bA1 Γ C H (lE (.str f) d l) (ai6 ⟨f.toArray⟩ v B)
 | [],_,h=>by cases(show _=[]from h);exact⟨_,v,[],rfl,rfl,hv,rfl⟩
 | (a,e0)::l,_,h=>by
  obtain⟨y,v',r,rfl,e2,J,G⟩:=h
  rw[show ai6 ⟨f.toArray⟩ v ((y,v')::r)=(if y=⟨f.toArray⟩then(y,v)::r else(y,v')::ai6 ⟨f.toArray⟩ v r)from rfl]
  unfold lE
  by_cases ha:a=.str f
  .subst ha
   cases e2
   rw[if_pos rfl,if_pos rfl]
   exact⟨_,v,r,rfl,rfl,hv,G⟩
  .rw[if_neg ha,if_neg fun z=>ha (az7 e2 (by rw[z];rfl))]
   exact⟨y,v',_,rfl,e2,J,RVD.putA hv G⟩
theorem putA_mem {k v:kR}{p:kR×kR}:∀ {l:List (kR×kR)},p∈lE k v l->p∈l\/(p.1=k/\p.2=v)
 | [],h=>by simp[lE]at h;exact .inr (by rw[h];exact⟨rfl,rfl⟩)
 | (a,e)::l,h=>by
  unfold lE at h
  split at h
  .rename_i ha
   rcases ay.mp h with z|z
   .subst z;exact .inr ⟨ha,rfl⟩
   .exact .inl (ao _ z)
  .rcases ay.mp h with z|z
   .subst z;exact .inl (ar ..)
   .rcases putA_mem z with z|z
    .exact .inl (ao _ z)
    .exact .inr z
theorem bc3 {n:Nat}{c:String}{f:List Nat}{d:kR}{l:List (kR×kR)}(h:(DV.O.ins c l).bnd n=true)(hd:d.bnd n=true):(DV.O.ins c (lE (.str f) d l)).bnd n=true:=by
 unfold kU at h ⊢
 rw[ai]at h ⊢
 have g1:=aa2.mp h.1
 have g2:=aa2.mp h.2
 refine⟨aa2.mpr fun x hx=>?_,aa2.mpr fun x hx=>?_⟩
 .obtain⟨p,hp,rfl⟩:=bf.mp hx
  rcases putA_mem hp with z|⟨z,_⟩
  .exact g1 _ (bw (f:=(·.1)) z)
  .rw[z];rfl
 .obtain⟨p,hp,rfl⟩:=bf.mp hx
  rcases putA_mem hp with z|⟨_,z⟩
  .exact g2 _ (bw (f:=(·.2)) z)
  .rw[z];exact hd
theorem aR8 {f:List Nat}{x d:kR}{s s':kQ}(h:mY f x s=.ok d s'):∃ r c fs,x=.ref r/\s[r]?=some (.ins c fs)/\k9 (.str f) fs=some d/\s'=s:=by
 unfold mY at h
 split at h
 .split at h
  .rename_i c fs e
   split at h
   .rename_i e2;cases h;exact⟨_,c,fs,rfl,e,e2,rfl⟩
   .exact fb h
  .exact fb h
 .exact fb h
theorem aW2 {m:kT->kQ->kW kR}{o:Expr}{f:List Nat}{pos:Pos}(G:CG Γ F n X ck)(hab:aG2 o=true)(h:PE X o (TEv Γ m)):PE X (.Attribute o ⟨f.toArray⟩ pos) (TEv Γ (fun U s=>(m U s).bind fun x s=>mY f x s)):=by
 refine(bD7 h (qk hab)).imp fun W H Q q=>?_
 obtain⟨C,U,s,d,s',E,R,hm,q⟩:=q
 obtain⟨x,s1,e1,hm⟩:=aa0 hm
 obtain⟨r,c,fs,rfl,hs,B,rfl⟩:=aR8 hm
 refine⟨C,U,s,.ref r,_,E,R,e1,fun v C1 H1 g1 l1 b1 r1 R1=>?_⟩
 obtain⟨Cc,J,gs,⟨hc,y⟩,z,ea,Z⟩:=R1.obj r _ hs
 obtain⟨v',q1,q2,q3,q4⟩:=Z.lk B
 have wf:=R1.wf _ _ hs
 unfold kU at wf
 rw[ai]at wf
 rw[G.K]
 exact⟨C1 r,Cc,J,gs,v',r1.refE,ea,y,z _ q3,q1,(q.trans g1 l1).here R1 (aa2.mp wf.2 _ q4) q2⟩
theorem aP5 {ok:String->Bool}{f:List Nat}{x v:kR}{u:Unit}{s s':kQ}(h:mZ ok f x v s=.ok u s'):∃ r c fs,x=.ref r/\s[r]?=some (.ins c fs)/\ok c=true/\fs.length<1000/\s'=s.set r (.ins c (lE (.str f) v fs)):=by
 unfold mZ at h
 split at h
 .split at h
  .rename_i c fs e
   split at h
   .rename_i hc
    rw[ai]at hc
    cases h
    exact⟨_,c,fs,rfl,e,hc.1,of_decide_eq_true hc.2,rfl⟩
   .exact fb h
  .exact fb h
 .exact fb h
theorem bf4 {me mo:kT->kQ->kW kR}{o h:Expr}{f:List Nat}{pos B:Pos}(G:CG Γ F n X ck)(ho:PE X o (TEv Γ mo))(hv:PE X h (TEv Γ me))(hn:ai7 h=true) :
  PS X (.Assign [.Attribute o ⟨f.toArray⟩ B] h pos) (TSv Γ (fun U s=>(me U s).bind fun d s=>(mo U s).bind fun x s=>(mZ (fun c=>F.att c f) f x d s).bind fun _ s=>.ok (.next U) s)):=by
 refine(bF9 ho hv (ag3 hn)).imp fun D W H q=>?_
 obtain⟨C,U,s,c,s',E,R,e,q⟩:=q
 obtain⟨d,s1,e1,e⟩:=aa0 e
 obtain⟨x,s2,e2,e⟩:=aa0 e
 obtain⟨u,s4,e4,e⟩:=aa0 e
 cases e
 obtain⟨r,cn,fs,rfl,hs,hat,Z,rfl⟩:=aP5 e4
 refine⟨C,U,s,d,s1,E,R,e1,fun v1 C1 H1 g1 l1 b1 r1 R1=>?_⟩
 refine⟨C1,U,s1,.ref r,s2,E.mono g1 l1,R1,e2,fun v2 C2 H2 g2 l2 b2 r2 R2=>?_⟩
 obtain⟨Cc,dx,gs,⟨hc,J⟩,a1,ea,rd⟩:=R2.obj r _ hs
 have a0:NoAttr Γ.K Cc ⟨f.toArray⟩:=by rw[<-G.K];exact G.ob.att cn f Cc hat hc
 have wf:=R2.wf _ _ hs
 have bd:=zg l2 d b1
 have rv:=RV.mono g2 d v1 b1 r1
 have hb:=bc3 (f:=f) wf bd
 have y:=hb
 unfold kU at y
 rw[ai]at y
 have key:∀ {l:List (Str×V)},(∀ p∈l,NoAttr Γ.K Cc p.1)->∀ p∈ai6 ⟨f.toArray⟩ v1 l,NoAttr Γ.K Cc p.1:=by
  intro l
  induction l with
  | nil=>intro _ p hp;cases(show p∈[_]from hp)with
   | head=>exact a0
   | tail _ z=>cases z
  | cons a l ih =>
   intro hl p hp
   obtain⟨k,x⟩:=a
   rw[show ai6 ⟨f.toArray⟩ v1 ((k,x)::l)=(if k=⟨f.toArray⟩then(k,v1)::l else(k,x)::ai6 ⟨f.toArray⟩ v1 l)from rfl]at hp
   split at hp
   .rcases ay.mp hp with z|z
    .subst z;exact hl (k,x) (ar ..)
    .exact hl _ (ao _ z)
   .rcases ay.mp hp with z|z
    .subst z;exact hl _ (ar ..)
    .exact ih (fun p hp=>hl p (ao _ hp)) p z
 obtain⟨g3,R3⟩:=R2.set (o:=.ins cn (lE (.str f) d fs)) (u:=.ins Cc dx (ai6 ⟨f.toArray⟩ v1 gs)) hs rfl hb fun H' g e=>⟨Cc,dx,_,⟨hc,J⟩,key a1,e,RVD.monoW g _ _ y.2 (RVD.putA rv rd)⟩
 have G2:=g1.trans g2 l1
 have L2:=aj l1 l2
 have L3:s.length<=(s2.set r (.ins cn (lE (.str f) d fs))).length:=by rw[aK];exact L2
 rw[G.K]
 refine⟨C2 r,Cc,dx,gs,r2.refE,ea,J,a0,by rw[rd.length];exact Z,q C2 _ (G2.trans g3 L2) L3 R3 W (E.mono (G2.trans g3 L2) L3)⟩
theorem aL9 {c:String}{Cc:Addr}{as:lO}(hc:Γ.cls c=some Cc/\Cls Γ.K Cc)(q:TEv Γ (kX F (.new c as)) W H Q):aK8 Cc (spV Γ (F.new c)) [] E0 (TAv Γ (lD F as)) W H Q:=by
 obtain⟨C,U,s,d,s',E,R,hm,q⟩:=q
 obtain⟨l,s1,e1,hm⟩:=aa0 hm
 obtain⟨d0,s2,e2,hm⟩:=aa0 hm
 split at hm
 case isFalse=>exact fb hm
 rename_i G
 subst G
 cases hm
 refine⟨C,U,s,l,s1,E,R,e1,fun vs C1 J g1 l1 b1 r1 R1 x y hx B ne=>?_⟩
 obtain⟨g2,R2⟩:=R1.same (H':=upd J y (.own x)) ((ae3.refl J).new B)
 have Z:upd J y (.own x) x=none:=by rw[zb (cC ne)];exact hx
 obtain⟨g3,R3⟩:=R2.new (o:=.ins c []) (u:=.ins Cc y []) Z rfl fun C' H' g e=>⟨Cc,y,[],hc,(fun p hp=>by cases hp),e,rfl⟩
 have g4:=g2.trans g3 (ah _)
 have z:s1.length<=(s1++[DV.O.ins c []]).length:=by simp
 have h:(if s1.length=s1.length then x else C1 s1.length)=x:=if_pos rfl
 refine⟨_,s1++[.ins c []],.ref s1.length::l,.non,_,R3,.cons (by unfold RV;show V.ref x=V.ref (if s1.length=s1.length then x else C1 s1.length);rw[h]) (by rw[bt];exact RVL.mono g4 l vs b1 r1),by unfold kS;rw[aa3 z l b1];unfold kY;simp,e2,fun v C' H' g l' b r R'=>⟨r.nonE,?_⟩⟩
 have l5:=aA (show s1.length<(s1++[DV.O.ins c []]).length by simp) l'
 refine q (.ref x) C' H' ((g1.trans g4 l1).trans g (aj l1 z)) (aj l1 (aj z l')) (by unfold kY;exact decide_eq_true l5) ?_ R'
 unfold RV
 rw[g.w.map s1.length (by simp)]
 show V.ref x=V.ref (if s1.length=s1.length then x else C1 s1.length)
 rw[h]
theorem bs4 {c:String}{as:lO}{z:yK}{p pos:Pos}(G:CG Γ F n X ck)(hg:ck.gl (c:Str)=true)(m:mAs ck as z=true)(h:PA X z (TAv Γ (lD F as))):EvT Γ X (.Call (.Name (c:Str) p) z [] pos) (kX F (.new c as)):=by
 refine .val ?_
 obtain⟨g1,g2,g3⟩:=G.gl hg
 rcases G.ob.nw c with hbad|⟨k,Cc,a,fd,ps,hk,hc,B,M,Z,hb⟩
 .intro J s W H Q I q
  obtain⟨C,U,s,d,s',E,R,hm,q⟩:=q
  obtain⟨l,s1,e1,hm⟩:=aa0 hm
  obtain⟨d0,s2,e2,hm⟩:=aa0 hm
  rw[hbad]at e2
  cases e2
 have hr:Room (k+1) X.A:=G.room.mono hk
 have y:Γ.cls c=some Cc/\Cls Γ.K Cc:=by rw[<-G.K];exact hc
 cases z with
 | nil =>
  have h0:PE X (.Call (.Name (c:Str) p) [] [] pos) (aK8 Cc (spV Γ (F.new c)) [] E0 aM0):=aX2 M Z hr g1 B hb .nil aE1 g2
  cases as with
  | nil =>
   refine h0.imp fun W H Q q=>?_
   have q1:=aL9 y q
   unfold aK8 at q1 ⊢
   exact am2 (TAv.eq (fun U s=>rfl) q1)
  | _=>rw[mAs]at m<;>first|cases m|(intros;simp_all)
 | cons x z =>
  have hs:=ag9 m
  exact(bm4 M Z hr g1 B hb .nil aE1 h g2 (za (hs x (ar ..))) (zh fun e he=>hs e (ao _ he)).1).imp fun W H Q q=>aL9 y q
theorem aX3 {x:kR}{c:String}{s s':kQ}(h:DV.bC3 x s=.ok c s'):∃ r fs,x=.ref r/\s[r]?=some (.ins c fs)/\s'=s:=by
 unfold DV.bC3 at h
 split at h
 .split at h
  .rename_i c fs e;cases h;exact⟨_,fs,rfl,e,rfl⟩
  .exact fb h
 .exact fb h
theorem aJ3 {K:af}{Cc a:Addr}{m:Str}(hm:Meth K Cc m a):∀ {y:List (Str×V)},(∀ p∈y,NoAttr K Cc p.1)->y.lookup m=none
 | [],_=>rfl
 | (k,v)::y,h=>by
  rw[aZ]
  cases e:m==k with
  | true =>
   have e':=eq_of_beq e
   subst e'
   have z:=h (m,v) (ar ..)
   unfold NoAttr at z
   rw[hm.at_]at z;cases z
  | false=>exact aJ3 hm fun p hp=>h p (ao _ hp)
theorem aJ7 {x:Str}{px:Pos}{m:Str}{h pos:Pos}{args:yK}{env:Env}(z:methodCallForm (args.length+([]:List dX).length) (cD pos (aV args env)) (eg pos (cS [] env))=true)(B:(h.endLine==pos.line)=true):∃ pl,eval (.Call (.Attribute (.Name x px) m h) args [] pos) env=(do
  let ov <- eval (.Name x px) env
  je h.atName
  let(f,first) <- gF [ov] (iz ov m pl)
  callWith pos f first (cD pos (aV args env)) (eg pos (cS [] env))):=by
 have y:methodCallPos true (.Name x px) env h pos=pure pos:=by unfold methodCallPos;simp[B]
 rw[arm_eval_Call,qk (e:=.Name x px) rfl]
 unfold methodCall
 rw[z]
 simp only[y,pure_bind]
 exact⟨_,rfl⟩
theorem aJ0 {mo:lL}{m:String}{as:lO}{B:yK}{y:Str}{py ap pos:Pos}(G:CG Γ F n X ck)(ho:PE X (.Name y py) (TEv Γ (kX F mo)))(ma:mAs ck as B=true)(hl:(ap.endLine==pos.line)=true)(hx:B.length<29)(h:PA X B (TAv Γ (lD F as))):EvT Γ X (.Call (.Attribute (.Name y py) (m:Str) ap) B [] pos) (kX F (.mcall mo m as)):=by
 refine .val ?_
 intro J sh W H Q I q
 obtain⟨C,U,s,d,s',E,R,hm,q⟩:=q
 obtain⟨x,s1,e1,a4⟩:=aa0 hm
 obtain⟨c,s2,e2,a3⟩:=aa0 a4
 obtain⟨l,s3,e3,hm⟩:=aa0 a3
 obtain⟨r,fs,rfl,hs,rfl⟩:=aX3 e2
 rcases G.ob.mc c m with hbad|⟨Cc,a,fd,ps,hc,a0,z,hF,hb⟩
 .rw[hbad]at hm;exact fb hm
 have key:aX1 Cc (m:Str) (spV Γ (F.mcall c m)) [] E0 (TEv Γ (kX F mo)) (TAv Γ (lD F as)) W H Q:=by
  refine⟨C,U,s,.ref r,s2,E,R,e1,fun v1 C1 H1 g1 l1 b1 r1 R1=>?_⟩
  obtain⟨Cc',dx,gs,⟨Z,a5⟩,a2,ea,rd⟩:=R1.obj r _ hs
  rw[hc]at Z;cases Z
  rw[<-G.K]at a2
  refine⟨C1 r,dx,gs,r1.refE,ea,aJ3 z a2,C1,U,s2,l,s3,E.mono g1 l1,R1,e3,fun vs C2 H2 g2 l2 b2 r2 R2=>?_⟩
  refine⟨C2,s3,.ref r::l,d,s',R2,.cons (RV.mono g2 _ _ b1 r1) (by rw[bt];exact r2),by unfold kS;rw[b2,zg l2 _ b1];rfl,hm,q.trans (g1.trans g2 l1) (aj l1 l2)⟩
 have hf:methodCallForm (B.length+([]:List dX).length) (cD pos (aV B X.env)) (eg pos (cS [] X.env))=true:=by
  show((cD pos (aV B X.env)).all (fun x=>!x.1)&&(eg pos (cS [] X.env)).all (fun x=>x.1.isSome)&&decide (B.length+([]:List dX).length+(if([]:List dX).isEmpty then 0 else 1)<30))=true
  rw[(zh (ag9 ma)).2]
  simp only[dW,ai,decide_eq_true_eq]
  exact⟨rfl,by simp;lia⟩
 obtain⟨pl,ht⟩:=aJ7 (x:=y) (px:=py) (m:=(m:Str)) hf hl
 cases B with
 | nil =>
  have h0:PE X (.Call (.Attribute (.Name y py) (m:Str) ap) [] [] pos) (aX1 Cc (m:Str) (spV Γ (F.mcall c m)) [] E0 (TEv Γ (kX F mo)) aM0):=ba6 (pl:=pl) ho a0 z hF G.room hb .nil aE1 ht
  refine h0 J sh W H Q I ?_
  cases as with
  | nil =>
   obtain⟨C,U,s,d,s',E,R,hm,k⟩:=key
   refine⟨C,U,s,d,s',E,R,hm,fun v1 C1 H1 g1 l1 b1 r1 R1=>?_⟩
   obtain⟨a,dx,fs,w1,w2,w3,w4⟩:=k v1 C1 H1 g1 l1 b1 r1 R1
   exact⟨a,dx,fs,w1,w2,w3,am2 (TAv.eq (fun U s=>rfl) w4)⟩
  | _=>rw[mAs]at ma<;>first|cases ma|(intros;simp_all)
 | cons e es =>
  have a1:=ag9 ma
  exact bq2 (pl:=pl) ho a0 z hF G.room hb .nil aE1 h (za (a1 e (ar ..))) (zh fun e he=>a1 e (ao _ he)).1 ht J sh W H Q I key
theorem aH5 {x d:kR}{s s':kQ}(h:m7 x s=.ok d s'):∃ r l,x=.ref r/\s[r]?=some (.dic l)/\l.all (fun p=>p.1.keyF)=true/\d=.ref s.length/\s'=s++[.lst (l.map (·.1))]:=by
 unfold m7 at h
 split at h
 .split at h
  .rename_i l e
   split at h
   .rename_i hk;cases h;exact⟨_,l,rfl,e,hk,rfl,rfl⟩
   .exact fb h
  .exact fb h
 .exact fb h
theorem aC7 {C:Nat->Addr}:∀ {l:List (kR×kR)} {kvs:List (Key×V)},RVD qv Γ C H l kvs->l.all (fun p=>p.1.keyF)=true->RVL Γ C H (l.map (·.1)) (kvs.map fun y=>kV y.1)
 | [],_,h,_=>by cases(show _=[]from h);exact .nil
 | (a,e)::l,_,h,hk=>by
  obtain⟨B,v',r,rfl,e2,G,z⟩:=h
  rw[dz,ai]at hk
  exact .cons (aU0 e2 hk.1) (aC7 z hk.2)
theorem aK9 {m:kT->kQ->kW kR}{a:Expr}{p pos:Pos}(G:CG Γ F n X ck)(hg:ck.gl "list"=true)(hs:shp a=true)(h:PE X a (TEv Γ m)) :
  PE X (.Call (.Name "list" p) [a] [] pos) (TEv Γ (fun U s=>(m U s).bind fun x s=>m7 x s)):=by
 obtain⟨g1,g2,g3⟩:=G.gl hg
 refine(ae1 (aH3 G.calm) g1 (G.bi _ (by decide)) aR4 (zI h ac0 (za hs)) g3 g2 (za hs) rfl).imp fun W H Q q=>?_
 obtain⟨C,U,s,d,s',E,R,hm,q⟩:=q
 obtain⟨x,s1,e1,hm⟩:=aa0 hm
 obtain⟨r,l,rfl,y,hk,rfl,rfl⟩:=aH5 hm
 refine⟨C,U,s,_,_,E,R,e1,fun v C1 Z g1 l1 J r1 R1=>?_⟩
 obtain⟨kvs,B,z⟩:=R1.obj r _ y
 have wf:=R1.wf _ _ y
 unfold kU at wf
 rw[ai]at wf
 exact⟨C1 r,kvs,by rw[r1.refE],B,fun p hp=>(q.trans g1 l1).alloc R1 (aC7 z hk) wf.1 hp⟩
theorem ao8 (a:Int):∀ l:List Int,(mh a l).Perm (a::l)
 | []=>.refl _
 | b::l=>by
  unfold mh
  split
  .exact .refl _
  .exact((ao8 a l).cons b).trans (.swap a b l)
theorem ae8:∀ l:List Int,(mH l).Perm l
 | []=>.refl _
 | a::l=>(ao8 a _).trans ((ae8 l).cons a)
theorem am5 {a:Int}:∀ {l:List Int},l.Pairwise (·<=·)->(mh a l).Pairwise (·<=·)
 | [],_=>by unfold mh;exact List.pairwise_singleton _ _
 | b::l,h=>by
  unfold mh
  rw[bp]at h
  split
  .rename_i hab
   exact bp.mpr ⟨fun c hc=>(ay.mp hc).elim (fun z=>z▸hab) fun z=>cu hab (h.1 c z),bp.mpr h⟩
  .rename_i hab
   refine bp.mpr ⟨fun c hc=>?_,am5 h.2⟩
   rcases ay.mp ((ao8 a l).mem_iff.mp hc)with z|z
   .lia
   .exact h.1 c z
theorem qh:∀ l:List Int,(mH l).Pairwise (·<=·)
 | []=>.nil
 | a::l=>am5 (qh l)
theorem ai8:∀ {l m:List Int},l.Perm m->l.Pairwise (·<=·)->m.Pairwise (·<=·)->l=m
 | [],m,p,_,_=>(List.nil_perm.mp p).symm
 | a::l,[],p,_,_=>absurd (List.perm_nil.mp p) (by simp)
 | a::l,b::m,p,h1,h2=>by
  have g1:=bp.mp h1
  have g2:=bp.mp h2
  have hab:a=b:=by
   have x1:a<=b:=by
    rcases ay.mp (p.symm.mem_iff.mp (ar ..):b∈a::l)with z|z
    .lia
    .exact g1.1 b z
   have x2:b<=a:=by
    rcases ay.mp (p.mem_iff.mp (ar ..):a∈b::m)with z|z
    .lia
    .exact g2.1 a z
   lia
  subst hab
  rw[ai8 (List.Perm.cons_inv p) g1.2 g2.2]
theorem aY7 {l:List kR}{d:kR}{s s':kQ}(h:m8 l s=.ok d s'):∃ is,lx l=some is/\is.length<64/\d=.ref s.length/\s'=s++[.lst ((mH is).map DV.D.int)]:=by
 unfold m8 at h
 split at h
 .rename_i is e
  split at h
  .cases h;exact⟨is,e,‹_›,rfl,rfl⟩
  .exact fb h
 .exact fb h
theorem ay6 {C:Nat->Addr}:∀ {l:List kR} {is:List Int} {y:List V},lx l=some is->RVL Γ C H l y->y=is.map V.int
 | [],is,y,h,r=>by cases h;exact r.unnil
 | d::l,is,y,h,r=>by
  cases d with
  | int i =>
   obtain⟨B,e,rfl⟩:=eA.mp (show(lx l).map (i::·)=some is from h)
   obtain⟨x,ys,rfl,r1,z⟩:=r.uncons
   rw[r1.intE,ay6 e z];rfl
  | _=>cases h
theorem ag4 {C:Nat->Addr}{H:Hp}:∀ ns:List Int,RVL Γ C H (ns.map DV.D.int) (ns.map V.int)
 | []=>.nil
 | n::ns=>.cons RV.intI (ag4 ns)
theorem ae4 {m:Nat}:∀ ns:List Int,kS m (ns.map DV.D.int)=true
 | []=>rfl
 | n::ns=>by rw[aU];unfold kS;rw[ae4 ns];rfl
theorem bo4 {m:kT->kQ->kW kR}{a:Expr}{p pos:Pos}(G:CG Γ F n X ck)(hg:ck.gl "sorted"=true)(hs:shp a=true)(h:PE X a (TEv Γ m)) :
  PE X (.Call (.Name "sorted" p) [a] [] pos) (TEv Γ (fun U s=>(m U s).bind fun x s=>(mV x s).bind fun q s=>m8 q s)):=by
 obtain⟨g1,g2,g3⟩:=G.gl hg
 refine(ad1 aw6 g1 (G.bi _ (by decide)) (by decide +kernel) (zI h ac0 (za hs)) g3 g2 (za hs) rfl).imp fun W H Q q=>?_
 obtain⟨C,U,s,d,s',E,R,hm,q⟩:=q
 obtain⟨x,s1,e1,B⟩:=aa0 hm
 obtain⟨l,s2,e2,z⟩:=aa0 B
 obtain⟨y,r,rfl,Z⟩:=be1 e2
 subst y
 obtain⟨is,ei,h64,rfl,rfl⟩:=aY7 z
 refine⟨C,U,s,_,_,E,R,e1,fun v C1 H1 g1 l1 b1 r1 R1=>?_⟩
 obtain⟨xs,J,rd⟩:=R1.addr Z
 rw[ay6 ei rd]at J
 refine⟨C1 r,is,by rw[r1.refE],J,h64,fun p ms hp pm so=>?_⟩
 rw[ai8 (pm.trans (ae8 is).symm) so (qh is)]
 exact(q.trans g1 l1).alloc R1 (ag4 _) (ae4 _) hp
end
section
variable {Γ:Gm} {F:k8} {n:Nat} {X:Cx} {ck:Ck}
theorem aW8 {x y z d:kR}{s s':kQ}(h:DV.bb6 x y z s=.ok d s'):∃ r l,x=.ref r/\s[r]?=some (.dic l)/\y.key=true/\d=(k9 y l).getD z/\s'=s:=by
 unfold DV.bb6 at h
 split at h
 .split at h
  .split at h
   .cases h;exact⟨_,_,rfl,by assumption,by assumption,rfl,rfl⟩
   .exact fb h
  .exact fb h
 .exact fb h
theorem aS9 {C:Nat->Addr}{H:Hp}{t:kQ}{r:Nat}{z:ls}(R:Rp Γ C H t)(f:t[r]?=some z)(k:z.kd=2):IsD H (C r):=by
 rcases dic_kd2 k with⟨l0,rfl⟩|⟨l0,rfl⟩
 .obtain⟨h,y,_⟩:=R.obj r _ f
  exact .inl ⟨h,.inl y⟩
 .obtain⟨B,h,y,_⟩:=R.obj r _ f
  exact .inl ⟨h,.inr ⟨B,y⟩⟩
theorem bl2 {o k e:lL}{ob a b:Expr}{ap cp:Pos}(G:CG Γ F n X ck)(hab:aG2 ob=true)(hl:(ap.endLine==cp.line)=true)(s1:shp a=true)(s2:shp b=true)(ho:PE X ob (TEv Γ (kX F o)))(hk:PE X a (TEv Γ (kX F k)))(he:PE X b (TEv Γ (kX F e))) :
  EvT Γ X (.Call (.Attribute ob "get" ap) [a,b] [] cp) (kX F (.gtd o k e)):=by
 have a1:∀ x∈[a,b],shp x=true:=fun x hx=>by
  rcases ay.mp hx with z|z
  .rw[z];exact s1
  .rw[aO.mp z];exact s2
 refine .val ((aU6 (al0 G.room) ho hk he ⟨qk hab,by rw[(zh a1).2];rfl,hl,by rw[za s1,za s2];rfl⟩).imp fun W H Q q=>?_)
 obtain⟨C,U,s,d,s',E,R,hm,q⟩:=q
 obtain⟨x,h,e1,Z⟩:=aa0 hm
 obtain⟨y,t2,e2,B⟩:=aa0 Z
 obtain⟨z,t3,e3,a0⟩:=aa0 B
 clear hm Z B
 obtain⟨r,l,rfl,er,hy,rfl,rfl⟩:=aW8 a0
 refine⟨C,U,s,_,h,E,R,e1,fun v1 C1 H1 g1 l1 b1 r1 R1=>?_⟩
 have hlt:r<h.length:=by unfold kY at b1;exact of_decide_eq_true b1
 obtain⟨o1,f1⟩:∃ o1,h[r]?=some o1:=⟨h[r],ag hlt⟩
 obtain⟨o2,f2,k2⟩:=mz G.fk k U h _ _ e2 r _ f1
 obtain⟨o3,f3,k3⟩:=mz G.fk e U t2 _ _ e3 r _ f2
 rw[er]at f3;cases f3
 refine⟨C1 r,r1.refE,aS9 R1 f1 (k2.symm.trans k3.symm),C1,U,h,y,t2,E.mono g1 l1,R1,e2,fun v2 C2 H2 g2 l2 b2 r2 R2=>?_⟩
 have G2:=g1.trans g2 l1
 have L2:=aj l1 l2
 refine⟨C2,U,t2,z,_,E.mono G2 L2,R2,e3,fun v3 C3 H3 g3 l3 b3 r3 R3=>?_⟩
 obtain⟨kk,J⟩:=zW hy
 have ey:=ag2 J (RV.mono g3 y v2 b2 r2)
 subst ey
 obtain⟨kvs,c1,c2⟩:=R3.obj r _ er
 have a2:C3 r=C1 r:=by rw[g3.w.map r (aA hlt l2),g2.w.map r hlt]
 rw[a2]at c1
 refine⟨ak0 kvs kk,av5.k c1,?_⟩
 have hq:=q.trans (G2.trans g3 L2) (aj L2 l3)
 rcases c2.val zy J with⟨q1,q2⟩|⟨e',v',q1,q2,q3,q4⟩
 .rw[q1]at hq;rw[q2];exact hq.here R3 b3 r3
 .rw[q1]at hq;rw[q2]
  have wf:=R3.wf _ _ er
  unfold kU at wf
  rw[ai]at wf
  exact hq.here R3 (aa2.mp wf.2 _ q4) q3
theorem bb0 {x y z d:kR}{s s':kQ}(h:DV.aO6 x y z s=.ok d s'):∃ r l,x=.ref r/\s[r]?=some (.dic l)/\y.key=true/\l.length<kZ/\((∃ v,k9 y l=some v/\d=v/\s'=s)\/(k9 y l=none/\d=z/\s'=s.set r (.dic (lh y z l)))):=by
 unfold DV.aO6 at h
 split at h
 .split at h
  .rename_i l B
   split at h
   .rename_i hc
    rw[ai]at hc
    cases q:k9 y l with
    | none=>rw[q]at h;cases h;exact⟨_,l,rfl,B,hc.1,of_decide_eq_true hc.2,.inr ⟨q,rfl,rfl⟩⟩
    | some u=>rw[q]at h;cases h;exact⟨_,l,rfl,B,hc.1,of_decide_eq_true hc.2,.inl ⟨_,q,rfl,rfl⟩⟩
   .exact fb h
  .exact fb h
 .exact fb h
theorem br0 {o k e:lL}{ob a b:Expr}{ap cp:Pos}(G:CG Γ F n X ck)(hab:aG2 ob=true)(hl:(ap.endLine==cp.line)=true)(s1:shp a=true)(s2:shp b=true)(ho:PE X ob (TEv Γ (kX F o)))(hk:PE X a (TEv Γ (kX F k)))(he:PE X b (TEv Γ (kX F e))) :
  EvT Γ X (.Call (.Attribute ob "setdefault" ap) [a,b] [] cp) (kX F (.sdf o k e)):=by
 have a5:∀ x∈[a,b],shp x=true:=fun x hx=>by
  rcases ay.mp hx with z|z
  .rw[z];exact s1
  .rw[aO.mp z];exact s2
 refine .val ((bd6 ho hk he ⟨qk hab,by rw[(zh a5).2];rfl,hl,by rw[za s1,za s2];rfl⟩).imp fun W H Q q=>?_)
 obtain⟨C,U,s,d,s',E,R,hm,q⟩:=q
 obtain⟨x,B,e1,a0⟩:=aa0 hm
 obtain⟨y,t2,e2,Z⟩:=aa0 a0
 obtain⟨z,t3,e3,a2⟩:=aa0 Z
 clear hm a0 Z
 obtain⟨r,l,rfl,er,hy,a4,hd⟩:=bb0 a2
 refine⟨C,U,s,_,B,E,R,e1,fun v1 C1 H1 g1 l1 b1 r1 R1=>?_⟩
 have hlt:r<B.length:=by unfold kY at b1;exact of_decide_eq_true b1
 obtain⟨o1,f1⟩:∃ o1,B[r]?=some o1:=⟨B[r],ag hlt⟩
 obtain⟨o2,f2,k2⟩:=mz G.fk k U B _ _ e2 r _ f1
 obtain⟨o3,f3,k3⟩:=mz G.fk e U t2 _ _ e3 r _ f2
 rw[er]at f3;cases f3
 refine⟨C1 r,r1.refE,aS9 R1 f1 (k2.symm.trans k3.symm),C1,U,B,y,t2,E.mono g1 l1,R1,e2,fun v2 C2 H2 g2 l2 b2 r2 R2=>?_⟩
 have G2:=g1.trans g2 l1
 have L2:=aj l1 l2
 refine⟨C2,U,t2,z,_,E.mono G2 L2,R2,e3,fun v3 C3 H3 g3 l3 b3 r3 R3=>?_⟩
 obtain⟨kk,h⟩:=zW hy
 have ey:=ag2 h (RV.mono g3 y v2 b2 r2)
 subst ey
 obtain⟨kvs,c1,c2⟩:=R3.obj r _ er
 have a1:C3 r=C1 r:=by rw[g3.w.map r (aA hlt l2),g2.w.map r hlt]
 have hq:=q.trans (G2.trans g3 L2) (aj L2 l3)
 have J:=R3.wf _ _ er
 refine⟨kvs,kk,by rw[<-a1];exact c1,rfl,by rw[c2.length];exact aA a4 zB,fun v hv=>?_,fun hn=>?_⟩
 .rcases c2.val zy h with⟨q1,q2⟩|⟨e',v',q1,q2,q3,q4⟩
  .rw[q2]at hv;cases hv
  .rw[q2]at hv;cases hv
   rcases hd with⟨u,z1,rfl,rfl⟩|⟨z1,_⟩
   .rw[q1]at z1;cases z1
    have wf:=J
    unfold kU at wf
    rw[ai]at wf
    exact hq.here R3 (aa2.mp wf.2 _ q4) q3
   .rw[q1]at z1;cases z1
 .rcases c2.val zy h with⟨q1,q2⟩|⟨e',v',q1,q2,q3,q4⟩
  .rcases hd with⟨u,z1,_⟩|⟨_,rfl,rfl⟩
   .rw[q1]at z1;cases z1
   .have yb:y.bnd t3.length=true:=zg l3 y b2
    have hb:(DV.O.dic (lh y d l)).bnd t3.length=true:=an1 J yb b3
    have a3:kS t3.length ((lh y d l).map (·.2))=true:=by
     unfold kU at hb
     rw[ai]at hb
     exact hb.2
    obtain⟨g,R'⟩:=R3.set (o:=.dic (lh y d l)) (u:=.dK (ak5 kvs kk v3)) er rfl hb fun H' g e=>⟨_,e,RVD.monoW g _ _ a3 (c2.put zy h r3)⟩
    rw[<-a1]
    exact hq v3 C3 _ g (by simp) (by rw[aK];exact b3) (RV.mono g d v3 b3 r3) R'
  .rw[q2]at hn;cases hn
theorem bd8 {x y d:kR}{s s':kQ}(h:DV.aZ8 x y s=.ok d s'):∃ r q l m,x=.ref r/\y=.ref q/\s[r]?=some (.dic l)/\s[q]?=some (.dic m)/\r≠q/\l.length+m.length<=kZ/\d=.non/\s'=s.set r (.dic (lU l m)):=by
 unfold DV.aZ8 at h
 split at h
 .split at h
  .split at h
   .split at h
    .split at h
     .rename_i hc
      cases h;exact⟨_,_,_,_,rfl,rfl,by assumption,by assumption,hc.1,hc.2,rfl,rfl⟩
     .exact fb h
    .exact fb h
   .exact fb h
  .exact fb h
 .exact fb h
theorem RVD.merge {C:Nat->Addr}{H:Hp}:∀ {m l:List (kR×kR)} {more kvs:List (Key×V)},RVD qv Γ C H l kvs->RVD qv Γ C H m more->RVD qv Γ C H (lU l m) (ad0 kvs more)
 | [],l,more,kvs,h,g=>by
  have g:more=[]:=g
  subst g;exact h
 | (d,e)::m,l,_,kvs,h,g=>by
  obtain⟨k,v,r,rfl,e2,z,y⟩:=g
  show RVD qv Γ C H (lU (lh d e l) m) (ad0 (ak5 kvs k v) r)
  exact RVD.merge (l:=lh d e l) (kvs:=ak5 kvs k v) (RVD.put zy e2 z h) y
theorem aA5 {n:Nat}:∀ {m l:List (kR×kR)},(DV.O.dic l).bnd n=true->(DV.O.dic m).bnd n=true->(DV.O.dic (lU l m)).bnd n=true
 | [],l,h,_=>h
 | (d,e)::m,l,h,g=>by
  unfold kU at g
  rw[ai,aU,aU]at g
  obtain⟨g1,g2⟩:=g
  unfold kS at g1 g2
  obtain⟨z,G⟩:=dH.mp g1
  obtain⟨B,y⟩:=dH.mp g2
  exact aA5 (m:=m) (an1 h z B) (show(kS n (m.map (·.1))&&kS n (m.map (·.2)))=true by rw[G,y];rfl)
theorem bv5 {o k:lL}{ob a:Expr}{ap cp:Pos}(G:CG Γ F n X ck)(hab:aG2 ob=true)(hl:(ap.endLine==cp.line)=true)(s1:shp a=true)(ho:PE X ob (TEv Γ (kX F o)))(hk:PE X a (TEv Γ (kX F k))) :
  EvT Γ X (.Call (.Attribute ob "update" ap) [a] [] cp) (kX F (.upd o k)):=by
 have a2:∀ x∈[a],shp x=true:=fun x hx=>by rw[aO.mp hx];exact s1
 refine .val ((bp8 ho hk ⟨qk hab,by rw[(zh a2).2];rfl,hl,by rw[za s1];rfl⟩).imp fun W H Q q=>?_)
 obtain⟨C,U,s,d,s',E,R,hm,q⟩:=q
 obtain⟨x,h,e1,J⟩:=aa0 hm
 obtain⟨y,t2,e2,a0⟩:=aa0 J
 clear hm J
 obtain⟨r,b,l,m,rfl,rfl,B,eb,ne,a1,rfl,rfl⟩:=bd8 a0
 refine⟨C,U,s,_,h,E,R,e1,fun v1 C1 H1 g1 l1 b1 r1 R1=>?_⟩
 have hlt:r<h.length:=by unfold kY at b1;exact of_decide_eq_true b1
 obtain⟨o1,f1⟩:∃ o1,h[r]?=some o1:=⟨h[r],ag hlt⟩
 obtain⟨o2,f2,k2⟩:=mz G.fk k U h _ _ e2 r _ f1
 rw[B]at f2;cases f2
 refine⟨C1 r,r1.refE,aS9 R1 f1 k2.symm,C1,U,h,_,_,E.mono g1 l1,R1,e2,fun v2 C2 H2 g2 l2 b2 r2 R2=>?_⟩
 obtain⟨kvs,c1,c2⟩:=R2.obj r _ B
 obtain⟨more,d1,d2⟩:=R2.obj b _ eb
 have hr2:C2 r=C1 r:=g2.w.map r hlt
 have hq:=q.trans (g1.trans g2 l1) (aj l1 l2)
 have hb:=aA5 (R2.wf _ _ B) (R2.wf _ _ eb)
 have Z:kS t2.length ((lU l m).map (·.2))=true:=by
  unfold kU at hb
  rw[ai]at hb
  exact hb.2
 obtain⟨g,R'⟩:=R2.set (o:=.dic (lU l m)) (u:=.dK (ad0 kvs more)) B rfl hb fun H' g e=>⟨_,e,RVD.monoW g _ _ Z (c2.merge d2)⟩
 refine⟨C2 b,kvs,more,r2.refE,fun z=>ne (R2.inj r b _ _ B eb rfl rfl (by rw[hr2];exact z)),by rw[<-hr2];exact c1,d1,by rw[c2.length,d2.length];exact aj a1 zB,?_⟩
 rw[<-hr2]
 exact hq .non C2 _ g (by simp) rfl RV.nonI R'
theorem aO1 {x d:kR}{s s':kQ}(h:m9 x s=.ok d s'):∃ r l is,x=.ref r/\s[r]?=some (.dic l)/\lx (l.map (·.1))=some is/\is.length<128/\d=.ref s.length/\s'=s++[.lst ((mH is).map DV.D.int)]:=by
 unfold m9 at h
 split at h
 .split at h
  .rename_i l z
   split at h
   .rename_i is y
    split at h
    .cases h;exact⟨_,l,is,rfl,z,y,‹_›,rfl,rfl⟩
    .exact fb h
   .exact fb h
  .exact fb h
 .exact fb h
theorem at2 {C:Nat->Addr}{H:Hp}:∀ {l:List (kR×kR)} {is:List Int} {kvs:List (Key×V)},lx (l.map (·.1))=some is->RVD qv Γ C H l kvs->kvs.map (·.1)=is.map Sum.inl
 | [],is,kvs,h,g=>by
  have g:kvs=[]:=g
  subst g;cases h;rfl
 | (d,e)::l,is,_,h,g=>by
  obtain⟨k,v,r,rfl,e2,B,y⟩:=g
  cases d with
  | int i =>
   obtain⟨z,q,rfl⟩:=eA.mp (show(lx (l.map (·.1))).map (i::·)=some is from h)
   cases e2
   rw[aU,aU,at2 q y]
  | _=>cases h
theorem aU7 {m:kT->kQ->kW kR}{a:Expr}{p pos:Pos}(G:CG Γ F n X ck)(hg:ck.gl "sorted"=true)(hs:shp a=true)(h:PE X a (TEv Γ m)) :
  PE X (.Call (.Name "sorted" p) [a] [] pos) (TEv Γ (fun U s=>(m U s).bind fun x s=>m9 x s)):=by
 obtain⟨g1,g2,g3⟩:=G.gl hg
 refine(ad1 (at5 G.calm) g1 (G.bi _ (by decide)) (by decide +kernel) (zI h ac0 (za hs)) g3 g2 (za hs) rfl).imp fun W H Q q=>?_
 obtain⟨C,U,s,d,s',E,R,hm,q⟩:=q
 obtain⟨x,s1,e1,z⟩:=aa0 hm
 obtain⟨r,l,is,rfl,B,ei,y,rfl,rfl⟩:=aO1 z
 refine⟨C,U,s,_,_,E,R,e1,fun v C1 H1 g1 l1 b1 r1 R1=>?_⟩
 obtain⟨kvs,c1,Z⟩:=R1.obj r _ B
 refine⟨C1 r,kvs,is,by rw[r1.refE],c1,at2 ei Z,y,fun p ms hp pm J=>?_⟩
 rw[ai8 (pm.trans (ae8 is).symm) J (qh is)]
 exact(q.trans g1 l1).alloc R1 (ag4 _) (ae4 _) hp
end
section
variable {Γ:Gm} {F:k8} {n:Nat}
theorem bM5 {X:Cx}{c:DV.Cn}{v:Const}{k:Nat}{pos:Pos}(h:mC c v=true):EvT Γ X (.Constant v k pos) (kX F (.cst c)):=by
 refine .val ?_
 unfold mC at h
 split at h
 .exact bC2.imp fun W H Q q=>au1 (c:=.non) (fun _=>rfl) (fun _ _=>RV.nonI) (TEv.eq (fun U s=>rfl) q)
 .rename_i b c
  have e:=eq_of_beq h
  subst e
  exact bT4.imp fun W H Q q=>au1 (c:=.bl b) (fun _=>rfl) (fun _ _=>RV.blI) (TEv.eq (fun U s=>rfl) q)
 .rename_i i j
  have e:=of_decide_eq_true h
  subst e
  exact bz5.imp fun W H Q q=>au1 (c:=.int i) (fun _=>rfl) (fun _ _=>RV.intI) (TEv.eq (fun U s=>rfl) q)
 .rename_i x y
  rw[ai]at h
  have e:=of_decide_eq_true h.1
  have e2:=of_decide_eq_true h.2
  subst e
  exact bH5.imp fun W H Q q=>au1 (c:=.str x) (fun _=>rfl) (fun _ _=>RV.strI (by unfold kZ;lia)) (TEv.eq (fun U s=>rfl) q)
 .cases h
theorem bs6 {X:Cx}{G:Ck}{es:lv}{y:yK}{pos:Pos}(m:mEs G es y=true)(hz:y.length<=1000)(h:PA X y (TAv Γ (lw F es))):PE X (.List y pos) (TFv Γ (DV.evL F (.disp es))):=by
 refine(bi7 h).imp fun W H Q q=>?_
 obtain⟨C,U,s,l,s',E,R,hm,q⟩:=q
 refine⟨C,U,s,l,s',E,R,hm,fun vs C1 B g1 l1 z r1 R1=>⟨by rw[r1.length,an6 hm m];exact aL8 hz,fun p hp=>?_⟩⟩
 obtain⟨g2,R2⟩:=R1.same (H':=upd B p (.lst vs)) ((ae3.refl B).new hp)
 refine q p vs C1 _ (g1.trans g2 l1) l1 z zp ?_ (Off.new R1 hp) (RVL.mono g2 _ _ z r1) R2
 cases e:H p with
 | none=>rfl
 | some o=>exact absurd hp (g1.st p (by rw[e];simp))
theorem CompF.eq {X:Cx}{m m':kT->kQ->kW (List kR)}{E:Expr}(c:CompF Γ X m E)(e:∀ U s,m' U s=m U s):CompF Γ X m' E:=by
 have:m'=m:=funext fun U=>funext fun s=>e U s
 subst this;exact c
theorem zc {a b:Bool}(h:(a&&b)=true):a=true/\b=true:=by rw[ai]at h;exact h
theorem bu3 {X:Cx}{y:Ck}{g:String}{p:Pos}(G:CG Γ F n X y)(h:y.gl (g:Str)=true):EvT Γ X (.Name (g:Str) p) (kX F (.glob g)):=by
 refine .val ?_
 obtain⟨g1,g2,g3⟩:=G.gl h
 cases e:F.con g with
 | none =>
  intro z s W H Q I q
  obtain⟨C,U,s,d,s',E,R,hm,q⟩:=q
  have hm:(match F.con g with|some d=>DV.R.ok d s|none=>.bad)=.ok d s':=hm
  rw[e]at hm
  cases hm
 | some d =>
  obtain⟨v,u,h1,B,Z,J⟩:=G.con g d e
  exact(bq9 g1 h1 B g2).imp fun W H Q q=>au1 (c:=d) Z J (TEv.eq (fun U s=>by show(match F.con g with|some d=>DV.R.ok d s|none=>.bad)=DV.R.ok d s;rw[e]) q)
theorem bL1 {X:Cx}{y:Ck}{i:Nat}{x:Str}{p:Pos}(G:CG Γ F n X y)(h:y.var i x=true):EvT Γ X (.Name x p) (kX F (.var i)):=by
 refine .val ?_
 unfold Ck.var at h
 obtain⟨h,B⟩:=zc h
 obtain⟨h,J⟩:=zc h
 obtain⟨Z,z⟩:=zc h
 have e1:(x==("__debug__":Str))=false:=by simpa using J
 have e2:(x==("__classdict__":Str))=false:=by simpa using B
 exact(bz7 (by rw[G.N];exact of_decide_eq_true Z) (G.vis z) e1 e2).imp fun W H Q q=>by1 i (TEv.eq (fun U s=>rfl) q)
theorem aB4 {X:Cx}{E:Expr}{m:kT->kQ->kW kR}(h:∀ U s,m U s=.bad):EvT Γ X E m:=by
 refine⟨fun y s W H Q I q=>?_,fun y s W H Q I q=>?_⟩
 .obtain⟨C,U,s,d,s',E,R,hm,q⟩:=q
  rw[h]at hm;exact fb hm
 .obtain⟨C,U,s,d,s',E,R,hm,q⟩:=q
  rw[h]at hm;exact fb hm
inductive LK (Γ:Gm)(X:Cx)(m:kT->kQ->kW (List kR))(E:Expr)(k:Nat):Prop where
 | c (h:CompF Γ X m E):LK Γ X m E k
 | f (hk:1<=k) (h:PE X E (TFv Γ m)):LK Γ X m E k
 | s (hk:k=2) (h:PE X E (TLv Γ m)):LK Γ X m E k
theorem bK7 {X:Cx}{m:kT->kQ->kW (List kR)}{E:Expr}(h:LK Γ X m E 0):CompF Γ X m E:=by
 cases h with
 | c h=>exact h
 | f hk h=>lia
 | s hk h=>lia
theorem bU3 {X:Cx}{y:Ck}{m:kT->kQ->kW (List kR)}{E:Expr}(G:CG Γ F n X y)(h:LK Γ X m E 1):PE X E (TFv Γ m):=by
 cases h with
 | c h=>exact h.pe G.calm
 | f hk h=>exact h
 | s hk h=>lia
theorem bQ2 {X:Cx}{y:Ck}{m:kT->kQ->kW (List kR)}{E:Expr}(G:CG Γ F n X y)(h:LK Γ X m E 2):PE X E (TLv Γ m):=by
 cases h with
 | c h=>exact(h.pe G.calm).imp fun W H Q q=>aA6 q
 | f hk h=>exact h.imp fun W H Q q=>aA6 q
 | s hk h=>exact h
theorem biOk_inv {z:Ck}{b:lF}{x:Str}{B:yK}{es:lv}(h:bO7 z b x B (mEs z es B) (mEs z es (B.take 1))=true) :
  (∃ k t a y G,biK b=some (k,t)/\B=[a,.Name y G]/\x=("isinstance":Str)/\y=t/\z.gl x=true/\z.gl y=true/\mEs z es [a]=true)\/∃ a ys,B=a::ys/\biT b=some x/\z.gl x=true/\mEs z es (a::ys)=true:=by
 unfold bO7 at h
 cases hk:biK b with
 | none =>
  rw[hk]at h
  cases B with
  | nil=>exact ff h
  | cons a ys =>
   obtain⟨h,Z⟩:=zc h
   obtain⟨h1,J⟩:=zc h
   exact .inr ⟨a,ys,rfl,of_decide_eq_true h1,J,Z⟩
 | some p =>
  rw[hk]at h
  cases B with
  | nil=>exact ff h
  | cons a ys=>cases ys with
   | nil=>exact ff h
   | cons b ys=>cases b with
    | Name y G=>cases ys with
     | nil =>
      obtain⟨h,h5⟩:=zc h
      obtain⟨h,h4⟩:=zc h
      obtain⟨h,Z⟩:=zc h
      obtain⟨h1,J⟩:=zc h
      exact .inl ⟨p.1,p.2,a,y,G,rfl,rfl,of_decide_eq_true h1,of_decide_eq_true Z,J,h4,h5⟩
     | cons _ _=>exact ff h
    | _=>exact ff h
mutual
theorem sE:∀(e:lL) (E:Expr) (X:Cx) (z:Ck),CG Γ F n X z->mE z e E=true->EvT Γ X E (kX F e)
 | .var i,E,X,z,G,h=>by
  cases E with
  | Name x p =>
   exact bL1 G h
  | _=>exact ff h
 | .cst c,E,X,z,G,h=>by
  cases E with
  | Constant v k p =>
   exact bM5 h
  | _=>exact ff h
 | .glob g,E,X,z,G,h=>by
  cases E with
  | Name x p =>
   obtain⟨J,B⟩:=zc h
   have e:=of_decide_eq_true J
   subst e
   exact bu3 G B
  | _=>exact ff h
 | .bin op a b,E,X,z,G,h=>by
  cases E with
  | BinOp l o r pE =>
   obtain⟨h,Z⟩:=zc h
   obtain⟨J,B⟩:=zc h
   have e:=of_decide_eq_true J
   subst e
   exact bu6 G op (sE a _ X z G B) (sE b _ X z G Z)
  | _=>exact ff h
 | .not a,E,X,z,G,h=>by
  cases E with
  | UnaryOp o l p =>
   cases o with
   | Not =>
    exact bo8 (sE a _ X z G h)
   | _=>exact ff h
  | _=>exact ff h
 | .cmp op a b,E,X,z,G,h=>by
  cases E with
  | Compare l os rs pE =>
   cases os with
   | cons o os_0 =>
    cases os_0 with
    | nil =>
     cases rs with
     | cons r rs_0 =>
      cases rs_0 with
      | nil =>
       obtain⟨h,Z⟩:=zc h
       obtain⟨J,B⟩:=zc h
       have e:=of_decide_eq_true J
       subst e
       exact bp7 G op (az9 Z) (sE a _ X z G B) (sE b _ X z G Z)
      | _=>exact ff h
     | _=>exact ff h
    | _=>exact ff h
   | _=>exact ff h
  | _=>exact ff h
 | .and a b,E,X,z,G,h=>by
  cases E with
  | BoolOp op vs p=>cases op with
   | And =>
    cases vs with
    | nil=>exact ff h
    | cons l vs=>cases vs with
     | nil=>exact ff h
     | cons r vs=>cases vs with
      | nil =>
       obtain⟨J,B⟩:=zc h
       exact bw7 (sE a _ X z G J) (sE b _ X z G B)
      | cons r2 vs =>
       obtain⟨J,B⟩:=zc h
       exact bt5 (sE a _ X z G J) (sE b _ X z G B)
   | _=>exact ff h
  | _=>exact ff h
 | .or a b,E,X,z,G,h=>by
  cases E with
  | BoolOp op vs p=>cases op with
   | Or =>
    cases vs with
    | nil=>exact ff h
    | cons l vs=>cases vs with
     | nil=>exact ff h
     | cons r vs=>cases vs with
      | nil =>
       obtain⟨J,B⟩:=zc h
       exact bG0 (sE a _ X z G J) (sE b _ X z G B)
      | cons r2 vs =>
       obtain⟨J,B⟩:=zc h
       exact bJ0 (sE a _ X z G J) (sE b _ X z G B)
   | _=>exact ff h
  | _=>exact ff h
 | .ite c a b,E,X,z,G,h=>by
  cases E with
  | IfExp tE l r pE =>
   obtain⟨h,Z⟩:=zc h
   obtain⟨J,B⟩:=zc h
   exact bj9 (sE c _ X z G J) (sE a _ X z G B) (sE b _ X z G Z)
  | _=>exact ff h
 | .tup es,E,X,z,G,h=>by
  cases E with
  | Tuple xs k p =>
   obtain⟨J,B⟩:=zc h
   exact bu7 J (of_decide_eq_true B) (al6 (sEs es _ X z G J))
  | _=>exact ff h
 | .lst es,E,X,z,G,h=>by
  cases E with
  | List xs p =>
   obtain⟨J,B⟩:=zc h
   exact bs2 J (of_decide_eq_true B) (al6 (sEs es _ X z G J))
  | _=>exact ff h
 | .dic .nil .nil,E,X,z,G,h=>by
  cases E with
  | Dict a b p=>cases a with
   | nil=>cases b with
    | nil=>exact .val (bf5.imp fun W H Q q=>bH2 (TEv.eq (fun U s=>rfl) q))
    | _=>exact ff h
   | cons x a=>cases x with
    | none=>exact ff h
    | some x=>cases a with
     | nil=>cases b with
      | nil=>exact ff h
      | cons y b=>cases b with
       | nil=>exact ff h
       | _=>exact ff h
     | _=>exact ff h
  | _=>exact ff h
 | .dic (.cons k .nil) (.cons v .nil),E,X,z,G,h=>by
  cases E with
  | Dict a b p=>cases a with
   | nil=>cases b with
    | nil=>exact ff h
    | _=>exact ff h
   | cons x a=>cases x with
    | none=>exact ff h
    | some x=>cases a with
     | nil=>cases b with
      | nil=>exact ff h
      | cons y b=>cases b with
       | nil =>
        obtain⟨J,B⟩:=zc h
        obtain⟨J,_⟩:=zc J
        obtain⟨J,_⟩:=zc J
        obtain⟨B,_⟩:=zc B
        obtain⟨B,_⟩:=zc B
        exact .val ((bk4 (aY5 (sE k _ X z G J).1 (sE v _ X z G B).1 bj8) rfl rfl (by nofun) (by show 1<=15;decide)).imp fun W H Q q=>bG3 (TEv.eq (fun U s=>rfl) q))
       | _=>exact ff h
     | _=>exact ff h
  | _=>exact ff h
 | .dic .nil (.cons _ _),E,X,z,G,h=>aB4 fun _ _=>rfl
 | .dic (.cons _ .nil) .nil,E,X,z,G,h=>aB4 fun _ _=>rfl
 | .dic (.cons _ .nil) (.cons _ (.cons _ _)),E,X,z,G,h=>aB4 fun _ _=>rfl
 | .dic (.cons _ (.cons _ _)) _,E,X,z,G,h=>aB4 fun _ _=>rfl
 | .attr o f,E,X,z,G,h=>by
  cases E with
  | Attribute ob x p =>
   obtain⟨h,Z⟩:=zc h
   obtain⟨J,B⟩:=zc h
   have e:=of_decide_eq_true J
   subst e
   exact .val ((aW2 G B (sE o _ X z G Z).1).imp fun W H Q q=>TEv.eq (fun U s=>rfl) q)
  | _=>exact ff h
 | .new c as,E,X,z,G,h=>by
  cases E with
  | Call fE xs kw p =>
   cases fE with
   | Name x pN =>
    cases kw with
    | nil =>
     obtain⟨h,Z⟩:=zc h
     obtain⟨J,B⟩:=zc h
     have e:=of_decide_eq_true J
     subst e
     exact bs4 G B Z (sAs as _ X z G Z)
    | _=>exact ff h
   | _=>exact ff h
  | _=>exact ff h
 | .mcall o m as,E,X,z,G,h=>by
  cases E with
  | Call fE xs kw p =>
   cases fE with
   | Attribute ob x ap =>
    cases kw with
    | nil =>
     cases ob with
     | Name y py =>
      obtain⟨h,h5⟩:=zc h
      obtain⟨h,h4⟩:=zc h
      obtain⟨h,Z⟩:=zc h
      obtain⟨J,B⟩:=zc h
      have e:=of_decide_eq_true J
      subst e
      exact aJ0 G (sE o _ X z G B).1 h5 Z (of_decide_eq_true h4) (sAs as _ X z G h5)
     | _=>exact ff h
    | _=>exact ff h
   | _=>exact ff h
  | _=>exact ff h
 | .keysL e,E,X,z,G,h=>by
  cases E with
  | Call fE xs kw p =>
   cases fE with
   | Name x pN =>
    cases xs with
    | cons a ys =>
     cases ys with
     | nil =>
      cases kw with
      | nil =>
       obtain⟨h,h4⟩:=zc h
       obtain⟨h,Z⟩:=zc h
       obtain⟨J,B⟩:=zc h
       have e1:=of_decide_eq_true J
       subst e1
       exact .val ((aK9 G B Z (sE e _ X z G h4).1).imp fun W H Q q=>TEv.eq (fun U s=>rfl) q)
      | _=>exact ff h
     | _=>exact ff h
    | _=>exact ff h
   | _=>exact ff h
  | _=>exact ff h
 | .srt e,E,X,z,G,h=>by
  cases E with
  | Call fE xs kw p =>
   cases fE with
   | Name x pN =>
    cases xs with
    | cons a ys =>
     cases ys with
     | nil =>
      cases kw with
      | nil =>
       obtain⟨h,h4⟩:=zc h
       obtain⟨h,Z⟩:=zc h
       obtain⟨J,B⟩:=zc h
       have e1:=of_decide_eq_true J
       subst e1
       exact .val ((bo4 G B Z (sE e _ X z G h4).1).imp fun W H Q q=>TEv.eq (fun U s=>rfl) q)
      | _=>exact ff h
     | _=>exact ff h
    | _=>exact ff h
   | _=>exact ff h
  | _=>exact ff h
 | .get1 o k,E,X,z,G,h=>by
  cases E with
  | Call fE xs kw cp =>
   cases fE with
   | Attribute ob x ap =>
    cases xs with
    | cons a xs_0 =>
     cases xs_0 with
     | nil =>
      cases kw with
      | nil =>
       obtain⟨h,h7⟩:=zc h
       obtain⟨h,h5⟩:=zc h
       obtain⟨h,h4⟩:=zc h
       obtain⟨h,Z⟩:=zc h
       obtain⟨J,B⟩:=zc h
       have e:=of_decide_eq_true J
       subst e
       exact aV7 G B Z h7 (sE o _ X z G h4).1 (sE k _ X z G h5).1
      | _=>exact ff h
     | _=>exact ff h
    | _=>exact ff h
   | _=>exact ff h
  | _=>exact ff h
 | .gtd o k d,E,X,z,G,h=>by
  cases E with
  | Call fE xs kw cp =>
   cases fE with
   | Attribute ob x ap =>
    cases xs with
    | cons a xs_0 =>
     cases xs_0 with
     | cons b xs_1 =>
      cases xs_1 with
      | nil =>
       cases kw with
       | nil =>
        obtain⟨h,h8⟩:=zc h
        obtain⟨h,h7⟩:=zc h
        obtain⟨h,h6⟩:=zc h
        obtain⟨h,h5⟩:=zc h
        obtain⟨h,h4⟩:=zc h
        obtain⟨h,Z⟩:=zc h
        obtain⟨J,B⟩:=zc h
        have e:=of_decide_eq_true J
        subst e
        exact bl2 G B Z h7 h8 (sE o _ X z G h4).1 (sE k _ X z G h5).1 (sE d _ X z G h6).1
       | _=>exact ff h
      | _=>exact ff h
     | _=>exact ff h
    | _=>exact ff h
   | _=>exact ff h
  | _=>exact ff h
 | .sdf o k d,E,X,z,G,h=>by
  cases E with
  | Call fE xs kw cp =>
   cases fE with
   | Attribute ob x ap =>
    cases xs with
    | cons a xs_0 =>
     cases xs_0 with
     | cons b xs_1 =>
      cases xs_1 with
      | nil =>
       cases kw with
       | nil =>
        obtain⟨h,h8⟩:=zc h
        obtain⟨h,h7⟩:=zc h
        obtain⟨h,h6⟩:=zc h
        obtain⟨h,h5⟩:=zc h
        obtain⟨h,h4⟩:=zc h
        obtain⟨h,Z⟩:=zc h
        obtain⟨J,B⟩:=zc h
        have e:=of_decide_eq_true J
        subst e
        exact br0 G B Z h7 h8 (sE o _ X z G h4).1 (sE k _ X z G h5).1 (sE d _ X z G h6).1
       | _=>exact ff h
      | _=>exact ff h
     | _=>exact ff h
    | _=>exact ff h
   | _=>exact ff h
  | _=>exact ff h
 | .upd o k,E,X,z,G,h=>by
  cases E with
  | Call fE xs kw cp =>
   cases fE with
   | Attribute ob x ap =>
    cases xs with
    | cons a xs_0 =>
     cases xs_0 with
     | nil =>
      cases kw with
      | nil =>
       obtain⟨h,h7⟩:=zc h
       obtain⟨h,h5⟩:=zc h
       obtain⟨h,h4⟩:=zc h
       obtain⟨h,Z⟩:=zc h
       obtain⟨J,B⟩:=zc h
       have e:=of_decide_eq_true J
       subst e
       exact bv5 G B Z h7 (sE o _ X z G h4).1 (sE k _ X z G h5).1
      | _=>exact ff h
     | _=>exact ff h
    | _=>exact ff h
   | _=>exact ff h
  | _=>exact ff h
 | .srtD e,E,X,z,G,h=>by
  cases E with
  | Call fE xs kw p =>
   cases fE with
   | Name x pN =>
    cases xs with
    | cons a ys =>
     cases ys with
     | nil =>
      cases kw with
      | nil =>
       obtain⟨h,h4⟩:=zc h
       obtain⟨h,Z⟩:=zc h
       obtain⟨J,B⟩:=zc h
       have e1:=of_decide_eq_true J
       subst e1
       exact .val ((aU7 G B Z (sE e _ X z G h4).1).imp fun W H Q q=>TEv.eq (fun U s=>rfl) q)
      | _=>exact ff h
     | _=>exact ff h
    | _=>exact ff h
   | _=>exact ff h
  | _=>exact ff h
 | .ix a b,E,X,z,G,h=>by
  cases E with
  | Subscript o i p =>
   obtain⟨J,B⟩:=zc h
   exact bz6 G (az9 B) (sE a _ X z G J) (sE b _ X z G B)
  | _=>exact ff h
 | .call f as,E,X,z,G,h=>by
  cases E with
  | Call fE xs kw p =>
   cases fE with
   | Name x pN =>
    cases kw with
    | nil =>
     obtain⟨h,Z⟩:=zc h
     obtain⟨J,B⟩:=zc h
     have e:=of_decide_eq_true J
     subst e
     exact aX4 G B Z (sAs as _ X z G Z)
    | _=>exact ff h
   | _=>exact ff h
  | _=>exact ff h
 | .bi b es,E,X,z,G,h=>by
  cases E with
  | Call fE xs kw p =>
   cases fE with
   | Name x pN =>
    cases kw with
    | nil =>
     have h:bO7 z b x xs (mEs z es xs) (mEs z es (xs.take 1))=true:=h
     rcases biOk_inv h with⟨k,t,a,y,py,hk,rfl,rfl,rfl,B,h4,h5⟩|⟨a,ys,rfl,J,B,Z⟩
     .exact bu2 G hk B h4 (sEs es _ X z G h5)
     .exact bI9 G J B Z (al6 (sEs es _ X z G Z))
    | _=>exact ff h
   | _=>exact ff h
  | _=>exact ff h
 | .mk k l,E,X,z,G,h=>by
  cases E with
  | ListComp e gs sc p =>
   obtain⟨J,B⟩:=zc h
   have e:=of_decide_eq_true J
   subst e
   exact .val (((bK7 (sL l _ X z G 0 B)).pe G.calm).imp fun W H Q q=>aO9 (TEv.eq (fun U s=>rfl) q))
  | Call fE xs kw p =>
   cases fE with
   | Name x pN =>
    cases xs with
    | cons a xs_0 =>
     cases xs_0 with
     | nil =>
      cases kw with
      | nil =>
       obtain⟨h,h4⟩:=zc h
       obtain⟨B,Z⟩:=zc h
       rw[bR]at h4
       rcases h4 with h4|h4
       .obtain⟨h5,h6⟩:=zc h4
        exact .val ((bB9 G (of_decide_eq_true h5) B Z (bQ2 G (sL l _ X z G 2 h6))).imp fun W H Q q=>TEv.eq (fun U s=>rfl) q)
       .obtain⟨h5,h6⟩:=zc h4
        exact .val ((bG9 G (of_decide_eq_true h5) B Z (bU3 G (sL l _ X z G 1 h6))).imp fun W H Q q=>TEv.eq (fun U s=>rfl) q)
      | _=>exact ff h
     | _=>exact ff h
    | _=>exact ff h
   | _=>exact ff h
  | _=>exact ff h
 | .meth m o es,E,X,z,G,h=>by
  cases E with
  | Call fE xs kw p =>
   cases fE with
   | Attribute ob x ap =>
    cases kw with
    | nil =>
     obtain⟨h,h5⟩:=zc h
     obtain⟨h,h4⟩:=zc h
     obtain⟨h,Z⟩:=zc h
     obtain⟨J,B⟩:=zc h
     exact bf6 G (of_decide_eq_true J) B Z (sE o _ X z G h4).1 h5 (sEs es _ X z G h5)
    | _=>exact ff h
   | _=>exact ff h
  | _=>exact ff h
theorem sEs:∀(es:lv) (y:yK) (X:Cx) (z:Ck),CG Γ F n X z->mEs z es y=true->PEs Γ F X es y
 | .nil,y,X,z,G,h=>by
  cases y with
  | nil =>
   exact trivial
  | _=>exact ff h
 | .cons e es,y,X,z,G,h=>by
  cases y with
  | cons x y =>
   obtain⟨h,J⟩:=zc h
   obtain⟨Z,B⟩:=zc h
   exact⟨⟨B,sE e _ X z G Z⟩,sEs es _ X z G J⟩
  | _=>exact ff h
theorem sFs:∀(es:lv) (z:yK) (X:Cx) (y:Ck),CG Γ F n X y->mFs y es z=true->PF Γ X z (lw F es)
 | .nil,z,X,y,G,h=>by
  cases z with
  | nil=>exact(bF3).eq fun _ _=>rfl
  | _=>exact ff h
 | .cons e es,z,X,y,G,h=>by
  cases z with
  | cons x z =>
   cases x with
   | FormattedValue v c sp p =>
    cases sp with
    | none =>
     obtain⟨h,Z⟩:=zc h
     obtain⟨J,B⟩:=zc h
     have e1:=of_decide_eq_true J
     subst e1
     exact(bL8 (sE e _ X y G B).1 (sFs es _ X y G Z)).eq fun _ _=>rfl
    | _=>exact ff h
   | Constant v j p =>
    obtain⟨J,B⟩:=zc h
    exact(bI2 (sE e _ X y G J).1 (sFs es _ X y G B)).eq fun _ _=>rfl
   | _=>exact ff h
  | _=>exact ff h
theorem sAs:∀(es:lO) (y:yK) (X:Cx) (z:Ck),CG Γ F n X z->mAs z es y=true->PA X y (TAv Γ (lD F es))
 | .nil,y,X,z,G,h=>by
  cases y with
  | nil =>
   exact ac0.imp fun W H Q q=>am2 (TAv.eq (fun U s=>rfl) q)
  | _=>exact ff h
 | .ex e es,y,X,z,G,h=>by
  cases y with
  | cons x y =>
   obtain⟨h,J⟩:=zc h
   obtain⟨Z,B⟩:=zc h
   exact(aD3 B (sE e _ X z G Z).1 (sAs es _ X z G J)).imp fun W H Q q=>TAv.eq (fun U s=>rfl) q
  | _=>exact ff h
 | .fn _ _,y,X,z,G,h=>ff h
theorem bY8:∀(es:lO) (y:yK) (X:Cx) (z:Ck),CG Γ F n X z->bW6 z es y=true->PA X y (TAp Γ X.env.cells X.N (lD F es))
 | .nil,y,X,z,G,h=>by
  cases y with
  | nil =>
   exact ac0.imp fun W H Q q=>bk8 (TAp.eq (fun U s=>rfl) q)
  | _=>exact ff h
 | .ex e es,y,X,z,G,h=>by
  cases y with
  | cons x y =>
   obtain⟨h,J⟩:=zc h
   obtain⟨Z,B⟩:=zc h
   exact(zI (sE e _ X z G Z).1 (bY8 es _ X z G J) (za B)).imp fun W H Q q=>bF7 (TAp.eq (fun U s=>rfl) q)
  | _=>exact ff h
 | .fn _ _,y,X,z,G,h=>ff h
theorem sI:∀(i:DV.I) (E tg:Expr) (X:Cx) (y:Ck),CG Γ F n X y->mI y tg i E=true->PI X tg E (TIv Γ (mW F i))
 | .seq e,E,tg,X,y,G,h=>by
  obtain⟨z,B⟩:=zc h
  exact bs9 G (sE e _ X y G z).1
 | .keys e,E,tg,X,y,G,h=>by
  obtain⟨z,B⟩:=zc h
  exact(bl4 (sE e _ X y G z).1).imp fun W H R q=>bn6 (TIv.eq (fun U s=>rfl) q)
 | .rng1 a,E,tg,X,y,G,h=>by
  cases E with
  | Call fE xs kw p =>
   cases fE with
   | Name x pN =>
    cases xs with
    | cons l xs_0 =>
     cases xs_0 with
     | nil =>
      cases kw with
      | nil =>
       obtain⟨h,J⟩:=zc h
       obtain⟨h,Z⟩:=zc h
       obtain⟨z,B⟩:=zc h
       have e:=of_decide_eq_true z
       subst e
       exact bf3 G B J (sE a _ X y G Z).1
      | _=>exact ff h
     | _=>exact ff h
    | _=>exact ff h
   | _=>exact ff h
  | _=>exact ff h
theorem sL:∀(l:DV.L) (E:Expr) (X:Cx) (B:Ck),CG Γ F n X B->∀ k,mL B k l E=true->LK Γ X (DV.evL F l) E k
 | .comp tg it e caps,E,X,B,G,k,h=>by
  cases E with
  | ListComp elt gs scope p =>
   cases gs with
   | cons g gs1 =>
    cases g with
    | mk tgt iter ifs z =>
     cases ifs with
     | nil =>
      cases gs1 with
      | nil =>
       obtain⟨h,h3⟩:=zc h
       obtain⟨h,J⟩:=zc h
       obtain⟨h0,y⟩:=zc h
       have Z:=of_decide_eq_true h0
       subst Z
       have c:=be2 (pos:=p) G y (sI it _ _ X B G J) fun Cc cells s H ex=>(sE e _ _ _ ((G.comp y).2.2 Cc cells s H ex).1 h3).1
       exact .c (c.eq fun U s=>rfl)
      | _=>exact ff h
     | _=>exact ff h
   | _=>exact ff h
  | _=>exact ff h
 | .compIf tg it i e caps,E,X,B,G,k,h=>by
  cases E with
  | ListComp elt gs scope p =>
   cases gs with
   | cons g gs1 =>
    cases g with
    | mk tgt iter ifs z =>
     cases ifs with
     | cons i1 ifs1 =>
      cases ifs1 with
      | nil =>
       cases gs1 with
       | nil =>
        obtain⟨h,h4⟩:=zc h
        obtain⟨h,h3⟩:=zc h
        obtain⟨h,J⟩:=zc h
        obtain⟨h0,y⟩:=zc h
        have Z:=of_decide_eq_true h0
        subst Z
        have c:=bu4 (pos:=p) G y (sI it _ _ X B G J) (fun Cc cells s H ex=>(sE i _ _ _ ((G.comp y).2.2 Cc cells s H ex).1 h3).2) fun Cc cells s H ex=>(sE e _ _ _ ((G.comp y).2.2 Cc cells s H ex).1 h4).1
        exact .c (c.eq fun U s=>rfl)
       | _=>exact ff h
      | _=>exact ff h
     | _=>exact ff h
   | _=>exact ff h
  | _=>exact ff h
 | .disp es,E,X,B,G,k,h=>by
  cases E with
  | List xs p =>
   obtain⟨h,J⟩:=zc h
   obtain⟨h0,y⟩:=zc h
   exact .f (of_decide_eq_true h0) (bs6 y (of_decide_eq_true J) (al6 (sEs es _ X B G y)))
  | _=>exact ff h
 | .seq e,E,X,B,G,k,h=>by
  obtain⟨h0,y⟩:=zc h
  exact .s (of_decide_eq_true h0) ((sE e _ X B G y).1.imp fun W H Q q=>bC8 (TLv.eq (fun U s=>rfl) q))
end
end
section
variable {Γ:Gm} {F:k8} {n:Nat}
theorem aW5 {X:Cx}{ck:Ck}{m:kT->kQ->kW (List kR)}{E:Expr}{x:Str}{i:Nat}{px pos:Pos}(G:CG Γ F n X ck)(c:CompF Γ X m E)(hi:ck.N[i]?=some x)(hl:ck.loc x=true) :
  PS X (.Assign [.Name x px] E pos) (bc1 (TFv Γ m) (at3 i)):=by
 obtain⟨J,z,iter,Z,scope,p2,N',h,wi,g,tc,te,rfl,h1,h2,h3,h4,h5⟩:=c.ex
 obtain⟨l1,l2⟩:=G.loc hl
 have nd:X.N.Nodup:=by rw[G.N];exact G.nd
 have hi':X.N[i]?=some x:=by rw[G.N];exact hi
 generalize hb:((X.env.blockKind==.function&&X.env.kindOf x==some .local&&px.line==(Expr.ListComp J [⟨z,iter,Z,0⟩] scope p2).pos.line&&!(scope.names.any fun(n,k)=>n==x&&(k==.local||k==.cell))))=b
 have y:eM (.ListComp J [⟨z,iter,Z,0⟩] scope p2) (some (.Name x px)) pos.line X.env=pure b:=by rw[<-hb];rfl
 have imp:∀ D W H,bc1 (TFv Γ m) (at3 i) D W H->bc1 (tComp h wi g tc te) (at3 i) D W H:=fun D W H q=>h5 _ _ _ q
 cases b with
 | true =>
  have B:X.env.scope.names.lookup x=some .local:=by
   simp only[ai]at hb
   exact eq_of_beq hb.1.1.2
  exact(aG0 N' h nd hi' B h1 h2 G.calm h3 h4 y).imp imp
 | false=>exact(bh6 nd hi' l1 (aR3 N' h h1 h2 G.calm h3 h4) y l2).imp imp
theorem bt2 {X:Cx}{y:Ck}{e:lL}{v:Expr}{x:Str}{i:Nat}{px pos:Pos}(G:CG Γ F n X y)(B:y.N[i]?=some x)(z:y.loc x=true)(h:mE y e v=true) :
  PS X (.Assign [.Name x px] v pos) (TSv Γ (DV.ex F (.asg (.one i) e))):=by
 obtain⟨l1,Z⟩:=G.loc z
 have nd:X.N.Nodup:=by rw[G.N];exact G.nd
 have hi':X.N[i]?=some x:=by rw[G.N];exact B
 by_cases hc:ai7 v=true
 .exact(bh6 nd hi' l1 (sE e v X y G h).1 (ag3 hc) Z).imp fun D W H q=>aQ5 (tg:=.one i) (TSv.eq (fun U s=>rfl) q)
 .have hs:=az9 h
  cases v with
  | ListComp elt gs sc p =>
   cases e with
   | mk k l =>
    obtain⟨h1,J⟩:=zc h
    have e:=of_decide_eq_true h1
    subst e
    exact(aW5 G (bK7 (sL l _ X y G 0 J)) B z).imp fun D W H q=>ba3 (tg:=.one i) (TSv.eq (fun U s=>rfl) q)
   | _=>exact ff h
  | SetComp _ _ _ _=>cases hs
  | DictComp _ _ _ _ _=>cases hs
  | _=>exact absurd rfl hc
mutual
theorem sS:∀(st:DV.S) (S:Stmt) (X:Cx) (y:Ck),CG Γ F n X y->mS y st S=true->PS X S (TSv Γ (DV.ex F st))
 | .asg tg e,S,X,y,G,h=>by
  cases S with
  | Assign ts v p =>
   cases ts with
   | cons t ts1 =>
    cases ts1 with
    | nil =>
     obtain⟨h,J⟩:=zc h
     obtain⟨B,z⟩:=zc h
     cases tg with
     | one i =>
      have h:=B
      cases t with
      | Name x px =>
       obtain⟨Z,a2⟩:=zc h
       exact bt2 G (of_decide_eq_true Z) a2 z
      | _=>exact ff h
     | tup is =>
      obtain⟨Z,a2⟩:=zc J
      have h:=B
      cases t with
      | Tuple te tk tp=>exact(bi5 (sE e _ X y G z).1 (aY0 G B) (show eM v (some (.Tuple te tk tp)) p.line X.env=pure false from ag3 a2) (aH7 Z) rfl).imp fun D W H q=>aQ5 (TSv.eq (fun U s=>rfl) q)
      | _=>exact ff h
    | _=>exact ff h
   | _=>exact ff h
  | _=>exact ff h
 | .setIx o i e,S,X,y,G,h=>by
  cases S with
  | Assign ts v p2 =>
   cases ts with
   | cons tt ts1 =>
    cases tt with
    | Subscript ob ix p1 =>
     cases ts1 with
     | nil =>
      obtain⟨h,h4⟩:=zc h
      obtain⟨h,J⟩:=zc h
      obtain⟨B,z⟩:=zc h
      have a0:=az9 z
      refine(bi5 (sE e _ X y G J).1 (bK5 (sE o _ X y G B).1 (sE i _ X y G z).1 (bz2 (al0 G.room)) ?_) (show eM v (some (.Subscript ob ix p1)) p2.line X.env=pure false from ag3 h4) aG4 ?_).imp fun D W H q=>bd4 (TSv.eq (fun U s=>rfl) q)
      .intro w
       cases ix<;>first|rfl|cases a0
      .rfl
     | _=>exact ff h
    | _=>exact ff h
   | _=>exact ff h
  | _=>exact ff h
 | .ex e,S,X,y,G,h=>by
  cases S with
  | Expr v p =>
   obtain⟨B,z⟩:=zc h
   exact(bo3 (sE e _ X y G B).1 (ag3 z)).imp fun D W H q=>bn0 (TSv.eq (fun U s=>rfl) q)
  | _=>exact ff h
 | .ret e,S,X,y,G,h=>by
  cases S with
  | Return vo p =>
   cases vo with
   | some v =>
    exact(bI1 (sE e _ X y G h).1).imp fun D W H q=>bE5 (TSv.eq (fun U s=>rfl) q)
   | _=>exact ff h
  | _=>exact ff h
 | .ite c a b,S,X,y,G,h=>by
  cases S with
  | If t l r p =>
   obtain⟨h,J⟩:=zc h
   obtain⟨B,z⟩:=zc h
   exact(bU5 (sE c _ X y G B).2 (sSs a _ X y G z) (sSs b _ X y G J)).imp fun D W H q=>bQ5 (TSv.eq (fun U s=>rfl) q)
  | _=>exact ff h
 | .whl c b,S,X,y,G,h=>by
  cases S with
  | While t l o p =>
   cases o with
   | nil =>
    obtain⟨B,z⟩:=zc h
    exact(aW7 (by rw[G.xe];exact hU) (sE c _ X y G B).2 (sSs b _ X y G z)).imp fun D W H q=>be8 (TSv.eq (fun U s=>rfl) q)
   | _=>exact ff h
  | _=>exact ff h
 | .for_ tg it b,S,X,y,G,h=>by
  cases S with
  | For tgt iter l o p =>
   cases o with
   | nil =>
    obtain⟨h,J⟩:=zc h
    obtain⟨B,z⟩:=zc h
    exact(bg7 (by rw[G.xe];exact hU) G.calm (sI it _ _ X y G z) (aY0 G B) (sSs b _ X y G J) (aq1 (bJ9 z))).imp fun D W H q=>bi6 (TSv.eq (fun U s=>rfl) q)
   | _=>exact ff h
  | _=>exact ff h
 | .setA o f e,S,X,y,G,h=>by
  cases S with
  | Assign ts v p =>
   cases ts with
   | cons t0 ts =>
    cases t0 with
    | Attribute ob x ap =>
     cases ts with
     | nil =>
      obtain⟨h,h4⟩:=zc h
      obtain⟨h,J⟩:=zc h
      obtain⟨B,z⟩:=zc h
      have e1:=of_decide_eq_true B
      subst e1
      exact(bf4 G (sE o _ X y G z).1 (sE e _ X y G J).1 h4).imp fun D W H q=>TSv.eq (fun U s=>rfl) q
     | _=>exact ff h
    | _=>exact ff h
   | _=>exact ff h
  | _=>exact ff h
 | .forK tg e b,S,X,y,G,h=>by
  cases S with
  | For tgt iter l o p =>
   cases o with
   | nil =>
    obtain⟨h,J⟩:=zc h
    obtain⟨B,z⟩:=zc h
    exact(bq5 (bg7 (by rw[G.xe];exact hU) G.calm (sI (.keys e) _ _ X y G z) (aY0 G B) (sSs b _ X y G J) (aq1 (zc z).2))).imp fun D W H q=>bv7 (TSv.eq (fun U s=>rfl) q)
   | _=>exact ff h
  | _=>exact ff h
theorem sSs:∀(st:DV.Ss) (S:yL) (X:Cx) (y:Ck),CG Γ F n X y->mSs y st S=true->PSs X S (TSv Γ (DV.exs F st))
 | .nil,S,X,y,G,h=>by
  cases S with
  | nil =>
   exact bu8.imp fun D W H q=>bt0 (m:=DV.exs F .nil) (fun U s=>rfl) q
  | _=>exact ff h
 | .cons s ss,S,X,y,G,h=>by
  cases S with
  | cons x xs =>
   obtain⟨B,z⟩:=zc h
   exact(aZ7 (sS s _ X y G B) (sSs ss _ X y G z)).imp fun D W H q=>bD0 (TSv.eq (fun U s=>rfl) q)
  | _=>exact ff h
end
end
noncomputable def bW0 (ck:Ck):List String->List Expr->Bool
 | [],xs=>match xs with|[]=>true|_=>false
 | c::cs,xs=>match xs with|.Name x _::es=>decide (x=(c:Str))&&ck.gl x&&bW0 ck cs es|_=>false
noncomputable def mHT (ck:Ck)(n:Str):DV.HT->Expr->Bool
 | .isi cs,E=>match E with|.Call (.Name g _) [.Name x _,.Tuple es _ _] [] _=>decide (g=("isinstance":Str))&&ck.gl g&&decide (x=n)&&bW0 ck cs es&&decide (cs.length<=1000)|_=>false
 | .one c,E=>match E with|.Call (.Name g _) [.Name x _,.Name d _] [] _=>decide (g=("isinstance":Str))&&ck.gl g&&decide (x=n)&&decide (d=(c:Str))&&ck.gl d|_=>false
 | .not t,E=>match E with|.UnaryOp .Not e _=>mHT ck n t e|_=>false
 | .ve,E=>match E with|.Call (.Name g _) [.Name x _,.Name d _] [] _=>decide (g=("isinstance":Str))&&ck.gl g&&decide (x=n)&&decide (d=("ValueError":Str))&&ck.gl d|_=>false
 | .or a b,E=>match E with|.BoolOp .Or [x,y] _=>mHT ck n a x&&mHT ck n b y|_=>false
noncomputable def mHd (ck:Ck)(n:Str):DV.Hd->List Stmt->Bool
 | .ret t,S=>match S with|[.Return (some e) _]=>mHT ck n t e|_=>false
 | .iff t b h,S=>match S with|.If e [.Return (some (.Constant (.bool b') _ _)) _] [] _::rest=>mHT ck n t e&&decide (b'=b)&&mHd ck n h rest|_=>false
 | .nob _,_=>false
 | .noe,_=>false
 | .iffN t h,S=>match S with|.If e [.Return (some (.Constant .none _ _)) _] [] _::rest=>mHT ck n t e&&mHd ck n h rest|_=>false
 | .aoN a b,S=>match S with|[.Return (some (.BoolOp .Or [.BoolOp .And [x,y] _,.Constant .none _ _] _)) _]=>mHT ck n a x&&mHT ck n b y|_=>false
 | .sup _ h,S=>mHd ck n h S
 | .kin _ _,_=>false
section
variable {Γ:Gm} {F:k8} {n:Nat} {X:Cx} {ck:Ck} {a Cc:Addr} {oe:Obj}
end
noncomputable def bP8 (ck:Ck)(nm:Str):List String->List Expr->Bool
 | [],es=>match es with|[]=>true|_=>false
 | c::cs,es=>match es with|e::es=>mHT ck nm (.one c) e&&bP8 ck nm cs es|_=>false
noncomputable def bC0:List (List Nat)->List Expr->Bool
 | [],es=>match es with|[]=>true|_=>false
 | t::ts,es=>match es with|.Constant (.str y) _ _::es=>decide (y=⟨t.toArray⟩)&&bC0 ts es|_=>false
noncomputable def bZ3 (ck:Ck)(nm ks:Str)(e1 e4:Expr)(y1 y5 m4 m5 m6:Str)(es2 es3 es6:yK)(l4 l5 l6:Bool):Bool :=
 (ck.sc.names.lookup nm==some .local)&&((ck.sc.names.lookup ks==some .local)&&(!(nm==("__debug__":Str))&&(!(nm==("__classdict__":Str))&&(!(ks==("__debug__":Str))&&(!(ks==("__classdict__":Str))&&(mHT ck nm (.not .ve) e1&&(decide (y1=⟨DV.an0.toArray⟩)&&(decide (y5=⟨DV.an0.toArray⟩)&&(decide (m4=("append":Str))&&(decide (m5=("count":Str))&&(decide (m6=("index":Str))&&(l4&&(l5&&(l6&&(bP8 ck nm (DV.az0.take 4) es2&&(bP8 ck nm ((DV.az0.drop 4).take 4) es3&&(mHT ck nm (.one "NoName") e4&&bC0 DV.bj6 es6)))))))))))))))))
def bR2 (ck:Ck)(S:yL):Prop:=∃(nm ks:Str) (e1 e4:Expr) (y1 y5 m4 m5 m6:Str) (es2 es3 es6:yK) (j1 j5 i5 k5 j6:Nat) (p1 q1 r1 a2 b2 c2 a3 b3 c3 d3 f3 a4 ap4 cp4 p4 a5 ap5 pj5 cp5 pi5 pc5 pk5 q5 p5 pl6 a6 ap6 pj6 cp6 ps6 p6:Pos),
 S=[.If e1 [.Return (some (.Constant (.str y1) j1 p1)) q1] [] r1,.Assign [.Name ks a2] (.List es2 b2) c2,.Assign [.Name ks a3] (.BinOp (.Name ks b3) .Add (.List es3 c3) d3) f3,.Expr (.Call (.Attribute (.Name ks a4) m4 ap4) [e4] [] cp4) p4,
  .If (.Compare (.Call (.Attribute (.Name ks a5) m5 ap5) [.Constant (.bool true) j5 pj5] [] cp5) [.NotEq] [.Constant (.int 1) i5 pi5] pc5) [.Return (some (.Constant (.str y5) k5 pk5)) q5] [] p5,.Return (some (.Subscript (.List es6 pl6) (.Call (.Attribute (.Name ks a6) m6 ap6) [.Constant (.bool true) j6 pj6] [] cp6) ps6)) p6]/\ck.N=[nm,ks] /\
 bZ3 ck nm ks e1 e4 y1 y5 m4 m5 m6 es2 es3 es6 (ap4.endLine==cp4.line) (ap5.endLine==cp5.line) (ap6.endLine==cp6.line)=true
noncomputable def mX (ck:Ck):DV.XB->List Stmt->Bool
 | .no,_=>true
 | .kind,S=>@decide (bR2 ck S) (ed _)
 | .alt a b,S=>mX ck a S&&mX ck b S
 | .rais c,S=>match S with|.Raise (some (.Call (.Name x _) [.Constant (.str _) _ _] [] _)) none _::_=>decide (x=(c:Str))&&ck.gl x|_=>false
 | .call f as,S=>match S with
  | .Return (some (.Call (.Name x _) (e::es) [] _)) _::_=>decide (x=(f:Str))&&ck.gl x&&mAs ck as (e::es)
  | .Expr (.Call (.Name x _) (e::es) [] _) _::_=>decide (x=(f:Str))&&ck.gl x&&mAs ck as (e::es)
  | .Return (some (.List [.Call (.Name x _) (e::es) [] _] _)) _::_=>decide (x=(f:Str))&&ck.gl x&&mAs ck as (e::es)
  | .Assign [.Name _ _] (.Call (.Name x _) (e::es) [] _) _::_=>decide (x=(f:Str))&&ck.gl x&&mAs ck as (e::es)
  | .Assign [.Name _ _] (.Subscript (.Call (.Name x _) (e::es) [] _) ix _) _::_=>decide (x=(f:Str))&&ck.gl x&&mAs ck as (e::es)&&shp ix
  | _=>false
 | .iteT c a r,S=>match S with|.If t l [] _::rest=>mE ck c t&&mX ck a l&&mX ck r rest|_=>false
 | .iteE c a r,S=>match S with|.If t l o _::_=>mE ck c t&&mX ck a l&&mX ck r o|_=>false
 | .seq s b,S=>match S with|x::rest=>mS ck s x&&mX ck b rest|_=>false
 | .forX tg it b x,S=>match S with|.For tgt iter l [] _::_=>mTg ck tg tgt&&mI ck tgt it iter&&mSs ck b l&&mX ck x l|_=>false
 | .whlX c b x,S=>match S with|.While t l [] _::_=>mE ck c t&&mSs ck b l&&mX ck x l|_=>false
noncomputable def noL:DV.XB->Bool
 | .alt a b=>noL a&&noL b
 | .iteT _ a r=>noL a&&noL r
 | .iteE _ a r=>noL a&&noL r
 | .seq _ b=>noL b
 | .forX _ _ _ _=>false
 | .whlX _ _ _=>false
 | _=>true
noncomputable def noR:DV.XB->Bool
 | .alt a b=>noR a&&noR b
 | .rais _=>false
 | .iteT _ a r=>noR a&&noR r
 | .iteE _ a r=>noR a&&noR r
 | .seq _ b=>noR b
 | .forX _ _ _ x=>noR x
 | .whlX _ _ x=>noR x
 | _=>true
section
variable {Γ:Gm} {F:k8} {n:Nat} {X:Cx} {ck:Ck} {a Cc:Addr} {oe:Obj}
noncomputable def mHn (h:DV.Hd)(S:yL):Bool:=match h with
 | .nob b=>(match S with|[.Return (some (.Constant (.bool b') _ _)) _]=>decide (b'=b)|_=>false)
 | .noe=>(match S with|[.Return (some (.List [] _)) _]=>true|_=>false)
 | _=>false
end
section
variable {F:k8} {X:Cx} {ck:Ck} {a Cc:Addr} {oe:Obj}
end
section
variable {Γ:Gm}
theorem aw3 {C C1:Nat->Addr}{H z:Hp}{s s1:kQ}(R:Rp Γ C H s)(g:Gr C s H C1 s1 z)(ho:ng s s1=true){i:Nat}{o:ls}(y:i<s.length)(e:s1[i]?=some o):o.bnd s.length=true:=by
 unfold ng at ho
 have:=bh.mp ho i (c8.mpr y)
 rw[e,bR]at this
 rcases this with h|h
 .exact R.wf i o (of_decide_eq_true h).symm
 .exact h
theorem qc {s1:kQ}{k i:Nat}{o:ls}(e:(s1.take k)[i]?=some o):i<k/\s1[i]?=some o:=by
 rw[cN]at e
 split at e
 .exact⟨‹_›,e⟩
 .cases e
theorem aG9 {C C1:Nat->Addr}{H h:Hp}{s s1:kQ}(R:Rp Γ C H s)(g:Gr C s H C1 s1 h)(R1:Rp Γ C1 h s1)(ho:ng s s1=true):Gr C s H C1 (s1.take s.length) h/\Rp Γ C1 h (s1.take s.length):=by
 have y:(s1.take s.length).length=s.length:=by rw[bK];have:=g.le;lia
 refine⟨⟨g.w,by rw[y];exact ah _,fun i J G=>by rw[y]at G;lia,fun i o B e e'=>g.kd i o B e (qc e').2,g.st,g.fz,g.fr⟩,fun i j o B e e' m m' z=>R1.inj i j o B (qc e).2 (qc e').2 m m' z,fun i o e=>R1.obj i o (qc e).2,fun i o e=>?_,R1.tab⟩
 rw[y]
 exact aw3 R g ho (qc e).1 (qc e).2
theorem aB7 {C C1:Nat->Addr}{H B:Hp}{s s1 s':kQ}{v0 d:kR}{v:V}(R:Rp Γ C H s)(g:Gr C s H C1 s1 B)(R1:Rp Γ C1 B s1)(hb:v0.bnd s1.length=true)(r:RV Γ C1 B v0 v)(h:DV.zn s v0 s1=.ok d s') :
  ∃ C',Gr C s H C' s' B/\s.length<=s'.length/\d.bnd s'.length=true/\RV Γ C' B d v/\Rp Γ C' B s':=by
 have all:d=v0->s'=s1->∃ C',Gr C s H C' s' B/\s.length<=s'.length/\d.bnd s'.length=true/\RV Γ C' B d v/\Rp Γ C' B s':=fun e1 e2=>by
  subst e1;subst e2
  exact⟨C1,g,g.le,hb,r,R1⟩
 unfold DV.zn at h
 split at h
 case isFalse=>cases h;exact all rfl rfl
 rename_i ho
 obtain⟨gt,Rt⟩:=aG9 R g R1 ho
 have J:(s1.take s.length).length=s.length:=by rw[bK];have:=g.le;omega
 have tk:d=v0->s'=s1.take s.length->v0.bnd s.length=true->∃ C',Gr C s H C' s' B/\s.length<=s'.length/\d.bnd s'.length=true/\RV Γ C' B d v/\Rp Γ C' B s':=fun e1 e2 b=>by
  subst e1;subst e2
  exact⟨C1,gt,by rw[J];exact ah _,by rw[J];exact b,r,Rt⟩
 split at h
 .rename_i k
  split at h
  .cases h
   exact tk rfl rfl (by unfold kY;exact decide_eq_true ‹_›)
  .rename_i hk
   split at h
   .rename_i o eo
    split at h
    .rename_i Z
     cases h
     have gw:Gw C1 s.length B (fun i=>if i=s.length then C1 k else C1 i) B:=⟨fun i y=>if_neg (aB y),Kp.refl _⟩
     have key:∀(i:Nat) (G:ls),(s1.take s.length++[o])[i]?=some G->(i<s.length/\s1[i]?=some G)\/(i=s.length/\G=o):=fun i G e=>by
      rcases gb i s.length with h|h|h
      .rw[aR (by rw[J];exact h)]at e;exact .inl (qc e)
      .subst h
       rw[bz (by rw[J];exact ah _),J,fy]at e
       exact .inr ⟨rfl,(au e).symm⟩
      .rw[cg (by rw[aC,J];simp;lia)]at e;cases e
     have z:(s1.take s.length++[o]).length=s.length+1:=by rw[aC,J];rfl
     refine⟨fun i=>if i=s.length then C1 k else C1 i,⟨⟨fun i y=>?_,g.w.kp⟩,by rw[z];lia,fun i h1 h2=>?_,fun i oo G e e'=>?_,g.st,g.fz,g.fr⟩,by rw[z];omega,by unfold kY;rw[z];exact decide_eq_true (c9 _),?_,⟨fun i j oi oj a0 a1 mi mj e=>?_,fun i G e=>?_,fun i G e=>?_,R1.tab⟩⟩
     .show(if i=s.length then C1 k else C1 i)=C i
      rw[if_neg (aB y)];exact g.w.map i y
     .rw[z]at h2
      show H (if i=s.length then C1 k else C1 i)=none
      rw[if_pos (by lia)]
      exact g.new k (by lia) (ac.mp eo).1
     .rcases key i G e' with⟨_,e2⟩|⟨y,_⟩
      .exact g.kd i oo G e e2
      .have:=(ac.mp e).1;lia
     .rw[r.refE]
      unfold RV
      show V.ref (C1 k)=V.ref (if s.length=s.length then C1 k else C1 s.length)
      rw[if_pos rfl]
     .rcases key i oi a0 with⟨y,ei⟩|⟨y,zi⟩<;>rcases key j oj a1 with⟨hj,ej⟩|⟨hj,zj⟩
      .rw[if_neg (aB y),if_neg (aB hj)]at e
       exact R1.inj i j oi oj ei ej mi mj e
      .rw[if_neg (aB y),if_pos hj]at e
       subst zj
       have:=R1.inj i k oi _ ei eo mi mj e
       lia
      .rw[if_neg (aB hj),if_pos y]at e
       subst zi
       have:=R1.inj k j _ oj eo ej mi mj e
       lia
      .rw[y,hj]
     .rcases key i G e with⟨y,e⟩|⟨y,rfl⟩
      .show RO Γ _ _ (if i=s.length then C1 k else C1 i) G
       rw[if_neg (aB y)]
       exact(R1.obj i G e).mono gw (aw3 R g ho y e) fun _ u hu=>hu
      .show RO Γ _ _ (if i=s.length then C1 k else C1 i) G
       rw[if_pos y]
       exact(R1.obj k _ eo).mono gw Z fun _ u hu=>hu
     .rw[z]
      rcases key i G e with⟨y,e⟩|⟨_,rfl⟩
      .exact zH (cT _) _ (aw3 R g ho y e)
      .exact zH (cT _) _ Z
    .cases h;exact all rfl rfl
   .exact fb h
 .split at h
  .cases h;exact tk rfl rfl ‹_›
  .cases h;exact all rfl rfl
def bx2 (Γ:Gm)(cds:yF)(f:Str)(sc:Scope)(N:yH)(fd:bT)(lk:String->List Nat->Expr->Bool):Prop :=
 ∀ id caps E,lk id caps E=true->False
def GoodB (Γ:Gm)(cds:yF)(mg:yC)(f:String)(pc vc:Nat)(m:Ck->List Stmt->Bool):Prop:=∃ st N ps a fd lk,DefAt Γ.K mg (f:Str) st ps a fd/\FnScope N ps (defScope st)/\ps.length=pc/\N.length=pc+vc/\m ⟨N,defScope st,lk⟩ (zw st)=true/\bx2 Γ cds (f:Str) (defScope st) N fd lk
def Good (Γ:Gm)(cds:yF)(mg:yC)(f:String)(d:lP):Prop:=GoodB Γ cds mg f d.ps d.vs fun ck S=>mSs ck d.body S
noncomputable def mKc (ck:Ck)(nm:Str)(f:String)(E:Expr):Bool:=match E with|.Call (.Name g _) [.Name x _] [] _=>decide (g=(f:Str))&&(ck.gl g&&decide (x=nm))|_=>false
noncomputable def bZ8 (ck:Ck)(nm:Str)(f:String)(l:Bool)(S:yL):Bool:=match S with
 | [.Return (some e) _]=>(match l with|true=>(match e with|.List [c] _=>mKc ck nm f c|_=>false)|false=>mKc ck nm f e)
 | _=>false
noncomputable def mHk (ck:Ck)(nm:Str)(h:DV.Hd)(S:yL):Bool:=match h.kn with|some (f,l)=>bZ8 ck nm f l S|none=>mHd ck nm h S
noncomputable def mT0 (ck:Ck)(d:DV.Tf)(S:yL):Bool:=match S with
 | st::rest=>(match st with|.Try tb hs [] [] _=>(match hs with|[eh]=>(match eh with|.ExceptHandler (some en) (some nm) hb _=>(match en,hb with|.Name x _,b::su=>mSs ck d.body tb&&(mX ck d.xb tb&&(noR d.xb&&(noL d.xb&&(d.h.supOk d.c&&(decide (x=((d.h.cls d.c:String):Str))&&(ck.gl x&&(decide (ck.N[d.i]?=some nm)&&((ck.sc.names.lookup nm==some .local)&&(!(nm==("__debug__":Str))&&(!(nm==("__classdict__":Str))&&(mHk ck nm d.h (b::su)&&mSs ck d.tl rest)))))))))))|_,_=>false)|.ExceptHandler (some en) none hb _=>(match en,hb with|.Name x _,b::su=>mSs ck d.body tb&&(mX ck d.xb tb&&(noR d.xb&&(noL d.xb&&(decide (x=(d.c:Str))&&(ck.gl x&&(mHn d.h (b::su)&&mSs ck d.tl rest))))))|_,_=>false)|_=>false)|_=>false)|_=>false)
 | _=>false
noncomputable def bW8 (ck:Ck):DV.Ss->List Stmt->Option (List Stmt)
 | .nil,S=>some S
 | .cons s ss,S=>match S with|x::xs=>(match mS ck s x with|true=>bW8 ck ss xs|false=>none)|[]=>none
noncomputable def mT (ck:Ck)(d:DV.Tf)(S:yL):Bool:=match bW8 ck d.pre S with
 | some S1=>mT0 ck d S1
 | none=>false
def GoodM (Γ:Gm)(c m:String)(d:lP):Prop:=∃ st N ps a fd Cc,(Γ.cls c=some Cc/\Cls Γ.K Cc)/\Meth Γ.K Cc (m:Str) a/\Fun Γ.K (m:Str) ((c ++ "."++m:String):Str) st a fd/\Binds Γ.K fd ps []/\FnScope N ps (defScope st)/\ps.length=d.ps/\N.length=d.ps+d.vs/\mSs ⟨N,defScope st,fun _ _ _=>false⟩ d.body (zw st)=true
structure PrOk (Γ:Gm)(cds:yF)(P:lj)(mg:yC)(w:World):Prop where
 df:∀ f d,P.df f=some d->Good Γ cds mg f d
 con:∀ x d,P.con x=some d->∃ v u,mg (x:Str)=some u/\RelV v u/\(∀ m,d.bnd m=true)/\∀ C H,RV Γ C H d v
 bi:∀ x∈bNames,mg x=none
 fa:∀(f:String) (a:Addr),Γ.fa f=some a->mg (f:Str)=some (.ref a)/\∃ oc od fd sl,Γ.K.lookup a=some ⟨oc,od,.func fd,sl⟩
 lg:True
 nd:(Γ.T.map (·.1)).Nodup
 xf:∀ f d,P.xf f=some d->GoodB Γ cds mg f d.ps d.vs fun ck S=>mX ck d.body S
 tf:∀ f d,P.tf f=some d->GoodB Γ cds mg f d.ps d.vs fun ck S=>mT ck d S
 xc:∀ c:String,P.xc c=true->∃ Cc,mg (c:Str)=some (.ref Cc)/\ExcCls Γ.K Cc/\excI Γ.K Cc=true
 xt:∀ c:String,P.xt c=true->∃ Cc,mg (c:Str)=some (.ref Cc)
 xs:∀(c d:String) (Cc D:Addr),P.xc c=true->P.xt d=true->mg (c:Str)=some (.ref Cc)->mg (d:Str)=some (.ref D)->b9 Γ.K (.ref Cc) (.ref D)=some (DV.subC c d)
 xm:∀(c d:String) (Cc D:Addr),P.xc c=true->P.xt d=true->mg (c:Str)=some (.ref Cc)->mg (d:Str)=some (.ref D)->j8 Γ.K (.ref Cc) (.ref D)=some (DV.subC c d)
 xe:∀(c:String) (Cc:Addr),P.xc c=true->mg (c:Str)=some (.ref Cc)->j8 Γ.K (.ref Cc) (.ref Cc)=some true
 v0:∀ c:String,P.xc c=true->mg ("ValueError":Str)=none
 v1:∀(c:String) (Cc:Addr),P.xc c=true->mg (c:Str)=some (.ref Cc)->b9 Γ.K (.ref Cc) (.type "ValueError")=some true
 cdc:∀(c:String) kvs,P.cdc c=some kvs->∃ a,mg (c:Str)=some (.ref a)/\∀(prog:aD) (h:Heap),Γ.K.In h->StrTab prog w h a (strD kvs)
 mt:∀ c m d,P.mt c m=some d->GoodM Γ c m d
 att:∀(c:String) (f:List Nat) (Cc:Addr),P.att c f=true->Γ.cls c=some Cc->NoAttr Γ.K Cc ⟨f.toArray⟩
 nwc:∀(c:String) (Cc:Addr),Γ.cls c=some Cc->mg (c:Str)=some (.ref Cc)/\g8 Γ.K Cc=true/\b8 Γ.K (.ref Cc)=true
def at0 (Γ:Gm)(prog:aD)(w:World)(mg:yC)(base:Heap)(F:k8)(n:Nat):Prop:=(∀ f:String,(∀ l s,F.call f l s=.bad) \/
  ∃ a fd ps,FnOk prog w Γ.K mg base CX0 n a fd ps (spV Γ (F.call f))/\mg (f:Str)=some (.ref a)/\b8 Γ.K (.ref a)=true/\Binds Γ.K fd ps []) /\
 True/\ObOk Γ prog w Γ.K mg base F n
theorem ba2 {C:Nat->Addr}{H:Hp}{n k:Nat}{N:yH}{l:List kR}{vs:List V}(r:RVL Γ C H l vs)(b:kS n l=true)(hN:N.length=l.length+k):RE Γ C H n (l.map some++aF k none) (af3 N vs):=by
 have h:=r.length
 refine⟨?_,fun i d e=>?_⟩
 .unfold af3;simp[h,hN]
 .by_cases hi:i<l.length
  .rw[aR (by simpa using hi),aE]at e
   have e':l[i]?=some d:=by
    rw[ag hi]at e ⊢
    exact au e
   obtain⟨v,e1,e2⟩:=r.get e'
   refine⟨an8 b e',v,?_,e2⟩
   unfold af3
   rw[aR (by rw[az,h];exact hi),aE,e1];rfl
  .rw[bz (by simpa using jC hi)]at e
   rw[bU]at e
   split at e<;>cases e
theorem by0 {y:yF}{P:lj}{prog:aD}{w:World}{z:yC}(G:PrOk Γ y P z w)(n:Nat):∀(c:String) kvs,(k6 P n).cdc c=some kvs->∃ a,z (c:Str)=some (.ref a)/\∀ h:Heap,Γ.K.In h->StrTab prog w h a (strD kvs):=by
 have:(k6 P n).cdc=P.cdc:=by cases n<;>rfl
 rw[this]
 intro c kvs e
 obtain⟨a,J,B⟩:=G.cdc c kvs e
 exact⟨a,J,B prog⟩
theorem bz9 {G:yF}{P:lj}{prog:aD}{w:World}{Z:yC}{base:Heap}(hP:PrOk Γ G P Z w)(hb:∀ y∈G,cz base y.1 y.2/\BM Z base)(n:Nat)(h:at0 Γ prog w Z base (k6 P n) (n+31))
  {f:String} {st:Stmt} {N ps:yH} {a:Addr} {fd:bT} {lk:String->List Nat->Expr->Bool} (hS:FnScope N ps (defScope st)) (hL:bx2 Γ G (f:Str) (defScope st) N fd lk) (z:Value) (a0:∀ id J E,lk id J E=true->fd.code=z) (A:aP) (B:List Env) (sh:ae) (H:Hp) (E:XK) (hr:Room (n+31) (A.deeper (gh (f:Str) (defScope st) sh.heap.objs.size a z))) :
  CG Γ (k6 P n) (n+31) (bh7 CX0 prog w Γ.K Z base N (f:Str) (defScope st) a z A B sh H E).nox ⟨N,defScope st,lk⟩:=by
 refine⟨rfl,rfl,hS.nd,rfl,rfl,?_,hr,fun x k e=>.inl e,fun _ _=>rfl,hP.bi,h.1,?_,hL,h.2.1,hP.fa,DV.qm P n,by0 hP n,h.2.2⟩
 .show li+1<=n+31
  unfold li;lia
 .have:(k6 P n).con=P.con:=by cases n<;>rfl
  rw[this];exact hP.con
theorem aT3 {y:yF}{f:Str}{sc:Scope}{N:yH}{z:bT}:bx2 Γ y f sc N z (fun _ _ _=>false):=fun _ _ _ h=>by cases h
theorem bj1 {a1:yF}{P:lj}{prog:aD}{w:World}{mg:yC}{base:Heap}(hP:PrOk Γ a1 P mg w)(hb:∀ y∈a1,cz base y.1 y.2/\BM mg base)(n:Nat)(a0:at0 Γ prog w mg base (k6 P n) (n+31))
  {f:String} {x:Str} {d:lP} {st:Stmt} {N ps:yH} {a:Addr} {fd:bT} {lk:String->List Nat->Expr->Bool} (hD:Fun Γ.K x (f:Str) st a fd) (hS:FnScope N ps (defScope st)) (h1:ps.length=d.ps) (h2:N.length=d.ps+d.vs) (hm:mSs ⟨N,defScope st,lk⟩ d.body (zw st)=true) (hL:bx2 Γ a1 (f:Str) (defScope st) N fd lk) :
  FnOk prog w Γ.K mg base CX0 (n+1+31) a fd ps (spV Γ (lM (k6 P n) d)):=by
 have J:∀ vs H Q E,spV Γ (lM (k6 P n) d) vs H Q E->vs.length=ps.length:=fun vs H Q E q=>by
  obtain⟨C,s,l,d',s',R,r,b,hc,k⟩:=q
  unfold lM at hc
  split at hc
  .rw[r.length,h1];assumption
  .exact fb hc
 have body:∀(z:Value),(∀ id Z E,lk id Z E=true->fd.code=z)->∀(A:aP) (B:List Env) (sh:ae) (H:Hp) (vs:List V) (Q:VK) (E:XK),Room (n+31) (A.deeper (gh (f:Str) (defScope st) sh.heap.objs.size a z))->spV Γ (lM (k6 P n) d) vs H Q E ->
   ∃ t,PSs (bh7 CX0 prog w Γ.K mg base N (f:Str) (defScope st) a z A B sh H E).nox (zw st) t/\t { nx:=fun _ H'=>Q .non H',rt:=Q } (af3 N vs) H:=by
  intro z a2 A B sh H vs Q E hr q
  have G:=bz9 hP hb n a0 hS hL (a:=a) z a2 A B sh H E hr
  refine⟨_,sSs d.body (zw st) _ ⟨N,defScope st,lk⟩ G hm,?_⟩
  obtain⟨C,s,l,d',s',R,r,b,hc,k⟩:=q
  unfold lM at hc
  split at hc
  case isFalse=>exact fb hc
  rename_i J
  obtain⟨c,s1,e1,hc⟩:=aa0 hc
  refine⟨C,l.map some++aF d.vs none,s,c,s1,ba2 r b (by rw[h2,J]),R,e1,fun C1 H1 g1 l1 R1=>?_⟩
  cases c with
  | ret v0 =>
   intro v hb rv
   obtain⟨C',g',l',b',r',R'⟩:=aB7 R g1 R1 hb rv hc
   exact k v C' H1 g' l' b' r' R'
  | next U =>
   intro W' _
   obtain⟨C',g',l',b',r',R'⟩:=aB7 (v0:=.non) R g1 R1 rfl RV.nonI hc
   exact k .non C' H1 g' l' b' r' R'
  | cont U=>exact fb hc
  | brk U=>exact fb hc
 exact hD.ok hS J (fun z=>body z fun id Z E h=>(hL id Z E h).elim)
theorem bH6 {B:yF}{P:lj}{prog:aD}{w:World}{G:yC}{base:Heap}(hP:PrOk Γ B P G w)(hb:∀ y∈B,cz base y.1 y.2/\BM G base)(n:Nat)(h:at0 Γ prog w G base (k6 P n) (n+31))
  {f:String} {d:lP} (e:P.df f=some d) {st:Stmt} {N ps:yH} {a:Addr} {J:bT} {lk:String->List Nat->Expr->Bool} (hD:DefAt Γ.K G (f:Str) st ps a J) (hS:FnScope N ps (defScope st)) (h1:ps.length=d.ps) (Z:N.length=d.ps+d.vs) (hm:mSs ⟨N,defScope st,lk⟩ d.body (zw st)=true) (hL:bx2 Γ B (f:Str) (defScope st) N J lk) :
  FnOk prog w Γ.K G base CX0 (n+1+31) a J ps (spV Γ ((k6 P (n+1)).call f)):=by
 have z:(k6 P (n+1)).call f=lM (k6 P n) d:=by funext l s;simp only[k6,e];rfl
 rw[z]
 exact bj1 hP hb n h hD.fn hS h1 Z hm hL
theorem bS1 {J:yF}{P:lj}{prog:aD}{w:World}{Z:yC}{base:Heap}(hP:PrOk Γ J P Z w)(hb:∀ y∈J,cz base y.1 y.2/\BM Z base)(n:Nat)(B:at0 Γ prog w Z base (k6 P n) (n+31)):ObOk Γ prog w Γ.K Z base (k6 P (n+1)) (n+1+31):=by
 refine⟨fun c f Cc h=>hP.att c f Cc h,fun c m=>?_,fun c=>?_⟩
 .cases e:P.mt c m with
  | none=>exact .inl fun l s=>by simp only[k6,e]
  | some d =>
   obtain⟨st,N,ps,a,fd,Cc,hc,hm,hD,G,hS,h1,h2,a1⟩:=hP.mt c m d e
   have z:(k6 P (n+1)).mcall c m=lM (k6 P n) d:=by funext l s;simp only[k6,e]
   refine .inr ⟨Cc,a,fd,ps,hc.1,hc.2,hm,?_,G⟩
   rw[z]
   exact bj1 hP hb n B hD hS h1 h2 a1 aT3
 .rcases B.2.2.mc c "__init__" with h|⟨Cc,a,fd,ps,hc,a0,hm,hF,G⟩
  .exact .inl fun l s=>h l s
  .obtain⟨m1,m2,m3⟩:=hP.nwc c Cc hc
   exact .inr ⟨n+31,Cc,a,fd,ps,by lia,⟨hc,a0⟩,m1,⟨m2,hm.at_,hm.fn,m3⟩,hF,G⟩
theorem ay7 {z:yF}{P:lj}{prog:aD}{w:World}{mg:yC}{base:Heap}(B:PrOk Γ z P mg w)(hb:∀ y∈z,cz base y.1 y.2/\BM mg base)(G:∀ f,P.tf f=none):∀ n:Nat,at0 Γ prog w mg base (k6 P n) (n+31)
 | 0=>⟨fun f=>.inl fun l s=>rfl,trivial,fun c f Cc h=>B.att c f Cc h,fun _ _=>.inl fun _ _=>rfl,fun _=>.inl fun _ _=>rfl⟩
 | n+1=>by
  have J:=ay7 (prog:=prog) (w:=w) (base:=base) B hb G n
  refine⟨fun f=>?_,trivial,bS1 B hb n J⟩
  cases e:P.df f with
  | none=>exact .inl fun l s=>by simp only[k6,e,G f]
  | some d =>
   obtain⟨st,N,ps,a,fd,lk,hD,hS,h1,Z,hm,hL⟩:=B.df f d e
   exact .inr ⟨a,fd,ps,bH6 B hb n J e hD hS h1 Z hm hL,hD.mg,hD.fn.kp,hD.bi⟩
def spT (Γ:Gm):Sp:=fun vs H Q _=>∃(a:Addr) (ns:List Int),vs=[.ref a]/\SqF Γ.K H a (ns.map V.int)/\ns.length<=63/\TabsH Γ.T H/\∀ H',Q (.bl true) H'
theorem az1 {C:Nat->Addr}{H:Hp}:∀ ns:List Int,RVL Γ C H (ns.map DV.D.int) (ns.map V.int)
 | []=>.nil
 | n::ns=>.cons RV.intI (az1 ns)
theorem aq2 {m:Nat}:∀ ns:List Int,kS m (ns.map DV.D.int)=true
 | []=>rfl
 | n::ns=>by rw[aU];unfold kS;rw[aq2 ns];rfl
theorem bF1 {P:lj}{k:Nat}(h:∀ ns:List Int,ns.length<=63->∃ s',(k6 P k).call "law" [.ref 0] [.ro (ns.map DV.D.int)]=.ok (.bl true) s')(vs:List V)(H:Hp)(Q:VK)(E:XK)(q:spT Γ vs H Q E):spV Γ ((k6 P k).call "law") vs H Q E:=by
 obtain⟨a,ns,rfl,B,y,hT,z⟩:=q
 obtain⟨s',hs⟩:=h ns y
 refine⟨fun _=>a,[.ro (ns.map DV.D.int)],[.ref 0],.bl true,s',⟨fun i j o G e e' m m' _=>?_,fun i o e=>?_,fun i o e=>?_,hT⟩,.cons RV.refI .nil,?_,hs,fun v C' H' g l b r R=>?_⟩
 .cases i with
  | zero=>cases e;cases m
  | succ i=>cases e
 .cases i with
  | zero=>cases e;exact⟨_,B,az1 ns⟩
  | succ i=>cases e
 .cases i with
  | zero=>cases e;unfold kU;exact aq2 ns
  | succ i=>cases e
 .unfold kS kY kS;rfl
 .rw[r.blE];exact z H'
theorem aC0 {y:yF}{z:yC}:∀ {tbl:List (String×lP)},(∀ p∈tbl,Good Γ y z p.1 p.2)->∀ f d,tbl.lookup f=some d->Good Γ y z f d
 | [],_,f,d,h=>by cases h
 | (g,e)::tbl,H,f,d,h=>by
  rw[aZ]at h
  cases q:f==g with
  | true =>
   rw[q]at h
   cases h
   rw[eq_of_beq q]
   exact H (g,_) (ar ..)
  | false =>
   rw[q]at h
   exact aC0 (fun p hp=>H p (ao _ hp)) f d h
def GoodC (Γ:Gm)(mg:yC)(x:String)(d:kR):Prop:=∃ v u,mg (x:Str)=some u/\RelV v u/\(∀ m,d.bnd m=true)/\∀ C H,RV Γ C H d v
theorem aP3 {y:yC}:∀ {tbl:List (String×kR)},(∀ p∈tbl,GoodC Γ y p.1 p.2)->∀ f d,tbl.lookup f=some d->GoodC Γ y f d
 | [],_,f,d,h=>by cases h
 | (g,e)::tbl,H,f,d,h=>by
  rw[aZ]at h
  cases q:f==g with
  | true =>
   rw[q]at h
   cases h
   rw[eq_of_beq q]
   exact H (g,_) (ar ..)
  | false =>
   rw[q]at h
   exact aP3 (fun p hp=>H p (ao _ hp)) f d h
end
theorem aH0 {P:aD}{w:World}{K:af}{mg mb:yC}{k:Nat}{fa a:Addr}{fd:bT}{x:Str}{sp:Sp}{B:ae}{vs:yG}{ns:List Int}{tabs:yF}
  (KX:K.In B.heap) (c1:B.heap.Ns bG mg) (hb:B.heap.Ns gD mb) (c4:∀ x:Str,x ≠ "__name__"->mb x=bq x) (a6:B.heap.NoLimit) (hg:B.gens=#[]) (d5:BM mg B.heap) (hT:j9 tabs B.heap) (d2:ka K=true)
  (ha:B.heap.get? a=some { cls:=.type "list",data:=.seq vs.toArray }) (hi:fW vs ns) (hl:ns.length<=aL) (hr:Room k iA)
  (F:∀ base:Heap,K.In base->base.Ns bG mg->BM mg base->(∀ q∈tabs,cz base q.1 q.2)->FnOk P w K mg base CX0 k fa fd [x] sp) (a4:∀(s:ae) (u:Value),jP s fd ⟨[u],[]⟩ [(x,u)])
  (d4:∀ H:Hp,(∀ q∈tabs,H q.2=some (.tbl #[]))->SqL K H a (ns.map V.int)->(∀ u,H a=some u->(∃ o xs,u=.frz o (.lst xs))\/∃ ps,u=.tbl ps)->sp [.ref a] H (fun v _=>v=.bl true) E0) :
  gI (model P w) iA (.call (.ref fa) ⟨[.ref a],[]⟩) (fun r s'=>r=.ok (.ret (.bool true))/\OldK B.heap s'.heap/\s'.os=B.os/\fS s'.gens) B:=by
 have rv:=ae2 hi
 have c2:=hi.length
 have G:∀ b,b∈tabs.map (·.2)->B.heap.get? b=some (iw #[]):=fun b h=>by
  obtain⟨q,hq,rfl⟩:=bf.mp h
  exact(hT q hq).2
 have a0:∀ H:Hp,(∀ b u,H b=some u->(b=a/\∃ o xs,u=.frz o (.lst xs))\/(b∈tabs.map (·.2)/\u=.tbl #[]))->(∀ q∈tabs,H q.2=some (.tbl #[]))->SqL K H a (ns.map V.int)->HOk P w H B.heap->(H a≠none->K.lookup a=none) ->
   gI (model P w) iA (.call (.ref fa) ⟨[.ref a],[]⟩) (fun r s'=>r=.ok (.ret (.bool true))/\OldK B.heap s'.heap/\s'.os=B.os/\fS s'.gens) B:=by
  intro H hO c3 hS hok hK
  have un:∀ b o,B.heap.get? b=some o->o.cls≠.type "list"->(∀ vs,o.data≠.fields vs)->H b=none:=fun b o e n1 n2=>by
   cases q:H b with
   | none=>rfl
   | some u =>
    rcases hO b u q with⟨z,_⟩|⟨z,_⟩
    .rw[z,ha]at e;cases e;exact absurd rfl n1
    .rw[G b z]at e;cases e;exact absurd rfl (n2 #[])
  have Z:∀ {b:Addr} {m:yC},B.heap.Ns b m->(aU3 B.heap H).Ns b m:=fun {b m} ⟨o,es,ep,e,d,r⟩=>by
   refine⟨o,es,ep,af8 e ?_,d,r⟩
   cases q:H b with
   | none=>rfl
   | some u =>
    rcases hO b u q with⟨z,_⟩|⟨z,_⟩
    .rw[z,ha]at e;cases e;cases d
    .rw[G b z]at e;cases e;cases d
  have b0:K.In (aU3 B.heap H):=fun b o e=>af8 (KX b o e) (by
   cases q:H b with
   | none=>rfl
   | some u =>
    rcases hO b u q with⟨z,_⟩|⟨z,_⟩
    .subst z
     rw[hK (by rw[q];simp)]at e;cases e
    .have e2:=KX b o e
     rw[G b z]at e2
     have h2:=bh.mp d2 (b,o) (PySem.W.mem_of_lookupK e)
     have e3:o=iw #[]:=(au e2).symm
     subst e3
     exact absurd (show false=true from h2) aQ)
  have hM:Mod K mg (aU3 B.heap H):=⟨b0,Z c1,⟨mb,Z hb,c4⟩,let⟨mc,h1,h2⟩:=a6;⟨mc,Z h1,h2⟩⟩
  have d1:BM mg (aU3 B.heap H):=by
   obtain⟨bm,ob,b1,b2,b3,b4,b5,b6⟩:=d5
   exact⟨bm,ob,b1,b2,af8 b3 (un bm ob b3 (by rw[b4];nofun) (by rw[b6];nofun)),b4,b5,b6⟩
  have d3:∀ q∈tabs,cz (aU3 B.heap H) q.1 q.2:=fun q hq=>by
   obtain⟨o,e4,a5,tf,a2,tg,d0,text,tt,e1,r1,r2⟩:=(hT q hq).1
   refine⟨o,e4,a5,tf,a2,tg,d0,text,tt,af8 e1 ?_,r1,r2⟩
   cases q2:H q.1 with
   | none=>rfl
   | some u =>
    rcases hO _ u q2 with⟨z,_⟩|⟨z,_⟩
    .rw[z,ha]at e1;cases e1;exact absurd r1 (by simp)
    .rw[G _ z]at e1;cases e1;exact absurd r1 (by simp)
  have e0:Env0 P w K mg (aU3 B.heap H) iA [] B H:=⟨rfl,hM,fun b o e=>br4 e,gJ (aL0 _ _),trivial,fun b hb=>absurd (show b∈([]:List Addr)from hb) (by simp),hok,.of_eq hg⟩
  refine fu ((F _ b0 (Z c1) d1 d3).run iA [] B H ⟨[.ref a],[]⟩ [.ref a] [.ref a] _ _ hr e0 (a4 B (.ref a)) (.cons rfl .nil) (d4 H c3 hS (fun u e=>(hO a u e).elim (fun z=>.inl z.2) (fun z=>.inr ⟨_,z.2⟩)))) fun r s' h=>?_
  cases r with
  | error e=>exact cj h
  | ok fl =>
   cases fl with
   | next=>exact cj h
   | brk=>exact cj h
   | cont=>exact cj h
   | ret u =>
    obtain⟨v,H',os,bare,a3,a1,r',q⟩:=h
    have q':v=.bl true:=q
    subst q'
    obtain rfl:u=Value.bool true:=r'
    have key:∀ b o,B.heap.get? b=some o->asItWas B.heap s'.heap b o/\∃ o',s'.heap.get? b=some o':=fun b o e=>by
     cases q:H b with
     | none =>
      have z:=a3.keep b o e q (by intro z;exact absurd (show b∈([]:List Addr)from z) (by simp)) (by simp)
      exact⟨.inl z,o,z⟩
     | some u =>
      rcases hO b u q with⟨_,ob,xs,z⟩|⟨z,z2⟩
      .subst z
       have z2:=a3.frzs b ob _ q
       obtain⟨e1,_⟩:=hok b _ q
       obtain⟨e2,_⟩:=a1 b _ z2
       rw[e]at e1;cases e1
       exact⟨.inl e2,_,e2⟩
      .subst z2
       obtain⟨more,z3⟩:=a3.tbls b _ q
       have g:s'.heap.get? b=some { cls:=.none,data:=.fields (#[]++more) }:=a1 b _ z3
       have e1:=G b z
       rw[e]at e1;cases e1
       obtain⟨p,hp,ep⟩:=bf.mp z
       refine⟨.inr (.inl ⟨?_,rfl,#[],more,rfl,g⟩),_,g⟩
       have t:=((hT p hp).1.tab (hT p hp).2).isCodeTable
       rw[ep]at t
       exact t
    exact⟨rfl,⟨fun b o e=>(key b o e).1,fun b o e=>(key b o e).2⟩,os,bare⟩
 have tbl:∀ b,b∈tabs.map (·.2)->b≠a:=fun b h z=>by
  have e:=G b h
  rw[z,ha]at e;cases e
 cases hk:K.lookup a with
 | some o =>
  have e:=KX a o hk
  rw[ha]at e
  cases e
  refine a0 (fun b=>if b∈tabs.map (·.2)then some (.tbl #[])else none) (fun b u z=>?_) (fun q hq=>if_pos (bw hq)) (.inr ⟨_,vs.toArray,_,hk,rfl,rfl,rfl,by rw[av,c2];exact hl,by simpa using rv⟩) (fun b u z=>?_) fun z=>?_
  .by_cases hb:b∈tabs.map (·.2)
   .have J:=(if_pos hb).symm.trans z
    cases J
    exact .inr ⟨hb,rfl⟩
   .have J:=(if_neg hb).symm.trans z
    cases J
  .by_cases hb:b∈tabs.map (·.2)
   .have J:=(if_pos hb).symm.trans z
    cases J
    exact G b hb
   .have J:=(if_neg hb).symm.trans z
    cases J
  .exact absurd (if_neg fun y=>tbl a y rfl) z
 | none =>
  refine a0 (fun b=>if b=a then some (.frz { cls:=.type "list",data:=.seq vs.toArray } (.lst (ns.map V.int)))else if b∈tabs.map (·.2)then some (.tbl #[])else none) (fun b u z=>?_) (fun q hq=>?_) (.inl (.inr ⟨{ cls:=.type "list",data:=.seq vs.toArray },if_pos rfl⟩)) (fun b u z=>?_) fun _=>hk
  .by_cases hb:b=a
   .have J:=(if_pos hb).symm.trans z
    cases J
    exact .inl ⟨hb,_,_,rfl⟩
   .have J:=(if_neg hb).symm.trans z
    by_cases hc:b∈tabs.map (·.2)
    .rw[if_pos hc]at J;cases J;exact .inr ⟨hc,rfl⟩
    .rw[if_neg hc]at J;cases J
  .have hm:q.2∈tabs.map (·.2):=bw hq
   show(if _ then _ else if _ then _ else _)=_
   rw[if_neg (tbl _ hm),if_pos hm]
  .by_cases hb:b=a
   .have J:=(if_pos hb).symm.trans z
    cases J
    subst hb
    exact⟨ha,by rw[az];exact hl,vs,_,rv,ha⟩
   .have J:=(if_neg hb).symm.trans z
    by_cases hc:b∈tabs.map (·.2)
    .rw[if_pos hc]at J;cases J;exact G b hc
    .rw[if_neg hc]at J;cases J
theorem aN0 {ts:List Addr}{l:dk}{n k:Nat}{q:aD}{loose:yH}{XP:(Str->Option Value)->Heap->Prop}{YP:World->Heap->Prop}{d:DefRec}{K:Params->af}{sp:af->Sp}{x:Str}(names:yH)
  (hn:l.most=some n) (a2:n<=aL) (a3:d.params.defaults=[]) (hr:Room k iA)
  (hY:∀(w:World) (h:Heap),YP w h->(K w.params).In h/\∀ P∈ts,h.get? P=some (iw #[])) (a1:∀ w:World,bL3 (K w.params) names ts=true) (a5:∀ w:World,ka (K w.params)=true)
  (F:∀(w:World) (Z:yC) (fa:Addr) (h:Heap),(K w.params).In h->h.Ns bG Z->Z d.name=some (.ref fa) ->
   ∃ fd:bT,(∀(s:ae) (u:Value),jP s fd ⟨[u],[]⟩ [(x,u)]) /\
    ∀ base:Heap,(K w.params).In base->base.Ns bG Z->BM Z base->bv4 (K w.params) names base->FnOk l.prog w (K w.params) Z base CX0 k fa fd [x] (sp (K w.params)))
  (a4:∀(K:af) (H:Hp) (a:Addr) (ns:List Int),ns.length<=n->bs5 K names H->SqL K H a (ns.map V.int)->(∀ u,H a=some u->(∃ o xs,u=.frz o (.lst xs))\/∃ ps,u=.tbl ps)->sp K [.ref a] H (fun v _=>v=.bl true) E0) :
  ke q loose XP YP l.row.toRowW d [] (fun f vs=>jR f vs):=by
 refine Att.attach_call hn a3 fun w s₀ s₁ Z mb fa o pm cd b1 a vs ns G Y ho hd b2 b0 a0 J B hg=>?_
 obtain⟨KX,a6⟩:=hY w _ Y
 obtain⟨fd,hb,hF⟩:=F w Z fa _ KX G.T.g b0
 have hT:j9 ((av0 (K w.params) names).map (·.2)) s₁.heap:=fun p hp=>by
  obtain⟨y,hy,rfl⟩:=bf.mp hp
  obtain⟨h1,h2⟩:=al8.mp hy
  have z:=bh.mp (a1 w) y.1 h1
  rw[h2]at z
  have z':(jE (K w.params) y.2.1 y.2.2&&ts.contains y.2.2)=true:=z
  rw[ai]at z'
  exact⟨PySem.W.codeHd_of_K KX z'.1,a6 _ (by simpa using z'.2)⟩
 have hm:∀ x∈names,∀ c P,br (K w.params) x=some (c,P)->(c,P)∈(av0 (K w.params) names).map (·.2):=fun x hx c P e=>bf.mpr ⟨(x,c,P),al8.mpr ⟨hx,e⟩,rfl⟩
 refine aH0 (tabs:=(av0 (K w.params) names).map (·.2)) KX G.T.g G.T.b G.T.builtins G.T.nolimit hg ?_ hT (a5 w) a0 J (aj B a2) hr (fun base k1 k2 k3 k4=>hF base k1 k2 k3 fun x hx c P e=>k4 _ (hm x hx c P e)) hb fun H hO hS hF=>a4 (K w.params) H a ns B (fun x hx c P e=>hO _ (hm x hx c P e)) hS hF
 obtain⟨bm,ob,h1,h2,h3,h4,h5,h6⟩:=G.T.bmain
 exact⟨bm,ob,h1,h2,h3,h4,h5,h6⟩
def spB (names:yH)(K:af):Sp:=fun vs H Q _=>∃(a:Addr) (ns:List Int),vs=[.ref a]/\SqF K H a (ns.map V.int)/\ns.length<=63/\bs5 K names H/\∀ H',Q (.bl true) H'
theorem bL6 {names:yH}{K:af}{H:Hp}{a:Addr}{ns:List Int}(G:ns.length<=63)(J:bs5 K names H)(y:SqL K H a (ns.map V.int))(Z:∀ u,H a=some u->(∃ o B,u=.frz o (.lst B))\/∃ ps,u=.tbl ps):spB names K [.ref a] H (fun v _=>v=.bl true) E0:=by
 refine⟨a,ns,rfl,⟨y,fun H' k=>?_⟩,G,J,fun _=>rfl⟩
 rcases y with(h|⟨o,h⟩)|h
 .rcases Z _ h with⟨_,_,z⟩|⟨_,z⟩<;>cases z
 .exact .inl (.inr ⟨o,k _ _ h rfl⟩)
 .exact .inr h
def bY6 (P:lj):String->LamI->Prop:=fun _ _=>False
noncomputable def sfx (x:Str):Str:=if x = "letter_table" then "least_fee" else "<lambda>"
noncomputable def bn5 (names:yH)(K:af):List (Addr×Str):=names.map fun x=>(((br K x).getD (0,0)).2,x ++ ".<locals>."++sfx x)
noncomputable def bK0 (names:yH)(K:af):List (Addr×Addr):=names.map fun x=>(br K x).getD (0,0)
noncomputable def bQ0 (K:af)(f:String):Option Addr:=match fA K bG (f:Str)with
 | some (some (.ref a))=>(match K.lookup a with
  | some ⟨_,_,.func _,_⟩=>some a
  | _=>none)
 | _=>none
theorem az2 {K:af}{f:String}{a:Addr}(h:bQ0 K f=some a):fA K bG (f:Str)=some (some (.ref a))/\∃ oc od y sl,K.lookup a=some ⟨oc,od,.func y,sl⟩:=by
 unfold bQ0 at h
 split at h
 .rename_i z e
  split at h
  .rename_i oc od y sl e2
   cases h
   exact⟨e,_,_,_,_,e2⟩
  .cases h
 .cases h
noncomputable def bU4 (P:lj)(K:af)(c:String):Option Addr:=match P.mt c "__init__" with
 | some _=>(match fA K bG (c:Str)with|some (some (.ref Cc))=>some Cc|_=>none)
 | none=>none
noncomputable abbrev bn4 (names:yH)(P:lj)(K:af):Gm:=⟨K,bQ0 K,bY6 P,bn5 names K,bU4 P K⟩
theorem bS0 {names:yH}{P:lj}{K:af}{h:Heap}{y:yC}(X:K.In h)(G:h.Ns bG y):∀(f:String) (a:Addr),(bn4 names P K).fa f=some a->y (f:Str)=some (.ref a)/\∃ oc od z sl,(bn4 names P K).K.lookup a=some ⟨oc,od,.func z,sl⟩:=fun f a e=>⟨gn X G (az2 e).1,(az2 e).2⟩
theorem bc0 {names:yH}{P:lj}{K:af}(y:∀ x∈names,(br K x).isSome=true){vs:List V}{H:Hp}{Q:VK}{E:XK}(q:spB names K vs H Q E):spT (bn4 names P K) vs H Q E:=by
 obtain⟨a,ns,e,h,B,z,G⟩:=q
 refine⟨a,ns,e,h,B,TabsH.init fun p hp=>?_,G⟩
 simp only[bn5,c0]at hp
 obtain⟨x,hx,rfl⟩:=bf.mp hp
 exact z x hx _ _ (az8 (y x hx))
theorem bh8 {names:yH}{K:af}{h:yC}{base:Heap}(B:∀ x∈names,(br K x).isSome=true)(z:BM h base)(hc:bv4 K names base):∀ y∈bK0 names K,cz base y.1 y.2/\BM h base:=fun y hy=>by
 obtain⟨x,hx,rfl⟩:=bf.mp hy
 exact⟨hc x hx _ _ (az8 (B x hx)),z⟩
theorem aN5 {names:yH}{P:lj}{K:af}{f:Str}{sc:Scope}{N:yH}{y:bT}:bx2 (bn4 names P K) (bK0 names K) f sc N y (fun _ _ _=>false):=fun _ _ _ h=>by cases h
def bQ4 (K:af)(n:Str)(st:Stmt):Prop:=∃(f:Addr) (od an:yI) (sl:yE) (oc kV dc pm cd ct:Value),fA K bG n=some (some (.ref f)) /\
 K.lookup f=some ⟨oc,od,.func (dg n n (defArgs st) (zw st) (defScope st) .none kV dc pm an cd ct),sl⟩/\fG K cd n=true/\b8 K (.ref f)=true
def bW5 (n:Str)(st:Stmt)(ps:yH):Prop:=∀(kV doc pm:Value) (an:yI) (cdv ct:Value) (us:yG),us.length=ps.length->bindArgs (dg n n (defArgs st) (zw st) (defScope st) .none kV doc pm an cdv ct) ⟨us,[]⟩=pure (ps.zip us)
theorem bd0 {Q:List Value->Prop}(h:Q [])(us:yG)(y:us.length=0):Q us:=by
 cases us with
 | nil=>exact h
 | cons _ _=>cases y
theorem bdS {k:Nat}{Q:List Value->Prop}(h:∀ a us,us.length=k->Q (a::us))(us:yG)(y:us.length=k+1):Q us:=by
 cases us with
 | nil=>cases y
 | cons a us=>exact h a us (kB y)
theorem bd1 {Q:List Value->Prop}(h:∀ a,Q [a]):∀ us:List Value,us.length=1->Q us:=bdS fun a=>bd0 (h a)
theorem bd2 {Q:List Value->Prop}(h:∀ a b,Q [a,b]):∀ us:List Value,us.length=2->Q us:=bdS fun a=>bd1 (h a)
theorem bd3 {Q:List Value->Prop}(h:∀ a b c,Q [a,b,c]):∀ us:List Value,us.length=3->Q us:=bdS fun a=>bd2 (h a)
def DTB (names:yH)(P:lj)(n:String)(pc vc:Nat)(m:Ck->List Stmt->Bool)(st:Stmt):Prop:=∃ N ps,FnScope N ps (defScope st)/\ps.length=pc/\N.length=pc+vc/\bW5 n st ps/\(m ⟨N,defScope st,fun _ _ _=>false⟩ (zw st)=true \/
 False)
def DT (names:yH)(P:lj)(n:String)(d:lP)(st:Stmt):Prop:=DTB names P n d.ps d.vs (fun ck S=>mSs ck d.body S) st
theorem bb7 {names:yH}{P:lj}{K:af}{h:Heap}{z:yC}{n:String}{B J:Nat}{m:Ck->List Stmt->Bool}{st:Stmt}(X:K.In h)(G:h.Ns bG z)(hT:∀ x∈names,(br K x).isSome=true)(hD:bQ4 K n st)(hd:DTB names P n B J m st):GoodB (bn4 names P K) (bK0 names K) z n B J m:=by
 obtain⟨f,od,an,sl,oc,kV,dc,pm,cd,ct,a,l,c,k⟩:=hD
 obtain⟨N,ps,h1,Z,h3,h4,y⟩:=hd
 have F:=bi3 (st:=st) l c k
 have D:DefAt K z n st ps f _:=⟨F,gn X G a,F.binds h4⟩
 rcases y with y|y
 .exact⟨_,_,_,_,_,_,D,h1,Z,h3,y,aN5⟩
 .exact y.elim
theorem good_of {names:yH}{P:lj}{K:af}{h:Heap}{y:yC}{n:String}{d:lP}{st:Stmt}(X:K.In h)(G:h.Ns bG y)(hT:∀ x∈names,(br K x).isSome=true)(hD:bQ4 K n st)(hd:DT names P n d st):Good (bn4 names P K) (bK0 names K) y n d:=bb7 X G hT hD hd
end L2
end
noncomputable section
namespace DV
noncomputable def at7:Df:=⟨"_law_bag",2,3,(.cons (.asg (.one 2) (.cst (.int 0))) (.cons (.ite (.cmp .lt (.var 1) (.bi .len (.cons (.var 0) .nil))) (.cons (.asg (.one 2) (.bi .abs (.cons (.ix (.var 0) (.var 1)) .nil))) .nil) .nil) (.cons (.asg (.one 3) (.bin .add (.bin .mul (.cst (.int 7919)) (.var 1)) (.cst (.int 17)))) (.cons (.for_ (.one 4) (.rng1 (.bi .min2 (.cons (.bi .len (.cons (.var 0) .nil)) (.cons (.cst (.int 60)) .nil)))) (.cons (.asg (.one 3) (.bin .mod (.bin .add (.bin .add (.bin .mul (.var 3) (.cst (.int 48271))) (.bin .mod (.ix (.var 0) (.var 4)) (.cst (.int 2147483647)))) (.var 4)) (.cst (.int 2147483629)))) .nil)) (.cons (.ite (.cmp .lt (.var 2) (.bin .pow (.cst (.int 10)) (.cst (.int 18)))) (.cons (.asg (.one 2) (.cst (.int 0))) .nil) .nil) (.cons (.ret (.lst (.cons (.var 2) (.cons (.var 3) .nil)))) .nil))))))⟩
noncomputable def ab1:Df:=⟨"_law_take",2,3,(.cons (.ite (.cmp .gt (.ix (.var 0) (.cst (.int 0))) (.cst (.int 0))) (.cons (.asg (.one 2) (.bin .mod (.ix (.var 0) (.cst (.int 0))) (.var 1))) (.cons (.setIx (.var 0) (.cst (.int 0)) (.bin .fdiv (.ix (.var 0) (.cst (.int 0))) (.var 1))) (.cons (.ret (.var 2)) .nil))) .nil) (.cons (.asg (.one 3) (.cst (.int 0))) (.cons (.asg (.one 4) (.cst (.int 1))) (.cons (.whl (.cmp .lt (.var 4) (.var 1)) (.cons (.setIx (.var 0) (.cst (.int 1)) (.bin .mod (.bin .add (.bin .mul (.ix (.var 0) (.cst (.int 1))) (.cst (.int 48271))) (.cst (.int 7919))) (.cst (.int 2147483647)))) (.cons (.asg (.one 3) (.bin .add (.bin .mul (.var 3) (.cst (.int 1073741789))) (.bin .mod (.bin .mul (.bin .fdiv (.ix (.var 0) (.cst (.int 1))) (.cst (.int 8))) (.cst (.int 69621))) (.cst (.int 1073741789))))) (.cons (.asg (.one 4) (.bin .mul (.var 4) (.cst (.int 1073741789)))) .nil)))) (.cons (.ret (.bin .mod (.var 3) (.var 1))) .nil)))))⟩
noncomputable def ab8:Df:=⟨"_law_rooms",2,1,(.cons (.asg (.one 2) (.call "_law_take" (.ex (.var 0) (.ex (.bin .shl (.cst (.int 1)) (.var 1)) .nil)))) (.cons (.ret (.mk .tuple (.compIf (.one 0) (.rng1 (.var 1)) (.cmp .eq (.bin .mod (.bin .fdiv (.var 1) (.bin .shl (.cst (.int 1)) (.var 0))) (.cst (.int 2))) (.cst (.int 1))) (.var 0) [none,some 2]))) .nil))⟩
noncomputable def ab2:Df:=⟨"_law_machine",1,5,(.cons (.asg (.one 1) (.bin .add (.cst (.int 1)) (.call "_law_take" (.ex (.var 0) (.ex (.cst (.int 3)) .nil))))) (.cons (.asg (.one 2) (.bin .add (.cst (.int 1)) (.call "_law_take" (.ex (.var 0) (.ex (.cst (.int 5)) .nil))))) (.cons (.asg (.one 3) (.call "_law_take" (.ex (.var 0) (.ex (.cst (.int 13)) .nil)))) (.cons (.ite (.cmp .eq (.call "_law_take" (.ex (.var 0) (.ex (.cst (.int 8)) .nil))) (.cst (.int 7))) (.cons (.asg (.one 3) (.call "_law_take" (.ex (.var 0) (.ex (.cst (.int 76)) .nil)))) .nil) .nil) (.cons (.asg (.one 4) (.lst .nil)) (.cons (.for_ (.one 5) (.rng1 (.var 3)) (.cons (.ex (.meth .append (.var 4) (.cons (.tup (.cons (.call "_law_take" (.ex (.var 0) (.ex (.var 2) .nil))) (.cons (.ix (.cst (.str [97,98,99])) (.call "_law_take" (.ex (.var 0) (.ex (.var 1) .nil)))) (.cons (.call "_law_take" (.ex (.var 0) (.ex (.var 2) .nil))) (.cons (.call "_law_take" (.ex (.var 0) (.ex (.cst (.int 4)) .nil))) .nil))))) .nil))) .nil)) (.cons (.ret (.tup (.cons (.var 1) (.cons (.var 2) (.cons (.call "_law_rooms" (.ex (.var 0) (.ex (.var 2) .nil))) (.cons (.call "_law_rooms" (.ex (.var 0) (.ex (.var 2) .nil))) (.cons (.mk .tuple (.seq (.var 4))) .nil))))))) .nil)))))))⟩
noncomputable def aj2:Df:=⟨"_law_word",3,2,(.cons (.asg (.one 3) (.cst (.str []))) (.cons (.for_ (.one 4) (.rng1 (.call "_law_take" (.ex (.var 0) (.ex (.bin .add (.var 2) (.cst (.int 1))) .nil)))) (.cons (.asg (.one 3) (.bin .add (.var 3) (.ix (.cst (.str [97,98,99])) (.call "_law_take" (.ex (.var 0) (.ex (.var 1) .nil)))))) .nil)) (.cons (.ret (.var 3)) .nil)))⟩
noncomputable def al7:Df:=⟨"rooms_of",1,0,(.cons (.ret (.ix (.var 0) (.cst (.int 1)))) .nil)⟩
noncomputable def aa6:Df:=⟨"begins_of",1,0,(.cons (.ret (.ix (.var 0) (.cst (.int 2)))) .nil)⟩
noncomputable def ab0:Df:=⟨"ends_of",1,0,(.cons (.ret (.ix (.var 0) (.cst (.int 3)))) .nil)⟩
noncomputable def aa5:Df:=⟨"doors_of",1,0,(.cons (.ret (.ix (.var 0) (.cst (.int 4)))) .nil)⟩
noncomputable def ac6:Df:=⟨"tolls",2,4,(.cons (.asg (.one 2) (.dic .nil .nil)) (.cons (.for_ (.one 3) (.seq (.call "begins_of" (.ex (.var 0) .nil))) (.cons (.setIx (.var 2) (.var 3) (.dic (.cons (.cst (.int 0)) .nil) (.cons (.cst (.bl true)) .nil))) .nil)) (.cons (.for_ (.one 4) (.seq (.var 1)) (.cons (.asg (.one 2) (.call "paid_led_on" (.ex (.var 0) (.ex (.var 2) (.ex (.var 4) .nil))))) .nil)) (.cons (.asg (.one 5) (.dic .nil .nil)) (.cons (.for_ (.one 3) (.seq (.call "ends_of" (.ex (.var 0) .nil))) (.cons (.ex (.upd (.var 5) (.gtd (.var 2) (.var 3) (.dic .nil .nil)))) .nil)) (.cons (.ret (.srtD (.var 5))) .nil))))))⟩
noncomputable def aa4:Df:=⟨"paid_led_on",3,7,(.cons (.asg (.one 3) (.dic .nil .nil)) (.cons (.for_ (.tup [4,5,6,7]) (.seq (.call "doors_of" (.ex (.var 0) .nil))) (.cons (.ite (.and (.cmp .eq (.var 5) (.var 2)) (.cmp .isin (.var 4) (.var 1))) (.cons (.asg (.one 8) (.sdf (.var 3) (.var 6) (.dic .nil .nil))) (.cons (.forK (.one 9) (.ix (.var 1) (.var 4)) (.cons (.setIx (.var 8) (.bin .add (.var 9) (.var 7)) (.cst (.bl true))) .nil)) .nil)) .nil) .nil)) (.cons (.ret (.var 3)) .nil)))⟩
noncomputable def ac1:Df:=⟨"_law_tolls",2,9,(.cons (.asg (.one 2) (.mk .list (.comp (.one 0) (.rng1 (.ix (.var 0) (.cst (.int 1)))) (.bi .int (.cons (.cmp .isin (.var 0) (.ix (.var 1) (.cst (.int 2)))) .nil)) [none,some 0]))) (.cons (.for_ (.one 3) (.seq (.var 1)) (.cons (.asg (.one 4) (.mk .list (.comp (.one 0) (.seq (.var 2)) (.cst (.int 0)) [none]))) (.cons (.for_ (.tup [5,6,7,8]) (.seq (.ix (.var 0) (.cst (.int 4)))) (.cons (.ite (.cmp .eq (.var 6) (.var 3)) (.cons (.setIx (.var 4) (.var 7) (.bin .bor (.ix (.var 4) (.var 7)) (.bin .shl (.ix (.var 2) (.var 5)) (.var 8)))) .nil) .nil) .nil)) (.cons (.asg (.one 2) (.var 4)) .nil)))) (.cons (.asg (.one 9) (.cst (.int 0))) (.cons (.for_ (.one 10) (.seq (.ix (.var 0) (.cst (.int 3)))) (.cons (.asg (.one 9) (.bin .bor (.var 9) (.ix (.var 2) (.var 10)))) .nil)) (.cons (.ret (.mk .list (.compIf (.one 0) (.rng1 (.bin .add (.bin .mul (.cst (.int 3)) (.bi .len (.cons (.var 1) .nil))) (.cst (.int 1)))) (.cmp .eq (.bin .band (.bin .shr (.var 1) (.var 0)) (.cst (.int 1))) (.cst (.int 1))) (.var 0) [none,some 9]))) .nil)))))⟩
noncomputable def ai2:Df:=⟨"_law_same",2,1,(.cons (.ite (.or (.not (.bi .isList (.cons (.var 0) .nil))) (.cmp .ne (.bi .len (.cons (.var 0) .nil)) (.bi .len (.cons (.var 1) .nil)))) (.cons (.ret (.cst (.bl false))) .nil) .nil) (.cons (.for_ (.one 2) (.rng1 (.bi .len (.cons (.var 1) .nil))) (.cons (.ite (.or (.not (.bi .isInt (.cons (.ix (.var 0) (.var 2)) .nil))) (.or (.bi .isBool (.cons (.ix (.var 0) (.var 2)) .nil)) (.cmp .ne (.ix (.var 0) (.var 2)) (.ix (.var 1) (.var 2))))) (.cons (.ret (.cst (.bl false))) .nil) .nil) .nil)) (.cons (.ret (.cst (.bl true))) .nil)))⟩
noncomputable def aa8:Df:=⟨"law",1,7,(.cons (.for_ (.one 1) (.rng1 (.bin .add (.bi .min2 (.cons (.bi .len (.cons (.var 0) .nil)) (.cons (.cst (.int 3)) .nil))) (.cst (.int 1)))) (.cons (.asg (.one 2) (.call "_law_bag" (.ex (.var 0) (.ex (.var 1) .nil)))) (.cons (.asg (.one 3) (.call "_law_machine" (.ex (.var 2) .nil))) (.cons (.asg (.one 4) (.call "_law_word" (.ex (.var 2) (.ex (.ix (.var 3) (.cst (.int 0))) (.ex (.ix (.lst (.cons (.cst (.int 8)) (.cons (.cst (.int 8)) (.cons (.cst (.int 8)) (.cons (.cst (.int 24)) .nil))))) (.call "_law_take" (.ex (.var 2) (.ex (.cst (.int 4)) .nil)))) .nil))))) (.cons (.asg (.one 5) (.call "_law_word" (.ex (.var 2) (.ex (.ix (.var 3) (.cst (.int 0))) (.ex (.cst (.int 8)) .nil))))) (.cons (.for_ (.one 6) (.seq (.lst (.cons (.var 4) (.cons (.var 5) (.cons (.var 4) .nil))))) (.cons (.asg (.one 7) (.call "tolls" (.ex (.var 3) (.ex (.var 6) .nil)))) (.cons (.ite (.not (.call "_law_same" (.ex (.var 7) (.ex (.call "_law_tolls" (.ex (.var 3) (.ex (.var 6) .nil))) .nil)))) (.cons (.ret (.cst (.bl false))) .nil) .nil) (.cons (.ex (.meth .append (.var 7) (.cons (.cst (.int 0)) .nil))) (.cons (.ex (.meth .reverse (.var 7) .nil)) .nil))))) .nil)))))) (.cons (.ret (.cst (.bl true))) .nil))⟩
noncomputable def aB6:Df:=⟨"grid",2,2,.nil⟩
noncomputable def aQ3:Df:=⟨"least",1,0,.nil⟩
noncomputable def bt8:Df:=⟨"added",2,0,.nil⟩
noncomputable def bo1:Df:=⟨"plain",1,0,.nil⟩
noncomputable def aG6:Lm:=⟨"plain.0",2,0,(.ite (.cmp .eq (.var 0) (.var 1)) (.cst (.int 0)) (.cst .non))⟩
noncomputable def aN3:Df:=⟨"product",2,1,.nil⟩
noncomputable def at9:Lm:=⟨"product.0",2,3,(.call "least" (.ex (.mk .list (.comp (.one 0) (.rng1 (.var 2)) (.call "added" (.ex (.ix (.ix (.var 1) (.var 2)) (.var 0)) (.ex (.ix (.ix (.var 3) (.var 0)) (.var 4)) .nil))) [none,some 3,some 0,some 4,some 1])) .nil))⟩
noncomputable def qA:Df:=⟨"letter_table",2,1,.nil⟩
noncomputable def zU:Lm:=⟨"letter_table.least_fee",2,2,(.call "least" (.ex (.mk .list (.compIf (.tup [0,1,2,3]) (.seq (.call "doors_of" (.ex (.var 2) .nil))) (.cmp .eq (.tup (.cons (.var 0) (.cons (.var 1) (.cons (.var 2) .nil)))) (.tup (.cons (.var 4) (.cons (.var 5) (.cons (.var 6) .nil))))) (.var 3) [none,none,none,none,some 0,some 3,some 1])) .nil))⟩
noncomputable def ar4:Df:=⟨"word_table",2,3,(.cons (.asg (.one 2) (.dic .nil .nil)) (.cons (.asg (.one 3) (.call "plain" (.ex (.call "rooms_of" (.ex (.var 0) .nil)) .nil))) (.cons (.for_ (.one 4) (.seq (.var 1)) (.cons (.ite (.cmp .notin (.var 4) (.var 2)) (.cons (.setIx (.var 2) (.var 4) (.call "letter_table" (.ex (.var 0) (.ex (.var 4) .nil)))) .nil) .nil) (.cons (.asg (.one 3) (.call "product" (.ex (.var 3) (.ex (.ix (.var 2) (.var 4)) .nil)))) .nil))) (.cons (.ret (.var 3)) .nil))))⟩
noncomputable def ak4:Df:=⟨"sign_product",2,1,.nil⟩
noncomputable def ae5:Lm:=⟨"sign_product.0",2,3,(.mk .min (.comp (.one 0) (.rng1 (.var 2)) (.bi .max2 (.cons (.ix (.ix (.var 1) (.var 2)) (.var 0)) (.cons (.ix (.ix (.var 3) (.var 0)) (.var 4)) .nil))) [none,some 3,some 0,some 4,some 1]))⟩
noncomputable def ca3:Df:=⟨"_law_on",3,5,.nil⟩
noncomputable def ar6:Df:=⟨"Rooms.link",3,2,(.cons (.for_ (.one 3) (.seq (.var 1)) (.cons (.for_ (.one 4) (.seq (.var 2)) (.cons (.setIx (.ix (.attr (.var 0) [102,111,108,108,111,119,115]) (.var 3)) (.var 4) (.cst (.bl true))) .nil)) .nil)) .nil)⟩
class Has (P:Pr)(d:Df):Prop where
 eq:P.df d.name=some d
class HasM (P:Pr)(c m:String)(d:Df):Prop where
 at_:P.mt c m=some d
class HasL (P:Pr)(d:Lm):Prop where
 eq:P.lm d.id=some d
noncomputable def fin (s:Sto)(c:Ct)(s':Sto):R D:=match c with
 | .ret v=>zn s v s'
 | .next _=>zn s .non s'
 | _=>.bad
@[simp] theorem fin_ret (s:Sto) (v:D) (s':Sto):fin s (.ret v) s'=zn s v s':=rfl
@[simp] theorem fin_next (s:Sto) (U:Env) (s':Sto):fin s (.next U) s'=zn s .non s':=rfl
theorem zq {P:Pr}(d:Df)[h:Has P d]{n:Nat}{l:List D}{s:Sto}(y:l.length=d.ps) :
  (aa1 P (n+1)).call d.name l s=(exs (aa1 P n) d.body (l.map some++aF d.vs none) s).bind (fin s):=by
 simp only[aa1,h.eq,y,if_true]
 rfl
theorem ql (s t:Sto):an4 s (s++t)=true:=by
 unfold an4
 rw[bh]
 intro i h
 rw[c8]at h
 rw[aR h]
 simp
theorem aS5 (s t:Sto)(r:Nat)(o:O)(h:o.bnd s.length=true):an4 s (s.set r o++t)=true:=by
 unfold an4
 rw[bh]
 intro i y
 rw[c8]at y
 rw[aR (by rw[aK];exact y)]
 by_cases e:r=i
 .subst e;rw[aJ y];simp[h]
 .rw[aw e];simp
theorem aS3 {s t:Sto}{d:D}(h:∀ n,d.bnd n=true)(hr:∀ r,d≠.ref r):zn s d (s++t)=.ok d s:=by
 unfold zn
 rw[ql,if_pos rfl]
 cases d with
 | ref r=>exact absurd rfl (hr r)
 | _=>simp[h]
theorem zC {s:Sto}{d:D}(h:∀ n,d.bnd n=true)(hr:∀ r,d≠.ref r):zn s d s=.ok d s:=by
 have:=aS3 (s:=s) (t:=[]) h hr
 rwa [bt]at this
theorem ar3 {s t:Sto}{d:D}{r:Nat}{o:O}(h:∀ n,d.bnd n=true)(hr:∀ r,d≠.ref r)(ho:o.bnd s.length=true):zn s d (s.set r o++t)=.ok d (s.set r o):=by
 unfold zn
 rw[aS5 s t r o ho,if_pos rfl]
 have e:(s.set r o++t).take s.length=s.set r o:=by rw[List.take_append_of_le_length (by simp),a8 (by simp)]
 cases d with
 | ref r=>exact absurd rfl (hr r)
 | _=>simp only[h,if_true,e]
theorem qo {s:Sto}{d:D}{r:Nat}{o:O}(h:∀ n,d.bnd n=true)(hr:∀ r,d≠.ref r)(ho:o.bnd s.length=true):zn s d (s.set r o)=.ok d (s.set r o):=by
 have:=ar3 (s:=s) (t:=[]) (r:=r) h hr ho
 rwa [bt]at this
theorem as1 {s t u:Sto}{o:O}(ho:o.bnd s.length=true):zn s (.ref (s.length+t.length)) (s++(t++o::u))=.ok (.ref s.length) (s++[o]):=by
 unfold zn
 rw[ql,if_pos rfl]
 simp[ho,bz]
@[simp] theorem bI4 {s:Sto} {i:Int}:zn s (.int i) s=.ok (.int i) s:=zC (fun _=>rfl) (by nofun)
@[simp] theorem bN5 {s:Sto} {i:Bool}:zn s (.bl i) s=.ok (.bl i) s:=zC (fun _=>rfl) (by nofun)
@[simp] theorem bE6 {s:Sto}:zn s .non s=.ok .non s:=zC (fun _=>rfl) (by nofun)
@[simp] theorem bB4 {s:Sto} {x:List Nat}:zn s (.str x) s=.ok (.str x) s:=zC (fun _=>rfl) (by nofun)
theorem qj {c:Env->Sto->R D}{g:Env->Sto->R Ct}:∀ {n:Nat} {U:Env} {s:Sto},qD c g n U s≠.bad->qD c g (n+1) U s=qD c g n U s
 | 0,_,_,h=>absurd rfl h
 | n+1,U,s,h=>by
  rw[show qD c g (n+1+1) U s=tru (c U s) (fun b s=>if b then(g U s).bind fun y s=>match y with
   | .next U=>qD c g (n+1) U s|.cont U=>qD c g (n+1) U s|.brk U=>.ok (.next U) s|.ret d=>.ok (.ret d) s else .ok (.next U) s)from rfl]
  have e:qD c g (n+1) U s=tru (c U s) (fun b s=>if b then(g U s).bind fun y s=>match y with
   | .next U=>qD c g n U s|.cont U=>qD c g n U s|.brk U=>.ok (.next U) s|.ret d=>.ok (.ret d) s else .ok (.next U) s):=rfl
  rw[e]at h ⊢
  unfold tru at h ⊢
  cases hc:c U s with
  | exc _ _=>rfl
  | bad=>rfl
  | ok d s1 =>
   rw[hc]at h
   cases d with
   | bl b =>
    cases b with
    | false=>rfl
    | true =>
     simp only[R.bind_ok,if_true]at h ⊢
     cases hg:g U s1 with
     | exc _ _=>rfl
     | bad=>rfl
     | ok y s2 =>
      rw[hg]at h
      simp only[R.bind_ok]at h ⊢
      cases y with
      | next U'=>exact qj h
      | cont U'=>exact qj h
      | _=>rfl
   | _=>rfl
theorem zK {c:Env->Sto->R D}{g:Env->Sto->R Ct}{n:Nat}{U:Env}{s:Sto}(h:qD c g n U s≠.bad):∀ k,qD c g (n+k) U s=qD c g n U s
 | 0=>rfl
 | k+1=>by
  have e:=zK h k
  rw[<-Nat.add_assoc,qj (by rw[e];exact h),e]
theorem bE2 {c:Env->Sto->R D}{g:Env->Sto->R Ct}{n:Nat}{U:Env}{s:Sto}{r:Ct}{t:Sto}(h:qD c g n U s=.ok r t):whl c g U s=.ok r t:=by
 have hb:qD c g n U s≠.bad:=by rw[h];nofun
 have hx:∃ n,qD c g n U s≠.bad:=⟨n,hb⟩
 unfold whl
 rw[dif_pos hx]
 have z:=zK hx.choose_spec n
 have y:=zK hb hx.choose
 rw[<-z,gP,y,h]
theorem aY6 {c:Env->Sto->R D}{g:Env->Sto->R Ct}{U U':Env}{s s1 s':Sto}(hc:c U s=.ok (.bl true) s1)(hg:g U s1=.ok (.next U') s'):whl c g U s=whl c g U' s':=by
 have key:∀ n,qD c g (n+1) U s=qD c g n U' s':=fun n=>by
  show tru (c U s) _=_
  rw[hc,tru_bl,if_pos rfl,hg];rfl
 unfold whl
 by_cases hx:∃ n,qD c g n U' s'≠.bad
 .have hy:∃ n,qD c g n U s≠.bad:=⟨hx.choose+1,by rw[key];exact hx.choose_spec⟩
  rw[dif_pos hx,dif_pos hy]
  have y:=zK hy.choose_spec (hx.choose+1)
  have h:=zK (n:=hx.choose+1) (U:=U) (s:=s) (by rw[key];exact hx.choose_spec) hy.choose
  rw[<-y,gP,h,key]
 .have hy:¬ ∃ n,qD c g n U s≠.bad:=fun⟨n,hn⟩=>by
   cases n with
   | zero=>exact hn rfl
   | succ n=>exact hx ⟨n,by rw[<-key];exact hn⟩
  rw[dif_neg hx,dif_neg hy]
theorem bo6 {c:Env->Sto->R D}{g:Env->Sto->R Ct}{U:Env}{s s1:Sto}(hc:c U s=.ok (.bl false) s1):whl c g U s=.ok (.next U) s1 :=
 bE2 (n:=1) (by show tru (c U s) _=_;rw[hc,tru_bl];rfl)
theorem ah4 {ok:Sto->Bool}{g:D->Env->Sto->R Ct}(P:Nat->Env->Sto->Prop):∀(l:List D) (k:Nat) (U:Env) (s:Sto),
  P k U s->(∀(j:Nat) (U:Env) (s:Sto),j<=l.length->P (k+j) U s->ok s=true)->(∀(j:Nat) (d:D) (U:Env) (s:Sto),l[j]?=some d->P (k+j) U s->∃ U' s',(g d U s=.ok (.next U') s'\/g d U s=.ok (.cont U') s')/\P (k+j+1) U' s') ->
  ∃ U' s',av7 ok g l U s=.ok (.next U') s'/\P (k+l.length) U' s'
 | [],k,U,s,h,o,_=>⟨U,s,by show(if ok s then _ else _)=_;rw[if_pos (o 0 U s (ah _) h)],h⟩
 | d::l,k,U,s,h,o,t=>by
  have ho:=o 0 U s (dJ _) h
  obtain⟨U1,s1,hg,y⟩:=t 0 d U s rfl h
  obtain⟨U2,s2,e,z⟩:=ah4 P l (k+1) U1 s1 y (fun j U' s' hj hp=>o (j+1) U' s' (by simpa using hj) (by rwa [show k+(j+1)=k+1+j by lia])) fun j d' U' s' hj hp=>by
   have:=t (j+1) d' U' s' (by simpa using hj) (by rwa [show k+(j+1)=k+1+j by lia])
   rwa [show k+(j+1)+1=k+1+j+1 by lia]at this
  refine⟨U2,s2,?_,by rwa [aI,show k+(l.length+1)=k+1+l.length by lia]⟩
  show(if ok s then _ else _)=_
  rw[if_pos ho]
  rcases hg with hg|hg<;>(rw[hg];exact e)
noncomputable def Nx (Q:Env->Sto->Prop):R Ct->Prop
 | .ok (.next U) s=>Q U s
 | .ok (.cont U) s=>Q U s
 | _=>False
@[simp] theorem bU0 (Q:Env->Sto->Prop) (U:Env) (s:Sto):Nx Q (.ok (.next U) s)=Q U s:=rfl
@[simp] theorem bT7 (Q:Env->Sto->Prop) (U:Env) (s:Sto):Nx Q (.ok (.cont U) s)=Q U s:=rfl
theorem ad7 {Q:Env->Sto->Prop}{r:R Ct}{U:Env}{s:Sto}(e:r=.ok (.next U) s)(h:Q U s):Nx Q r:=by rw[e];exact h
theorem Nx.out {Q:Env->Sto->Prop}:∀ {r:R Ct},Nx Q r->∃ U s,(r=.ok (.next U) s\/r=.ok (.cont U) s)/\Q U s
 | .ok (.next U) s,h=>⟨U,s,.inl rfl,h⟩
 | .ok (.cont U) s,h=>⟨U,s,.inr rfl,h⟩
 | .ok (.ret _) _,h=>h.elim
 | .ok (.brk _) _,h=>h.elim
 | .exc _ _,h=>h.elim
 | .bad,h=>h.elim
noncomputable def Tst (A B:Sto->Prop):R D->Prop
 | .ok (.bl false) s=>A s
 | .ok (.bl true) s=>B s
 | _=>False
@[simp] theorem bi8 (A B:Sto->Prop) (b:Bool) (s:Sto):Tst A B (.ok (.bl b) s)=if b then B s else A s:=by cases b<;>rfl
theorem Tst.out {A B:Sto->Prop}:∀ {r:R D},Tst A B r->(∃ s,r=.ok (.bl false) s/\A s)\/∃ s,r=.ok (.bl true) s/\B s
 | .ok (.bl false) s,h=>.inl ⟨s,rfl,h⟩
 | .ok (.bl true) s,h=>.inr ⟨s,rfl,h⟩
 | .ok .non _,h=>h.elim
 | .ok (.int _) _,h=>h.elim
 | .ok (.str _) _,h=>h.elim
 | .ok (.tup _) _,h=>h.elim
 | .ok (.ref _) _,h=>h.elim
 | .ok (.fn _) _,h=>h.elim
 | .ok (.clo _ _) _,h=>h.elim
 | .exc _ _,h=>h.elim
 | .bad,h=>h.elim
theorem aX7 {c:Env->Sto->R D}{g:Env->Sto->R Ct}{U U':Env}{s s1 s':Sto}(hc:c U s=.ok (.bl true) s1)(hg:g U s1=.ok (.cont U') s'):whl c g U s=whl c g U' s':=by
 have key:∀ n,qD c g (n+1) U s=qD c g n U' s':=fun n=>by
  show tru (c U s) _=_
  rw[hc,tru_bl,if_pos rfl,hg];rfl
 unfold whl
 by_cases hx:∃ n,qD c g n U' s'≠.bad
 .have hy:∃ n,qD c g n U s≠.bad:=⟨hx.choose+1,by rw[key];exact hx.choose_spec⟩
  rw[dif_pos hx,dif_pos hy]
  have y:=zK hy.choose_spec (hx.choose+1)
  have h:=zK (n:=hx.choose+1) (U:=U) (s:=s) (by rw[key];exact hx.choose_spec) hy.choose
  rw[<-y,gP,h,key]
 .have hy:¬ ∃ n,qD c g n U s≠.bad:=fun⟨n,hn⟩=>by
   cases n with
   | zero=>exact hn rfl
   | succ n=>exact hx ⟨n,by rw[<-key];exact hn⟩
  rw[dif_neg hx,dif_neg hy]
theorem bM6 {c:Env->Sto->R D}{g:Env->Sto->R Ct}(P:Nat->Env->Sto->Prop)(Q:Env->Sto->Prop)
  (step:∀ k U s,P k U s->Tst (fun s1=>Q U s1) (fun s1=>Nx (fun U' s'=>∃ y,y<k/\P y U' s') (g U s1)) (c U s)) :
  ∀(k:Nat) (U:Env) (s:Sto),P k U s->∃ U' s',whl c g U s=.ok (.next U') s'/\Q U' s':=by
 intro k
 induction k using Nat.strongRecOn with
 | _ k ih =>
  intro U s h
  rcases(step k U s h).out with⟨s1,hc,hq⟩|⟨s1,hc,hn⟩
  .exact⟨U,s1,bo6 hc,hq⟩
  .obtain⟨U',s',hg,y,hk,hp⟩:=hn.out
   rcases hg with hg|hg
   .rw[aY6 hc hg];exact ih y hk U' s' hp
   .rw[aX7 hc hg];exact ih y hk U' s' hp
theorem aY1 {c:Env->Sto->R D}{g:Env->Sto->R Ct}{U:Env}{s:Sto}{α:Type}{f:Ct->Sto->R α}{Ww:R α->Prop}(P:Nat->Env->Sto->Prop)(Q:Env->Sto->Prop)(k:Nat)(h:P k U s)
  (step:∀ k U s,P k U s->Tst (fun s1=>Q U s1) (fun s1=>Nx (fun U' s'=>∃ y,y<k/\P y U' s') (g U s1)) (c U s))
  (z:∀ U' s',Q U' s'->Ww (f (.next U') s')):Ww ((whl c g U s).bind f):=by
 obtain⟨U',s',e,q⟩:=bM6 P Q step k U s h
 rw[e]
 exact z U' s' q
theorem ba4 {c:Env->Sto->R D}{g:Env->Sto->R Ct}{U:Env}{s:Sto}{α:Type}{f:Ct->Sto->R α}{x:R α}(P:Nat->Env->Sto->Prop)(Q:Env->Sto->Prop)(k:Nat)(h:P k U s)
  (step:∀ k U s,P k U s->Tst (fun s1=>Q U s1) (fun s1=>Nx (fun U' s'=>∃ y,y<k/\P y U' s') (g U s1)) (c U s))
  (z:∀ U' s',Q U' s'->f (.next U') s'=x):(whl c g U s).bind f=x:=aY1 (Ww:=(·=x)) P Q k h step z
theorem zx {ok:Sto->Bool}{g:D->Env->Sto->R Ct}{l:List D}{U:Env}{s:Sto}{α:Type}{f:Ct->Sto->R α}{Ww:R α->Prop}(P:Nat->Env->Sto->Prop)(h:P 0 U s)
  (o:∀(j:Nat) (U:Env) (s:Sto),j<=l.length->P j U s->ok s=true) (step:∀(j:Nat) (d:D) (U:Env) (s:Sto),l[j]?=some d->P j U s->Nx (P (j+1)) (g d U s))
  (y:∀ U' s',P l.length U' s'->Ww (f (.next U') s')):Ww ((av7 ok g l U s).bind f):=by
 obtain⟨U',s',e,q⟩:=ah4 P l 0 U s h (fun j U s hj hp=>o j U s hj (by rwa [ce]at hp)) (fun j d U s hj hp=>by
  rw[ce]at hp ⊢
  exact(step j d U s hj hp).out)
 rw[e]
 rw[ce]at q
 exact y U' s' q
theorem aY3 {ok:Sto->Bool}{g:D->Env->Sto->R Ct}{l:List D}{U:Env}{s:Sto}{α:Type}{f:Ct->Sto->R α}{x:R α}(P:Nat->Env->Sto->Prop)(h:P 0 U s)
  (o:∀(j:Nat) (U:Env) (s:Sto),j<=l.length->P j U s->ok s=true) (step:∀(j:Nat) (d:D) (U:Env) (s:Sto),l[j]?=some d->P j U s->Nx (P (j+1)) (g d U s))
  (y:∀ U' s',P l.length U' s'->f (.next U') s'=x):(av7 ok g l U s).bind f=x:=zx (Ww:=(·=x)) P h o step y
section
variable {F:Fns} {U:Env} {s:Sto}
@[simp] theorem ev_var (i:Nat):ev F (.var i) U s=aU2 U i s:=rfl
@[simp] theorem ev_cst (c:Cn):ev F (.cst c) U s=.ok c.d s:=rfl
@[simp] theorem ev_bin (op:BOp) (a b:E):ev F (.bin op a b) U s=(ev F a U s).bind fun x s=>(ev F b U s).bind fun y s=>qw op x y s:=rfl
@[simp] theorem ev_not (a:E):ev F (.not a) U s=tru (ev F a U s) fun b s=>.ok (.bl (!b)) s:=rfl
@[simp] theorem ev_cmp (op:COp) (a b:E):ev F (.cmp op a b) U s=(ev F a U s).bind fun x s=>(ev F b U s).bind fun y s=>ac2 op x y s:=rfl
@[simp] theorem ev_and (a b:E):ev F (.and a b) U s=tru (ev F a U s) fun c s=>if c then tru (ev F b U s) fun c s=>.ok (.bl c) s else .ok (.bl false) s:=rfl
@[simp] theorem ev_or (a b:E):ev F (.or a b) U s=tru (ev F a U s) fun c s=>if c then .ok (.bl true) s else tru (ev F b U s) fun c s=>.ok (.bl c) s:=rfl
@[simp] theorem ev_ite (c a b:E):ev F (.ite c a b) U s=tru (ev F c U s) fun k s=>if k then ev F a U s else ev F b U s:=rfl
@[simp] theorem ev_tup (es:Es):ev F (.tup es) U s=(evs F es U s).bind fun l s=>.ok (.tup l) s:=rfl
@[simp] theorem ev_lst (es:Es):ev F (.lst es) U s=(evs F es U s).bind fun l s=>ab4 (.lst l) s:=rfl
@[simp] theorem ev_ix (a b:E):ev F (.ix a b) U s=(ev F a U s).bind fun x s=>(ev F b U s).bind fun y s=>ixM x y s:=rfl
@[simp] theorem ev_call (f:String) (as:As):ev F (.call f as) U s=(ah5 F as U s).bind fun l s=>F.call f l s:=rfl
@[simp] theorem ev_bi (b:Bi) (es:Es):ev F (.bi b es) U s=(evs F es U s).bind fun l s=>bi b l s:=rfl
@[simp] theorem ev_mk (k:Mk) (it:L):ev F (.mk k it) U s=(evL F it U s).bind fun q s=>mk k q s:=rfl
@[simp] theorem ev_meth (m:Mt) (o:E) (es:Es):ev F (.meth m o es) U s=(ev F o U s).bind fun x s=>(evs F es U s).bind fun l s=>meth m x l s:=rfl
@[simp] theorem evs_nil:evs F .nil U s=.ok [] s:=rfl
@[simp] theorem evs_cons (e:E) (es:Es):evs F (.cons e es) U s=(ev F e U s).bind fun d s=>(evs F es U s).bind fun l s=>.ok (d::l) s:=rfl
@[simp] theorem evas_nil:ah5 F .nil U s=.ok [] s:=rfl
@[simp] theorem evas_ex (e:E) (as:As):ah5 F (.ex e as) U s=(ev F e U s).bind fun d s=>(ah5 F as U s).bind fun l s=>.ok (d::l) s:=rfl
@[simp] theorem bQ6 (f:String) (as:As):ah5 F (.fn f as) U s=(ah5 F as U s).bind fun l s=>.ok (.fn f::l) s:=rfl
@[simp] theorem evI_seq (e:E):evI F (.seq e) U s=(ev F e U s).bind fun d s=>av6 d s:=rfl
@[simp] theorem bO5 (es:Es):evL F (.disp es) U s=evs F es U s:=rfl
@[simp] theorem evL_seq (e:E):evL F (.seq e) U s=(ev F e U s).bind fun d s=>bx4 d s:=rfl
noncomputable def aZ3 (x:D):M Sq:=fun s=>match x with|.int i=>if -Ww62<=i/\i<Ww62 then .ok ⟨qz 0 i,[]⟩ s else .bad|_=>.bad
@[simp] theorem evI_rng1 (a:E):evI F (.rng1 a) U s=(ev F a U s).bind fun x s=>aZ3 x s:=rfl
theorem qg {i:Int}(h0:-Ww62<=i)(h:i<Ww62):aZ3 (.int i) s=.ok ⟨qz 0 i,[]⟩ s:=by unfold aZ3;simp only[h0,h,and_self,if_true]
noncomputable def nxt (F:Fns)(ss:Ss)(c:Ct)(s:Sto):R Ct:=match c with|.next U=>exs F ss U s|c=>.ok c s
@[simp] theorem nxt_next (h:Ss) (U:Env) (s:Sto):nxt F h (.next U) s=exs F h U s:=rfl
@[simp] theorem nxt_ret (h:Ss) (d:D) (s:Sto):nxt F h (.ret d) s=.ok (.ret d) s:=rfl
@[simp] theorem nxt_cont (h:Ss) (U:Env) (s:Sto):nxt F h (.cont U) s=.ok (.cont U) s:=rfl
@[simp] theorem exs_nil:exs F .nil U s=.ok (.next U) s:=rfl
@[simp] theorem exs_cons (st:S) (h:Ss):exs F (.cons st h) U s=(ex F st U s).bind (nxt F h):=rfl
noncomputable def bW1 (U:Option Env)(s:Sto):R Ct:=match U with|some U=>.ok (.next U) s|none=>.bad
@[simp] theorem setC_some (U:Env) (s:Sto):bW1 (some U) s=.ok (.next U) s:=rfl
@[simp] theorem ex_asg (tg:Tg) (e:E):ex F (.asg tg e) U s=(ev F e U s).bind fun d s=>bW1 (qC U tg d) s:=rfl
@[simp] theorem ex_setIx (o i e:E):ex F (.setIx o i e) U s=(ev F e U s).bind fun d s=>(ev F o U s).bind fun x s=>(ev F i U s).bind fun y s=>(setIx x y d s).bind fun _ s=>.ok (.next U) s:=rfl
@[simp] theorem ex_ex (e:E):ex F (.ex e) U s=(ev F e U s).bind fun _ s=>.ok (.next U) s:=rfl
@[simp] theorem ex_ret (e:E):ex F (.ret e) U s=(ev F e U s).bind fun d s=>.ok (.ret d) s:=rfl
@[simp] theorem ex_ite (c:E) (a b:Ss):ex F (.ite c a b) U s=tru (ev F c U s) fun k s=>if k then exs F a U s else exs F b U s:=rfl
@[simp] theorem ex_whl (c:E) (b:Ss):ex F (.whl c b) U s=whl (ev F c) (exs F b) U s:=rfl
noncomputable def turn (F:Fns)(tg:Tg)(b:Ss)(d:D)(U:Env)(s:Sto):R Ct:=match qC U tg d with
 | some U=>exs F b U s
 | none=>.bad
@[simp] theorem ex_for (tg:Tg) (it:I) (b:Ss):ex F (.for_ tg it b) U s=(evI F it U s).bind fun q s0=>av7 (fun s=>chk s0 s q.src) (turn F tg b) q.its U s0:=rfl
@[simp] theorem bindT_one (i:Nat) (d:D):qC U (.one i) d=aA3 U i d:=rfl
@[simp] theorem bindT_tup (is:List Nat) (l:List D):qC U (.tup is) (.tup l)=ag5 U is l:=rfl
@[simp] theorem setVs_nil:ag5 U [] []=some U:=rfl
@[simp] theorem setVs_cons (i:Nat) (is:List Nat) (d:D) (l:List D):ag5 U (i::is) (d::l)=(aA3 U i d).bind fun U=>ag5 U is l:=rfl
@[simp] theorem getV_0 (d:D) (U:Env):aU2 (some d::U) 0 s=.ok d s:=rfl
@[simp] theorem getV_s (x:Option D) (U:Env) (i:Nat):aU2 (x::U) (i+1) s=aU2 U i s:=by unfold aU2;rw[List.getElem?_cons_succ]
@[simp] theorem setV_0 (d:D) (x:Option D) (U:Env):aA3 (x::U) 0 d=some (some d::U):=rfl
@[simp] theorem setV_s (d:D) (x:Option D) (U:Env) (i:Nat):aA3 (x::U) (i+1) d=(aA3 U i d).map (x::·):=by
 unfold aA3
 by_cases h:i < U.length
 .rw[if_pos (by simpa using h),if_pos h];rfl
 .rw[if_neg (by simpa using h),if_neg h];rfl
@[simp] theorem unsetV_0 (x:Option D) (U:Env):aC9 (x::U) 0=some (none::U):=rfl
@[simp] theorem unsetV_s (x:Option D) (U:Env) (i:Nat):aC9 (x::U) (i+1)=(aC9 U i).map (x::·):=by
 unfold aC9
 by_cases h:i < U.length
 .rw[if_pos (by simpa using h),if_pos h];rfl
 .rw[if_neg (by simpa using h),if_neg h];rfl
@[simp] theorem Cn_int (i:Int):(Cn.int i).d=.int i:=rfl
@[simp] theorem Cn_bl (i:Bool):(Cn.bl i).d=.bl i:=rfl
@[simp] theorem Cn_str (i:List Nat):(Cn.str i).d=.str i:=rfl
@[simp] theorem Cn_non:Cn.non.d=.non:=rfl
@[simp] theorem add_int (a b:Int):qw .add (.int a) (.int b) s=.ok (.int (a+b)) s:=rfl
@[simp] theorem sub_int (a b:Int):qw .sub (.int a) (.int b) s=.bad:=rfl
theorem ac5 {a b:Int}(h:mulOk a b=true):qw .mul (.int a) (.int b) s=.ok (.int (a*b)) s:=by show(if mulOk a b then _ else _:M D) s=_;rw[if_pos h];rfl
theorem aM2 {a b:Int}(h:a.natAbs<2^64):mulOk a b=true:=by unfold mulOk;simp[h]
theorem ap9 {a b:Int}(h:b.natAbs<2^64):mulOk a b=true:=by unfold mulOk;simp[h]
theorem ah6 {a b:Int}(h:0<b):qw .mod (.int a) (.int b) s=.ok (.int (a % b)) s:=by show(if 0<b then _ else _:M D) s=_;rw[if_pos h];rfl
theorem bs0:(10:Int)^200<=(DIVL:Int):=by unfold DIVL;decide +kernel
theorem an5 {a b:Int}(h:0<b)(y:b<10^200):qw .fdiv (.int a) (.int b) s=.ok (.int (a / b)) s:=by show(if 0<b/\b<(DIVL:Int)then _ else _:M D) s=_;rw[if_pos ⟨h,ja y bs0⟩];rfl
theorem aM4 {a b:Int}(h:0<=b/\b<=1000000/\a.natAbs<2^64):qw .pow (.int a) (.int b) s=.ok (.int (a^b.toNat)) s:=by show(if _ then _ else _:M D) s=_;rw[if_pos h];rfl
@[simp] theorem lt_int (a b:Int):ac2 .lt (.int a) (.int b) s=.ok (.bl (decide (a<b))) s:=rfl
@[simp] theorem le_int (a b:Int):ac2 .le (.int a) (.int b) s=.ok (.bl (decide (a<=b))) s:=rfl
@[simp] theorem gt_int (a b:Int):ac2 .gt (.int a) (.int b) s=.ok (.bl (decide (b<a))) s:=rfl
@[simp] theorem ge_int (a b:Int):ac2 .ge (.int a) (.int b) s=.bad:=rfl
@[simp] theorem eq_int (a b:Int):ac2 .eq (.int a) (.int b) s=.ok (.bl (decide (a=b))) s:=rfl
@[simp] theorem ne_int (a b:Int):ac2 .ne (.int a) (.int b) s=.ok (.bl (!decide (a=b))) s:=rfl
@[simp] theorem alloc_eq (o:O):ab4 o s=.ok (.ref s.length) (s++[o]):=rfl
@[simp] theorem bR6 (l:List D):bi .len [.tup l] s=.ok (.int l.length) s:=rfl
@[simp] theorem aM9 (l:List Nat):bi .len [.str l] s=.ok (.int l.length) s:=rfl
theorem aN7 {r:Nat}{l:List D}(h:s[r]?=some (.lst l)):bi .len [.ref r] s=.ok (.int l.length) s:=by simp only[bi,bi1,bs3,h]
theorem bj5 {r:Nat}{l:List D}(h:s[r]?=some (.ro l)):bi .len [.ref r] s=.ok (.int l.length) s:=by simp only[bi,bi1,bs3,h]
@[simp] theorem bP6 (i:Int):bi .abs [.int i] s=.ok (.int (if i<0 then -i else i)) s:=rfl
@[simp] theorem be7 (a b:Int):bi .min2 [.int a,.int b] s=.ok (.int (if b<a then b else a)) s:=rfl
@[simp] theorem bN4 (a b:Int):bi .max2 [.int a,.int b] s=.ok (.int (if b > a then b else a)) s:=rfl
@[simp] theorem aP0 (a:Int):bi .isInt [.int a] s=.ok (.bl true) s:=rfl
@[simp] theorem bx6 (a:Int):bi .isBool [.int a] s=.ok (.bl false) s:=rfl
@[simp] theorem bN1 (l:List D):bi .isTup [.tup l] s=.ok (.bl true) s:=rfl
theorem bG4 {r:Nat}{l:List D}{j:Nat}{d:D}(h:s[r]?=some (.ro l))(hj:l[j]?=some d):ixM (.ref r) (.int (j:Int)) s=.ok d s:=by
 have y:j<l.length:=(ac.mp hj).1
 have e:l[j]=d:=(ac.mp hj).2
 simp[ixM,h,ixn,y,e]
theorem ak7 {r:Nat}{l:List D}{j:Nat}{d:D}(h:s[r]?=some (.lst l))(hj:l[j]?=some d):ixM (.ref r) (.int (j:Int)) s=.ok d s:=by
 have y:j<l.length:=(ac.mp hj).1
 have e:l[j]=d:=(ac.mp hj).2
 simp[ixM,h,ixn,y,e]
theorem ix_tup {l:List D}{j:Nat}{d:D}(hj:l[j]?=some d):ixM (.tup l) (.int (j:Int)) s=.ok d s:=by
 have h:j<l.length:=(ac.mp hj).1
 have e:l[j]=d:=(ac.mp hj).2
 simp[ixM,ixn,h,e]
theorem bw6 {r:Nat}{l:List D}{j:Nat}{v:D}(h:s[r]?=some (.lst l))(y:j<l.length):setIx (.ref r) (.int (j:Int)) v s=.ok () (s.set r (.lst (l.set j v))):=by
 simp[setIx,h,ixn,y]
theorem ak8 {r:Nat}{l:List D}{v:D}(h:s[r]?=some (.lst l))(y:l.length<LIM):meth .append (.ref r) [v] s=.ok .non (s.set r (.lst (l++[v]))):=by
 show(match s[r]? with|some (.lst l)=>(if l.length<LIM then R.ok D.non (s.set r (.lst (l++[v])))else .bad)|_=>.bad:R D)=_
 rw[h]
 exact if_pos y
end
theorem aw8 (s t:Sto)(b:Bool):∃ s',zn s (.bl b) t=.ok (.bl b) s':=by
 unfold zn
 by_cases h:an4 s t=true
 .rw[if_pos h];exact⟨_,rfl⟩
 .rw[if_neg h];exact⟨_,rfl⟩
def Yes (r:R D):Prop:=∃ s',r=.ok (.bl true) s'
theorem aI8 (s t:Sto):Yes (zn s (.bl true) t):=aw8 s t true
theorem z0 {a b:Int}{j:Nat}{d:D}(h:(qz a b)[j]?=some d):(j:Int)<b - a/\d=.int (a+j):=by
 have hj:=(ac.mp h).1
 simp only[qz,az,jy]at hj
 unfold qz at h
 rw[aE,fq hj]at h
 exact⟨by omega,(au h).symm⟩
def bP4 (P:Pr)(k:Nat):Prop:=∀ ns:List Int,ns.length<=63->Yes ((aa1 P k).call "law" [.ref 0] [.ro (ns.map D.int)])
noncomputable def bx7:Option Int->D
 | none=>.non
 | some i=>.int i
@[simp] theorem by8:bx7 none=.non:=rfl
@[simp] theorem bE4 (i:Int):bx7 (some i)=.int i:=rfl
@[simp] theorem aU4 (p:Option Int) (n:Nat):(bx7 p).bnd n=true:=by cases p<;>rfl
theorem bb5 (p:Option Int)(r:Nat):bx7 p≠.ref r:=by cases p<;>nofun
@[simp] theorem bx1 {s:Sto} {p:Option Int}:zn s (bx7 p) s=.ok (bx7 p) s:=zC (aU4 p) (bb5 p)
noncomputable def zA (b:Nat×Nat):O:=.lst [.int b.1,.int b.2]
@[simp] theorem bO4 (b:Nat×Nat) (n:Nat):(zA b).bnd n=true:=rfl
noncomputable def tkW (many:Nat):Nat->Nat->Nat->Nat->Nat×Nat
 | 0,mix,num,_=>(num,mix)
 | n+1,mix,num,room=>if room<many then tkW many n ((mix*48271+7919) % 2147483647) (num*1073741789+(mix*48271+7919) % 2147483647 / 8*69621 % 1073741789) (room*1073741789)else(num,mix)
noncomputable def tk (b:Nat×Nat)(many:Nat):Nat×(Nat×Nat) :=
 if 0<b.1 then(b.1 % many,(b.1 / many,b.2))else let r:=tkW many 12 b.2 0 1;(r.1 % many,(b.1,r.2))
theorem bQ8 (b:Nat×Nat){many:Nat}(h:0<many):(tk b many).1<many:=by
 unfold tk
 split
 .exact Nat.mod_lt _ h
 .exact Nat.mod_lt _ h
theorem aJ5 {many:Nat}{k z y room:Nat}(h:many<=room):tkW many k z y room=(y,z):=by
 cases k with
 | zero=>rfl
 | succ k=>unfold tkW;rw[if_neg (by lia)]
theorem aZ1 {many:Nat}{k y z room:Nat}(h:room<many):tkW many (k+1) y z room=tkW many k ((y*48271+7919) % 2147483647) (z*1073741789+(y*48271+7919) % 2147483647 / 8*69621 % 1073741789) (room*1073741789):=by
 conv=>lhs;unfold tkW
 rw[if_pos h]
theorem bn8 {P:Pr}[Has P ab1](n:Nat)(b:Nat×Nat)(many:Nat)(h0:0<many)(h:many<=10^90)(s:Sto)(r:Nat)(hs:s[r]?=some (zA b)) :
  (aa1 P (n+1)).call "_law_take" [.ref r,.int many] s=.ok (.int (tk b many).1) (s.set r (zA (tk b many).2)):=by
 refine(zq ab1 rfl).trans ?_
 obtain⟨c,m⟩:=b
 have hr:r<s.length:=(ac.mp hs).1
 have B:(0:Int)<(many:Int):=by lia
 have J:(many:Int)<10^200:=by
  have:(10:Int)^90<10^200:=by decide +kernel
  have:((many:Nat):Int)<=((10^90:Nat):Int):=by exact_mod_cast h
  lia
 by_cases hc:0<c
 .have G:s[r]?=some (.lst [.int c,.int m]):=hs
  simp[ab1,ixM,G,ixn,hc,ah6 B,an5 B J,setIx,tk]
  exact qo (fun _=>rfl) (by nofun) rfl
 .have Z:c=0:=by lia
  subst Z
  have G:s[r]?=some (.lst [.int 0,.int m]):=hs
  simp[ab1,ixM,G,ixn]
  refine ba4 (fun k U t=>∃ y z room:Nat,U=[some (.ref r),some (.int many),none,some (.int z),some (.int room)]/\t=s.set r (zA (0,y))/\many<=room*1073741789^k/\tkW many k y z room=tkW many 12 m 0 1)
   (fun U t=>∃ room:Nat,U=[some (.ref r),some (.int many),none,some (.int (tkW many 12 m 0 1).1),some (.int room)]/\t=s.set r (zA (0,(tkW many 12 m 0 1).2))) 12 ⟨m,0,1,by simp,?_,?_,rfl⟩ ?_ ?_
  .have e:s[r]=zA (0,m):=(ac.mp hs).2
   rw[<-e,ii]
  .refine aj h ?_
   decide +kernel
  .rintro k U t ⟨y,z,room,rfl,rfl,hle,he⟩
   by_cases hlt:room<many
   .simp only[ev_cmp,ev_var,getV_0,getV_s,R.bind_ok,lt_int,bi8,jt,hlt,decide_true,if_true]
    cases k with
    | zero=>simp at hle;omega
    | succ k =>
     have h1:(s.set r (zA (0,y)))[r]?=some (.lst [.int 0,.int y]):=by rw[aJ hr];rfl
     have m1:∀ a:Int,mulOk a 48271=true:=fun a=>ap9 (by decide)
     have m2:∀ a:Int,mulOk a 1073741789=true:=fun a=>ap9 (by decide)
     have m3:∀ a:Int,mulOk a 69621=true:=fun a=>ap9 (by decide)
     refine ad7 ?_ ⟨k,c9 k,(y*48271+7919) % 2147483647,z*1073741789+(y*48271+7919) % 2147483647 / 8*69621 % 1073741789,room*1073741789,rfl,rfl,?_,?_⟩
     .simp[ixM,h1,ixn,ac5 (m1 _),ah6,setIx,hr,ac5 (m2 _),ac5 (m3 _),an5,zA]
     .rw[Nat.pow_succ]at hle
      rw[Nat.mul_assoc,jq 1073741789];exact hle
     .rw[<-he,aZ1 hlt]
   .simp only[ev_cmp,ev_var,getV_0,getV_s,R.bind_ok,lt_int,bi8,jt,hlt,decide_false,if_false,bn]
    refine⟨room,?_,?_⟩
    .rw[<-he,aJ5 (by lia)]
    .rw[<-he,aJ5 (by omega)]
  .rintro U t ⟨room,rfl,rfl⟩
   simp[ah6 B,tk]
   exact qo (fun _=>rfl) (by nofun) rfl
noncomputable def bh0 (at_:Int)(ns:List Int):Nat->Int
 | 0=>7919*at_+17
 | k+1=>(bh0 at_ ns k*48271+(ns.getD k 0) % 2147483647+k) % 2147483629
theorem bo0 (at_:Int)(h:0<=at_)(ns:List Int):∀ k,0<=bh0 at_ ns k
 | 0=>by unfold bh0;lia
 | k+1=>by unfold bh0;exact Int.emod_nonneg _ (by decide)
noncomputable def cellF (ns:List Int)(at_:Nat):Nat:=if 10^18<=(ns.getD at_ 0).natAbs then(ns.getD at_ 0).natAbs else 0
noncomputable def br7 (ns:List Int)(at_:Nat):Nat×Nat:=(cellF ns at_,(bh0 at_ ns (min ns.length 60)).toNat)
theorem bJ6 {P:Pr}[Has P at7](n:Nat)(ns:List Int)(at_:Nat)(s:Sto)(r:Nat)(hs:s[r]?=some (.ro (ns.map D.int)))(hl:ns.length<=63) :
  (aa1 P (n+1)).call "_law_bag" [.ref r,.int at_] s=.ok (.ref s.length) (s++[zA (br7 ns at_)]):=by
 refine(zq at7 rfl).trans ?_
 have m1:∀ a:Int,mulOk 7919 a=true:=fun a=>aM2 (by decide)
 have m2:∀ a:Int,mulOk a 48271=true:=fun a=>ap9 (by decide)
 have y:bi .len [.ref r] s=.ok (.int ns.length) s:=by rw[bj5 hs,az]
 have z:∀(c:Int),(c<10^18->cellF ns at_=0)->(10^18<=c->(cellF ns at_:Int)=c) ->
   (exs (aa1 P n) (.cons (.asg (.one 3) (.bin .add (.bin .mul (.cst (.int 7919)) (.var 1)) (.cst (.int 17)))) (.cons (.for_ (.one 4) (.rng1 (.bi .min2 (.cons (.bi .len (.cons (.var 0) .nil)) (.cons (.cst (.int 60)) .nil)))) (.cons (.asg (.one 3) (.bin .mod (.bin .add (.bin .add (.bin .mul (.var 3) (.cst (.int 48271))) (.bin .mod (.ix (.var 0) (.var 4)) (.cst (.int 2147483647)))) (.var 4)) (.cst (.int 2147483629)))) .nil)) (.cons (.ite (.cmp .lt (.var 2) (.bin .pow (.cst (.int 10)) (.cst (.int 18)))) (.cons (.asg (.one 2) (.cst (.int 0))) .nil) .nil) (.cons (.ret (.lst (.cons (.var 2) (.cons (.var 3) .nil)))) .nil)))) [some (.ref r),some (.int at_),some (.int c),none,none] s).bind (fin s)=.ok (.ref s.length) (s++[zA (br7 ns at_)]):=by
  intro c h1 h2
  simp[ac5 (m1 _),y]
  have hk:(if(60:Int)<(ns.length:Int)then 60 else(ns.length:Int))=((min ns.length 60:Nat):Int):=by lia
  rw[hk,qg (by unfold Ww62;lia) (by unfold Ww62;lia)]
  simp only[R.bind_ok]
  refine aY3 (fun j U t=>t=s/\∃ x,U=[some (.ref r),some (.int at_),some (.int c),some (.int (bh0 at_ ns j)),x]) ⟨rfl,none,rfl⟩ (fun _ _ _ _ _=>rfl) ?_ ?_
  .rintro j d U t hj ⟨rfl,x,rfl⟩
   have a0:j<min ns.length 60:=by have:=(ac.mp hj).1;simpa [qz]using this
   have hd:d=.int (j:Int):=by simpa [qz,a0]using hj.symm
   subst hd
   refine ad7 ?_ ⟨rfl,some (.int (j:Int)),rfl⟩
   have hx:ixM (.ref r) (.int (j:Int)) t=.ok (.int (ns.getD j 0)) t:=bG4 hs (by simp[show j<ns.length by lia])
   simp[turn,ac5 (m2 _),hx,ah6,bh0]
  .rintro U t ⟨rfl,x,rfl⟩
   have Z:(qz 0 ((min ns.length 60:Nat):Int)).length=min ns.length 60:=by simp[qz]
   rw[Z]
   have G:=bo0 at_ (by lia) ns (min ns.length 60)
   have B:∀ c',(c':Int)=cellF ns at_->zn t (.ref t.length) (t++[.lst [.int c',.int (bh0 at_ ns (min ns.length 60))]])=.ok (.ref t.length) (t++[zA (br7 ns at_)]):=by
    intro c' J
    have:=as1 (s:=t) (t:=[]) (u:=[]) (o:=zA (br7 ns at_)) rfl
    simp only[fh,gW,hE]at this
    rw[<-this]
    simp[zA,br7,J,c7 G]
   by_cases h:c<10^18
   .have h':c<1000000000000000000:=h
    simp[aM4,h']
    exact B 0 (by rw[h1 h];rfl)
   .have h':¬ c<1000000000000000000:=h
    simp[aM4,h']
    exact B c (h2 (by omega)).symm
 by_cases hat:at_<ns.length
 .have hx:ixM (.ref r) (.int at_) s=.ok (.int (ns.getD at_ 0)) s:=bG4 hs (by simp[hat])
  have e:=z (if ns.getD at_ 0<0 then -ns.getD at_ 0 else ns.getD at_ 0) (by unfold cellF;intro h;rw[if_neg (by omega)]) (by unfold cellF;intro h;rw[if_pos (by omega)];omega)
  rw[<-e]
  simp[at7,y,hat,hx]
 .have e:=z 0 (by unfold cellF;intro h;rw[if_neg];rw[cL,cg (by lia)];decide) (by intro h;exact absurd h (by decide))
  rw[<-e]
  simp[at7,y,hat]
theorem ay4 {s t:Sto}{r:Nat}{o:O}(h:r<s.length):(s++t).set r o=s.set r o++t:=by rw[dv,if_pos h]
theorem zd {s t:Sto}{r:Nat}{o:O}(h:s[r]?=some o):(s++t)[r]?=some o:=by
 rw[aR (ac.mp h).1];exact h
theorem zP {s:Sto}{r:Nat}{o:O}(h:r<s.length):(s.set r o)[r]?=some o:=aJ h
theorem ba5 {P:Pr}[Has P ab1](n:Nat)(b:Nat×Nat)(many:Int)(h0:0<many)(h:many<=10^90)(s:Sto)(r:Nat)(hs:s[r]?=some (zA b)) :
  (aa1 P (n+1)).call "_law_take" [.ref r,.int many] s=.ok (.int (tk b many.toNat).1) (s.set r (zA (tk b many.toNat).2)):=by
 have:=bn8 n b many.toNat (P:=P) (by lia) (by have:many<=((10^90:Nat):Int):=(by simpa using h);lia) s r hs
 rwa [show((many.toNat:Nat):Int)=many by lia]at this
noncomputable def bd (b:Nat×Nat):Nat×(Nat×Nat) :=
 let x0:=tk b 3
 let x1:=tk x0.2 13
 let x2:=tk x1.2 1000000000
 let x3:=tk x2.2 1000000000000000000000000000000
 let i:=tk x3.2 4
 ([x0.1,x1.1,x2.1,x3.1].getD i.1 0,i.2)
section
variable {F:Fns} {U:Env} {s:Sto}
noncomputable def aO7 (F:Fns)(tg:Tg)(e:E)(d:D)(U:Env)(s:Sto):R (Option D×Env):=match qC U tg d with
 | some U=>(ev F e U s).bind fun v s=>.ok (some v,U) s
 | none=>.bad
noncomputable def aJ8 (F:Fns)(tg:Tg)(c e:E)(d:D)(U:Env)(s:Sto):R (Option D×Env):=match qC U tg d with
 | some U=>tru (ev F c U s) fun k s=>if k then(ev F e U s).bind fun v s=>.ok (some v,U) s else .ok (none,U) s
 | none=>.bad
@[simp] theorem az4 (tg:Tg) (it:I) (e:E) (h:yD):evL F (.comp tg it e h) U s=(evI F it U s).bind fun q s0=>if q.its.length<=LIM then ab9 (fun s=>chk s0 s q.src) (aO7 F tg e) q.its (ab3 U h) s0 else .bad:=rfl
@[simp] theorem al2 (tg:Tg) (it:I) (c e:E) (h:yD):evL F (.compIf tg it c e h) U s=(evI F it U s).bind fun q s0=>if q.its.length<=LIM then ab9 (fun s=>chk s0 s q.src) (aJ8 F tg c e) q.its (ab3 U h) s0 else .bad:=rfl
end
theorem ad8 {ok:Sto->Bool}{g:D->Env->Sto->R (Option D×Env)}(P:Env->Sto->Prop)(f:D->Option D):∀(l:List D) (U:Env) (s:Sto),P U s ->
  (∀ U s,P U s->ok s=true)->(∀ d∈l,∀ U s,P U s->∃ U' s',g d U s=.ok (f d,U') s'/\P U' s')->∃ U' s',ab9 ok g l U s=.ok (l.filterMap f) s'/\P U' s'
 | [],U,s,h,o,_=>⟨U,s,by unfold ab9;rw[if_pos (o U s h)];rfl,h⟩
 | d::l,U,s,h,o,st=>by
  obtain⟨U1,s1,e1,z⟩:=st d (ar ..) U s h
  obtain⟨U2,s2,e2,y⟩:=ad8 P f l U1 s1 z o fun x hx=>st x (ao _ hx)
  refine⟨U2,s2,?_,y⟩
  unfold ab9
  rw[if_pos (o U s h),e1]
  simp only[R.bind_ok]
  rw[e2,cf]
  cases f d<;>rfl
theorem zR {P:Pr}[Has P ab1](n:Nat){s:Sto}{r:Nat}(hs:∃ b,s[r]?=some (zA b))(many:Int)(h0:0<many)(h:many<=10^90) :
  ∃(k:Nat) (b:Nat×Nat),(k:Int)<many/\(aa1 P (n+1)).call "_law_take" [.ref r,.int many] s=.ok (.int k) (s.set r (zA b)):=by
 obtain⟨b,hb⟩:=hs
 have:=bQ8 b (many:=many.toNat) (by omega)
 exact⟨(tk b many.toNat).1,(tk b many.toNat).2,by lia,ba5 n b many h0 h s r hb⟩
theorem af0 {k:Int}(h:k<=1000):k<=10^90:=cu h (by decide)
theorem ae9 {s:Sto}{r:Nat}{b:Nat×Nat}(h:r<s.length):∃ y,(s.set r (zA b))[r]?=some (zA y):=⟨b,zP h⟩
theorem bw2 {s t:Sto}{r:Nat}(h:∃ b,s[r]?=some (zA b)):∃ b,(s++t)[r]?=some (zA b):=by obtain⟨b,hb⟩:=h;exact⟨b,zd hb⟩
theorem at6 {s:Sto}{r:Nat}(h:∃ b,s[r]?=some (zA b)):r<s.length:=by obtain⟨b,hb⟩:=h;exact(ac.mp hb).1
theorem aO0 {k:Int}{s:Sto}(h:0<=k/\k<=1000000):qw .shl (.int 1) (.int k) s=.ok (.int (1*2^k.toNat)) s:=by
 show(if 0<=k/\k<=1000000/\(1:Int).natAbs<2^128 then _ else _:M D) s=_
 rw[if_pos ⟨h.1,h.2,by decide⟩];rfl
theorem zY {l:List D}(h:∀ d∈l,∀ n,d.bnd n=true)(n:Nat):D.bndL n l=true:=by
 induction l with
 | nil=>rfl
 | cons d l ih=>unfold D.bndL;rw[h d (ar ..),ih fun x hx=>h x (ao _ hx)];rfl
noncomputable def ar2 (bits:Nat):D->Option D
 | .int i=>if(bits:Int) / (1*2^i.toNat) % 2=1 then some (.int i)else none
 | _=>none
theorem aK0 {h:Nat}{l:List D}:∀ d∈l.filterMap (ar2 h),∀ n,d.bnd n=true:=fun d hd n=>by
 obtain⟨x,hx,e⟩:=dZ.mp hd
 cases x with
 | int i =>
  simp only[ar2]at e
  split at e
  .cases e;rfl
  .cases e
 | _=>cases e
theorem aE6 {P:Pr}[Has P ab1][Has P ab8](n:Nat){s:Sto}{r:Nat}(hs:∃ b,s[r]?=some (zA b))(k:Int)(h0:0<=k)(h:k<=5) :
  ∃(y:Nat) (b:Nat×Nat),(aa1 P (n+2)).call "_law_rooms" [.ref r,.int k] s=.ok (.tup ((qz 0 k).filterMap (ar2 y))) (s.set r (zA b)):=by
 have e0:(aa1 P (n+2)).call "_law_rooms" [.ref r,.int k] s=_:=zq ab8 (n:=n+1) rfl
 have hr:=at6 hs
 have hp:(1:Int)*2^k.toNat<=32:=by
  have:k.toNat<=5:=by lia
  have B:(2:Nat)^k.toNat<=2^5:=iy (by decide) this
  have Z:((2^k.toNat:Nat):Int)<=32:=by exact_mod_cast B
  rw[gc];simpa using Z
 have G:(0:Int)<1*2^k.toNat:=by rw[gc];exact Int.pow_pos (by decide)
 obtain⟨y,b,hb,eb⟩:=zR (P:=P) n hs (1*2^k.toNat) G (af0 (by lia))
 rw[e0]
 simp only[ab8,exs_cons,ex_asg,ev_call,evas_ex,evas_nil,ev_var,ev_bin,ev_cst,Cn_int,aU,fw,gr,hE,getV_0,getV_s,R.bind_ok,aO0 ⟨h0,by lia⟩,eb,bindT_one]
 simp only[aF,setV_s,setV_0,hV,setC_some,R.bind_ok,nxt_next,exs_cons,exs_nil,ex_ret,ev_mk,al2,evI_rng1,ev_var,getV_0,getV_s]
 rw[qg (by unfold Ww62;lia) (by unfold Ww62;lia)]
 simp only[R.bind_ok]
 rw[if_pos (by simp[qz];unfold LIM;lia)]
 have key:∃(U':Env) (s':Sto),ab9 (fun J=>chk (s.set r (zA b)) J []) (aJ8 (aa1 P (n+1)) (.one 0) (.cmp .eq (.bin .mod (.bin .fdiv (.var 1) (.bin .shl (.cst (.int 1)) (.var 0))) (.cst (.int 2))) (.cst (.int 1))) (.var 0)) (qz 0 k) (ab3 [some (.ref r),some (.int k),some (.int y)] [none,some 2]) (s.set r (zA b))=.ok ((qz 0 k).filterMap (ar2 y)) s'/\(s'=s.set r (zA b)/\∃ x,U'=[x,some (D.int y)]):=by
  refine ad8 (fun U u=>u=s.set r (zA b)/\∃ x,U=[x,some (.int y)]) (ar2 y) (qz 0 k) _ _ ⟨rfl,none,rfl⟩ (fun _ _ _=>rfl) ?_
  rintro d hd U u ⟨rfl,x,rfl⟩
  obtain⟨j,hj⟩:=e7 hd
  obtain⟨B,rfl⟩:=z0 hj
  refine⟨[some (.int (0+j)),some (.int y)],_,?_,rfl,_,rfl⟩
  have a0:j<5:=by lia
  have a1:(1:Int)*2^((0:Int)+j).toNat<=32:=by
   have:((0:Int)+j).toNat<=5:=by lia
   have B:(2:Nat)^((0:Int)+j).toNat<=2^5:=iy (by decide) this
   have Z:((2^((0:Int)+j).toNat:Nat):Int)<=32:=by exact_mod_cast B
   rw[gc];simpa using Z
  have z:(0:Int)<1*2^((0:Int)+j).toNat:=by rw[gc];exact Int.pow_pos (by decide)
  unfold aJ8
  simp only[bindT_one,setV_0,ev_cmp,ev_bin,ev_var,ev_cst,Cn_int,getV_0,getV_s,R.bind_ok]
  rw[aO0 ⟨by lia,by lia⟩]
  simp only[R.bind_ok]
  rw[an5 z (by lia)]
  simp only[R.bind_ok]
  rw[ah6 (by decide)]
  simp only[R.bind_ok,eq_int,tru_bl]
  simp[ar2]
  split<;>rfl
 obtain⟨U',s',e,h1⟩:=key
 rw[e]
 obtain⟨rfl,_⟩:=h1
 refine⟨y,b,?_⟩
 simp only[R.bind_ok,mk,nxt_ret,fin_ret]
 exact qo (fun m=>by unfold D.bnd;exact zY aK0 m) (by nofun) rfl
theorem bf8 {k:Nat}(h:k<3)(s:Sto):ixM (.str [97,98,99]) (.int (k:Int)) s=.ok (.str [97+k]) s:=by
 match k,h with
 | 0,_=>rfl
 | 1,_=>rfl
 | 2,_=>rfl
theorem ap0 {P:Pr}[Has P ab1](n:Nat){s t:Sto}{r:Nat}(hr:r<s.length)(b:Nat×Nat)(many:Int)(h0:0<many)(h:many<=10^90) :
  ∃(k:Nat) (y:Nat×Nat),(k:Int)<many/\(aa1 P (n+1)).call "_law_take" [.ref r,.int many] (s.set r (zA b)++t)=.ok (.int k) (s.set r (zA y)++t):=by
 obtain⟨k,y,B,z⟩:=zR (P:=P) n (s:=s.set r (zA b)++t) (r:=r) ⟨b,zd (zP hr)⟩ many h0 h
 refine⟨k,y,B,?_⟩
 rw[z,ay4 (by rw[aK];exact hr),cw]
theorem bJ2 {s t:Sto}{r:Nat}{b:Nat×Nat}{l:List D}{v:D}(h:l.length<LIM):meth .append (.ref s.length) [v] (s.set r (zA b)++(.lst l::t))=.ok .non (s.set r (zA b)++(.lst (l++[v])::t)):=by
 rw[ak8 (l:=l) (by rw[bz (by simp)];simp) h]
 congr 1
 rw[dv,if_neg (by simp)]
 simp
theorem aS1 {a b:List Nat}{s:Sto}(h:a.length+b.length<=LIM):qw .add (.str a) (.str b) s=.ok (.str (a++b)) s:=by
 show(if a.length+b.length<=LIM then _ else _:M D) s=_;rw[if_pos h];rfl
def Lts (L:Nat)(w:List Nat):Prop:=∀ c∈w,97<=c/\c<97+L
theorem rep_len (l:List Nat):∀ n,(rep n l).length=l.length*n
 | 0=>by simp[rep]
 | n+1=>by simp[rep,rep_len l n,jJ];omega
noncomputable def bK1 (L:Nat)(d:D):Bool:=match d with
 | .str w=>decide (w.length<=200)&&w.all fun c=>decide (97<=c/\c<97+L)
 | _=>false
theorem aN8 {a b:D}{s:Sto}:ac2 .isin a b s=(inM a b s).bind fun r s=>.ok (.bl r) s:=rfl
structure Dr where
 a:Nat
 l:Nat
 b:Nat
 t:Nat
noncomputable def Dr.d (x:Dr):D:=.tup [.int x.a,.str [x.l],.int x.b,.int x.t]
structure Mc where
 L:Nat
 R:Nat
 bg:List Nat
 en:List Nat
 ds:List Dr
noncomputable def qE (l:List Nat):List D:=l.map fun(k:Nat)=>D.int (k:Int)
noncomputable def bb2 (l:List Int):List D:=l.map D.int
noncomputable def Mc.ps (m:Mc):List D:=[.int m.L,.int m.R,.tup (qE m.bg),.tup (qE m.en),.tup (m.ds.map Dr.d)]
noncomputable def Mc.d (m:Mc):D:=.tup m.ps
structure Dr.Ok (m:Mc)(x:Dr):Prop where
 a:x.a<m.R
 l:97<=x.l/\x.l<97+m.L
 b:x.b<m.R
 t:x.t<4
structure Mc.Ok (m:Mc):Prop where
 L1:1<=m.L
 L3:m.L<=3
 R1:1<=m.R
 R5:m.R<=5
 bg:(∀ k∈m.bg,k<m.R)/\m.bg.Pairwise (· < ·)
 en:(∀ k∈m.en,k<m.R)/\m.en.Pairwise (· < ·)
 ds:(∀ x∈m.ds,x.Ok m)/\m.ds.length<=75
theorem af7 {l:List Nat}:∀ d∈qE l,∀ n,d.bnd n=true:=fun d hd n=>by
 obtain⟨c,_,rfl⟩:=bf.mp hd;rfl
theorem aV4 {l:List Int}:∀ d∈bb2 l,∀ n,d.bnd n=true:=fun d hd n=>by
 obtain⟨c,_,rfl⟩:=bf.mp hd;rfl
theorem aJ6 {l:List Dr}:∀ d∈l.map Dr.d,∀ n,d.bnd n=true:=fun d hd n=>by
 obtain⟨c,_,rfl⟩:=bf.mp hd;rfl
theorem bl5 {m:Mc}:∀ d∈m.ps,∀ n,d.bnd n=true:=fun d hd n=>by
 simp only[Mc.ps,ay,cG,or_false]at hd
 rcases hd with rfl|rfl|rfl|rfl|rfl
 .rfl
 .rfl
 .unfold D.bnd;exact zY af7 n
 .unfold D.bnd;exact zY af7 n
 .unfold D.bnd;exact zY aJ6 n
theorem bD4 (m:Mc)(n:Nat):m.d.bnd n=true:=by unfold Mc.d D.bnd;exact zY bl5 n
noncomputable def aD0 (bits k:Nat):List Nat:=(bj k).filter fun i=>decide (bits / 2^i % 2=1)
theorem aL4 (h k:Nat):(∀ i∈aD0 h k,i<k)/\(aD0 h k).Pairwise (· < ·) :=
 ⟨fun i y=>c8.mp (dn.mp y).1,kL _ gZ⟩
theorem bd5 (y:Nat)(k:Nat):(qz 0 (k:Int)).filterMap (ar2 y)=qE (aD0 y k):=by
 unfold qz aD0 qE
 simp only[jx,bN]
 rw[fM]
 induction (bj k)with
 | nil=>rfl
 | cons i l ih =>
  rw[cf,List.filter_cons]
  have e:((y:Int) / (1*2^((0:Int)+(i:Int)).toNat) % 2=1)↔(y / 2^i % 2=1):=by
   rw[gc,show((0:Int)+(i:Int)).toNat=i by lia]
   have:((y:Int) / 2^i % 2)=((y / 2^i % 2:Nat):Int):=by simp
   rw[this];omega
  simp only[kl,ar2]
  by_cases h:y / 2^i % 2=1
  .rw[if_pos (e.mpr h)]
   simp only[h,decide_true,if_true,aU]
   rw[<-ih,eJ]
  .rw[if_neg fun z=>h (e.mp z)]
   simp only[h,decide_false]
   exact ih
theorem aD7 {P:Pr}[Has P ab1][Has P ab8](n:Nat){s:Sto}{r:Nat}(hs:∃ b,s[r]?=some (zA b))(k:Nat)(h:k<=5) :
  ∃(l:List Nat) (b:Nat×Nat),((∀ i∈l,i<k)/\l.Pairwise (· < ·))/\(aa1 P (n+2)).call "_law_rooms" [.ref r,.int k] s=.ok (.tup (qE l)) (s.set r (zA b)):=by
 obtain⟨y,b,e⟩:=aE6 (P:=P) n hs k (by lia) (by lia)
 rw[bd5]at e
 exact⟨_,b,aL4 y k,e⟩
def McR (s:Sto)(r:Nat)(x:R D):Prop:=∃(m:Mc) (b:Nat×Nat),m.Ok/\x=.ok m.d (s.set r (zA b))
theorem aE5 {P:Pr}[Has P ab1][Has P ab8][Has P ab2](n:Nat){s:Sto}{r:Nat}(hs:∃ b,s[r]?=some (zA b)):McR s r ((aa1 P (n+3)).call "_law_machine" [.ref r] s):=by
 have e0:(aa1 P (n+3)).call "_law_machine" [.ref r] s=_:=zq ab2 (n:=n+2) rfl
 have hr:=at6 hs
 obtain⟨a,b1,ha,e1⟩:=zR (P:=P) (n+1) hs 3 (by decide) (by decide)
 obtain⟨c,b2,hc,e2⟩:=zR (P:=P) (n+1) (ae9 (b:=b1) hr) 5 (by decide) (by decide)
 rw[cw]at e2
 obtain⟨m1,b3,b0,e3⟩:=zR (P:=P) (n+1) (ae9 (b:=b2) hr) 13 (by decide) (by decide)
 rw[cw]at e3
 obtain⟨m2,J,a3,e4⟩:=zR (P:=P) (n+1) (ae9 (b:=b3) hr) 8 (by decide) (by decide)
 rw[cw]at e4
 obtain⟨m3,b5,a2,e5⟩:=zR (P:=P) (n+1) (ae9 (b:=J) hr) 76 (by decide) (by decide)
 rw[cw]at e5
 rw[e0]
 simp -implicitDefEqProofs [ab2,e1,e2,e3,e4]
 obtain⟨many,bb,hmany,hif⟩:∃(many:Nat) (bb:Nat×Nat),many<=75/\(if(m2:Int)=7 then
   ((aa1 P (n+2)).call "_law_take" [D.ref r,D.int 76] (List.set s r (zA J))).bind fun d s =>
    R.ok
     (Ct.next [some (D.ref r),some (D.int (1+↑a)),some (D.int (1+↑c)),some d,none,none]) s
   else
    R.ok
     (Ct.next
      [some (D.ref r),some (D.int (1+↑a)),some (D.int (1+↑c)),some (D.int ↑m1),none,none])
     (List.set s r (zA J)))=.ok (.next [some (.ref r),some (.int (1+a)),some (.int (1+c)),some (.int many),none,none]) (s.set r (zA bb)):=by
  by_cases h7:(m2:Int)=7
  .exact⟨m3,b5,by lia,by rw[if_pos h7,e5];rfl⟩
  .exact⟨m1,J,by lia,by rw[if_neg h7]⟩
 rw[hif]
 simp -implicitDefEqProofs
 rw[qg (by unfold Ww62;lia) (by unfold Ww62;lia)]
 simp only[R.bind_ok]
 refine zx (Ww:=McR s r) (fun j U u=>∃(b:Nat×Nat) (l:List Dr) (x:Option D),(∀ d∈l,d.Ok ⟨a+1,c+1,[],[],[]⟩)/\l.length=j/\U=[some (.ref r),some (.int (1+a)),some (.int (1+c)),some (.int many),some (.ref s.length),x]/\u=s.set r (zA b)++[.lst (l.map Dr.d)]) ⟨bb,[],none,by simp,rfl,rfl,rfl⟩ (fun _ _ _ _ _=>rfl) ?_ ?_
 .rintro j d U u hj ⟨b,l,x,hl,y,rfl,rfl⟩
  obtain⟨a6,rfl⟩:=z0 hj
  obtain⟨k1,Z,a4,z⟩:=ap0 (P:=P) (n+1) (t:=[.lst (l.map Dr.d)]) hr b (1+c) (by lia) (af0 (by lia))
  obtain⟨k2,G,a5,B⟩:=ap0 (P:=P) (n+1) (t:=[.lst (l.map Dr.d)]) hr Z (1+a) (by lia) (af0 (by lia))
  obtain⟨k3,c3,d0,f3⟩:=ap0 (P:=P) (n+1) (t:=[.lst (l.map Dr.d)]) hr G (1+c) (by lia) (af0 (by lia))
  obtain⟨k4,c4,b6,f4⟩:=ap0 (P:=P) (n+1) (t:=[.lst (l.map Dr.d)]) hr c3 4 (by decide) (by decide)
  refine ad7 (U:=[some (.ref r),some (.int (1+a)),some (.int (1+c)),some (.int many),some (.ref s.length),some (.int j)]) (s:=s.set r (zA c4)++[.lst ((l++[(⟨k1,97+k2,k3,k4⟩:Dr)]).map Dr.d)]) ?_ ⟨c4,l++[(⟨k1,97+k2,k3,k4⟩:Dr)],_,?_,?_,rfl,rfl⟩
  .simp -implicitDefEqProofs [turn,z,B,f3,f4,bf8 (show k2<3 by lia)]
   rw[bJ2 (by unfold LIM;simp;lia)]
   rfl
  .intro d hd
   rcases aN.mp hd with h|h
   .exact hl d h
   .rw[aO.mp h];constructor<;>simp only<;>lia
  .simp[y]
 .rintro U u ⟨b,l,x,hl,y,rfl,rfl⟩
  obtain⟨l1,Z,g1,z⟩:=aD7 (P:=P) n (s:=s.set r (zA b)++[.lst (l.map Dr.d)]) (r:=r) ⟨b,zd (zP hr)⟩ (c+1) (by lia)
  rw[ay4 (by rw[aK];exact hr),cw]at z
  obtain⟨l2,G,g2,B⟩:=aD7 (P:=P) n (s:=s.set r (zA Z)++[.lst (l.map Dr.d)]) (r:=r) ⟨Z,zd (zP hr)⟩ (c+1) (by omega)
  rw[ay4 (by rw[aK];exact hr),cw]at B
  rw[show((c+1:Nat):Int)=1+(c:Int)by lia]at z B
  have a1:(s.set r (zA G)++[O.lst (l.map Dr.d)])[s.length]?=some (.lst (l.map Dr.d)):=by rw[bz (by simp)];simp
  have a0:l.length<=75:=by
   rw[y];simp[qz];omega
  simp -implicitDefEqProofs [z,B,bx4,a1,mk]
  refine⟨⟨a+1,c+1,l1,l2,l⟩,G,⟨by simp,by simp;lia,by simp,by simp;lia,g1,g2,fun x hx=>?_,a0⟩,?_⟩
  .have:=hl x hx
   exact⟨this.a,this.l,this.b,this.t⟩
  .rw[show((1:Int)+(a:Int))=((a+1:Nat):Int)by lia,show((1:Int)+(c:Int))=((c+1:Nat):Int)by lia]
   exact ar3 (bD4 ⟨a+1,c+1,l1,l2,l⟩) (by nofun) rfl
section
variable {P:Pr}
theorem aM6 {l:List D}{s:Sto}(j:Nat){d:D}(h:l[j]?=some d):ixM (.tup l) (.int (j:Int)) s=.ok d s:=ix_tup h
theorem ixL (m:Mc)(s:Sto):ixM m.d (.int 0) s=.ok (.int m.L) s:=aM6 0 rfl
theorem ixR (m:Mc)(s:Sto):ixM m.d (.int 1) s=.ok (.int m.R) s:=aM6 1 rfl
theorem ixB (m:Mc)(s:Sto):ixM m.d (.int 2) s=.ok (.tup (qE m.bg)) s:=aM6 2 rfl
theorem ixE (m:Mc)(s:Sto):ixM m.d (.int 3) s=.ok (.tup (qE m.en)) s:=aM6 3 rfl
theorem ixD (m:Mc)(s:Sto):ixM m.d (.int 4) s=.ok (.tup (m.ds.map Dr.d)) s:=aM6 4 rfl
theorem ah2 {s:Sto}{l:List D}(h:∀ d∈l,∀ n,d.bnd n=true):zn s (.tup l) s=.ok (.tup l) s:=zC (fun n=>by unfold D.bnd;exact zY h n) (by nofun)
theorem ar7 [Has P aa6](n:Nat)(m:Mc)(s:Sto):(aa1 P (n+1)).call "begins_of" [m.d] s=.ok (.tup (qE m.bg)) s:=by
 refine(zq aa6 rfl).trans ?_
 simp -implicitDefEqProofs [aa6,ixB,ah2 af7]
theorem aG8 [Has P ab0](n:Nat)(m:Mc)(s:Sto):(aa1 P (n+1)).call "ends_of" [m.d] s=.ok (.tup (qE m.en)) s:=by
 refine(zq ab0 rfl).trans ?_
 simp -implicitDefEqProofs [ab0,ixE,ah2 af7]
theorem aw7 [Has P aa5](n:Nat)(m:Mc)(s:Sto):(aa1 P (n+1)).call "doors_of" [m.d] s=.ok (.tup (m.ds.map Dr.d)) s:=by
 refine(zq aa5 rfl).trans ?_
 simp -implicitDefEqProofs [aa5,ixD,ah2 aJ6]
@[simp] theorem bS2 (a b:Nat) (s:Sto):ac2 .ne (.str [a]) (.str [b]) s=.ok (.bl (!decide (a=b))) s:=by
 show(match eqv s DEEP (.str [a]) (.str [b])with|some r=>R.ok (D.bl (!r)) s|none=>.bad)=_
 have:eqv s DEEP (.str [a]) (.str [b])=some ([a]==[b]):=rfl
 rw[this]
 have e:([a]==[b])=decide (a=b):=by rw[hW];simp
 rw[e]
@[simp] theorem ag8 (a b:Nat) (s:Sto):ac2 .eq (.str [a]) (.str [b]) s=.ok (.bl (decide (a=b))) s:=by
 show(match eqv s DEEP (.str [a]) (.str [b])with|some r=>R.ok (D.bl r) s|none=>.bad)=_
 have:eqv s DEEP (.str [a]) (.str [b])=some ([a]==[b]):=rfl
 rw[this]
 have e:([a]==[b])=decide (a=b):=by rw[hW];simp
 rw[e]
end
noncomputable def bS6 (S:Int->Prop):Option Int->Prop
 | none=>∀ c,¬ S c
 | some c=>S c/\∀ c',S c'->c<=c'
noncomputable def minO:Option Int->Option Int->Option Int
 | none,x=>x
 | some a,none=>some a
 | some a,some b=>if b<a then some b else some a
noncomputable def Wk (ds:List Dr):List Nat->Nat->Nat->Int->Prop
 | [],p,q,c=>p=q/\c=0
 | x::w,p,q,c=>∃ d∈ds,d.a=p/\d.l=x/\∃ c':Int,Wk ds w d.b q c'/\c=(d.t:Int)+c'
theorem ap8 {J:List Dr}{x:Nat}:∀ {w:List Nat} {p q:Nat} {c:Int},Wk J (w++[x]) p q c↔∃ d∈J,d.l=x/\d.b=q/\∃ z:Int,Wk J w p d.a z/\c=z+(d.t:Int)
 | [],p,q,c=>by
  constructor
  .rintro⟨d,hd,rfl,hx,z,⟨Z,B⟩,rfl⟩
   exact⟨d,hd,hx,Z,0,⟨rfl,rfl⟩,by lia⟩
  .rintro⟨d,hd,hx,hb,z,⟨Z,B⟩,rfl⟩
   exact⟨d,hd,Z.symm,hx,0,⟨hb,rfl⟩,by lia⟩
 | y::w,p,q,c=>by
  constructor
  .rintro⟨d,hd,ha,hy,z,h,rfl⟩
   obtain⟨e,he,hx,hb,G,B,rfl⟩:=ap8.mp h
   exact⟨e,he,hx,hb,d.t+G,⟨d,hd,ha,hy,G,B,rfl⟩,by lia⟩
  .rintro⟨e,he,hx,hb,z,⟨d,hd,ha,hy,G,B,rfl⟩,rfl⟩
   exact⟨d,hd,ha,hy,G+e.t,ap8.mpr ⟨e,he,hx,hb,G,B,rfl⟩,by lia⟩
noncomputable def Dr.turn (x:Dr):Dr:=⟨x.b,x.l,x.a,x.t⟩
def Mc.Wk (m:Mc)(w:List Nat)(c:Int):Prop:=∃ p∈m.bg,∃ q∈m.en,DV.Wk m.ds w p q c
noncomputable def Mc.turn (m:Mc):Mc:=⟨m.L,m.R,m.en,m.bg,m.ds.map Dr.turn⟩
theorem aJ1 {s T:Sto}{k:Nat}{o:O}(h:s.length<=k):(s++T).set k o=s++T.set (k - s.length) o:=by rw[dv,if_neg (by omega)]
def RowOk (S:Nat->Int->Prop)(row:List (Option Int)):Prop:=∀ k o,row[k]?=some o->bS6 (S k) o
theorem au6 {s:Sto}{k:Nat}:∀ {l:List Nat},inL s (.int k) (qE l)=some (decide (k∈l))
 | []=>rfl
 | a::l=>by
  have y:=au6 (s:=s) (k:=k) (l:=l)
  have e:eqv s DEEP (.int (a:Int)) (.int (k:Int))=some ((a:Int)==(k:Int)):=rfl
  show(match eqv s DEEP (.int (a:Int)) (.int (k:Int)),inL s (.int k) (qE l)with|some a,some b=>some (a||b)|_,_=>none)=_
  rw[e,y]
  show some (((a:Int)==(k:Int))||decide (k∈l))=some _
  congr 1
  rw[hW]
  simp
  constructor
  .rintro(h|h)
   .exact .inl (by lia)
   .exact .inr h
  .rintro(h|h)
   .exact .inl (by lia)
   .exact .inr h
theorem be5 {s:Sto}{k:Nat}{l:List Nat}:inM (.int k) (.tup (qE l)) s=.ok (decide (k∈l)) s:=by unfold inM;simp only[au6]
theorem aT0 (b:Bool)(s:Sto):bi .int [.bl b] s=.ok (.int (if b then 1 else 0)) s:=by cases b<;>rfl
theorem am4:∀ l:List Int,zN (l.map D.int)=some l
 | []=>rfl
 | a::l=>by rw[aU];unfold zN;rw[am4 l];rfl
def ad6 (S:Nat->Int->Prop)(x:Nat)(ds:List Dr)(k:Nat)(c:Int):Prop:=∃ d∈ds,d.l=x/\d.b=k/\∃ c':Int,S d.a c'/\c=c'+(d.t:Int)
def zQ (m:Mc)(w:List Nat)(k:Nat)(c:Int):Prop:=∃ p∈m.bg,Wk m.ds w p k c
theorem aj1 {m:Mc}{w:List Nat}{x k:Nat}{c:Int}:ad6 (zQ m w) x m.ds k c↔zQ m (w++[x]) k c:=by
 constructor
 .rintro⟨d,hd,y,hb,z,⟨p,hp,h⟩,rfl⟩
  exact⟨p,hp,ap8.mpr ⟨d,hd,y,hb,z,h,rfl⟩⟩
 .rintro⟨p,hp,h⟩
  obtain⟨d,hd,y,hb,z,B,rfl⟩:=ap8.mp h
  exact⟨d,hd,y,hb,z,⟨p,hp,B⟩,rfl⟩
theorem qe {α β:Type}{f g:α->Option β}:∀ {l:List α},(∀ x∈l,f x=g x)->l.filterMap f=l.filterMap g
 | [],_=>rfl
 | a::l,h=>by rw[cf,cf,h a (ar ..),qe fun x hx=>h x (ao _ hx)]
theorem good_of {L:Nat}{w:List Nat}(h:w.length<=200)(hw:Lts L w):bK1 L (.str w)=true:=by
 unfold bK1
 simp only[h,decide_true,dW,bh,decide_eq_true_eq]
 exact hw
theorem ix_str {l:List Nat}{j c:Nat}{s:Sto}(hj:l[j]?=some c):ixM (.str l) (.int (j:Int)) s=.ok (.str [c]) s:=by
 have h:j<l.length:=(ac.mp hj).1
 have e:l[j]=c:=(ac.mp hj).2
 simp[ixM,ixn,h,e]
theorem qf {s:Sto}{o:O}:(s++[o])[s.length]?=some o:=by simp
theorem aC2 {n:Nat}:∀ {l:List D},D.bndL n l=true->∀ x∈l,x.bnd n=true
 | [],_,x,hx=>by cases hx
 | d::l,h,x,hx=>by
  unfold D.bndL at h
  rw[ai]at h
  rcases ay.mp hx with rfl|hx
  .exact h.1
  .exact aC2 h.2 x hx
noncomputable abbrev bp4:List Nat:=[108,101,116,116,101,114]
theorem two {l:List D}(h:l.length=2):∃ a b,l=[a,b]:=by
 match l,h with
 | [a,b],_=>exact⟨a,b,rfl⟩
noncomputable def row (m:Nat)(f:Nat->Int):List D:=(bj m).map fun j=>.int (f j)
@[simp] theorem bS3 {m:Nat} {f:Nat->Int}:(row m f).length=m:=by unfold row;simp
theorem bw4 {l:List D}(s:Sto):av6 (.tup l) s=.ok ⟨l,[]⟩ s:=rfl
theorem be6 {ok:Sto->Bool}{g:D->Env->Sto->R (Option D×Env)}(P:Env->Sto->Prop)(f:D->D)(l:List D)(U:Env)(s:Sto)(h:P U s)
  (o:∀ U s,P U s->ok s=true) (st:∀ d∈l,∀ U s,P U s->∃ U' s',g d U s=.ok (some (f d),U') s'/\P U' s'):∃ U' s',ab9 ok g l U s=.ok (l.map f) s'/\P U' s':=by
 obtain⟨U',s',e,p⟩:=ad8 P (fun d=>some (f d)) l U s h o st
 refine⟨U',s',?_,p⟩
 rw[e];congr 1;induction l<;>simp_all
theorem bc9 {ok:Sto->Bool}{g:D->Env->Sto->R (Option D×Env)}(P:Env->Sto->Prop)(f:Nat->D)(n:Nat)(U:Env)(s:Sto)(h:P U s)
  (o:∀ U s,P U s->ok s=true) (st:∀ j,j<n->∀ U s,P U s->∃ U' s',g (.int (j:Int)) U s=.ok (some (f j),U') s'/\P U' s'):∃ U' s',ab9 ok g (qz 0 (n:Int)) U s=.ok ((bj n).map f) s'/\P U' s':=by
 obtain⟨U',s',e,p⟩:=be6 (g:=g) P (fun d=>match d with|.int i=>f i.toNat|d=>d) (qz 0 (n:Int)) U s h o fun d hd U s hp=>by
  obtain⟨j,hj⟩:=e7 hd
  obtain⟨y,rfl⟩:=z0 hj
  obtain⟨U',s',e,p⟩:=st j (by lia) U s hp
  refine⟨U',s',?_,p⟩
  rw[eJ,e];rfl
 refine⟨U',s',?_,p⟩
 rw[e]
 congr 1
 unfold qz
 rw[c0,show((n:Int) - 0).toNat=n by lia]
 exact iL fun j _=>by
  show f ((0:Int)+(j:Int)).toNat=f j
  congr 1;omega
theorem aV3 (n:Nat):(qz 0 (n:Int)).length=n:=by simp[qz]
theorem bl9 {n j:Nat}{d:D}(h:(qz 0 (n:Int))[j]?=some d):j<n/\d=.int (j:Int):=by
 obtain⟨y,rfl⟩:=z0 h
 exact⟨by omega,by rw[eJ]⟩
noncomputable def bz3 (m:Nat)(f:Nat->Nat->Int):Sto:=(bj m).map fun i=>.lst (row m (f i))
@[simp] theorem bD1 {m:Nat} {f:Nat->Nat->Int}:(bz3 m f).length=m:=by unfold bz3;simp
noncomputable def ca9 (p m:Nat):List D:=(bj m).map fun i=>.ref (p+i)
noncomputable def shN (f:Nat->Nat->Int)(i j:Nat):Nat->Int
 | 0=>3
 | k+1=>let b:=max (max (f i k) (if f k k=1 then 2 else f k k)) (f k j);if b<shN f i j k then b else shN f i j k
noncomputable def sh (m:Nat)(f:Nat->Nat->Int)(i j:Nat):Int:=shN f i j m
inductive Stp where
 | let_ (c:Nat)|pair (i j:Nat)|sharp (i:Nat)
noncomputable def Stp.d:Stp->D
 | .let_ c=>.tup [.str [108,101,116,116,101,114],.str [c]]
 | .pair i j=>.tup [.str [112,97,105,114],.int i,.int j]
 | .sharp i=>.tup [.str [115,104,97,114,112],.int i]
section
variable {s:Sto} {r:Nat} {b:Int} {A B Cc:List D} {T:Sto}
end
section
variable {m:Nat} {f:Nat->Nat->Int} {x:Int}
end
section
variable {F:Fns} {U:Env} {s:Sto}
end
noncomputable def Stp.t (c:Int):Stp->D
 | .sharp i=>.tup [.str [116,105,109,101,115],.int i,.int c]
 | x=>x.d
section
variable {P:Pr} [Has P aB6] [Has P ak4] [HasL P ae5]
end
section
variable {P:Pr} [Has P aB6]
end
section
variable {P:Pr} [Has P aB6] [Has P aQ3] [Has P al7] [Has P aa5] [Has P qA] [HasL P zU]
end
theorem bO9 {s:Sto}{o:O}:(s++[o])[s.length]?=some o:=by rw[bz (ah _)];simp
theorem aA7 (k a v:D):∀ l:List (D×D),look k (l++[(a,v)])=match look k l with|some x=>some x|none=>if a=k then some v else none
 | []=>by unfold look;rfl
 | (b,u)::l=>by
  rw[gr]
  unfold look
  by_cases h:b=k
  .rw[if_pos h,if_pos h]
  .rw[if_neg h,if_neg h];exact aA7 k a v l
theorem be0 {s:Sto}{r:Nat}{l:List (D×D)}{k:D}(h:s[r]?=some (.dic l))(hk:k.key=true):ac2 .isin k (.ref r) s=.ok (.bl (look k l).isSome) s:=by
 show(inM k (.ref r) s).bind (fun r s=>R.ok (D.bl r) s)=_
 simp only[inM,h,hk,if_true,R.bind_ok]
theorem bA7 {s:Sto}{r:Nat}{l:List (D×D)}{k v:D}(h:s[r]?=some (.dic l))(hk:k.key=true)(hv:look k l=some v):ixM (.ref r) k s=.ok v s:=by
 simp only[ixM,h,hk,if_true,hv]
theorem aL5 {s:Sto}{r:Nat}{l:List (D×D)}{k v:D}(h:s[r]?=some (.dic l))(hk:k.key=true)(y:l.length<LIM):setIx (.ref r) k v s=.ok () (s.set r (.dic (ac7 k v l))):=by
 simp[setIx,h,hk,y]
theorem ag1 {F:Fns}{U:Env}{s:Sto}:ev F (.dic .nil .nil) U s=.ok (.ref s.length) (s++[.dic []]):=rfl
theorem an3 {s:Sto}{o p:O}:(s++[o]).set s.length p=s++[p]:=by rw[il _ _ (ah _)];simp
section
variable {P:Pr} [Has P aB6] [Has P aQ3] [Has P bt8] [Has P al7] [Has P aa5] [Has P qA] [HasL P zU] [Has P bo1] [HasL P aG6] [Has P aN3] [HasL P at9] [Has P ar4]
end
noncomputable def Pl (ds:List Dr):List Nat->List Nat->Nat->Nat->Int->Prop
 | [],[],p,q,c=>p=q/\c=0
 | x::w,k::ps,p,q,c=>∃ d,ds[k]?=some d/\d.a=p/\d.l=x/\∃ c':Int,Pl ds w ps d.b q c'/\c=(d.t:Int)+c'
 | _,_,_,_,_=>False
theorem ay8 (k j v:D):∀ l:List (D×D),look j (l.map fun p=>if p.1=k then(p.1,v)else p)=if k=j then(look j l).map fun _=>v else look j l
 | []=>by unfold look;simp
 | (a,u)::l=>by
  rw[aU]
  have y:=ay8 k j v l
  by_cases h:a=k
  .rw[if_pos h]
   show(if a=j then some v else look j _)=if k=j then(if a=j then some u else look j l).map (fun _=>v)else(if a=j then some u else look j l)
   rw[y]
   subst h
   by_cases h2:a=j
   .simp[h2]
   .simp[h2]
  .rw[if_neg h]
   show(if a=j then some u else look j _)=if k=j then(if a=j then some u else look j l).map (fun _=>v)else(if a=j then some u else look j l)
   rw[y]
   by_cases h2:a=j
   .have B:k≠j:=fun z=>h (by rw[z,h2])
    simp[h2,B]
   .simp[h2]
theorem zX (k j v:D)(l:List (D×D)):look j (ac7 k v l)=if k=j then some v else look j l:=by
 unfold ac7
 split
 .rename_i h
  rw[ay8]
  by_cases e:k=j
  .subst e
   rw[if_pos rfl,if_pos rfl]
   cases q:look k l with
   | none=>rw[q]at h;cases h
   | some _=>rfl
  .rw[if_neg e,if_neg e]
 .rename_i h
  rw[aA7]
  cases q:look j l with
  | none=>rfl
  | some x =>
   by_cases e:k=j
   .subst e;rw[q]at h;exact absurd rfl h
   .rw[if_neg e,if_neg e]
theorem aQ4 (k v:D)(l:List (D×D)):(ac7 k v l).length<=l.length+1:=by
 unfold ac7
 split
 .rw[az];lia
 .rw[aC];simp
noncomputable def fsB (B:List (Option (Int×List Nat))):List (Option Int):=B.map (Option.map Prod.fst)
structure GoodB (m:Mc)(w:List Nat)(B:List (Option (Int×List Nat))):Prop where
 len:B.length=m.R
 low:RowOk (zQ m w) (fsB B)
 is_:∀(k:Nat) c ps,B[k]?=some (some (c,ps))->∃ p∈m.bg,Pl m.ds w ps p k c
theorem aA8 {k v:D}:∀ {l:List (D×D)},look k l=some v->v∈l.map (·.2)
 | (a,u)::l,h=>by
  unfold look at h
  split at h
  .cases h;exact ar ..
  .exact ao _ (aA8 h)
noncomputable def cdD (cs:List Int):List (D×D):=cs.map fun c=>(.int c,.bl true)
noncomputable def aB8 (cs:List Int)(c:Int):List Int:=if c∈cs then cs else cs++[c]
theorem aZ6 {cs:List Int}{c x:Int}:x∈aB8 cs c↔x∈cs\/x=c:=by
 unfold aB8
 split
 .rename_i h
  exact⟨.inl,fun z=>z.elim id fun e=>by rw[e];exact h⟩
 .rw[aN,aO]
theorem bv9 {cs:List Int}(h:cs.Nodup)(c:Int):(aB8 cs c).Nodup:=by
 unfold aB8
 split
 .exact h
 .rename_i hc
  exact List.nodup_append.mpr ⟨h,by simp,fun a ha b hb=>by
   rw[aO.mp hb];exact fun e=>hc (e▸ha)⟩
theorem aT4 (c:Int):∀ cs:List Int,look (.int c) (cdD cs)=if c∈cs then some (.bl true)else none
 | []=>rfl
 | a::cs=>by
  show(if D.int a=.int c then some (.bl true)else look (.int c) (cdD cs))=_
  rw[aT4 c cs]
  by_cases h:a=c
  .subst h;simp
  .rw[if_neg (by intro z;injection z with z;exact h z)]
   have:c≠a:=fun z=>h z.symm
   simp[this]
theorem bh5 (c:Int)(cs:List Int):ac7 (.int c) (.bl true) (cdD cs)=cdD (aB8 cs c):=by
 unfold ac7 aB8
 rw[aT4]
 by_cases h:c∈cs
 .rw[if_pos h,if_pos h]
  simp only[d7,if_true]
  unfold cdD
  rw[c0]
  refine iL fun a _=>?_
  show(if D.int a=.int c then(D.int a,D.bl true)else(D.int a,D.bl true))=_
  split<;>rfl
 .rw[if_neg h,if_neg h]
  simp only[jc,bn,if_false]
  unfold cdD
  simp
theorem aC3 {cs:List Int}:(cdD cs).length=cs.length:=by unfold cdD;simp
noncomputable def RT (s:Sto)(b0 r:Nat)(v:Option D):Option (List Int)->Prop
 | none=>v=none
 | some cs=>∃ q,v=some (.ref q)/\b0<=q/\q≠r/\s[q]?=some (.dic (cdD cs))
def Tol (s:Sto)(b0 r n:Nat)(Cc:List (Option (List Int))):Prop :=
 ∃ l,s[r]?=some (.dic l)/\l.length<=n/\(∀(j k q:Nat),look (.int j) l=some (.ref q)->look (.int k) l=some (.ref q)->j=k)/\∀(k:Nat) o,Cc[k]?=some o->RT s b0 r (look (.int k) l) o
theorem RT.app {s T:Sto}{y r:Nat}{v:Option D}{o:Option (List Int)}(h:RT s y r v o):RT (s++T) y r v o:=by
 cases o with
 | none=>exact h
 | some p=>obtain⟨q,J,z,G,B⟩:=h;exact⟨q,J,z,G,zd B⟩
theorem Tol.app {s T:Sto}{y r n:Nat}{Cc:List (Option (List Int))}(h:Tol s y r n Cc):Tol (s++T) y r n Cc:=by
 obtain⟨l,J,z,G,B⟩:=h
 exact⟨l,zd J,z,G,fun k o e=>(B k o e).app⟩
theorem RT.keep {s:Sto}{y r q:Nat}{o':O}{v:Option D}{o:Option (List Int)}(h:RT s y r v o)(hq:v≠some (.ref q)):RT (s.set q o') y r v o:=by
 cases o with
 | none=>exact h
 | some p =>
  obtain⟨G,B,J,h3,Z⟩:=h
  refine⟨G,B,J,h3,?_⟩
  rw[aw fun z=>hq (by rw[B,z])]
  exact Z
theorem Tol.there {s:Sto}{B r n:Nat}{Cc:List (Option (List Int))}(h:Tol s B r n Cc){k:Nat}{cs:List Int}(hk:Cc[k]?=some (some cs))(hn:n<LIM) :
  ∃ q,(∃ l,s[r]?=some (.dic l)/\look (.int k) l=some (.ref q))/\aO6 (.ref r) (.int k) (.ref s.length) (s++[.dic []])=.ok (.ref q) (s++[.dic []]):=by
 obtain⟨l,y,G,J,z⟩:=h
 obtain⟨q,e1,_⟩:=z k _ hk
 refine⟨q,⟨l,y,e1⟩,?_⟩
 have g:(s++[O.dic []])[r]?=some (.dic l):=zd y
 unfold aO6
 simp only[g,e1]
 rw[if_pos (by simp only[D.key,dW,decide_eq_true_eq];lia)]
theorem Tol.fresh {s:Sto}{b0 r n:Nat}{Cc:List (Option (List Int))}(h:Tol s b0 r n Cc){k:Nat}(hk:Cc[k]?=some none)(hn:n<LIM)(hb:b0<=s.length)(y:∀ l,s[r]?=some (.dic l)->∀(j q:Nat),look (.int j) l=some (.ref q)->q<s.length) :
  ∃ l G,s[r]?=some (.dic l)/\G=ac7 (.int k) (.ref s.length) l/\aO6 (.ref r) (.int k) (.ref s.length) (s++[.dic []])=.ok (.ref s.length) ((s++[O.dic []]).set r (.dic G))/\look (.int k) G=some (.ref s.length)/\Tol ((s++[O.dic []]).set r (.dic G)) b0 r (n+1) (Cc.set k (some [])):=by
 obtain⟨l,J,h2,h3,h4⟩:=h
 have a0:r<s.length:=(ac.mp J).1
 have Z:k<Cc.length:=(ac.mp hk).1
 have e0:look (.int k) l=none:=h4 k _ hk
 have g:(s++[O.dic []])[r]?=some (.dic l):=zd J
 have B:=y l J
 refine⟨l,ac7 (.int k) (.ref s.length) l,J,rfl,?_,by rw[zX,if_pos rfl],_,zP (by simp;lia),by have:=aQ4 (.int k) (.ref s.length) l;lia,fun i j q a b=>?_,fun j o e=>?_⟩
 .unfold aO6
  simp only[g,e0]
  rw[if_pos (by simp only[D.key,dW,decide_eq_true_eq];lia)]
 .rw[zX]at a b
  by_cases hi:k=i
  .by_cases hj:k=j
   .lia
   .subst hi
    rw[if_pos rfl]at a
    cases a
    rw[if_neg (by intro z;injection z with z;lia)]at b
    have:=B j _ b
    lia
  .rw[if_neg (by intro z;injection z with z;omega)]at a
   by_cases hj:k=j
   .subst hj
    rw[if_pos rfl]at b
    cases b
    have:=B i _ a
    omega
   .rw[if_neg (by intro z;injection z with z;omega)]at b
    exact h3 i j q a b
 .rw[zX]
  by_cases hj:k=j
  .subst hj
   rw[aJ Z]at e
   cases e
   rw[if_pos rfl]
   refine⟨s.length,rfl,hb,by lia,?_⟩
   rw[aw (by lia)]
   exact bO9
  .rw[aw hj]at e
   rw[if_neg (by intro z;injection z with z;omega)]
   have q:=h4 j o e
   cases o with
   | none=>exact q
   | some p =>
    obtain⟨q',a1,a2,a3,a4⟩:=q
    refine⟨q',a1,a2,a3,?_⟩
    rw[aw (fun z=>a3 z.symm)]
    exact zd a4
noncomputable abbrev aY8:List Nat:=[110,111,116,104,105,110,103]
noncomputable abbrev bu0:List Nat:=[114,101,112,101,97,116]
noncomputable abbrev bv6:List Nat:=[101,105,116,104,101,114]
noncomputable abbrev bq4:List Nat:=[98,101,104,105,110,100]
inductive Tr where
 | nothing|letter (c:Nat)|rep (t:Tr)|two (b:Bool) (t u:Tr)
noncomputable def ca4 (b:Bool):List Nat:=if b then bv6 else bq4
noncomputable def bZ9 (b:Bool):Nat:=if b then 124 else 46
noncomputable def Tr.d:Tr->D
 | .nothing=>.tup [.str aY8]
 | .letter c=>.tup [.str bp4,.str [c]]
 | .rep t=>.tup [.str bu0,t.d]
 | .two b t u=>.tup [.str (ca4 b),t.d,u.d]
noncomputable def Tr.wr:Tr->List Nat
 | .nothing=>[45]
 | .letter c=>[c]
 | .rep t=>t.wr++[42]
 | .two b t u=>40::(t.wr++bZ9 b::(u.wr++[41]))
noncomputable def Tr.ok:Tr->Prop
 | .nothing=>True
 | .letter c=>97<=c/\c<100
 | .rep t=>t.ok
 | .two _ t u=>t.ok/\u.ok
noncomputable def Tr.sz:Tr->Nat
 | .nothing=>1
 | .letter _=>1
 | .rep t=>t.sz+1
 | .two _ t u=>t.sz+u.sz+1
noncomputable def Tr.cnt:Tr->Nat
 | .nothing=>0
 | .letter _=>1
 | .rep t=>t.cnt
 | .two _ t u=>t.cnt+u.cnt
noncomputable def Tr.nul:Tr->Bool
 | .nothing=>true
 | .letter _=>false
 | .rep _=>true
 | .two true t u=>t.nul||u.nul
 | .two false t u=>t.nul&&u.nul
noncomputable def Tr.fs:Tr->Nat->List Nat
 | .nothing,_=>[]
 | .letter _,b=>[b]
 | .rep t,b=>t.fs b
 | .two true t u,b=>t.fs b++u.fs (b+t.cnt)
 | .two false t u,b=>if t.nul then t.fs b++u.fs (b+t.cnt)else t.fs b
noncomputable def Tr.la:Tr->Nat->List Nat
 | .nothing,_=>[]
 | .letter _,b=>[b]
 | .rep t,b=>t.la b
 | .two true t u,b=>t.la b++u.la (b+t.cnt)
 | .two false t u,b=>if u.nul then t.la b++u.la (b+t.cnt)else u.la (b+t.cnt)
noncomputable def Tr.lt:Tr->List Nat
 | .nothing=>[]
 | .letter c=>[c]
 | .rep t=>t.lt
 | .two _ t u=>t.lt++u.lt
section
variable {F:Fns} {U:Env} {s:Sto}
theorem bv8 (tg:Tg)(e:E)(b:Ss):ex F (.forK tg e b) U s=((ev F e U s).bind fun d s=>aq0 d s).bind fun q s0=>if aF4 s q.src then(av7 (fun s=>chk s0 s q.src) (turn F tg b) q.its U s0).bind (fun c s=>ao2 q.src c s)else .bad:=rfl
end
noncomputable def zV (l:List Nat):List D:=l.map fun(q:Nat)=>D.int (q:Int)
theorem aO3:∀(n:Nat) (l:List Nat),l.Nodup->(∀ x∈l,x<n)->l.length<=n
 | 0,[],_,_=>ah _
 | 0,x::l,_,h=>absurd (h x (ar ..)) (by lia)
 | n+1,l,nd,h=>by
  have g:=aO3 n (l.filter fun x=>decide (x≠n)) (nd.filter _) fun x hx=>by
   have:=dn.mp hx
   have B:=h x this.1
   have y:=of_decide_eq_true this.2
   lia
  have k:∀ m:List Nat,m.Nodup->m.length<=(m.filter fun x=>decide (x≠n)).length+1:=by
   intro m
   induction m with
   | nil=>intro _;simp
   | cons a m ih =>
    intro hm
    rw[dq]at hm
    by_cases ha:a=n
    .have e:m.filter (fun x=>decide (x≠n))=m:=List.filter_eq_self.mpr fun x hx=>decide_eq_true fun z=>hm.1 (by rw[ha,<-z];exact hx)
     rw[List.filter_cons_of_neg (by simp[ha]),e]
     simp
    .rw[List.filter_cons_of_pos (by simp[ha])]
     have:=ih hm.2
     simp only[aI]
     lia
  have:=k l nd
  lia
theorem ba7 (l:List Nat)(n:Nat):D.bndL n (zV l)=true:=by
 induction l with
 | nil=>rfl
 | cons x l ih=>exact ih
section
variable {P:Pr} [HasM P "Rooms" "link" ar6]
theorem aA9 (l:List Nat):(zV l).length=l.length:=by unfold zV;simp
end
end DV
end
local macro_rules | `(tactic| tbr_iter [$xs,*]) => `(tactic| simp -implicitDefEqProofs only [DV.exs_cons, DV.exs_nil, DV.ex_asg, DV.ex_ite, DV.ex_ret, DV.ex_ex, DV.ex_for, DV.ex_whl, DV.ex_setIx, DV.ev_var, DV.ev_cst, DV.ev_bin, DV.ev_not, DV.ev_cmp, DV.ev_and, DV.ev_or, DV.ev_ite, DV.ev_tup, DV.ev_lst, DV.ev_ix, DV.ev_call, DV.ev_bi, DV.ev_mk, DV.ev_meth, DV.evs_nil, DV.evs_cons, DV.evas_nil, DV.evas_ex, DV.evI_seq, DV.evI_rng1, DV.evL_seq, DV.Cn_bl, DV.Cn_int, DV.Cn_non, DV.Cn_str, DV.R.bind_ok, DV.bindT_one, DV.bindT_tup, DV.setVs_nil, DV.setVs_cons, DV.setV_s, DV.setV_0, DV.unsetV_s, DV.unsetV_0, DV.getV_0, DV.getV_s, Option.map_some, Option.bind_some, DV.setC_some, DV.nxt_next, DV.nxt_ret, DV.nxt_cont, DV.fin_ret, DV.fin_next, DV.add_int, DV.sub_int, DV.lt_int, DV.le_int, DV.gt_int, DV.ge_int, DV.eq_int, DV.ne_int, DV.alloc_eq, DV.tru_bl, if_true, if_false, Bool.false_eq_true, decide_true, decide_false, Bool.not_true, Bool.not_false, $[$xs:term],*])
noncomputable section
namespace DV
theorem bn1 (as:List Int):(cdD as).all (fun p=>p.1.keyF)=true:=by
 unfold cdD
 rw[kC]
 exact bh.mpr fun _ _=>rfl
theorem aS0 (as:List Int):(cdD as).map (·.1)=bb2 as:=by unfold cdD bb2;rw[c0];rfl
noncomputable def stF (fee:Int)(cs as:List Int):List Int:=as.foldl (fun b c=>aB8 b (c+fee)) cs
theorem bb4 (fee:Int)(cs as:List Int)(c:Int):stF fee cs (as++[c])=aB8 (stF fee cs as) (c+fee):=by unfold stF;rw[List.foldl_append];rfl
theorem bb8 (cs:List Int)(c:Int):(aB8 cs c).length<=cs.length+1:=by
 unfold aB8
 split
 .lia
 .rw[aC];simp
theorem aQ0 (fee:Int):∀(as cs:List Int),(stF fee cs as).length<=cs.length+as.length
 | [],cs=>ah _
 | a::as,cs=>by
  have y:=aQ0 fee as (aB8 cs (a+fee))
  have h:=bb8 cs (a+fee)
  show(stF fee (aB8 cs (a+fee)) as).length<=_
  rw[aI];lia
theorem av9 {fee x:Int}:∀ {as cs:List Int},x∈stF fee cs as↔x∈cs\/∃ c∈as,x=c+fee
 | [],cs=>by show x∈cs↔_;simp
 | a::as,cs=>by
  show x∈stF fee (aB8 cs (a+fee)) as↔_
  rw[av9,aZ6]
  constructor
  .rintro((h|h)|⟨c,hc,h⟩)
   .exact .inl h
   .exact .inr ⟨a,ar ..,h⟩
   .exact .inr ⟨c,ao _ hc,h⟩
  .rintro(h|⟨c,hc,h⟩)
   .exact .inl (.inl h)
   .rcases ay.mp hc with rfl|hc
    .exact .inl (.inr h)
    .exact .inr ⟨c,hc,h⟩
theorem aT8 {fee:Int}:∀ {as cs:List Int},cs.Nodup->(stF fee cs as).Nodup
 | [],_,h=>h
 | _::as,_,h=>aT8 (as:=as) (bv9 h _)
theorem aB3 {s:Sto}{r:Nat}{o:O}(h:s[r]?=some o):s.set r o=s:=by
 obtain⟨y,e⟩:=ac.mp h
 rw[<-e];exact ii y
noncomputable def wkK:S:=.forK (.one 9) (.ix (.var 1) (.var 4)) (.cons (.setIx (.var 8) (.bin .add (.var 9) (.var 7)) (.cst (.bl true))) .nil)
theorem bJ7 {F:Fns}{S:Sto}{a t r:Nat}{as cs:List Int}{st:Int}{fee:Int}{x0 x2 x3 x5 x6 x9:Option D}(hx:ixM (.ref r) (.int st) S=.ok (.ref a) S)(ha:S[a]?=some (.dic (cdD as)))(J:S[t]?=some (.dic (cdD cs)))(h:a≠t)(hl:cs.length+as.length<LIM) :
  ∃ z,ex F wkK [x0,some (.ref r),x2,x3,some (.int st),x5,x6,some (.int fee),some (.ref t),x9] S=.ok (.next [x0,some (.ref r),x2,x3,some (.int st),x5,x6,some (.int fee),some (.ref t),z]) (S.set t (.dic (cdD (stF fee cs as)))):=by
 have G:a<S.length:=(ac.mp ha).1
 have a0:t<S.length:=(ac.mp J).1
 have e3:aq0 (.ref a) S=.ok ⟨bb2 as,[a]⟩ (S.set a (.dicF (cdD as))):=by
  unfold aq0
  simp only[ha,bn1,if_true,aS0]
 have e4:aF4 S [a]=true:=by unfold aF4;simp only[dz,kE,iR,ha]
 generalize y:S.set a (.dicF (cdD as))=S' at *
 have la:S'.length=S.length:=by rw[<-y];simp
 have ra:S'[a]?=some (.dicF (cdD as)):=by rw[<-y];exact zP G
 have rt:S'[t]?=some (.dic (cdD cs)):=by rw[<-y,aw h];exact J
 have key:=ah4 (ok:=fun u=>chk S' u [a]) (g:=turn F (.one 9) (.cons (.setIx (.var 8) (.bin .add (.var 9) (.var 7)) (.cst (.bl true))) .nil)) (fun j U u=>∃ z,U=[x0,some (.ref r),x2,x3,some (.int st),x5,x6,some (.int fee),some (.ref t),z]/\u=S'.set t (.dic (cdD (stF fee cs (as.take j)))))
  (bb2 as) 0 [x0,some (.ref r),x2,x3,some (.int st),x5,x6,some (.int fee),some (.ref t),x9] S' ⟨x9,rfl,by
   show S'=S'.set t (.dic (cdD cs))
   exact(aB3 rt).symm⟩ (fun j U u _ ⟨_,_,hu⟩=>by
   unfold chk
   subst hu
   rw[dz,aw (cC h)];simp) ?_
 .obtain⟨U',s',k1,z,rfl,rfl⟩:=key
  rw[ce,show(bb2 as).length=as.length by unfold bb2;simp,cr]at k1
  refine⟨z,?_⟩
  have th:ao2 [a] (Ct.next [x0,some (.ref r),x2,x3,some (.int st),x5,x6,some (.int fee),some (.ref t),z]) (S'.set t (.dic (cdD (stF fee cs as))))=.ok (.next [x0,some (.ref r),x2,x3,some (.int st),x5,x6,some (.int fee),some (.ref t),z]) (S.set t (.dic (cdD (stF fee cs as)))):=by
   unfold ao2
   simp only[aw (cC h),ra]
   rw[<-y,km _ _ h,cw,km _ _ (cC h),aB3 ha]
  unfold wkK
  tbr_iter [bv8,hx,e3,e4]
  rw[k1]
  tbr_iter [th]
 .rintro j d U u hj ⟨z,rfl,rfl⟩
  rw[ce]
  obtain⟨c,hc,rfl⟩:∃ c,as[j]?=some c/\d=.int c:=by
   unfold bb2 at hj
   rw[aE]at hj
   cases q:as[j]? with
   | none=>rw[q]at hj;cases hj
   | some c=>rw[q]at hj;cases hj;exact⟨c,rfl,rfl⟩
  have Z:j<as.length:=(ac.mp hc).1
  have B:=aQ0 fee (as.take j) cs
  have f1:setIx (.ref t) (.int (c+fee)) (.bl true) (S'.set t (.dic (cdD (stF fee cs (as.take j)))))=.ok () (S'.set t (.dic (cdD (stF fee cs (as.take (j+1)))))):=by
   have:=aL5 (k:=.int (c+fee)) (v:=.bl true) (zP (s:=S') (r:=t) (o:=.dic (cdD (stF fee cs (as.take j)))) (by lia)) rfl (by rw[aC3];rw[bK]at B;lia)
   rw[this,bh5,cw,<-bb4]
   have e:as.take j++[c]=as.take (j+1):=by
    have q:as[j]=c:=(ac.mp hc).2
    rw[<-q,bu]
   rw[e]
  refine⟨_,_,.inl ?_,some (.int c),rfl,rfl⟩
  unfold turn
  tbr_iter [f1]
theorem an7 {N:Nat}{l:List Int}(h:l.Nodup)(y:∀ x∈l,0<=x/\x<=(N:Int)):l.length<=N+1:=by
 have B:(l.map Int.toNat).Nodup:=by
  unfold List.Nodup at *
  rw[jz]
  refine ko (fun {a b} ha hb hab=>?_) h
  have:=y a ha
  have:=y b hb
  lia
 have z:=aO3 (N+1) _ B fun x hx=>by
  obtain⟨a,ha,rfl⟩:=bf.mp hx
  have:=y a ha
  lia
 rw[az]at z
 exact z
theorem aH6 {z:List Dr}:∀ {w:List Nat} {p q:Nat} {c:Int},Wk z w p q c->0<=c
 | [],p,q,c,h=>by have:=h.2;lia
 | x::w,p,q,c,h=>by
  obtain⟨d,hd,_,_,B,y,e⟩:=h
  have:=aH6 y
  lia
theorem aF7 {m:Mc}(hm:m.Ok):∀ {w:List Nat} {p q:Nat} {c:Int},Wk m.ds w p q c->c<=3*(w.length:Int)
 | [],p,q,c,h=>by have:=h.2;simp;lia
 | x::w,p,q,c,h=>by
  obtain⟨d,hd,_,_,z,y,e⟩:=h
  have:=aF7 hm y
  have:=(hm.ds.1 d hd).t
  rw[aI]
  lia
theorem Tol.costs {s:Sto}{b0 r n:Nat}{Cc:List (Option (List Int))}(h:Tol s b0 r n Cc){k q:Nat}{cs:List Int}(hk:Cc[k]?=some (some cs)){l:List (D×D)}(J:s[r]?=some (.dic l))(hq:look (.int k) l=some (.ref q))(y:List Int) :
  Tol (s.set q (.dic (cdD y))) b0 r n (Cc.set k (some y)):=by
 obtain⟨l',h1,h2,h3,Z⟩:=h
 rw[J]at h1
 cases h1
 obtain⟨q',e1,e2,e3,e4⟩:=Z k _ hk
 rw[hq]at e1
 cases e1
 have G:q<s.length:=(ac.mp e4).1
 have B:k<Cc.length:=(ac.mp hk).1
 refine⟨l,?_,h2,h3,fun j o e=>?_⟩
 .rw[aw e3];exact J
 .by_cases hj:k=j
  .subst hj
   rw[aJ B]at e
   cases e
   exact⟨q,hq,e2,e3,zP G⟩
  .rw[aw hj]at e
   exact(Z j o e).keep fun z=>hj (h3 k j q hq z)
structure GoodC (R:Nat)(S:Nat->Int->Prop)(Cc:List (Option (List Int))):Prop where
 len:Cc.length=R
 is_:∀(k:Nat) o,Cc[k]?=some o->match o with
  | none=>∀ c,¬ S k c
  | some cs=>cs.Nodup/\∀ c,c∈cs↔S k c
theorem GoodC.step {R:Nat}{S S':Nat->Int->Prop}{Cc:List (Option (List Int))}(h:GoodC R S Cc){k:Nat}{cs as:List Int}{fee:Int}(hk:Cc[k]?=some none/\cs=[]\/Cc[k]?=some (some cs))(J:∀ j c,S' j c↔S j c\/j=k/\∃ a∈as,c=a+fee):GoodC R S' (Cc.set k (some (stF fee cs as))):=by
 have y:k<Cc.length:=by rcases hk with h|h<;>exact(ac.mp (by first|exact h.1|exact h)).1
 refine⟨by rw[aK];exact h.len,fun j o e=>?_⟩
 by_cases hj:k=j
 .subst hj
  rw[aJ y]at e
  cases e
  have base:cs.Nodup/\∀ c,c∈cs↔S k c:=by
   rcases hk with⟨B,rfl⟩|B
   .exact⟨fN,fun c=>⟨fun z=>(by cases z),fun z=>absurd z (h.is_ k none B c)⟩⟩
   .exact h.is_ k (some cs) B
  refine⟨aT8 base.1,fun c=>?_⟩
  rw[av9,J,base.2]
  simp
 .rw[aw hj]at e
  have q:=h.is_ j o e
  have G:∀ c,S' j c↔S j c:=fun c=>by
   rw[J]
   exact⟨fun z=>z.elim id fun z=>absurd z.1.symm hj,.inl⟩
  cases o with
  | none=>exact fun c z=>q c ((G c).mp z)
  | some ds=>exact⟨q.1,fun c=>(q.2 c).trans (G c).symm⟩
theorem GoodC.same {R:Nat}{S S':Nat->Int->Prop}{Cc:List (Option (List Int))}(h:GoodC R S Cc)(y:∀ j c,S' j c↔S j c):GoodC R S' Cc:=by
 refine⟨h.len,fun j o e=>?_⟩
 have q:=h.is_ j o e
 cases o with
 | none=>exact fun c z=>q c ((y j c).mp z)
 | some ds=>exact⟨q.1,fun c=>(q.2 c).trans (y j c).symm⟩
theorem aP7 {s T:Sto}{b0 r n:Nat}{Cc:List (Option (List Int))}(h:Tol (s++T) b0 r n Cc)(hr:s.length<=r):∃ T' z,zn s (.ref r) (s++T)=.ok (.ref z) (s++T')/\Tol (s++T') b0 z n Cc:=by
 obtain⟨l,y,G,J,Z⟩:=h
 by_cases hbn:(O.dic l).bnd s.length=true
 .refine⟨[.dic l],s.length,?_,l,by simp,G,J,fun k o e=>?_⟩
  .unfold zn
   rw[if_pos (ql s T)]
   dsimp only
   rw[if_neg (by lia),y]
   dsimp only
   rw[if_pos hbn,jO]
   rfl
  .have:=Z k o e
   cases o with
   | none=>exact this
   | some p =>
    obtain⟨q,e1,e2,e3,B⟩:=this
    have hq:q<s.length:=by
     unfold O.bnd at hbn
     rw[ai]at hbn
     have hm:D.ref q∈l.map (·.2):=aA8 e1
     have:=aC2 hbn.2 _ hm
     unfold D.bnd at this
     simpa using this
    refine⟨q,e1,e2,by lia,?_⟩
    rw[aR hq]at B
    exact zd B
 .refine⟨T,r,?_,l,y,G,J,Z⟩
  unfold zn
  rw[if_pos (ql s T)]
  dsimp only
  rw[if_neg (by omega),y]
  dsimp only
  rw[if_neg hbn]
def bB3 (m:Mc)(w:List Nat)(s:Sto)(b0:Nat)(x:R D):Prop:=∃ T r Cc,x=.ok (.ref r) (s++T)/\Tol (s++T) b0 r 75 Cc/\GoodC m.R (zQ m w) Cc
theorem ad6.snoc {S:Nat->Int->Prop}{x:Nat}{y:List Dr}{d:Dr}{j:Nat}{c:Int}:ad6 S x (y++[d]) j c↔ad6 S x y j c\/d.l=x/\d.b=j/\∃ h,S d.a h/\c=h+(d.t:Int):=by
 constructor
 .rintro⟨e,he,r⟩
  rcases aN.mp he with z|z
  .exact .inl ⟨e,z,r⟩
  .rw[aO.mp z]at r;exact .inr r
 .rintro(⟨e,he,r⟩|r)
  .exact⟨e,aN.mpr (.inl he),r⟩
  .exact⟨d,by simp,r⟩
def Rf (u:Sto)(r:Nat):Prop:=∀ l,u[r]?=some (.dic l)->∀(j q:Nat),look (.int j) l=some (.ref q)->q<u.length
theorem bH0 {F:Fns}{U:Env}{s:Sto}(o k d:E):ev F (.sdf o k d) U s=(ev F o U s).bind fun x s=>(ev F k U s).bind fun y s=>(ev F d U s).bind fun z s=>aO6 x y z s:=rfl
theorem bk7 {u:Sto}{b r n:Nat}{Cc:List (Option (List Int))}(h:Tol u b r n Cc)(z:Rf u r)(hn:n<LIM)(hb:b<=u.length){k:Nat}{o:Option (List Int)}(hk:Cc[k]?=some o) :
  ∃ q cs l S G,aO6 (.ref r) (.int k) (.ref u.length) (u++[.dic []])=.ok (.ref q) S/\(∀ s T,u=s++T->s.length<=r->∃ T',S=s++T')/\Tol S b r (n+1) G/\G[k]?=some (some cs)/\(∀ v,G.set k v=Cc.set k v)/\(Cc[k]?=some none/\cs=[]\/Cc[k]?=some (some cs))/\S[r]?=some (.dic l)/\look (.int k) l=some (.ref q)/\Rf S r:=by
 have a0:k<Cc.length:=(ac.mp hk).1
 cases o with
 | none =>
  obtain⟨l,J,B,e,Z,h3,h4⟩:=h.fresh hk hn hb z
  have a4:r<u.length:=(ac.mp B).1
  have g:((u++[O.dic []]).set r (.dic J))[r]?=some (.dic J):=zP (by simp;lia)
  refine⟨_,[],J,_,_,Z,fun s T e hs=>?_,h4,aJ a0,fun v=>cw ..,.inl ⟨hk,rfl⟩,g,h3,fun l2 y j q a=>?_⟩
  .rw[e,aM];exact⟨_,aJ1 hs⟩
  .rw[g]at y
   cases y
   rw[e,zX]at a
   rw[aK,aC,bO]
   split at a
   .cases a;lia
   .have:=z l B j q a;lia
 | some cs =>
  obtain⟨q,⟨l,B,Z⟩,h3⟩:=h.there hk hn
  refine⟨q,cs,l,_,Cc,h3,fun s T e hs=>?_,?_,hk,fun _=>rfl,.inr hk,zd B,Z,fun l2 y j q' a=>?_⟩
  .rw[e,aM];exact⟨_,rfl⟩
  .obtain⟨l3,a1,a2,a3⟩:=h.app (T:=[.dic []])
   exact⟨l3,a1,by lia,a3⟩
  .have g:(u++[O.dic []])[r]?=some (.dic l):=zd B
   rw[g]at y
   cases y
   have:=z l B j q' a
   rw[aC];lia
theorem bK4 {P:Pr}[Has P aa5][Has P aa4](n:Nat){m:Mc}(hm:m.Ok){w:List Nat}(hw:w.length<=1000)(x:Nat){s:Sto}{b0 r nn:Nat}{Cc:List (Option (List Int))}(hC:Tol s b0 r nn Cc)(hG:GoodC m.R (zQ m w) Cc)(hb:b0<=s.length) :
  bB3 m (w++[x]) s s.length ((aa1 P (n+2)).call "paid_led_on" [m.d,.ref r,.str [x]] s):=by
 have e0:(aa1 P (n+2)).call "paid_led_on" [m.d,.ref r,.str [x]] s=_:=zq aa4 (n:=n+1) rfl
 rw[e0]
 have hd:∀ S,(aa1 P (n+1)).call "doors_of" [m.d] S=.ok (.tup (m.ds.map Dr.d)) S:=aw7 (P:=P) n m
 have sT:∀ S,bV1 (.tup (m.ds.map Dr.d)) S=.ok ⟨m.ds.map Dr.d,[]⟩ S:=fun _=>rfl
 obtain⟨lb,a0,_,_,c3⟩:=hC
 have d3:r<s.length:=(ac.mp a0).1
 have d5:=hm.ds.2
 simp -implicitDefEqProofs [aa4,ag1,hd,sT]
 refine zx (Ww:=bB3 m (w++[x]) s s.length) (fun i U u=>∃(T:Sto) (Cc':List (Option (List Int))) (y4 y5 y6 y7 y8 y9:Option D),u=s++T/\Tol u s.length s.length i Cc'/\Rf u s.length/\GoodC m.R (ad6 (zQ m w) x (m.ds.take i)) Cc'/\U=[some m.d,some (.ref r),some (.str [x]),some (.ref s.length),y4,y5,y6,y7,y8,y9])
  ⟨[.dic []],aF m.R none,_,_,_,_,_,_,rfl,⟨[],by simp,ah _,fun j k q a=>(by cases a),fun k o e=>?_⟩,fun l hl j q a=>?_,⟨by simp,fun k o e=>?_⟩,rfl⟩ (fun _ _ _ _ _=>rfl) ?_ ?_
 .rw[bU]at e
  split at e
  .cases e;exact rfl
  .cases e
 .simp at hl
  subst hl
  cases a
 .rw[bU]at e
  split at e
  .cases e
   rintro c' ⟨d,hd,_⟩
   rw[fO]at hd;cases hd
  .cases e
 .rintro i d U u hi ⟨T,Cc',y4,y5,y6,y7,y8,y9,rfl,G,a6,y,rfl⟩
  obtain⟨e,he,rfl⟩:∃ e,m.ds[i]?=some e/\d=e.d:=by
   rw[aE]at hi
   cases q:m.ds[i]? with
   | none=>rw[q]at hi;cases hi
   | some e=>rw[q]at hi;cases hi;exact⟨e,rfl,rfl⟩
  have d0:i<m.ds.length:=(ac.mp he).1
  have hok:=hm.ds.1 e (aG he)
  have b4:m.ds.take (i+1)=m.ds.take i++[e]:=by
   have q:m.ds[i]=e:=(ac.mp he).2
   rw[<-q,bu]
  have c4:(s++T)[r]?=some (.dic lb):=zd a0
  obtain⟨oa,ha⟩:∃ o,Cc[e.a]?=some o:=⟨Cc[e.a]'(by rw[hG.len];exact hok.a),ag _⟩
  obtain⟨ob,b6⟩:∃ o,Cc'[e.b]?=some o:=⟨Cc'[e.b]'(by rw[y.len];exact hok.b),ag _⟩
  have ra:=c3 e.a oa ha
  have Z:=be0 (k:=.int e.a) c4 rfl
  have B:=hG.is_ e.a oa ha
  have b1:e.d=.tup [.int e.a,.str [e.l],.int e.b,.int e.t]:=rfl
  have J:(∀ c,¬(e.l=x/\zQ m w e.a c))->∀ U',(∃ z4 z5 z6 z7 z8 z9,U'=[some m.d,some (.ref r),some (.str [x]),some (.ref s.length),z4,z5,z6,z7,z8,z9])->∃(T':Sto) (b5:List (Option (List Int))) (y4 y5 y6 y7 y8 y9:Option D),s++T=s++T'/\Tol (s++T) s.length s.length (i+1) b5/\Rf (s++T) s.length/\GoodC m.R (ad6 (zQ m w) x (m.ds.take (i+1))) b5/\U'=[some m.d,some (.ref r),some (.str [x]),some (.ref s.length),y4,y5,y6,y7,y8,y9]:=by
   rintro h U' ⟨z4,z5,z6,z7,z8,z9,rfl⟩
   refine⟨T,Cc',_,_,_,_,_,_,rfl,?_,a6,y.same fun j c=>?_,rfl⟩
   .obtain⟨l3,a1,a2,a3⟩:=G
    exact⟨l3,a1,by lia,a3⟩
   .rw[b4,ad6.snoc]
    exact⟨fun z=>z.elim id fun⟨z1,_,c',z2,_⟩=>absurd ⟨z1,z2⟩ (h c'),.inl⟩
  by_cases hx:e.l=x
  .cases oa with
   | none =>
    have ra:look (.int e.a) lb=none:=ra
    rw[ra]at Z
    refine ad7 (U:=[some m.d,some (.ref r),some (.str [x]),some (.ref s.length),some (.int e.a),some (.str [e.l]),some (.int e.b),some (.int e.t),y8,y9]) (s:=s++T) ?_ (J (fun c z=>B c z.2) _ ⟨_,_,_,_,_,_,rfl⟩)
    tbr_iter [turn,b1,ag8,hx,Z,jc]
   | some as =>
    obtain⟨a,ra,_,_,has⟩:=ra
    have d4:a<s.length:=(ac.mp has).1
    rw[ra]at Z
    obtain⟨t,cs,l,S,Cc2,f1,f2,f3,f4,f5,f6,f7,f8,f9⟩:=bk7 G a6 (by unfold LIM;lia) (by rw[aC];lia) b6
    obtain⟨T2,rfl⟩:=f2 s T rfl (ah _)
    obtain⟨t',g1,g2,g3,g4⟩:RT (s++T2) s.length s.length (look (.int e.b) l) (some cs):=by
     obtain⟨l3,a1,a2,a3,a4⟩:=f3
     rw[f7]at a1
     cases a1
     exact a4 _ _ f4
    rw[f8]at g1
    cases g1
    have d1:t<(s++T2).length:=(ac.mp g4).1
    have b2:cs.Nodup/\∀ c,c∈cs->ad6 (zQ m w) x (m.ds.take i) e.b c:=by
     rcases f6 with⟨_,rfl⟩|h
     .exact⟨fN,fun c z=>by cases z⟩
     .exact⟨(y.is_ _ _ h).1,fun c z=>((y.is_ _ _ h).2 c).mp z⟩
    have e1:as.length<=3*w.length+1:=an7 B.1 fun c hc=>by
     obtain⟨p,_,hp⟩:=(B.2 c).mp hc
     have:=aH6 hp
     have:=aF7 hm hp
     lia
    have d2:cs.length<=3*(w.length+1)+1:=an7 b2.1 fun c hc=>by
     obtain⟨d,hd,h1,h2⟩:=b2.2 c hc
     obtain⟨p,_,hp⟩:=aj1.mp ⟨d,cX hd,h1,h2⟩
     have h3:=aH6 hp
     have h4:=aF7 hm hp
     rw[aC,bO]at h4
     lia
    obtain⟨c1,a5⟩:=bJ7 (F:=aa1 P (n+1)) (x0:=some m.d) (x2:=some (.str [x])) (x3:=some (.ref s.length)) (x5:=some (.str [e.l])) (x6:=some (.int e.b)) (x9:=y9) (fee:=e.t) (bA7 (s:=s++T2) (zd a0) rfl ra) (zd has) g4 (by lia) (by unfold LIM;lia)
    unfold wkK at a5
    refine ad7 (U:=[some m.d,some (.ref r),some (.str [x]),some (.ref s.length),some (.int e.a),some (.str [e.l]),some (.int e.b),some (.int e.t),some (.ref t),c1]) (s:=(s++T2).set t (.dic (cdD (stF e.t cs as)))) ?_ ⟨_,Cc'.set e.b (some (stF e.t cs as)),_,_,_,_,_,_,aJ1 g2,?_,?_,y.step f6 fun j c=>?_,rfl⟩
    .tbr_iter [turn,b1,ag8,hx,Z,d7,ag1,bH0,f1]
     rw[hx]at a5
     rw[a5]
     tbr_iter []
    .rw[<-f5];exact f3.costs f4 f7 f8 _
    .intro l2 b3 j q z
     rw[aw g3]at b3
     rw[aK]
     exact f9 l2 b3 j q z
    .rw[b4,ad6.snoc]
     constructor
     .rintro(z|⟨_,rfl,c',z2,z3⟩)
      .exact .inl z
      .exact .inr ⟨rfl,c',(B.2 c').mpr z2,z3⟩
     .rintro(z|⟨rfl,c',z2,z3⟩)
      .exact .inl z
      .exact .inr ⟨hx,rfl,c',(B.2 c').mp z2,z3⟩
  .refine ad7 (U:=[some m.d,some (.ref r),some (.str [x]),some (.ref s.length),some (.int e.a),some (.str [e.l]),some (.int e.b),some (.int e.t),y8,y9]) (s:=s++T) ?_ (J (fun c z=>hx z.1) _ ⟨_,_,_,_,_,_,rfl⟩)
   tbr_iter [turn,b1,ag8,hx]
 .rintro U u ⟨T,Cc',y4,y5,y6,y7,y8,y9,rfl,G,a6,y,rfl⟩
  rw[az]at G
  rw[az,cr]at y
  obtain⟨T',r',hc,c2⟩:=aP7 G (ah _)
  refine⟨T',r',Cc',?_,?_,y.same fun j c=>aj1.symm⟩
  .tbr_iter []
   exact hc
  .obtain⟨l,h1,h2,h3⟩:=c2
   exact⟨l,h1,by lia,h3⟩
theorem Tol.put {s:Sto}{b0 r n:Nat}{Cc:List (Option (List Int))}(h:Tol s b0 r n Cc)(Z:Rf s r){k:Nat}(J:k<Cc.length)(hn:n<LIM)(hb:b0<=s.length)(cs:List Int) :
  ∃ G,setIx (.ref r) (.int k) (.ref s.length) (s++[.dic (cdD cs)])=.ok () ((s++[O.dic (cdD cs)]).set r (.dic G))/\Tol ((s++[O.dic (cdD cs)]).set r (.dic G)) b0 r (n+1) (Cc.set k (some cs))/\Rf ((s++[O.dic (cdD cs)]).set r (.dic G)) r:=by
 obtain⟨l,h1,h2,h3,h4⟩:=h
 have a0:r<s.length:=(ac.mp h1).1
 have g:(s++[O.dic (cdD cs)])[r]?=some (.dic l):=zd h1
 have g2:((s++[O.dic (cdD cs)]).set r (.dic (ac7 (.int k) (.ref s.length) l)))[r]?=some (.dic (ac7 (.int k) (.ref s.length) l)):=zP (by simp;omega)
 have y:=Z l h1
 refine⟨ac7 (.int k) (.ref s.length) l,aL5 g rfl (by omega),⟨_,g2,by have:=aQ4 (.int k) (.ref s.length) l;omega,fun i j q a b=>?_,fun j o e=>?_⟩,fun l2 B j q a=>?_⟩
 .rw[zX]at a b
  by_cases hi:k=i
  .by_cases hj:k=j
   .omega
   .subst hi
    rw[if_pos rfl]at a
    cases a
    rw[if_neg (by intro z;injection z with z;omega)]at b
    have:=y j _ b
    omega
  .rw[if_neg (by intro z;injection z with z;omega)]at a
   by_cases hj:k=j
   .subst hj
    rw[if_pos rfl]at b
    cases b
    have:=y i _ a
    omega
   .rw[if_neg (by intro z;injection z with z;omega)]at b
    exact h3 i j q a b
 .rw[zX]
  by_cases hj:k=j
  .subst hj
   rw[aJ J]at e
   cases e
   rw[if_pos rfl]
   refine⟨s.length,rfl,hb,by omega,?_⟩
   rw[aw (by omega)]
   exact bO9
  .rw[aw hj]at e
   rw[if_neg (by intro z;injection z with z;omega)]
   have q:=h4 j o e
   cases o with
   | none=>exact q
   | some p =>
    obtain⟨q',e1,e2,e3,e4⟩:=q
    refine⟨q',e1,e2,e3,?_⟩
    rw[aw (cC e3)]
    exact zd e4
 .rw[g2]at B
  cases B
  rw[zX]at a
  rw[aK,aC,bO]
  split at a
  .cases a;lia
  .have:=y j q a;lia
theorem GoodC.put0 {R:Nat}{Cc:List (Option (List Int))}{bs:List Nat}{b:Nat}(h:GoodC R (fun k c=>k∈bs/\c=0) Cc)(hb:b<Cc.length):GoodC R (fun k c=>k∈bs++[b]/\c=0) (Cc.set b (some [0])):=by
 refine⟨by rw[aK];exact h.len,fun j o e=>?_⟩
 by_cases hj:b=j
 .subst hj
  rw[aJ hb]at e
  cases e
  exact⟨by simp,fun c=>by simp⟩
 .rw[aw hj]at e
  have q:=h.is_ j o e
  have y:∀ c:Int,(j∈bs++[b]/\c=0)↔(j∈bs/\c=0):=fun c=>by
   rw[aN,aO]
   exact⟨fun z=>⟨z.1.elim id fun z=>absurd z.symm hj,z.2⟩,fun z=>⟨.inl z.1,z.2⟩⟩
  cases o with
  | none=>exact fun c z=>q c ((y c).mp z)
  | some ds=>exact⟨q.1,fun c=>(q.2 c).trans (y c).symm⟩
theorem bh2:∀(as cs:List Int),aX9 (cdD cs) (cdD as)=cdD (stF 0 cs as)
 | [],cs=>rfl
 | a::as,cs=>by
  show aX9 (ac7 (.int a) (.bl true) (cdD cs)) (cdD as)=cdD (stF 0 (aB8 cs (a+0)) as)
  rw[bh5,bh2 as,jA]
theorem aV9 {Uu T':Sto}{Z r n:Nat}{Cc:List (Option (List Int))}{fs:List Int}{k:Nat}{o:Option (List Int)}(h:Tol Uu Z r n Cc)(hk:Cc[k]?=some o)(z:fs.length+(o.getD []).length<=LIM) :
  ∃ q,bb6 (.ref r) (.int k) (.ref (Uu++.dic (cdD fs)::T').length) (Uu++.dic (cdD fs)::T'++[.dic []])=.ok (.ref q) (Uu++.dic (cdD fs)::T'++[.dic []])/\aZ8 (.ref Uu.length) (.ref q) (Uu++.dic (cdD fs)::T'++[.dic []])=.ok .non (Uu++.dic (cdD (stF 0 fs (o.getD [])))::(T'++[.dic []])):=by
 obtain⟨l,h1,h2,h3,J⟩:=h
 have e:=J k o hk
 have g1:(Uu++.dic (cdD fs)::T'++[O.dic []])[r]?=some (.dic l):=zd (zd h1)
 have G:(Uu++.dic (cdD fs)::T'++[O.dic []])[Uu.length]?=some (.dic (cdD fs)):=zd (by simp)
 have st:∀ x:O,(Uu++.dic (cdD fs)::T'++[O.dic []]).set Uu.length x=Uu++x::(T'++[.dic []]):=fun x=>by
  rw[aM,il _ _ (ah _),fy]
  rfl
 cases o with
 | none =>
  have e:look (.int k) l=none:=e
  have y:(Uu++.dic (cdD fs)::T'++[O.dic []])[(Uu++.dic (cdD fs)::T').length]?=some (.dic []):=bO9
  refine⟨(Uu++.dic (cdD fs)::T').length,?_,?_⟩
  .unfold bb6
   simp only[g1,e]
   rfl
  .unfold aZ8
   simp only[G,y]
   rw[if_pos ⟨by simp,by rw[aC3];exact z⟩,st]
   rfl
 | some as =>
  obtain⟨q,e1,e2,e3,B⟩:=e
  have hq:q<Uu.length:=(ac.mp B).1
  have y:(Uu++.dic (cdD fs)::T'++[O.dic []])[q]?=some (.dic (cdD as)):=zd (zd B)
  refine⟨q,?_,?_⟩
  .unfold bb6
   simp only[g1,e1]
   rfl
  .unfold aZ8
   simp only[G,y]
   rw[if_pos ⟨by lia,by rw[aC3,aC3];exact z⟩,st,bh2]
   rfl
theorem bE1 {S:Sto}{r:Nat}{cs:List Int}(h:S[r]?=some (.dic (cdD cs)))(y:cs.length<128):ap3 (.ref r) S=.ok (.ref S.length) (S++[.lst ((ab6 cs).map D.int)]):=by
 have e:zN ((cdD cs).map (·.1))=some cs:=by rw[aS0];exact am4 cs
 unfold ap3
 simp only[h,e]
 rw[if_pos y]
 rfl
theorem aT1 {s T:Sto}{q:Nat}{o:O}(h:(s++T)[q]?=some o)(hq:s.length<=q)(hb:o.bnd s.length=true):zn s (.ref q) (s++T)=.ok (.ref s.length) (s++[o]):=by
 unfold zn
 rw[if_pos (ql s T)]
 dsimp only
 rw[if_neg (by omega),h]
 dsimp only
 rw[if_pos hb,jO]
 rfl
theorem bZ5 {R:Nat}{l:List Nat}(z:R<=5)(nd:l.Pairwise (· < ·))(y:∀ x∈l,x<R):l.length<=5:=by
 have:=aO3 R l (nd.imp (fun h=>aB h)) y
 lia
theorem bN0 {F:Fns}{U:Env}{s:Sto}(o k d:E):ev F (.gtd o k d) U s=(ev F o U s).bind fun x s=>(ev F k U s).bind fun y s=>(ev F d U s).bind fun z s=>bb6 x y z s:=rfl
theorem bN2 {F:Fns}{U:Env}{s:Sto}(o x:E):ev F (.upd o x) U s=(ev F o U s).bind fun a s=>(ev F x U s).bind fun b s=>aZ8 a b s:=rfl
theorem bl7 {F:Fns}{U:Env}{s:Sto}(e:E):ev F (.srtD e) U s=(ev F e U s).bind fun x s=>ap3 x s:=rfl
theorem bj7 {F:Fns}{U:Env}{s:Sto}:ev F (.dic (.cons (.cst (.int 0)) .nil) (.cons (.cst (.bl true)) .nil)) U s=.ok (.ref s.length) (s++[.dic (cdD [0])]):=by
 unfold ev
 tbr_iter []
 rw[if_pos ⟨rfl,by simp⟩,an3]
 rfl
def be4 (m:Mc)(w:List Nat)(s:Sto)(x:R D):Prop:=∃ cs,x=.ok (.ref s.length) (s++[.lst ((ab6 cs).map D.int)])/\cs.Nodup/\∀ c,c∈cs↔m.Wk w c
theorem bf2 {P:Pr}[Has P aa6][Has P ab0][Has P aa5][Has P aa4][Has P ac6](n:Nat){m:Mc}(hm:m.Ok)(w:List Nat)(hw:w.length<=24)(s:Sto):be4 m w s ((aa1 P (n+3)).call "tolls" [m.d,.str w] s):=by
 have e0:(aa1 P (n+3)).call "tolls" [m.d,.str w] s=_:=zq ac6 (n:=n+2) rfl
 rw[e0]
 have hb:∀ S,(aa1 P (n+2)).call "begins_of" [m.d] S=.ok (.tup (qE m.bg)) S:=ar7 (P:=P) (n+1) m
 have b6:∀ S,(aa1 P (n+2)).call "ends_of" [m.d] S=.ok (.tup (qE m.en)) S:=aG8 (P:=P) (n+1) m
 have sB:∀ S,av6 (.tup (qE m.bg)) S=.ok ⟨qE m.bg,[]⟩ S:=fun _=>rfl
 have sE:∀ S,av6 (.tup (qE m.en)) S=.ok ⟨qE m.en,[]⟩ S:=fun _=>rfl
 have sW:∀ S,av6 (.str w) S=.ok ⟨w.map fun c=>.str [c],[]⟩ S:=fun _=>rfl
 have a4:∀(w:List Nat) (l:List Int),l.Nodup->(∀ c∈l,∃ q,zQ m w q c)->l.length<=3*w.length+1:=fun w l h1 h2=>an7 h1 fun c hc=>by
  obtain⟨q,p,_,hp⟩:=h2 c hc
  have:=aH6 hp
  have:=aF7 hm hp
  lia
 have c3:m.bg.length<=5:=bZ5 hm.R5 hm.bg.2 hm.bg.1
 simp -implicitDefEqProofs [ac6,ag1,hb,sB]
 refine zx (Ww:=be4 m w s) (fun i U u=>∃(T:Sto) (Cc:List (Option (List Int))) (J G y5:Option D),u=s++T/\Tol u s.length s.length i Cc/\Rf u s.length/\GoodC m.R (fun k c=>k∈m.bg.take i/\c=0) Cc/\U=[some m.d,some (.str w),some (.ref s.length),J,G,y5])
  ⟨[.dic []],aF m.R none,_,_,_,rfl,⟨[],by simp,ah _,fun j k q a=>(by cases a),fun k o e=>?_⟩,fun l hl j q a=>?_,⟨by simp,fun k o e=>?_⟩,rfl⟩ (fun _ _ _ _ _=>rfl) ?_ ?_
 .rw[bU]at e
  split at e
  .cases e;exact rfl
  .cases e
 .simp at hl
  subst hl
  cases a
 .rw[bU]at e
  split at e
  .cases e
   rintro c ⟨h,_⟩
   rw[fO]at h;cases h
  .cases e
 .rintro i d U u hi ⟨T,Cc,J,G,y5,rfl,hC,c1,B,rfl⟩
  obtain⟨k,hk,rfl⟩:∃ k,m.bg[i]?=some k/\d=.int (k:Int):=by
   unfold qE at hi
   rw[aE]at hi
   cases q:m.bg[i]? with
   | none=>rw[q]at hi;cases hi
   | some k=>rw[q]at hi;cases hi;exact⟨k,rfl,rfl⟩
  have c2:i<m.bg.length:=(ac.mp hk).1
  have a3:m.bg.take (i+1)=m.bg.take i++[k]:=by
   have q:m.bg[i]=k:=(ac.mp hk).2
   rw[<-q,bu]
  have a1:k<Cc.length:=by rw[B.len];exact hm.bg.1 k (aG hk)
  obtain⟨l',b2,b5,b1⟩:=hC.put c1 a1 (by unfold LIM;lia) (by rw[aC];lia) [0]
  refine ad7 (U:=[some m.d,some (.str w),some (.ref s.length),some (.int (k:Int)),G,y5]) (s:=(s++T++[O.dic (cdD [0])]).set s.length (.dic l')) ?_ ⟨_,Cc.set k (some [0]),_,_,_,by rw[aM];exact aJ1 (ah _),b5,b1,by rw[a3];exact B.put0 a1,rfl⟩
  tbr_iter [turn,bj7,b2]
 rintro U u ⟨T,Cc,J,G,y5,rfl,hC,_,B,rfl⟩
 have a5:(qE m.bg).length=m.bg.length:=by unfold qE;rw[az]
 rw[a5,cr]at B
 have B:=B.same (S':=zQ m []) fun k c=>⟨fun⟨p,hp,h1,h2⟩=>⟨h1▸hp,h2⟩,fun⟨h1,h2⟩=>⟨k,h1,rfl,h2⟩⟩
 tbr_iter [sW,R.bind_assoc]
 refine zx (Ww:=be4 m w s) (fun j U u=>∃(T:Sto) (b0 r nn:Nat) (Cc:List (Option (List Int))) (J G y5:Option D),u=s++T/\b0<=u.length/\Tol u b0 r nn Cc/\GoodC m.R (zQ m (w.take j)) Cc/\U=[some m.d,some (.str w),some (.ref r),J,G,y5])
  ⟨T,s.length,s.length,_,Cc,_,_,_,rfl,by rw[aC];lia,hC,B,rfl⟩ (fun _ _ _ _ _=>rfl) ?_ ?_
 .rintro j d U u hj ⟨T,b0,r,nn,Cc,J,G,y5,rfl,b3,hC,B,rfl⟩
  obtain⟨c,hc,rfl⟩:∃ c,w[j]?=some c/\d=.str [c]:=by
   rw[aE]at hj
   cases e:w[j]? with
   | none=>rw[e]at hj;cases hj
   | some c=>rw[e]at hj;cases hj;exact⟨c,rfl,rfl⟩
  have b4:w.take j++[c]=w.take (j+1):=by
   have hlt:j<w.length:=(ac.mp hc).1
   have e:w[j]=c:=(ac.mp hc).2
   rw[<-e,bu]
  obtain⟨T',r',Cc',e1,a2,a6⟩:=bK4 (P:=P) n hm (w:=w.take j) (by rw[bK];lia) c hC B b3
  rw[b4]at a6
  refine ad7 (U:=[some m.d,some (.str w),some (.ref r'),J,some (.str [c]),y5]) (s:=s++T++T') ?_ ⟨T++T',_,r',_,Cc',_,_,_,by rw[aM],by rw[aC (as:=s++T)];lia,a2,a6,rfl⟩
  tbr_iter [turn,e1]
 rintro U u ⟨T,b0,r,nn,Cc,J,G,y5,rfl,b3,hC,B,rfl⟩
 rw[az,cr]at B
 tbr_iter [ag1,b6,sE,R.bind_assoc]
 refine zx (Ww:=be4 m w s) (fun j U u=>∃(T':Sto) (fs:List Int) (J G:Option D),u=s++T++.dic (cdD fs)::T'/\fs.Nodup/\(∀ c,c∈fs↔∃ q∈m.en.take j,zQ m w q c)/\U=[some m.d,some (.str w),some (.ref r),J,G,some (.ref (s++T).length)])
  ⟨[],[],_,_,rfl,fN,fun c=>by simp,rfl⟩ (fun _ _ _ _ _=>rfl) ?_ ?_
 .rintro j d U u hj ⟨T',fs,J,G,rfl,hnd,y,rfl⟩
  obtain⟨k,hk,rfl⟩:∃ k,m.en[j]?=some k/\d=.int (k:Int):=by
   unfold qE at hj
   rw[aE]at hj
   cases q:m.en[j]? with
   | none=>rw[q]at hj;cases hj
   | some k=>rw[q]at hj;cases hj;exact⟨k,rfl,rfl⟩
  have a3:m.en.take (j+1)=m.en.take j++[k]:=by
   have hlt:j<m.en.length:=(ac.mp hk).1
   have q:m.en[j]=k:=(ac.mp hk).2
   rw[<-q,bu]
  have a1:k<Cc.length:=by rw[B.len];exact hm.en.1 k (aG hk)
  have a2:Cc[k]?=some Cc[k]:=ag a1
  have Z:=B.is_ k _ a2
  have a0:(Cc[k].getD []).Nodup/\∀ c,c∈Cc[k].getD []↔zQ m w k c:=by
   cases e:Cc[k]with
   | none=>rw[e]at Z;exact⟨fN,fun c=>⟨fun z=>(by cases z),fun z=>absurd z (Z c)⟩⟩
   | some as=>rw[e]at Z;exact Z
  have l1:=a4 w fs hnd fun c hc=>by obtain⟨q,_,h⟩:=(y c).mp hc;exact⟨q,h⟩
  have l2:=a4 w _ a0.1 fun c hc=>⟨k,(a0.2 c).mp hc⟩
  obtain⟨q,g1,g2⟩:=aV9 (T':=T') (fs:=fs) hC a2 (by unfold LIM;lia)
  refine ad7 (U:=[some m.d,some (.str w),some (.ref r),some (.int (k:Int)),G,some (.ref (s++T).length)]) (s:=s++T++.dic (cdD (stF 0 fs (Cc[k].getD [])))::(T'++[.dic []])) ?_ ⟨_,_,_,_,rfl,aT8 hnd,fun c=>?_,rfl⟩
  .tbr_iter [turn,bN2,bN0,ag1,g1,g2]
  .rw[av9,y,a3]
   constructor
   .rintro(⟨q,hq,h⟩|⟨a,ha,h⟩)
    .exact⟨q,aN.mpr (.inl hq),h⟩
    .rw[jA]at h
     exact⟨k,by simp,(a0.2 c).mp (h▸ha)⟩
   .rintro⟨q,hq,h⟩
    rcases aN.mp hq with hq|hq
    .exact .inl ⟨q,hq,h⟩
    .rw[aO.mp hq]at h
     exact .inr ⟨c,(a0.2 c).mpr h,(jA c).symm⟩
 .rintro U u ⟨T',fs,J,G,rfl,hnd,y,rfl⟩
  have a5:(qE m.en).length=m.en.length:=by unfold qE;rw[az]
  rw[a5,cr]at y
  have l1:=a4 w fs hnd fun c hc=>by obtain⟨q,_,h⟩:=(y c).mp hc;exact⟨q,h⟩
  have es:=bE1 (S:=s++T++.dic (cdD fs)::T') (r:=(s++T).length) (cs:=fs) (by simp) (by lia)
  refine⟨fs,?_,hnd,fun c=>(y c).trans ⟨fun⟨q,hq,p,hp,h⟩=>⟨p,hp,q,hq,h⟩,fun⟨p,hp,q,hq,h⟩=>⟨q,hq,p,hp,h⟩⟩⟩
  tbr_iter [bl7,es]
  rw[aM,aM]
  refine aT1 (o:=.lst ((ab6 fs).map D.int)) (by rw[<-aM,<-aM];exact qf) (by simp) ?_
  unfold O.bnd
  exact zY (l:=bb2 (ab6 fs)) aV4 _
theorem ao3 {a x:Int}:∀ {l:List Int},x∈ins a l↔x=a\/x∈l
 | []=>by unfold ins;simp
 | b::l=>by
  unfold ins
  split
  .simp
  .rw[ay,ao3 (l:=l),ay]
   constructor
   .rintro(h|h|h)
    .exact .inr (.inl h)
    .exact .inl h
    .exact .inr (.inr h)
   .rintro(h|h|h)
    .exact .inr (.inl h)
    .exact .inl h
    .exact .inr (.inr h)
theorem ai9 {x:Int}:∀ {l:List Int},x∈ab6 l↔x∈l
 | []=>Iff.rfl
 | a::l=>by show x∈ins a (ab6 l)↔_;rw[ao3,ai9 (l:=l),ay]
theorem aN4 {a:Int}:∀ {l:List Int},l.Pairwise (· < ·)->a ∉ l->(ins a l).Pairwise (· < ·)
 | [],_,_=>by unfold ins;simp
 | b::l,h,hn=>by
  have hb:=bp.mp h
  have y:a≠b:=fun z=>hn (by rw[z];exact ar ..)
  unfold ins
  split
  .rename_i hle
   refine bp.mpr ⟨fun x hx=>?_,h⟩
   rcases ay.mp hx with rfl|hx
   .lia
   .have:=hb.1 x hx;lia
  .rename_i hle
   refine bp.mpr ⟨fun x hx=>?_,aN4 hb.2 fun z=>hn (ao _ z)⟩
   rcases ao3.mp hx with rfl|hx
   .lia
   .exact hb.1 x hx
theorem ay9:∀ {l:List Int},l.Nodup->(ab6 l).Pairwise (· < ·)
 | [],_=>List.Pairwise.nil
 | a::l,h=>by
  have:=dq.mp h
  exact aN4 (ay9 this.2) fun z=>this.1 (ai9.mp z)
theorem aT9:∀ {l m:List Int},l.Pairwise (· < ·)->m.Pairwise (· < ·)->(∀ x,x∈l↔x∈m)->l=m
 | [],[],_,_,_=>rfl
 | [],b::m,_,_,h=>absurd ((h b).mpr (ar ..)) (by simp)
 | a::l,[],_,_,h=>absurd ((h a).mp (ar ..)) (by simp)
 | a::l,b::m,h1,h2,h=>by
  have k1:=bp.mp h1
  have k2:=bp.mp h2
  have e:a=b:=by
   have x:=(h a).mp (ar ..)
   have y:=(h b).mpr (ar ..)
   rcases ay.mp x with x|x
   .exact x
   rcases ay.mp y with y|y
   .exact y.symm
   have:=k2.1 a x
   have:=k1.1 b y
   lia
  subst e
  rw[aT9 k1.2 k2.2 fun x=>?_]
  have hx:=h x
  rw[ay,ay]at hx
  constructor
  .intro z
   have:=k1.1 x z
   exact(hx.mp (.inr z)).resolve_left (by lia)
  .intro z
   have:=k2.1 x z
   exact(hx.mpr (.inr z)).resolve_left (by omega)
theorem bm3 {cs:List Int}{N:Nat}{p:Nat->Bool}(nd:cs.Nodup)(h:∀ c,c∈cs↔∃ k:Nat,k<N/\p k=true/\c=(k:Int)):ab6 cs=((bj N).filter p).map fun k:Nat=>(k:Int):=by
 refine aT9 (ay9 nd) ?_ fun x=>?_
 .rw[jz]
  exact(gZ.filter p).imp fun h=>by lia
 .rw[ai9,h,bf]
  constructor
  .rintro⟨k,z,y,B⟩;exact⟨k,dn.mpr ⟨c8.mpr z,y⟩,B.symm⟩
  .rintro⟨k,z,y⟩
   have:=dn.mp z
   exact⟨k,c8.mp this.1,this.2,y.symm⟩
theorem bn3 {s:Sto}{r:Nat}{l:List D}(h:s[r]?=some (.lst l)):bi .isList [.ref r] s=.ok (.bl true) s:=by
 show(isK 5 (.ref r) s)=_
 simp only[isK,h];rfl
theorem bm1 (i:Int)(s:Sto):bi .isBool [.int i] s=.ok (.bl false) s:=rfl
theorem bn9 {P:Pr}[Has P ai2](n:Nat){s:Sto}{a b:Nat}{l:List Int}(ha:s[a]?=some (.lst (l.map D.int)))(hb:s[b]?=some (.lst (l.map D.int)))(Z:l.length<=1000):(aa1 P (n+1)).call "_law_same" [.ref a,.ref b] s=.ok (.bl true) s:=by
 refine(zq ai2 (n:=n) rfl).trans ?_
 have J:bi .len [.ref a] s=.ok (.int (l.length:Int)) s:=by rw[aN7 ha,az]
 have h:bi .len [.ref b] s=.ok (.int (l.length:Int)) s:=by rw[aN7 hb,az]
 have G:aZ3 (.int (l.length:Int)) s=.ok ⟨qz 0 (l.length:Int),[]⟩ s:=qg (by unfold Ww62;lia) (by unfold Ww62;lia)
 simp -implicitDefEqProofs [ai2,bn3 ha,J,h,G]
 refine zx (Ww:=fun x=>x=R.ok (D.bl true) s) (fun i U u=>u=s/\∃ y,U=[some (.ref a),some (.ref b),y]) ⟨rfl,_,rfl⟩ (fun _ _ _ _ _=>rfl) ?_ ?_
 .rintro i d U u hi ⟨rfl,y,rfl⟩
  obtain⟨hj,rfl⟩:=z0 hi
  rw[eJ]
  have hj:i<l.length:=by lia
  have q:(l.map D.int)[i]?=some (.int l[i]):=by rw[aE,ag hj];rfl
  have z:=ak7 ha q
  have B:=ak7 hb q
  refine ad7 (U:=[some (.ref a),some (.ref b),some (.int (i:Int))]) (s:=u) ?_ ⟨rfl,_,rfl⟩
  tbr_iter [turn,z,B,bm1,aP0,ne_int]
 .rintro U u ⟨rfl,y,rfl⟩
  tbr_iter []
  exact zC (fun _=>rfl) (by nofun)
theorem ba8 {x y t c:Nat}:(x ||| y*2^t).testBit c=true↔x.testBit c=true\/∃ z,y.testBit z=true/\c=z+t:=by
 rw[kb,bR,jq,Nat.testBit_two_pow_mul,ai,decide_eq_true_eq]
 constructor
 .rintro(h|⟨h1,h2⟩)
  .exact .inl h
  .exact .inr ⟨c - t,h2,by lia⟩
 .rintro(h|⟨z,h1,h2⟩)
  .exact .inl h
  .exact .inr ⟨by lia,by rw[show c - t=z by lia];exact h1⟩
theorem bh1 {x c:Nat}:x / 2^c % 2=1↔x.testBit c=true:=by
 rw[Nat.testBit_eq_decide_div_mod_eq,decide_eq_true_eq]
theorem bL0 (a b:Nat)(s:Sto):qw .bor (.int (a:Int)) (.int (b:Int)) s=.ok (.int ((a ||| b:Nat):Int)) s:=by
 show(if 0<=(a:Int)/\0<=(b:Int)then pur (.int ((((a:Int).toNat ||| (b:Int).toNat:Nat)):Int))else bad:M D) s=_
 rw[if_pos ⟨cI _,cI _⟩];rfl
theorem bR0 {a k:Nat}(ha:a<2^128)(hk:k<=1000)(s:Sto):qw .shl (.int (a:Int)) (.int (k:Int)) s=.ok (.int ((a*2^k:Nat):Int)) s:=by
 show(if 0<=(k:Int)/\(k:Int)<=1000000/\(a:Int).natAbs<2^128 then pur (.int ((a:Int)*2^(k:Int).toNat))else bad:M D) s=_
 rw[if_pos ⟨cI _,by lia,by simpa using ha⟩]
 show R.ok _ _=_
 rw[bN];push_cast;rfl
theorem bR8 (a k:Nat)(s:Sto):qw .shr (.int (a:Int)) (.int (k:Int)) s=.ok (.int ((a / 2^k:Nat):Int)) s:=by
 show(if 0<=(k:Int)then pur (.int ((a:Int) / 2^(k:Int).toNat))else bad:M D) s=_
 rw[if_pos (cI _)]
 show R.ok _ _=_
 rw[bN];push_cast;rfl
theorem bz1 (a:Nat)(s:Sto):qw .band (.int (a:Int)) (.int 1) s=.ok (.int ((a % 2:Nat):Int)) s:=by
 show(if 0<=(a:Int)/\(1:Int)=1 then pur (.int ((a:Int) % 2))else bad:M D) s=_
 rw[if_pos ⟨cI _,rfl⟩]
 show R.ok _ _=_
 push_cast;rfl
structure Bits (R:Nat)(S:Nat->Int->Prop)(B:List Nat):Prop where
 len:B.length=R
 is_:∀(k x:Nat),B[k]?=some x->∀ c:Nat,x.testBit c=true↔S k (c:Int)
theorem Bits.stay {R x:Nat}{G:List Dr}{d:Dr}{B:List Nat}{S:Nat->Int->Prop}(h:Bits R (ad6 S x G) B)(J:d.l≠x):Bits R (ad6 S x (G++[d])) B:=⟨h.len,fun k y e c=>(h.is_ k y e c).trans ⟨fun⟨d',hd,r⟩=>⟨d',aN.mpr (.inl hd),r⟩,fun⟨d',hd,r⟩=>(aN.mp hd).elim (fun z=>⟨d',z,r⟩) fun z=>absurd (aO.mp z▸r.1) J⟩⟩
theorem Bits.step {R x y z:Nat}{ds:List Dr}{d:Dr}{A B:List Nat}{S:Nat->Int->Prop}(h:Bits R (ad6 S x ds) B)(hA:Bits R S A)(hS:∀ k c,S k c->0<=c)(hl:d.l=x)(ha:A[d.a]?=some y)(hb:B[d.b]?=some z):Bits R (ad6 S x (ds++[d])) (B.set d.b (z ||| y*2^d.t)):=by
 have hlt:=(ac.mp hb).1
 refine⟨by rw[aK];exact h.len,fun k v e c=>?_⟩
 by_cases hk:d.b=k
 .subst hk
  rw[aJ hlt]at e
  cases e
  rw[ba8,h.is_ _ _ hb c]
  constructor
  .rintro(⟨d',hd,r⟩|⟨G,h1,h2⟩)
   .exact⟨d',aN.mpr (.inl hd),r⟩
   .exact⟨d,by simp,hl,rfl,G,(hA.is_ _ _ ha G).mp h1,by lia⟩
  .rintro⟨d',hd,r1,J,G,Z,r4⟩
   rcases aN.mp hd with hd|hd
   .exact .inl ⟨d',hd,r1,J,G,Z,r4⟩
   .have:=aO.mp hd
    subst this
    have h0:=hS _ _ Z
    exact .inr ⟨G.toNat,(hA.is_ _ _ ha _).mpr (by rw[c7 h0];exact Z),by lia⟩
 .rw[aw hk]at e
  rw[h.is_ _ _ e c]
  constructor
  .rintro⟨d',hd,r⟩
   exact⟨d',aN.mpr (.inl hd),r⟩
  .rintro⟨d',hd,r1,J,r⟩
   rcases aN.mp hd with hd|hd
   .exact⟨d',hd,r1,J,r⟩
   .exact absurd (aO.mp hd▸J) hk
theorem Bits.lt {m:Mc}(hm:m.Ok){w:List Nat}(hw:w.length<=24){B:List Nat}(h:Bits m.R (zQ m w) B){k x:Nat}(e:B[k]?=some x):x<2^128:=by
 refine Nat.lt_pow_two_of_testBit x fun i y=>?_
 cases q:x.testBit i with
 | false=>rfl
 | true =>
  obtain⟨p,_,hp⟩:=(h.is_ k x e i).mp q
  have:=aF7 hm hp
  lia
theorem bT5 {m:Mc}{w:List Nat}(k:Nat)(c:Int)(h:zQ m w k c):0<=c:=let⟨_,_,hp⟩:=h;aH6 hp
noncomputable def ltB:Ss:=.cons (.ite (.cmp .eq (.var 6) (.var 3)) (.cons (.setIx (.var 4) (.var 7) (.bin .bor (.ix (.var 4) (.var 7)) (.bin .shl (.ix (.var 2) (.var 5)) (.var 8)))) .nil) .nil) .nil
theorem aV5 {F:Fns}{m:Mc}(hm:m.Ok){w u:List Nat}(hu:u.length<=24){A:List Nat}{s:Sto}{q:Nat}(g:s[q]?=some (.lst (zV A)))(hA:Bits m.R (zQ m u) A)(c:Nat)(y5 y6 y7 y8 y9 y:Option D) :
  ∃ B G J z Z,Bits m.R (zQ m (u++[c])) B/\av7 (fun t=>chk (s++[.lst (zV (A.map fun _=>0))]) t []) (turn F (.tup [5,6,7,8]) ltB) (m.ds.map Dr.d) [some m.d,some (.str w),some (.ref q),some (.str [c]),some (.ref s.length),y5,y6,y7,y8,y9,y] (s++[.lst (zV (A.map fun _=>0))])
   = .ok (.next [some m.d,some (.str w),some (.ref q),some (.str [c]),some (.ref s.length),G,J,z,Z,y9,y]) (s++[.lst (zV B)]):=by
 have key:=ah4 (ok:=fun t=>chk (s++[.lst (zV (A.map fun _=>0))]) t []) (g:=turn F (.tup [5,6,7,8]) ltB) (fun i U t=>∃ B G J z Z,Bits m.R (ad6 (zQ m u) c (m.ds.take i)) B/\t=s++[.lst (zV B)]/\U=[some m.d,some (.str w),some (.ref q),some (.str [c]),some (.ref s.length),G,J,z,Z,y9,y])
  (m.ds.map Dr.d) 0 [some m.d,some (.str w),some (.ref q),some (.str [c]),some (.ref s.length),y5,y6,y7,y8,y9,y] (s++[.lst (zV (A.map fun _=>0))]) ⟨_,y5,y6,y7,y8,⟨by simp[hA.len],fun k x e c'=>?_⟩,rfl,rfl⟩ (fun _ _ _ _ _=>rfl) ?_
 .obtain⟨U',t',e,B,G,J,z,Z,h,rfl,rfl⟩:=key
  rw[ce,az,cr]at h
  exact⟨B,G,J,z,Z,⟨h.len,fun k x e c'=>(h.is_ k x e c').trans aj1⟩,e⟩
 .rw[aE]at e
  cases e2:A[k]? with
  | none=>rw[e2]at e;cases e
  | some _ =>
   rw[e2]at e;cases e
   constructor
   .intro h;rw[gC]at h;cases h
   .rintro⟨d,hd,_⟩;rw[fO]at hd;cases hd
 .rintro i d U t hi ⟨B,G,J,z,Z,h,rfl,rfl⟩
  rw[ce]at h ⊢
  obtain⟨x,hx,rfl⟩:∃ x,m.ds[i]?=some x/\d=x.d:=by
   rw[aE]at hi
   cases e:m.ds[i]? with
   | none=>rw[e]at hi;cases hi
   | some x=>rw[e]at hi;cases hi;exact⟨x,rfl,rfl⟩
  have hok:=hm.ds.1 x (aG hx)
  have a2:m.ds.take (i+1)=m.ds.take i++[x]:=by
   have hlt:i<m.ds.length:=(ac.mp hx).1
   have e:m.ds[i]=x:=(ac.mp hx).2
   rw[<-e,bu]
  have a1:x.d=.tup [.int x.a,.str [x.l],.int x.b,.int x.t]:=rfl
  rw[a2]
  by_cases hl:x.l=c
  .obtain⟨a,ha⟩:∃ o,A[x.a]?=some o:=⟨A[x.a]'(by rw[hA.len];exact hok.a),ag _⟩
   obtain⟨b,hb⟩:∃ o,B[x.b]?=some o:=⟨B[x.b]'(by rw[h.len];exact hok.b),ag _⟩
   have g4:(s++[O.lst (zV B)])[s.length]?=some (.lst (zV B)):=by simp
   have ia:ixM (.ref q) (.int x.a) (s++[O.lst (zV B)])=.ok (.int (a:Int)) (s++[O.lst (zV B)]):=ak7 (zd g) (by unfold zV;rw[aE,ha];rfl)
   have ib:ixM (.ref s.length) (.int x.b) (s++[O.lst (zV B)])=.ok (.int (b:Int)) (s++[O.lst (zV B)]):=ak7 g4 (by unfold zV;rw[aE,hb];rfl)
   have ht:=hok.t
   have sh:=bR0 (a:=a) (k:=x.t) (hA.lt hm hu ha) (by lia) (s++[O.lst (zV B)])
   have bo:=bL0 b (a*2^x.t) (s++[O.lst (zV B)])
   have a0:setIx (.ref s.length) (.int x.b) (.int ((b ||| a*2^x.t:Nat):Int)) (s++[O.lst (zV B)])=.ok () (s++[.lst (zV (B.set x.b (b ||| a*2^x.t)))]):=by
    rw[bw6 g4 (by rw[aA9,h.len];exact hok.b),dv,if_neg (by lia),fy]
    unfold zV
    rw[List.map_set];rfl
   refine⟨_,_,.inl ?_,_,some (.int x.a),some (.str [x.l]),some (.int x.b),some (.int x.t),h.step hA bT5 hl ha hb,rfl,rfl⟩
   tbr_iter [turn,ltB,a1,ag8,hl,ia,ib,sh,bo,a0]
  .refine⟨_,_,.inl ?_,_,some (.int x.a),some (.str [x.l]),some (.int x.b),some (.int x.t),h.stay hl,rfl,rfl⟩
   tbr_iter [turn,ltB,a1,ag8,hl]
def aU1 (m:Mc)(w:List Nat)(s:Sto)(r:R D):Prop:=∃ x:Nat,(∀ c:Nat,x.testBit c=true↔m.Wk w (c:Int))/\r=.ok (.ref s.length) (s++[.lst (zV ((bj (3*w.length+1)).filter fun c=>x.testBit c))])
theorem ay0 (q:List D)(s:Sto):mk .list q s=.ok (.ref s.length) (s++[.lst q]):=rfl
theorem as6 {P:Pr}[Has P ac1](n:Nat){m:Mc}(hm:m.Ok)(w:List Nat)(hw:w.length<=24)(s:Sto):aU1 m w s ((aa1 P (n+1)).call "_law_tolls" [m.d,.str w] s):=by
 have e0:(aa1 P (n+1)).call "_law_tolls" [m.d,.str w] s=_:=zq ac1 (n:=n) rfl
 have h5:=hm.R5
 rw[e0,show(List.map some [m.d,.str w]++aF ac1.vs none)=[some m.d,some (.str w),none,none,none,none,none,none,none,none,none]from rfl]
 obtain⟨U1,s1,e1,a4,_⟩:=bc9 (ok:=fun s1=>chk s s1 []) (g:=aO7 (aa1 P n) (.one 0) (.bi .int (.cons (.cmp .isin (.var 0) (.ix (.var 1) (.cst (.int 2)))) .nil))) (fun U u=>u=s/\∃ x,U=[x,some m.d])
  (fun k=>.int ((if k∈m.bg then 1 else 0:Nat):Int)) m.R [none,some m.d] s ⟨rfl,none,rfl⟩ (fun _ _ _=>rfl) (by
   rintro j hj U u ⟨rfl,x,rfl⟩
   have a2:=be5 (s:=u) (k:=j) (l:=m.bg)
   refine⟨[some (.int j),some m.d],u,?_,rfl,_,rfl⟩
   unfold aO7
   by_cases hb:j∈m.bg
   .tbr_iter [ixB,aN8,a2,hb,aT0];rfl
   .tbr_iter [ixB,aN8,a2,hb,aT0];rfl)
 subst a4
 have er:((bj m.R).map fun k=>D.int ((if k∈m.bg then 1 else 0:Nat):Int))=zV ((bj m.R).map fun k=>if k∈m.bg then 1 else 0):=by unfold zV;rw[c0];rfl
 rw[er]at e1
 have sW:∀ S,av6 (.str w) S=.ok ⟨w.map fun c=>.str [c],[]⟩ S:=fun _=>rfl
 have sE:∀ S,av6 (.tup (qE m.en)) S=.ok ⟨qE m.en,[]⟩ S:=fun _=>rfl
 simp -implicitDefEqProofs only[ac1]
 tbr_iter [ixR,az4,qg (s:=s1) (i:=(m.R:Int)) (by unfold Ww62;lia) (by unfold Ww62;lia),if_pos (show(qz 0 (m.R:Int)).length<=LIM by rw[aV3];unfold LIM;lia),show ab3 [some m.d,some (.str w),none,none,none,none,none,none,none,none,none] [none,some 0]=[none,some m.d]from rfl,e1,ay0,sW,R.bind_assoc]
 refine zx (Ww:=aU1 m w s1) (fun j U u=>∃(T:Sto) (q:Nat) (B:List Nat) (y3 y4 y5 y6 y7 Z:Option D),u=s1++T/\u[q]?=some (.lst (zV B))/\Bits m.R (zQ m (w.take j)) B/\U=[some m.d,some (.str w),some (.ref q),y3,y4,y5,y6,y7,Z,none,none])
  ⟨[.lst (zV ((bj m.R).map fun k=>if k∈m.bg then 1 else 0))],s1.length,(bj m.R).map fun k=>if k∈m.bg then 1 else 0,none,none,none,none,none,none,rfl,by simp,⟨by simp,fun k x e c=>?_⟩,rfl⟩ (fun _ _ _ _ _=>rfl) ?_ ?_
 .rw[aE]at e
  by_cases hk:k<m.R
  .rw[fq hk]at e
   cases e
   dsimp only
   by_cases hb:k∈m.bg
   .rw[if_pos hb,Nat.testBit_one_eq_true_iff_self_eq_zero]
    constructor
    .intro h
     exact⟨k,hb,rfl,by lia⟩
    .rintro⟨p,_,_,J⟩
     lia
   .rw[if_neg hb,gC]
    constructor
    .intro h;cases h
    .rintro⟨p,hp,y,_⟩
     exact absurd (y▸hp) hb
  .rw[cg (by simp;lia)]at e
   cases e
 .rintro j d U u hj ⟨T,q,B,y3,y4,y5,y6,y7,Z,rfl,g,hB,rfl⟩
  obtain⟨c,hc,rfl⟩:∃ c,w[j]?=some c/\d=.str [c]:=by
   rw[aE]at hj
   cases e:w[j]? with
   | none=>rw[e]at hj;cases hj
   | some c=>rw[e]at hj;cases hj;exact⟨c,rfl,rfl⟩
  have a6:w.take j++[c]=w.take (j+1):=by
   have hlt:j<w.length:=(ac.mp hc).1
   have e:w[j]=c:=(ac.mp hc).2
   rw[<-e,bu]
  have sq:av6 (.ref q) (s1++T)=.ok ⟨zV B,[q]⟩ (s1++T):=by simp only[av6,g]
  obtain⟨U2,s2,e2,a0,_⟩:=ad8 (ok:=fun a1=>chk (s1++T) a1 [q]) (g:=aO7 (aa1 P n) (.one 0) (.cst (.int 0))) (fun U u=>u=s1++T/\∃ x,U=[x]) (fun _=>some (.int 0)) (zV B) [none] (s1++T) ⟨rfl,none,rfl⟩ (fun _ _ h=>by rw[h.1];simp[chk]) (by
   rintro d _ U u ⟨rfl,x,rfl⟩
   exact⟨[some d],_,by unfold aO7;tbr_iter [],rfl,_,rfl⟩)
  subst a0
  have b2:(zV B).filterMap (fun _=>some (D.int 0))=zV (B.map fun _=>0):=by
   unfold zV
   rw[c0,fM,<-List.filterMap_eq_map]
   exact qe fun _ _=>rfl
  rw[b2]at e2
  have b1:(zV B).length<=LIM:=by rw[aA9,hB.len];unfold LIM;omega
  obtain⟨B',z5,z6,z7,z8,a3,e3⟩:=aV5 (F:=aa1 P n) hm (w:=w) (u:=w.take j) (by rw[bK];lia) g hB c y5 y6 y7 Z none none
  unfold ltB at e3
  rw[a6]at a3
  refine ad7 (U:=[some m.d,some (.str w),some (.ref (s1++T).length),some (.str [c]),some (.ref (s1++T).length),z5,z6,z7,z8,none,none]) (s:=s1++T++[.lst (zV B')]) ?_ ⟨T++[.lst (zV B')],_,B',_,_,_,_,_,_,by rw[aM],by simp,a3,rfl⟩
  tbr_iter [turn,sq,az4,if_pos b1,show ab3 [some m.d,some (.str w),some (.ref q),some (.str [c]),y4,y5,y6,y7,Z,none,none] [none]=[none]from rfl,e2,ay0,ixD,bw4,e3]
 rintro U u ⟨T,q,B,y3,y4,y5,y6,y7,Z,rfl,g,hB,rfl⟩
 rw[az,cr]at hB
 tbr_iter [ixE,sE,R.bind_assoc]
 refine zx (Ww:=aU1 m w s1) (fun j U u=>∃(x:Nat) (G:Option D),u=s1++T/\(∀ c:Nat,x.testBit c=true↔∃ k∈m.en.take j,zQ m w k (c:Int))/\U=[some m.d,some (.str w),some (.ref q),y3,y4,y5,y6,y7,Z,some (.int (x:Int)),G])
  ⟨0,_,rfl,fun c=>?_,rfl⟩ (fun _ _ _ _ _=>rfl) ?_ ?_
 .rw[gC,fO]
  constructor
  .intro h;cases h
  .rintro⟨k,hk,_⟩;cases hk
 .rintro j d U u hj ⟨x,G,rfl,hx,rfl⟩
  obtain⟨k,hk,rfl⟩:∃ k,m.en[j]?=some k/\d=.int (k:Int):=by
   unfold qE at hj
   rw[aE]at hj
   cases e:m.en[j]? with
   | none=>rw[e]at hj;cases hj
   | some k=>rw[e]at hj;cases hj;exact⟨k,rfl,rfl⟩
  have a5:m.en.take (j+1)=m.en.take j++[k]:=by
   have hlt:j<m.en.length:=(ac.mp hk).1
   have e:m.en[j]=k:=(ac.mp hk).2
   rw[<-e,bu]
  obtain⟨b,hb⟩:∃ o,B[k]?=some o:=⟨B[k]'(by rw[hB.len];exact hm.en.1 k (aG hk)),ag _⟩
  have ib:ixM (.ref q) (.int k) (s1++T)=.ok (.int (b:Int)) (s1++T):=ak7 g (by unfold zV;rw[aE,hb];rfl)
  have bo:=bL0 x b (s1++T)
  refine ad7 (U:=[some m.d,some (.str w),some (.ref q),y3,y4,y5,y6,y7,Z,some (.int ((x ||| b:Nat):Int)),some (.int (k:Int))]) (s:=s1++T) ?_ ⟨_,_,rfl,fun c=>?_,rfl⟩
  .tbr_iter [turn,ib,bo]
  .rw[kb,bR,hx c,hB.is_ k b hb c,a5]
   constructor
   .rintro(⟨k',y,J⟩|h)
    .exact⟨k',aN.mpr (.inl y),J⟩
    .exact⟨k,by simp,h⟩
   .rintro⟨k',y,J⟩
    rcases aN.mp y with y|y
    .exact .inl ⟨k',y,J⟩
    .exact .inr (aO.mp y▸J)
 .rintro U u ⟨x,G,rfl,hx,rfl⟩
  have b3:(qE m.en).length=m.en.length:=by unfold qE;rw[az]
  rw[b3,cr]at hx
  refine⟨x,fun c=>(hx c).trans ⟨fun⟨q,hq,p,hp,h⟩=>⟨p,hp,q,hq,h⟩,fun⟨p,hp,q,hq,h⟩=>⟨q,hq,p,hp,h⟩⟩,?_⟩
  obtain⟨U2,s2,e2,a0,_⟩:=ad8 (ok:=fun a1=>chk (s1++T) a1 []) (g:=aJ8 (aa1 P n) (.one 0) (.cmp .eq (.bin .band (.bin .shr (.var 1) (.var 0)) (.cst (.int 1))) (.cst (.int 1))) (.var 0)) (fun U u=>u=s1++T/\∃ z,U=[z,some (.int (x:Int))]) (fun d=>match d with|.int i=>if x.testBit i.toNat then some (.int i)else none|_=>none) (qz 0 ((3*w.length+1:Nat):Int)) [none,some (.int (x:Int))] (s1++T) ⟨rfl,none,rfl⟩ (fun _ _ h=>rfl) (by
   rintro d hd U u ⟨rfl,z,rfl⟩
   obtain⟨j,hj⟩:=e7 hd
   obtain⟨_,rfl⟩:=bl9 hj
   refine⟨[some (.int (j:Int)),some (.int (x:Int))],_,?_,rfl,_,rfl⟩
   have y:=bR8 x j (s1++T)
   have J:=bz1 (x / 2^j) (s1++T)
   unfold aJ8
   simp only[bN]
   by_cases hb:x.testBit j=true
   .have h3:x / 2^j % 2=1:=bh1.mpr hb
    rw[h3]at J
    tbr_iter [y,J,hb]
    rfl
   .have h3:¬ x / 2^j % 2=1:=fun z=>hb (bh1.mp z)
    have h4:(((x / 2^j % 2:Nat):Int)=1)=False:=eq_false (by lia)
    tbr_iter [y,J,h4,hb])
  subst a0
  have b0:(qz 0 ((3*w.length+1:Nat):Int)).filterMap (fun d=>match d with|.int i=>if x.testBit i.toNat then some (.int i)else none|_=>none)=zV ((bj (3*w.length+1)).filter fun c=>x.testBit c):=by
   unfold qz zV
   rw[fM,<-List.filterMap_eq_filter,List.map_filterMap,jx,bN]
   refine qe fun k _=>?_
   simp only[kl,eJ,bN,Option.guard]
   by_cases h:x.testBit k=true
   .simp only[if_pos h];rfl
   .simp only[if_neg h];rfl
  rw[b0]at e2
  have m3:qw .mul (.int 3) (.int (w.length:Int)) (s1++T)=.ok (.int (3*(w.length:Int))) (s1++T):=ac5 (aM2 (by decide))
  rw[show((3*w.length+1:Nat):Int)=3*(w.length:Int)+1 by push_cast;rfl]at e2
  tbr_iter [m3,aM9,qg (s:=s1++T) (i:=3*(w.length:Int)+1) (by unfold Ww62;lia) (by unfold Ww62;lia),al2,if_pos (show(qz 0 (3*(w.length:Int)+1)).length<=LIM by simp[qz];unfold LIM;lia),show ab3 [some m.d,some (.str w),some (.ref q),y3,y4,y5,y6,y7,Z,some (.int (x:Int)),G] [none,some 9]=[none,some (.int (x:Int))]from rfl,e2,ay0]
  rw[aM,aC]
  exact as1 (by unfold O.bnd;exact ba7 _ _)
def bD2 (s:Sto)(r B:Nat)(x:R D):Prop:=∃(w:List Nat) (b:Nat×Nat),w.length<=B/\x=.ok (.str w) (s.set r (zA b))
theorem aD6 {P:Pr}[Has P ab1][Has P aj2](n:Nat){s:Sto}{r L:Nat}(Z:1<=L)(J:L<=3)(hs:∃ b,s[r]?=some (zA b))(B:Nat)(hB:B<=500):bD2 s r B ((aa1 P (n+2)).call "_law_word" [.ref r,.int L,.int B] s):=by
 have z:(aa1 P (n+2)).call "_law_word" [.ref r,.int L,.int B] s=_:=zq aj2 (n:=n+1) rfl
 have hr:=at6 hs
 obtain⟨a,y,ha,e1⟩:=zR (P:=P) n hs ((B:Int)+1) (by lia) (af0 (by lia))
 rw[z]
 simp -implicitDefEqProofs [aj2,e1]
 rw[qg (by unfold Ww62;lia) (by unfold Ww62;lia)]
 simp only[R.bind_ok]
 refine zx (Ww:=bD2 s r B) (fun j U u=>∃(b:Nat×Nat) (w:List Nat) (x:Option D),w.length=j/\U=[some (.ref r),some (.int L),some (.int B),some (.str w),x]/\u=s.set r (zA b)) ⟨y,[],none,rfl,rfl,rfl⟩ (fun _ _ _ _ _=>rfl) ?_ ?_
 .rintro j d U u hj ⟨b,w,x,h,rfl,rfl⟩
  obtain⟨G,rfl⟩:=z0 hj
  obtain⟨k,c,hk,f⟩:=zR (P:=P) n (ae9 (b:=b) hr) L (by lia) (af0 (by lia))
  rw[cw]at f
  refine ad7 (U:=[some (.ref r),some (.int L),some (.int B),some (.str (w++[97+k])),some (.int j)]) (s:=s.set r (zA c)) ?_ ⟨c,_,_,by simp[h],rfl,rfl⟩
  simp -implicitDefEqProofs [turn,f,bf8 (show k<3 by lia)]
  rw[aS1 (by unfold LIM;simp;lia)]
  rfl
 .rintro U u ⟨b,w,x,h,rfl,rfl⟩
  simp -implicitDefEqProofs
  refine⟨w,b,?_,qo (fun _=>rfl) (by nofun) rfl⟩
  rw[h];simp[qz];lia
theorem bs1 {s:Sto}{r:Nat}{l:List D}(h:s[r]?=some (.lst l)):meth .reverse (.ref r) [] s=.ok .non (s.set r (.lst l.reverse)):=by
 show(match s[r]? with|some (.lst l)=>R.ok D.non (s.set r (.lst l.reverse))|_=>.bad:R D)=_
 rw[h]
structure G5 (ns:List Int)(r:Nat)(u:Sto):Prop where
 scr:u[0]?=some (.ro (ns.map D.int))
 bag:∃ b,u[r]?=some (zA b)
 r0:r≠0
theorem G5.put {ns:List Int}{r:Nat}{u:Sto}(h:G5 ns r u)(b:Nat×Nat):G5 ns r (u.set r (zA b)):=⟨by rw[aw h.r0];exact h.scr,ae9 (at6 h.bag),h.r0⟩
theorem G5.snoc {ns:List Int}{r:Nat}{u:Sto}(h:G5 ns r u)(o:O):G5 ns r (u++[o]):=⟨zd h.scr,bw2 h.bag,h.r0⟩
noncomputable def pkE:E:=(.ix (.lst (.cons (.cst (.int 8)) (.cons (.cst (.int 8)) (.cons (.cst (.int 8)) (.cons (.cst (.int 24)) .nil))))) (.call "_law_take" (.ex (.var 2) (.ex (.cst (.int 4)) .nil))))
theorem bV3 {P:Pr}[Has P ab1](n:Nat){ns:List Int}{r:Nat}{u:Sto}(h:G5 ns r u){x0 x1 x3 x4 x5 x6 x7:Option D} :
  ∃(v:Nat) (y:Sto),v<=24/\G5 ns r y/\ev (aa1 P (n+1)) pkE [x0,x1,some (.ref r),x3,x4,x5,x6,x7] u=.ok (.int (v:Int)) y:=by
 have g2:=h.snoc (.lst [D.int 8,.int 8,.int 8,.int 24])
 obtain⟨d,b,hd,e2⟩:=zR (P:=P) n g2.bag 4 (by decide) (by decide)
 have hq:((u++[O.lst [D.int 8,.int 8,.int 8,.int 24]]).set r (zA b))[u.length]?=some (.lst [D.int 8,.int 8,.int 8,.int 24]):=by
  rw[aw (by have:=at6 h.bag;lia)];exact qf
 have key:∀ k:Nat,d=k->∀ w:Nat,[D.int 8,.int 8,.int 8,.int 24][k]?=some (.int (w:Int))->w<=24->∃(v:Nat) (y:Sto),v<=24/\G5 ns r y/\ev (aa1 P (n+1)) pkE [x0,x1,some (.ref r),x3,x4,x5,x6,x7] u=.ok (.int (v:Int)) y:=fun k hk w hw B=>by
  subst hk
  refine⟨w,_,B,g2.put b,?_⟩
  have z:=ak7 hq hw
  unfold pkE
  tbr_iter [e2,z]
 rcases(by lia:d=0\/d=1\/d=2\/d=3)with h0|h0|h0|h0
 .exact key 0 h0 8 rfl (by decide)
 .exact key 1 h0 8 rfl (by decide)
 .exact key 2 h0 8 rfl (by decide)
 .exact key 3 h0 24 rfl (by decide)
noncomputable def bO2:Ss:=(.cons (.asg (.one 7) (.call "tolls" (.ex (.var 3) (.ex (.var 6) .nil)))) (.cons (.ite (.not (.call "_law_same" (.ex (.var 7) (.ex (.call "_law_tolls" (.ex (.var 3) (.ex (.var 6) .nil))) .nil)))) (.cons (.ret (.cst (.bl false))) .nil) .nil) (.cons (.ex (.meth .append (.var 7) (.cons (.cst (.int 0)) .nil))) (.cons (.ex (.meth .reverse (.var 7) .nil)) .nil))))
noncomputable def bR9:S:=(.for_ (.one 6) (.seq (.lst (.cons (.var 4) (.cons (.var 5) (.cons (.var 4) .nil))))) bO2)
theorem bB0:aa8.body=(.cons (.for_ (.one 1) (.rng1 (.bin .add (.bi .min2 (.cons (.bi .len (.cons (.var 0) .nil)) (.cons (.cst (.int 3)) .nil))) (.cst (.int 1)))) (.cons (.asg (.one 2) (.call "_law_bag" (.ex (.var 0) (.ex (.var 1) .nil)))) (.cons (.asg (.one 3) (.call "_law_machine" (.ex (.var 2) .nil))) (.cons (.asg (.one 4) (.call "_law_word" (.ex (.var 2) (.ex (.ix (.var 3) (.cst (.int 0))) (.ex pkE .nil))))) (.cons (.asg (.one 5) (.call "_law_word" (.ex (.var 2) (.ex (.ix (.var 3) (.cst (.int 0))) (.ex (.cst (.int 8)) .nil))))) (.cons bR9 .nil)))))) (.cons (.ret (.cst (.bl true))) .nil)):=rfl
section
variable {P:Pr} [Has P aa6] [Has P ab0] [Has P aa5] [Has P aa4] [Has P ac6] [Has P ac1] [Has P ai2]
theorem bC5 (n:Nat){m:Mc}(hm:m.Ok){w:List Nat}(hw:w.length<=24)(u:Sto)(x0 x1 x2 x4 x5 x6 x7:Option D) :
  ∃(T:Sto) (Z:Option D),turn (aa1 P (n+3)) (.one 6) bO2 (.str w) [x0,x1,x2,some m.d,x4,x5,x6,x7] u=.ok (.next [x0,x1,x2,some m.d,x4,x5,some (.str w),Z]) (u++T):=by
 obtain⟨cs,e1,nd,y⟩:=bf2 (P:=P) n hm w hw u
 obtain⟨x,hx,e2⟩:=as6 (P:=P) (n+2) hm w hw (u++[.lst ((ab6 cs).map D.int)])
 have es:=bm3 (N:=3*w.length+1) (p:=fun c=>x.testBit c) nd fun c=>by
  rw[y]
  constructor
  .rintro h
   have h':=h
   obtain⟨p,_,q,_,hp⟩:=h'
   have z:=aH6 hp
   have h2:=aF7 hm hp
   refine⟨c.toNat,by lia,(hx _).mpr ?_,by lia⟩
   rw[c7 z];exact h
  .rintro⟨k,_,z,rfl⟩
   exact(hx k).mp z
 have en:zV ((bj (3*w.length+1)).filter fun c=>x.testBit c)=(ab6 cs).map D.int:=by rw[es,c0];rfl
 rw[en]at e2
 have J:(ab6 cs).length<=73:=by
  rw[es,az]
  have:=List.length_filter_le (fun c=>x.testBit c) (bj (3*w.length+1))
  rw[jy]at this
  lia
 generalize ab6 cs=l at e1 e2 J
 have e3:=bn9 (P:=P) (n+2) (s:=u++[.lst (l.map D.int)]++[.lst (l.map D.int)]) (a:=u.length) (b:=(u++[O.lst (l.map D.int)]).length) (l:=l) (zd qf) qf (by lia)
 have G:=ak8 (s:=u++[O.lst (l.map D.int)]++[O.lst (l.map D.int)]) (r:=u.length) (v:=.int 0) (zd qf) (by unfold LIM;rw[az];lia)
 rw[dv,if_pos (by simp),an3]at G
 have B:=bs1 (s:=u++[O.lst (l.map D.int++[D.int 0])]++[O.lst (l.map D.int)]) (r:=u.length) (zd qf)
 rw[dv,if_pos (by simp),an3]at B
 refine⟨[O.lst (l.map D.int++[D.int 0]).reverse]++[O.lst (l.map D.int)],some (.ref u.length),?_⟩
 rw[<-aM]
 unfold bO2 turn
 tbr_iter [e1,e2,e3,G,B]
theorem bk6 (n:Nat){m:Mc}(hm:m.Ok){w v:List Nat}(hw:w.length<=24)(hv:v.length<=24)(u:Sto)(x0 x1 x2 x6 x7:Option D) :
  ∃(T:Sto) (B h:Option D),ex (aa1 P (n+3)) bR9 [x0,x1,x2,some m.d,some (.str w),some (.str v),x6,x7] u=.ok (.next [x0,x1,x2,some m.d,some (.str w),some (.str v),B,h]) (u++T):=by
 have g0:(u++[O.lst [D.str w,.str v,.str w]])[u.length]?=some (.lst [D.str w,.str v,.str w]):=qf
 have J:av6 (.ref u.length) (u++[O.lst [D.str w,.str v,.str w]])=.ok ⟨[D.str w,.str v,.str w],[u.length]⟩ (u++[O.lst [D.str w,.str v,.str w]]):=by simp only[av6,g0]
 obtain⟨U',s',e,T,B,h,rfl,rfl⟩:=ah4 (ok:=fun t=>chk (u++[O.lst [D.str w,.str v,.str w]]) t [u.length]) (g:=turn (aa1 P (n+3)) (.one 6) bO2) (fun _ U t=>∃(T:Sto) (B h:Option D),t=u++[O.lst [D.str w,.str v,.str w]]++T/\U=[x0,x1,x2,some m.d,some (.str w),some (.str v),B,h])
  [D.str w,.str v,.str w] 0 [x0,x1,x2,some m.d,some (.str w),some (.str v),x6,x7] (u++[O.lst [D.str w,.str v,.str w]]) ⟨[],_,_,by simp,rfl⟩ (by
   rintro j U t _ ⟨T,B,h,rfl,rfl⟩
   unfold chk
   simp[zd (t:=T) g0]) (by
   rintro j d U t hj ⟨T,B,h,rfl,rfl⟩
   obtain⟨z,hz,rfl⟩:∃ z:List Nat,z.length<=24/\d=.str z:=by
    have hd:=aG hj
    simp only[ay,cG,or_false]at hd
    rcases hd with rfl|rfl|rfl
    .exact⟨w,hw,rfl⟩
    .exact⟨v,hv,rfl⟩
    .exact⟨w,hw,rfl⟩
   obtain⟨G,y,e⟩:=bC5 (P:=P) n hm hz (u++[O.lst [D.str w,.str v,.str w]]++T) x0 x1 x2 (some (.str w)) (some (.str v)) B h
   exact⟨_,_,.inl e,T++G,_,_,by rw[aM _ T G],rfl⟩)
 refine⟨[O.lst [D.str w,.str v,.str w]]++T,B,h,?_⟩
 unfold bR9
 tbr_iter [J]
 rw[<-aM]
 exact e
variable [Has P aa8] [Has P at7] [Has P ab1] [Has P ab8] [Has P ab2] [Has P aj2]
theorem bV5 (n:Nat):bP4 P (n+4):=by
 intro ns hl
 have e0:(aa1 P (n+4)).call "law" [.ref 0] [.ro (ns.map D.int)]=_:=zq aa8 (n:=n+3) rfl
 rw[e0,bB0,show(List.map some [D.ref 0]++aF aa8.vs none)=[some (.ref 0),none,none,none,none,none,none,none]from rfl]
 have a1:([.ro (ns.map D.int)]:Sto)[0]?=some (.ro (ns.map D.int)):=rfl
 have y:bi .len [.ref 0] [.ro (ns.map D.int)]=.ok (.int ns.length) [.ro (ns.map D.int)]:=by rw[bj5 a1,az]
 have hk:(if 3<(ns.length:Int)then 3 else(ns.length:Int))+1=((min ns.length 3+1:Nat):Int):=by lia
 tbr_iter [y,be7,hk]
 rw[qg (by unfold Ww62;lia) (by unfold Ww62;omega)]
 simp only[R.bind_ok]
 rw[R.bind_assoc]
 refine zx (Ww:=Yes) (fun j U t=>t[0]?=some (.ro (ns.map D.int))/\∃ x1 x2 x3 x4 x5 x6 x7,U=[some (.ref 0),x1,x2,x3,x4,x5,x6,x7]) ⟨rfl,_,_,_,_,_,_,_,rfl⟩ (fun _ _ _ _ _=>rfl) ?_ ?_
 .rintro j d U t hj ⟨J,x1,x2,x3,x4,x5,x6,x7,rfl⟩
  obtain⟨_,rfl⟩:=z0 hj
  rw[eJ]
  have ht0:0<t.length:=(ac.mp J).1
  have h:=bJ6 (P:=P) (n+2) ns j t 0 J hl
  have z:G5 ns t.length (t++[zA (br7 ns j)]):=⟨zd J,⟨_,qf⟩,by lia⟩
  generalize t++[zA (br7 ns j)]=S at h z
  generalize t.length=r at h z
  obtain⟨m,b1,hm,em⟩:=aE5 (P:=P) n z.bag
  have G1:=z.put b1
  obtain⟨B,u,hB,G2,ep⟩:=bV3 (P:=P) (n+2) G1 (x0:=some (.ref 0)) (x1:=some (.int (j:Int))) (x3:=some m.d) (x4:=x4) (x5:=x5) (x6:=x6) (x7:=x7)
  obtain⟨w,G,hw,ew⟩:=aD6 (P:=P) (n+1) hm.L1 hm.L3 G2.bag B (by lia)
  have G3:=G2.put G
  obtain⟨v,b4,hv,a0⟩:=aD6 (P:=P) (n+1) hm.L1 hm.L3 G3.bag 8 (by decide)
  have G4:=G3.put b4
  obtain⟨T,y6,y7,ef⟩:=bk6 (P:=P) n hm (w:=w) (v:=v) (by lia) (by lia) ((u.set r (zA G)).set r (zA b4)) (some (.ref 0)) (some (.int (j:Int))) (some (.ref r)) x6 x7
  refine ad7 (U:=[some (.ref 0),some (.int (j:Int)),some (.ref r),some m.d,some (.str w),some (.str v),y6,y7]) (s:=(u.set r (zA G)).set r (zA b4)++T) ?_ ⟨zd G4.scr,_,_,_,_,_,_,_,rfl⟩
  unfold turn
  simp -implicitDefEqProofs only[bindT_one,setV_s,setV_0,hV,exs_cons,ex_asg,ev_call,evas_ex,evas_nil,ev_var,getV_0,getV_s,R.bind_ok,h,em,setC_some,nxt_next,ev_ix,ev_cst,Cn_int,ixL]
  rw[ep]
  have Z:(aa1 P (n+3)).call "_law_word" [.ref r,.int (m.L:Int),.int 8] (u.set r (zA G))=_:=a0
  simp -implicitDefEqProofs only[R.bind_ok,ew,Z,bindT_one,setV_s,setV_0,hV,setC_some,nxt_next,exs_cons,ex_asg,ev_call,evas_ex,evas_nil,ev_var,getV_0,getV_s,ev_ix,ev_cst,Cn_int,ixL]
  rw[ef]
  tbr_iter []
 .rintro U t ⟨J,x1,x2,x3,x4,x5,x6,x7,rfl⟩
  tbr_iter []
  exact aI8 _ _
end
end DV
end
local macro_rules | `(tactic| walk_at "sc") => `(tactic| exact ⟨rfl, rfl, rfl, by decide +kernel, rfl, by decide +kernel, by decide +kernel⟩)
local macro_rules | `(tactic| walk_at "df") => `(tactic| (dsimp only; exact ⟨_, _, _, _, _, _, _, _, _, _, by k_is, by k_is, by k_is, by k_is⟩))
noncomputable section
namespace My
open PySem L2
noncomputable def top (i:Nat):Stmt:=PySem.Challenge.pw_leasttolls_k05_all_tolls.main.body.getD i (.Pass ⟨0,0,0,0⟩)
noncomputable def aj7:List Str:=[]
noncomputable abbrev ah8:Stmt:=top 1
noncomputable abbrev at1:Stmt:=top 2
noncomputable abbrev al9:Stmt:=top 3
noncomputable abbrev aN1:Stmt:=top 5
noncomputable abbrev ad2:Stmt:=top 6
noncomputable abbrev am1:Stmt:=top 8
noncomputable abbrev ag6:Stmt:=top 9
noncomputable abbrev af1:Stmt:=top 10
noncomputable abbrev ac4:Stmt:=top 11
noncomputable abbrev aj6:Stmt:=top 12
noncomputable abbrev af2:Stmt:=top 13
noncomputable abbrev aj3:Stmt:=top 14
noncomputable abbrev av4:Stmt:=top 15
noncomputable def tb:List (String×lP×Stmt):=[("begins_of",DV.aa6,ah8),("ends_of",DV.ab0,at1),("doors_of",DV.aa5,al9),("tolls",DV.ac6,aN1),("paid_led_on",DV.aa4,ad2),("_law_bag",DV.at7,am1),("_law_take",DV.ab1,ag6),("_law_rooms",DV.ab8,af1),("_law_machine",DV.ab2,ac4),("_law_word",DV.aj2,aj6),("_law_tolls",DV.ac1,af2),("_law_same",DV.ai2,aj3),("law",DV.aa8,av4)]
noncomputable def bU9:List (String×kR):=[]
noncomputable def bZ1:List (String×DV.Lm):=[]
noncomputable def tbl:List (String×lP):=tb.map fun p=>(p.1,p.2.1)
noncomputable def P:lj:=⟨fun f=>tbl.lookup f,fun f=>bZ1.lookup f,fun x=>bU9.lookup x,fun _=>none,fun _=>none,fun _=>false,fun _=>false,fun _=>none,fun _ _=>none,fun _ _=>false⟩
instance:DV.Has P DV.aa6:=⟨rfl⟩
instance:DV.Has P DV.ab0:=⟨rfl⟩
instance:DV.Has P DV.aa5:=⟨rfl⟩
instance:DV.Has P DV.ac6:=⟨rfl⟩
instance:DV.Has P DV.aa4:=⟨rfl⟩
instance:DV.Has P DV.at7:=⟨rfl⟩
instance:DV.Has P DV.ab1:=⟨rfl⟩
instance:DV.Has P DV.ab8:=⟨rfl⟩
instance:DV.Has P DV.ab2:=⟨rfl⟩
instance:DV.Has P DV.aj2:=⟨rfl⟩
instance:DV.Has P DV.ac1:=⟨rfl⟩
instance:DV.Has P DV.ai2:=⟨rfl⟩
instance:DV.Has P DV.aa8:=⟨rfl⟩
theorem ax8:DT aj7 P "begins_of" DV.aa6 ah8:=⟨["machine"],["machine"],by walk_at "sc",rfl,rfl,fun _ _ _ _ _ _=>bd1 (fun _=>rfl),.inl (by decide +kernel)⟩
theorem aO2:DT aj7 P "ends_of" DV.ab0 at1:=⟨["machine"],["machine"],by walk_at "sc",rfl,rfl,fun _ _ _ _ _ _=>bd1 (fun _=>rfl),.inl (by decide +kernel)⟩
theorem aF8:DT aj7 P "doors_of" DV.aa5 al9:=⟨["machine"],["machine"],by walk_at "sc",rfl,rfl,fun _ _ _ _ _ _=>bd1 (fun _=>rfl),.inl (by decide +kernel)⟩
theorem bs8:DT aj7 P "tolls" DV.ac6 aN1:=⟨["machine", "word", "paid", "room", "letter", "found"],["machine", "word"],by walk_at "sc",rfl,rfl,fun _ _ _ _ _ _=>bd2 (fun _ _=>rfl),.inl (by decide +kernel)⟩
theorem ao5:DT aj7 P "paid_led_on" DV.aa4 ad2:=⟨["machine", "paid", "letter", "led_on", "start", "sign", "goal", "fee", "there", "cost"],["machine", "paid", "letter"],by walk_at "sc",rfl,rfl,fun _ _ _ _ _ _=>bd3 (fun _ _ _=>rfl),.inl (by decide +kernel)⟩
theorem aH4:DT aj7 P "_law_bag" DV.at7 am1:=⟨["_law_script", "_law_at", "_law_cell", "_law_mix", "_law_k"],["_law_script", "_law_at"],by walk_at "sc",rfl,rfl,fun _ _ _ _ _ _=>bd2 (fun _ _=>rfl),.inl (by decide +kernel)⟩
theorem ax6:DT aj7 P "_law_take" DV.ab1 ag6:=⟨["_law_bag_here", "_law_many", "_law_digit", "_law_number", "_law_room"],["_law_bag_here", "_law_many"],by walk_at "sc",rfl,rfl,fun _ _ _ _ _ _=>bd2 (fun _ _=>rfl),.inl (by decide +kernel)⟩
theorem aq5:DT aj7 P "_law_rooms" DV.ab8 af1:=⟨["_law_bag_here", "_law_many", "_law_bits"],["_law_bag_here", "_law_many"],by walk_at "sc",rfl,rfl,fun _ _ _ _ _ _=>bd2 (fun _ _=>rfl),.inl (by decide +kernel)⟩
theorem ak6:DT aj7 P "_law_machine" DV.ab2 ac4:=⟨["_law_bag_here", "_law_letters", "_law_rooms_here", "_law_many", "_law_doors", "_law_k"],["_law_bag_here"],by walk_at "sc",rfl,rfl,fun _ _ _ _ _ _=>bd1 (fun _=>rfl),.inl (by decide +kernel)⟩
theorem ax7:DT aj7 P "_law_word" DV.aj2 aj6:=⟨["_law_bag_here", "_law_letters", "_law_most", "_law_word_here", "_law_k"],["_law_bag_here", "_law_letters", "_law_most"],by walk_at "sc",rfl,rfl,fun _ _ _ _ _ _=>bd3 (fun _ _ _=>rfl),.inl (by decide +kernel)⟩
theorem ar5:DT aj7 P "_law_tolls" DV.ac1 af2:=⟨["_law_machine_here", "_law_word_here", "_law_here", "_law_letter", "_law_there", "_law_start", "_law_sign", "_law_goal", "_law_cost", "_law_bits", "_law_room"],["_law_machine_here", "_law_word_here"],by walk_at "sc",rfl,rfl,fun _ _ _ _ _ _=>bd2 (fun _ _=>rfl),.inl (by decide +kernel)⟩
theorem aw4:DT aj7 P "_law_same" DV.ai2 aj3:=⟨["_law_found", "_law_due", "_law_k"],["_law_found", "_law_due"],by walk_at "sc",rfl,rfl,fun _ _ _ _ _ _=>bd2 (fun _ _=>rfl),.inl (by decide +kernel)⟩
theorem bi0:FnScope ["_law_script", "_law_at", "_law_bag_here", "_law_machine_here", "_law_word_here", "_law_other", "_law_some", "_law_found"] ["_law_script"] (defScope av4):=by walk_at "sc"
theorem bF6:mSs ⟨["_law_script", "_law_at", "_law_bag_here", "_law_machine_here", "_law_word_here", "_law_other", "_law_some", "_law_found"],defScope av4,fun _ _ _=>false⟩ DV.aa8.body (zw av4)=true:=by decide +kernel
theorem bF4:bW5 "law" av4 ["_law_script"]:=fun _ _ _ _ _ _=>bd1 fun _=>rfl
theorem bR1:DT aj7 P "law" DV.aa8 av4:=⟨_,_,bi0,rfl,rfl,bF4,.inl bF6⟩
theorem bS5:∀ p∈tb,DT aj7 P p.1 p.2.1 p.2.2:=by
 intro p hp
 unfold tb at hp
 simp only[ay,cG,or_false]at hp
 rcases hp with rfl|rfl|rfl|rfl|rfl|rfl|rfl|rfl|rfl|rfl|rfl|rfl|rfl
 .exact ax8
 .exact aO2
 .exact aF8
 .exact bs8
 .exact ao5
 .exact aH4
 .exact ax6
 .exact aq5
 .exact ak6
 .exact ax7
 .exact ar5
 .exact aw4
 .exact bR1
theorem bH8 {l:dk}{w:World}{K:af}{h:Heap}{y:yC}{fa:Addr}(X:K.In h)(G:h.Ns bG y)(z:y "law"=some (.ref fa))(hD:∀ p∈tb,bQ4 K p.1 p.2.2)(hz:∀ x∈bNames,fA K bG x=some none)
  (hT:∀ x∈aj7,(br K x).isSome=true) (tnd:decide (((bn5 aj7 K).map (·.1)).Nodup)=true)
  : ∃ J:bT,(∀(s:ae) (v:Value),jP s J ⟨[v],[]⟩ [("_law_script",v)])/\∀ base:Heap,K.In base->base.Ns bG y->BM y base->bv4 K aj7 base->FnOk l.prog w K y base CX0 42 fa J ["_law_script"] (spB aj7 K):=by
 have Z:PrOk (bn4 aj7 P K) (bK0 aj7 K) P y w:=by
  refine⟨fun f d h=>aC0 (tbl:=tbl) (fun p hp=>?_) f d h,fun x d h=>aP3 (tbl:=bU9) ?_ x d h,fun x hx=>PySem.W.mg_none_of X G (hz x hx),bS0 X G,trivial,of_decide_eq_true tnd,fun _ _ h=>(by cases h),fun _ _ h=>(by cases h),fun _ h=>(by cases h),fun _ h=>(by cases h),fun _ _ _ _ h=>(by cases h),fun _ _ _ _ h=>(by cases h),fun _ _ h=>(by cases h),fun _ h=>(by cases h),fun _ _ h=>(by cases h),fun _ _ h=>(by cases h),fun _ _ _ h=>(by cases h),fun _ _ _ h=>(by cases h),fun _ _ h=>(by cases h)⟩
  .obtain⟨r,hr,rfl⟩:=bf.mp hp
   exact good_of X G hT (hD r hr) (bS5 r hr)
  .intro p hp
   unfold bU9 at hp
   simp only[ay,cG,or_false]at hp
 obtain⟨f,od,an,sl,oc,kV,dc,pm,cd,ct,a,l0,c,k⟩:=hD ("law",DV.aa8,av4) (by unfold tb;simp)
 have e:=z.symm.trans (gn X G a)
 cases e
 have F:=bi3 (st:=av4) l0 c k
 refine⟨_,fun s v=>.of_eq rfl,fun base _ _ B hk=>(bH6 Z (bh8 hT B hk) 10 (ay7 Z (bh8 hT B hk) (fun _=>rfl) 10) (d:=DV.aa8) (f := "law") rfl ⟨F,gn X G a,F.binds bF4⟩ bi0 rfl rfl bF6 aN5).imp (fun vs H Q E q=>bF1 (fun ns h=>DV.bV5 (P:=P) 7 ns h) vs H Q E (bc0 hT q))⟩
end My
end
open PySem PySem.W PyProof.Rows
set_option maxRecDepth 100000 in
set_option maxHeartbeats 0 in
theorem PySem.Challenge.cw_leasttolls_k05_all_tolls_holds : PySem.Challenge.rw_leasttolls_k05_all_tolls.Holds := by
 refine My.GT.2 ?_
 delta My.GT
 dsimp only
 k_fill
 refine L2.aN0 (l:=PySem.Challenge.rw_leasttolls_k05_all_tolls) (n:=63) (k:=42) (x := "_law_script") (sp:=L2.spB My.aj7) My.aj7 rfl (by decide) rfl ⟨rfl,by decide,by decide⟩ (ts:=[]) (fun w h Y=>⟨PySem.W.kIn_of Y,fun _ hP=>absurd hP (cG)⟩) (fun w=>?R) (fun w=>?NT) ?F (fun K H a ns hl hB hS hF=>L2.bL6 hl hB hS hF)
 case R=>kernel_rfl
 case NT=>kernel_rfl
 case F =>
  intro w mg fa h KX G hmg
  refine' My.bH8 KX G hmg ?hD ?hz  ?hT ?tnd
  case hD =>
   intro p hp
   unfold My.tb at hp
   simp only[ay,cG,or_false]at hp
   rcases hp with rfl|rfl|rfl|rfl|rfl|rfl|rfl|rfl|rfl|rfl|rfl|rfl|rfl
   all_goals walk_at "df"
  case hz =>
   intro x hx
   unfold L2.bNames at hx
   simp only[ay,cG,or_false]at hx
   rcases hx with rfl|rfl|rfl|rfl|rfl|rfl|rfl|rfl|rfl|rfl|rfl|rfl|rfl|rfl|rfl|rfl|rfl|rfl<;>k_is
  case hT =>
   intro x hx;cases hx
  (case tnd=>kernel_rfl)
