import PyProof.Rows.All
import Wide.All
import OpenK.AllK
import Wide.FinOn
import Lean
import PyProof.EqAt
import PyProof.EqKinds
import PyProof.TupleCall
import PyProof.MinMaxWalk
import PyProof.WalkInts
import PyProof.NeKinds
import PyProof.SliceStr2
import PyProof.StrBlockI
import PyProof.MaxThree
import PyProof.ZipIter
import PyProof.Draws
import PyProof.EnumMake
import PyProof.ListMulRoad
import PyProof.Rows.StrRev
import KE.IntBitsLaws
import PySem.Challenge.RW_leasttolls_k26_signs_of_words
set_option Elab.async false
set_option linter.all false
set_option maxRecDepth 100000
set_option maxHeartbeats 4000000
noncomputable section
namespace L2
open PySem PySem.Spec PyProof.Rows
noncomputable abbrev Key:=Sum Int Str
noncomputable def keyIs:Key->Value->Bool
 | .inl k,v=>Value.isInt k v
 | .inr x,v=>Value.isStrOf x v
noncomputable def keyH (w:World):Key->Int
 | .inl k=>hashInt k
 | .inr x=>hashStr w x
theorem zu:∀ {k:Key} {v:Value},keyIs k v=true->(∃ i t,k=Sum.inl i/\v=Value.int i t)\/(∃ x t,k=Sum.inr x/\v=Value.str x t)
 | .inl i,v,h=>by
  obtain ⟨t,e⟩:=Value.isInt_shape (k:=i) (v:=v) h
  exact .inl ⟨i,t,rfl,e⟩
 | .inr x,v,h=>by
  obtain ⟨t,e⟩:=Value.isStrOf_shape (x:=x) (v:=v) h
  exact .inr ⟨x,t,rfl,e⟩
theorem keyIs_int (i:Int)(t:Tok):keyIs (.inl i) (.int i t)=true:=by simp [keyIs,Value.isInt]
theorem keyIs_str (x:Str)(t:Tok):keyIs (.inr x) (.str x t)=true:=by simp [keyIs,Value.isStrOf]
theorem key_ll (a b:Int):decide ((Sum.inl a:Key)=Sum.inl b)=(a==b):=by
 by_cases e:a=b
 ·subst e;simp
 ·have h:¬ (Sum.inl a:Key)=Sum.inl b:=fun q=>e (Sum.inl.inj q)
  rw [decide_eq_false h]
  exact (beq_eq_false_iff_ne.mpr e).symm
theorem key_rr (a b:Str):decide ((Sum.inr a:Key)=Sum.inr b)=decide (a=b):=by
 by_cases e:a=b
 ·subst e;simp
 ·have h:¬ (Sum.inr a:Key)=Sum.inr b:=fun q=>e (Sum.inr.inj q)
  rw [decide_eq_false h,decide_eq_false e]
theorem key_lr (a:Int)(b:Str):decide ((Sum.inl a:Key)=Sum.inr b)=false:=decide_eq_false (fun q=>nomatch q)
theorem key_rl (a:Str)(b:Int):decide ((Sum.inr a:Key)=Sum.inl b)=false:=decide_eq_false (fun q=>nomatch q)
noncomputable def zJ (prog:Program)(w:World):PySem.KeyKind prog w Key where
 is:=keyIs
 hash:=keyH w
 inj:=fun v a b ha hb=>by
  rcases zu ha with ⟨i,t,rfl,rfl⟩ | ⟨x,t,rfl,rfl⟩
  ·rcases zu hb with ⟨j,u,rfl,e⟩ | ⟨y,u,rfl,e⟩
   ·injection e with e1 _;rw [e1]
   ·exact nomatch e
  ·rcases zu hb with ⟨j,u,rfl,e⟩ | ⟨y,u,rfl,e⟩
   ·exact nomatch e
   ·injection e with e1 _;rw [e1]
 byValue:=fun k v h=>by
  rcases zu h with ⟨i,t,rfl,rfl⟩ | ⟨x,t,rfl,rfl⟩<;>rfl
 pyHash:=fun hv h=>by
  rcases zu hv with ⟨i,t,rfl,rfl⟩ | ⟨x,t,rfl,rfl⟩
  ·exact wpAny_pyHash_int h
  ·exact wpAny_pyHash_str h
 eqBool:=fun hu hv h=>by
  rcases zu hu with ⟨i,t,rfl,rfl⟩ | ⟨x,t,rfl,rfl⟩
  ·rcases zu hv with ⟨j,u,rfl,rfl⟩ | ⟨y,u,rfl,rfl⟩
   ·rw [key_ll] at h;exact wpAny_eqBool_int h
   ·rw [key_lr] at h;exact SeqAt.EqAt.int_str i t y u _ _ _ _ h
  ·rcases zu hv with ⟨j,u,rfl,rfl⟩ | ⟨y,u,rfl,rfl⟩
   ·rw [key_rl] at h;exact SeqAt.EqAt.str_int x t j u _ _ _ _ h
   ·rw [key_rr] at h;exact wpAny_eqBool_str h
 «strs»:=fun k x t v h=>by
  rcases zu h with ⟨i,u,rfl,e⟩ | ⟨y,u,rfl,e⟩
  ·exact nomatch e
  ·injection e with e1 _
   subst e1
   cases v<;>rfl
theorem mixKind_int (prog:Program)(w:World)(i:Int)(t:Tok):(zJ prog w).is (.inl i) (.int i t)=true:=keyIs_int i t
theorem mixKind_str (prog:Program)(w:World)(x:Str)(t:Tok):(zJ prog w).is (.inr x) (.str x t)=true:=keyIs_str x t
end L2
end
noncomputable section
namespace L2
open PySem PySem.Spec PyProof.Rows
inductive V where
 | non | bl (b:Bool) | int (i:Int) | str (x:Str) | byt (b:Array UInt8) | flt (b:UInt64) | ref (a:Addr) | ty (n:String)
 deriving DecidableEq
noncomputable def RelV:V->Value->Prop
 | .non,u=>u=Value.none
 | .bl b,u=>u=Value.bool b
 | .int i,u=>∃ t,u=Value.int i t
 | .str x,u=>∃ t,u=Value.str x t
 | .byt b,u=>∃ t,u=Value.bytes b t
 | .flt b,u=>∃ t,u=Value.float b t
 | .ref a,u=>u=Value.ref a
 | .ty n,u=>u=Value.type n
noncomputable abbrev Vals:List V->List Value->Prop:=Paired RelV
theorem Vals.length {xs:List V}{us:List Value}(r:Vals xs us):xs.length=us.length:=Paired.length r
theorem Vals.get:∀ {xs:List V} {us:List Value} {i:Nat} {x:V},Vals xs us->xs[i]?=some x->∃ u,us[i]?=some u/\RelV x u
 | _,_,_,_,.nil,e=>by simp at e
 | _,_,0,_,.cons r _,e=>by simp at e;subst e;exact ⟨_,rfl,r⟩
 | _,_,i+1,x,.cons _ t,e=>by
  obtain ⟨u,h1,h2⟩:=Vals.get (i:=i) (x:=x) t (by simpa using e)
  exact ⟨u,by simpa using h1,h2⟩
theorem Vals.set {x:V}{u:Value}(r:RelV x u):∀ {xs:List V} {us:List Value} (i:Nat),Vals xs us->Vals (xs.set i x) (us.set i u)
 | _,_,_,.nil=>.nil
 | _,_,0,.cons _ t=>.cons r t
 | _,_,i+1,.cons q t=>.cons q (Vals.set r i t)
theorem Vals.append:∀ {xs ys:List V} {us ws:List Value},Vals xs us->Vals ys ws->Vals (xs++ys) (us++ws)
 | _,_,_,_,.nil,s=>s
 | _,_,_,_,.cons r t,s=>.cons r (Vals.append t s)
theorem Vals.take:∀ {xs:List V} {us:List Value} (n:Nat),Vals xs us->Vals (xs.take n) (us.take n)
 | _,_,0,_=>.nil
 | _,_,_+1,.nil=>.nil
 | _,_,n+1,.cons r t=>.cons r (Vals.take n t)
theorem Vals.drop:∀ {xs:List V} {us:List Value} (n:Nat),Vals xs us->Vals (xs.drop n) (us.drop n)
 | _,_,0,r=>r
 | _,_,_+1,.nil=>.nil
 | _,_,n+1,.cons _ t=>Vals.drop n t
noncomputable def RelO:Option V->Option Value->Prop
 | some v,some u=>RelV v u
 | none,none=>True
 | _,_=>False
noncomputable def KV {κ:Type}:List (κ×V)->List (κ×Value)->Prop:=Paired fun (p:κ×V) (q:κ×Value)=>p.1=q.1/\RelV p.2 q.2
noncomputable def kV:Key->V
 | .inl i=>.int i
 | .inr x=>.str x
inductive HO where
 | lst (xs:List V)
 | tup (xs:List V)
 | dK (kvs:List (Key×V)) | dT (kvs:List (List Key×V))
 | set (S:Int->Bool) (n:Nat)
 | ins (C dx:Addr) (fs:List (Str×V))
 | own (x:Addr)
 | xd (fs:List (Str×V))
 | met (f x:Addr)
 | rng (lo hi:Int)
 | frz (o:Obj) (u:HO)
 | tbl (ps:Array Value)
 | ext (φ:Heap->Prop)
noncomputable abbrev Hp:=Addr->Option HO
noncomputable def upd (H:Hp)(a:Addr)(o:HO):Hp:=fun b=>if b=a then some o else H b
theorem zb {H:Hp}{a:Addr}{o:HO}:upd H a o a=some o:=by unfold upd;rw [if_pos rfl]
theorem za {H:Hp}{a b:Addr}{o:HO}(h:b≠a):upd H a o b=H b:=by unfold upd;rw [if_neg h]
theorem ne_of {H:Hp}{a b:Addr}{o u:HO}(h:H a=some o)(h':H b=some u)(d:o≠u):a≠b:=by
 intro e;subst e;rw [h] at h';exact d (Option.some.inj h')
theorem zq {H:Hp}{a b:Addr}{o:HO}(h:H a=some o)(h':H b=none):a≠b:=by
 intro e;subst e;rw [h] at h';cases h'
section
variable (P:Program) (w:World)
noncomputable def ObjOk (H:Hp)(h:Heap)(a:Addr):HO->Prop
 | .lst xs=>xs.length<=sizeLine/\∃ (its:List Value) (n:Nat),Vals xs its/\h.get? a=some { cls:=.type "list",data:=.seq its.toArray n }
 | .tup xs=>xs.length<=sizeLine/\∃ its:List Value,Vals xs its/\IsTup h a its.toArray
 | .dK kvs=>kvs.length<=sizeLine/\(a==sysModules)=false/\∃ vs,KV kvs vs/\h.DictOf (zJ P w) a vs
 | .dT kvs=>kvs.length<=sizeLine/\(a==sysModules)=false/\∃ xs:List (List Key×Addr×Value),
   Paired (fun (p:List Key×V) (q:List Key×Addr×Value)=>p.1=q.1/\H q.2.1=some (.tup (p.1.map kV))/\RelV p.2 q.2.2) kvs xs /\
   ∃ o es ep,h.get? a=some o/\o.ExactDict/\o.data=.dict es ep/\es.toList=xs.map (entryOfKey (tupleKind (zJ P w)))/\(xs.map (·.1)).Nodup
 | .set S n=>h.SetOf (intKind P w) a S n
 | .ins C dx fs=>H dx=some (.own a)/\fs.length<=1000/\dx≠a/\h.get? a=some (PySem.W.instObj C dx) /\
   ∃ mA,h.Ns1 dx mA/\(∀ f,RelO (fs.lookup f) (mA f))/\PySem.Within mA (fs.map (·.1))
 | .own _=>∃ o,h.get? a=some o
 | .xd fs=>∃ mA,h.Ns1 a mA/\∀ f,RelO (fs.lookup f) (mA f)
 | .rng lo hi=>∃ t u v,h.get? a=some { cls:=.type "range",data:=.fields #[.int lo t,.int hi u,.int 1 v] }
 | .frz o u=>h.get? a=some o/\ObjOk H h a u
 | .tbl ps=>h.get? a=some { cls:=.none,data:=.fields ps }
 | .met f x=>h.get? a=some (PySem.W.methodObj (.ref f) (.ref x))
 | .ext φ=>φ h/\(∃ o,h.get? a=some o)/\∀ h1 h2:Heap,φ h1->(∀ o,h1.get? a=some o->h2.get? a=some o)->φ h2
noncomputable def HOk (H:Hp)(h:Heap):Prop:=∀ a o,H a=some o->ObjOk P w H h a o
end
section
variable {P:Program} {w:World} {H H':Hp} {h h':Heap} {a:Addr} {o:HO}
theorem ObjOk.lt (x:ObjOk P w H h a o):a<h.objs.size:=by
 cases o with
 | lst xs=>obtain ⟨_,_,_,_,e⟩:=x;exact Heap.lt_size e
 | tup xs=>obtain ⟨_,_,_,p⟩:=x;exact p.lt
 | dK kvs=>obtain ⟨_,_,_,_,o,_,_,e,_⟩:=x;exact Heap.lt_size e
 | dT kvs=>obtain ⟨_,_,_,_,o,_,_,e,_⟩:=x;exact Heap.lt_size e
 | set S n=>obtain ⟨o,_,_,_,e,_⟩:=x;exact Heap.lt_size e
 | ins C dx fs=>obtain ⟨_,_,_,e,_⟩:=x;exact Heap.lt_size e
 | own y=>obtain ⟨_,e⟩:=x;exact Heap.lt_size e
 | xd fs=>obtain ⟨_,⟨_,_,_,e,_⟩,_⟩:=x;exact Heap.lt_size e
 | rng lo hi=>obtain ⟨_,_,_,e⟩:=x;exact Heap.lt_size e
 | frz ob u=>obtain ⟨e,_⟩:=x;exact Heap.lt_size e
 | tbl ps=>exact Heap.lt_size (show h.get? a=some _ from x)
 | met f y=>exact Heap.lt_size (show h.get? a=some _ from x)
 | ext φ=>obtain ⟨_,⟨_,e⟩,_⟩:=x;exact Heap.lt_size e
theorem Paired.mapP {α β:Type}{F G:α->β->Prop}:∀ {l₁:List α} {l₂:List β},Paired F l₁ l₂->(∀ a b,F a b->G a b)->Paired G l₁ l₂
 | _,_,.nil,_=>.nil
 | _,_,.cons r t,f=>.cons (f _ _ r) (Paired.mapP t f)
theorem ObjOk.stay (x:ObjOk P w H h a o)(k:∀ b u,(b=a\/H b=some (.own a))->h.get? b=some u->h'.get? b=some u)
  (ho:∀ b,H b=some (.own a)->H' b=some (.own a)) (ht:∀ b xs,H b=some (.tup xs)->H' b=some (.tup xs)):ObjOk P w H' h' a o:=by
 induction o with
 | lst xs=>obtain ⟨z,its,n,r,e⟩:=x;exact ⟨z,its,n,r,k _ _ (.inl rfl) e⟩
 | tup xs=>obtain ⟨z,its,r,ob,e,c⟩:=x;exact ⟨z,its,r,ob,k _ _ (.inl rfl) e,c⟩
 | dK kvs=>obtain ⟨z,y,vs,r,ob,es,ep,e,c⟩:=x;exact ⟨z,y,vs,r,ob,es,ep,k _ _ (.inl rfl) e,c⟩
 | dT kvs =>
  obtain ⟨z,y,xs,r,ob,es,ep,e,c⟩:=x
  exact ⟨z,y,xs,Paired.mapP r fun p q z=>⟨z.1,ht _ _ z.2.1,z.2.2⟩,ob,es,ep,k _ _ (.inl rfl) e,c⟩
 | set S n=>obtain ⟨ob,es,ep,t,e,c⟩:=x;exact ⟨ob,es,ep,t,k _ _ (.inl rfl) e,c⟩
 | ins C dx fs =>
  obtain ⟨d,z,ne,e,mA,⟨od,es,ep,e2,c⟩,r⟩:=x
  exact ⟨ho _ d,z,ne,k _ _ (.inl rfl) e,mA,⟨od,es,ep,k _ _ (.inr d) e2,c⟩,r⟩
 | own y=>obtain ⟨ob,e⟩:=x;exact ⟨ob,k _ _ (.inl rfl) e⟩
 | xd fs=>obtain ⟨mA,⟨od,es,ep,e,c⟩,r⟩:=x;exact ⟨mA,⟨od,es,ep,k _ _ (.inl rfl) e,c⟩,r⟩
 | rng lo hi=>obtain ⟨t,u,v,e⟩:=x;exact ⟨t,u,v,k _ _ (.inl rfl) e⟩
 | frz ob u ih=>obtain ⟨e,q⟩:=x;exact ⟨k _ _ (.inl rfl) e,ih q⟩
 | tbl ps =>
  have e:h.get? a=some { cls:=.none,data:=.fields ps }:=x
  show h'.get? a=some { cls:=.none,data:=.fields ps }
  exact k a _ (.inl rfl) e
 | met f y =>
  have e:h.get? a=some (PySem.W.methodObj (.ref f) (.ref y)):=x
  show h'.get? a=some (PySem.W.methodObj (.ref f) (.ref y))
  exact k a _ (.inl rfl) e
 | ext φ=>obtain ⟨p,⟨o,e⟩,st⟩:=x;exact ⟨st _ _ p fun o q=>k _ _ (.inl rfl) q,⟨o,k _ _ (.inl rfl) e⟩,st⟩
theorem HOk.lt (x:HOk P w H h)(e:H a=some o):a<h.objs.size:=(x a o e).lt
theorem HOk.fresh (x:HOk P w H h)(e:h.objs.size<=a):H a=none:=by
 cases q:H a with
 | none=>rfl
 | some u=>exact absurd (Nat.lt_of_lt_of_le (x.lt q) e) (Nat.lt_irrefl _)
theorem HOk.kept (x:HOk P w H h)(k:∀ b u,h.get? b=some u->h'.get? b=some u):HOk P w H h':=fun a o e =>
 (x a o e).stay (fun b u _ q=>k b u q) (fun _ q=>q) fun _ _ q=>q
theorem HOk.laid (x:HOk P w H h)(k:∀ b u,h.get? b=some u->h'.get? b=some u)(hp:h.objs.size<=a)(new:ObjOk P w (upd H a o) h' a o):HOk P w (upd H a o) h':=fun b u e=>by
 have hn:=x.fresh hp
 by_cases hb:b=a
 ·subst hb;rw [zb] at e;cases e;exact new
 ·rw [za hb] at e
  exact (x b u e).stay (fun c v _ q=>k c v q) (fun c q=>by rw [za (zq q hn)];exact q) fun c xs q=>by rw [za (zq q hn)];exact q
end
noncomputable def Rd (H:Hp)(a:Addr)(u:HO):Prop:=H a=some u\/∃ o,H a=some (.frz o u)
theorem Rd.ok {P:Program}{w:World}{H:Hp}{h:Heap}{a:Addr}{u:HO}(r:Rd H a u)(x:HOk P w H h):ObjOk P w H h a u:=by
 rcases r with r | ⟨o,r⟩
 ·exact x a u r
 ·obtain ⟨_,q⟩:=x a _ r
  exact q
noncomputable def Mut:Option HO->Prop
 | some (.lst _)=>True
 | some (.dK _)=>True
 | some (.dT _)=>True
 | some (.set _ _)=>True
 | some (.ins _ _ _)=>True
 | some (.ext _)=>True
 | _=>False
section
variable {P:Program} {w:World} {H:Hp} {h h':Heap} {x e:Addr} {o':HO}
theorem HOk.write (ok:HOk P w H h)(mu:Mut (H x))(he:e=x\/H e=some (.own x))(k:∀ b u,b≠e->h.get? b=some u->h'.get? b=some u)(heo:∃ u,h'.get? e=some u)
  (new:ObjOk P w (upd H x o') h' x o'):HOk P w (upd H x o') h':=fun b u q=>by
 have nown:∀ c y,H c=some (.own y)->c≠x:=fun c y r z=>by subst z;rw [r] at mu;exact mu
 have ntup:∀ c xs,H c=some (.tup xs)->c≠x:=fun c xs r z=>by subst z;rw [r] at mu;exact mu
 by_cases hb:b=x
 ·subst hb;rw [zb] at q;cases q;exact new
 ·rw [za hb] at q
  by_cases hbe:b=e
  ·have q':H b=some (.own x):=by
    rcases he with z | z
    ·exact absurd (hbe.trans z) hb
    ·rw [hbe];exact z
   rw [q] at q';cases q'
   obtain ⟨v,hv⟩:=heo
   exact ⟨v,by rw [hbe];exact hv⟩
  ·refine (ok b u q).stay (fun c v hc r=>k c v ?_ r) (fun c r=>by rw [za (nown c b r)];exact r) fun c xs r=>by rw [za (ntup c xs r)];exact r
   rcases hc with rfl | hc
   ·exact hbe
   ·rintro rfl
    rcases he with z | z
    ·exact nown c b hc z
    ·rw [hc] at z;cases z;exact hb rfl
end
structure Un (fs ex:List Addr)(H H':Hp)(h h':Heap):Prop where
 keep:∀ b o,h.get? b=some o->H b=none->b ∉ fs->b ∉ ex->h'.get? b=some o
 slot:∀ b o,h.get? b=some o->H b=none->b∈fs->b ∉ ex->∃ sl,h'.get? b=some { o with slots:=sl }
 free:∀ b o,h.get? b=some o->H b=none->b ∉ ex->H' b=none
 there:∀ b o,h.get? b=some o->b ∉ ex->∃ o',h'.get? b=some o'
 tups:∀ b xs,H b=some (.tup xs)->H' b=some (.tup xs)
 frzs:∀ b o u,H b=some (.frz o u)->H' b=some (.frz o u)
 tbls:∀ b ps,H b=some (.tbl ps)->∃ more,H' b=some (.tbl (ps++more))
section
variable {fs fs' ex ex':List Addr} {H H1 H2:Hp} {h h1 h2 h':Heap} {a x e:Addr} {o:HO}
theorem Un.any (u:Un fs ex H H1 h h1){b:Addr}{ob:Obj}(q:h.get? b=some ob)(n:H b=none)(hx:b ∉ ex):∃ sl,h1.get? b=some { ob with slots:=sl }:=by
 by_cases hb:b∈fs
 ·exact u.slot b ob q n hb hx
 ·exact ⟨ob.slots,u.keep b ob q n hb hx⟩
theorem Un.kept (k:∀ b u,h.get? b=some u->h'.get? b=some u):Un fs ex H H h h' :=
 ⟨fun b ob q _ _ _=>k b ob q,fun b ob q _ _ _=>⟨ob.slots,k b ob q⟩,fun _ _ _ n _=>n,fun b ob q _=>⟨ob,k b ob q⟩,fun _ _ q=>q,fun _ _ _ q=>q,fun _ ps q=>⟨#[],by rw [q];simp⟩⟩
theorem Un.refl:Un fs ex H H h h:=Un.kept fun _ _ q=>q
theorem Un.laid (k:∀ b u,h.get? b=some u->h'.get? b=some u)(hp:h.objs.size<=a)(hn:H a=none):Un fs ex H (upd H a o) h h' where
 keep:=fun b u q _ _ _=>k b u q
 slot:=fun b u q _ _ _=>⟨u.slots,k b u q⟩
 free:=fun b u q n _=>by rw [za (Nat.ne_of_lt (Nat.lt_of_lt_of_le (Heap.lt_size q) hp))];exact n
 there:=fun b u q _=>⟨u,k b u q⟩
 tups:=fun b xs q=>by rw [za (zq q hn)];exact q
 frzs:=fun b u xs q=>by rw [za (zq q hn)];exact q
 tbls:=fun b ps q=>⟨#[],by rw [za (zq q hn),q];simp⟩
theorem Un.write (mu:Mut (H x))(he:e=x\/H e=some (.own x))(k:∀ b u,b≠e->h.get? b=some u->h'.get? b=some u)(heo:∃ u,h'.get? e=some u):Un fs ex H (upd H x o) h h':=by
 have hx:∀ b,H b=none->b≠x:=fun b n z=>by subst z;rw [n] at mu;exact mu
 have hb:∀ b,H b=none->b≠e:=fun b n z=>by
  subst z
  rcases he with r | r
  ·exact hx b n r
  ·rw [n] at r;cases r
 have hm:∀ b u,H b=some u->¬ Mut (some u)->b≠x:=fun b u q nm z=>by subst z;rw [q] at mu;exact nm mu
 refine ⟨fun b u q n _ _=>k b u (hb b n) q,fun b u q n _ _=>⟨u.slots,k b u (hb b n) q⟩,fun b u q n _=>by rw [za (hx b n)];exact n,fun b u q _=>?_,
  fun b xs q=>by rw [za (hm b _ q fun z=>z)];exact q,fun b u xs q=>by rw [za (hm b _ q fun z=>z)];exact q,fun b ps q=>⟨#[],by rw [za (hm b _ q fun z=>z),q];simp⟩⟩
 by_cases hbe:b=e
 ·subst hbe;exact heo
 ·exact ⟨u,k b u hbe q⟩
end
noncomputable def trk (h:Heap)(H:Hp):List Addr:=(List.range h.objs.size).filter fun a=>(H a).isSome
noncomputable def hidT (h:Heap)(H:Hp):Heap:=PySem.W.hideAll h (trk h H)
theorem hidT_size (h:Heap)(H:Hp):(hidT h H).objs.size=h.objs.size:=PySem.W.hideAll_size _ _
theorem hidT_get {h:Heap}{H:Hp}{b:Addr}{o:Obj}(e:h.get? b=some o)(n:H b=none):(hidT h H).get? b=some o :=
 PySem.W.hideAll_get _ e fun hm=>by
  have q:(H b).isSome=true:=(List.mem_filter.mp hm).2
  rw [n] at q;simp at q
theorem of_hidT {h:Heap}{H:Hp}{b:Addr}{o:Obj}(e:(hidT h H).get? b=some o):h.get? b=some o/\H b=none:=by
 have e':h.get? b=some o:=PySem.W.of_hideAll (trk h H) e
 refine ⟨e',?_⟩
 cases q:H b with
 | none=>rfl
 | some x =>
  have hm:b∈trk h H:=List.mem_filter.mpr ⟨List.mem_range.mpr (Heap.lt_size e'),by simp [q]⟩
  have z:(hidT h H).get? b=none:=PySem.W.hideAll_none (trk h H) hm
  rw [z] at e;cases e
noncomputable def allNews (g h:Heap)(L:Addr):List (Addr×Obj):=(List.range h.objs.size).filterMap fun a=>if a=L\/(g.get? a).isSome=true then none else (h.get? a).map fun o=>(a,o)
noncomputable def rest (g h:Heap)(L d:Addr):List (Addr×Obj):=(allNews g h L).filter fun p=>decide (p.1≠d)
end L2
end
noncomputable section
namespace L2
open PySem PySem.Spec PyProof.Rows
structure Mod (K:PySem.W.Frag)(mg:Str->Option Value)(base:Heap):Prop where
 kin:K.In base
 glob:base.Ns mainGlobals mg
 blt:∃ mb,base.Ns builtinsNs mb/\∀ x:Str,x ≠ "__name__"->mb x=bootBuiltins x
 nolimit:base.NoLimit
structure Cx where
 prog:Program
 w:World
 K:PySem.W.Frag
 mg:Str->Option Value
 base:Heap
 A:Around
 N:List Str
 s₀:Shared
 H₀:Hp
 env:Env
 outer:List Env
 stack:List Env
 ex:List Addr
 fn:Str->Bool
 calm:Bool
 pn:List (Addr×Obj)
 xe:Value->Shared->Prop
noncomputable def frs (l:List Env):List Addr:=l.filterMap (·.frame)
noncomputable abbrev Cx.fs (X:Cx):List Addr:=frs X.outer
noncomputable def Vis (sc:Scope)(x:Str):Prop:=sc.names.lookup x=some .local\/sc.names.lookup x=some .cell\/sc.names.lookup x=some .free
noncomputable def Loc (sc:Scope)(x:Str):Prop:=sc.names.lookup x=some .local\/sc.names.lookup x=some .cell
noncomputable def Look (env:Env)(h:Heap)(m:Str->Option Value)(x:Str)(u:Value):Prop :=
 (env.kindOf x=some .local/\m x=some u)\/((env.kindOf x=some .cell\/env.kindOf x=some .free)/\∃ c,env.cells.lookup x=some c/\h.IsCell c (some u))
structure Cx.Ok (X:Cx):Prop where
 mod:Mod X.K X.mg X.base
 kind:X.env.scope.kind=.function
 glob:X.env.globals=mainGlobals
 blt:X.env.builtins=builtinsNs
 above:X.s₀.heap.objs.size<=X.env.locals
 inj:∀ x y c,X.env.cells.lookup x=some c->X.env.cells.lookup y=some c->x=y
 has:∀ x,(X.env.kindOf x=some .cell\/X.env.kindOf x=some .free)->∃ c,X.env.cells.lookup x=some c
 cab:∀ x c,X.fn x=true->X.env.cells.lookup x=some c->X.s₀.heap.objs.size<=c
 hd:X.calm=true->X.A.handled=none
 frames:X.A.frames=some X.stack
 stk:X.stack=X.outer\/(X.stack=X.env::X.outer/\X.env.frame=some X.env.locals)
 exf:∀ b∈X.ex,b≠X.env.locals/\∀ x c,X.env.cells.lookup x=some c->c≠b
 bs:∀ b o,X.base.get? b=some o->X.s₀.heap.get? b=some o/\X.H₀ b=none
 bsz:X.base.objs.size<=X.s₀.heap.objs.size
 noex:∀ b o,X.base.get? b=some o->b ∉ X.ex
 exfs:∀ b∈X.ex,b ∉ X.fs
 funs:X.s₀.heap.FunFrames X.base X.outer
 frf:∀ b∈X.fs,X.H₀ b=none
structure Inv (X:Cx)(pins:List (Addr×Obj))(σ:List (Option V))(H:Hp)(s:Shared):Prop where
 ok:X.Ok
 os:s.os=X.s₀.os
 bare:AllBare s.gens
 base:Un X.fs X.ex X.H₀ H X.s₀.heap s.heap
 loc:∃ m,s.heap.Ns X.env.locals m/\∀ (i:Nat) (x:Str) (v:V),X.N[i]?=some x->σ[i]?=some (some v)->Vis X.env.scope x->∃ u,RelV v u/\Look X.env s.heap m x u
 cell:∀ x c,X.env.cells.lookup x=some c->∃ v,s.heap.IsCell c v
 free:H X.env.locals=none
 freeC:∀ x c,X.env.cells.lookup x=some c->H c=none
 pin:∀ p∈X.pn++pins,s.heap.get? p.1=some p.2/\H p.1=none/\p.1≠X.env.locals/\p.1 ∉ X.fs/\∀ v,p.2.data≠.cell v
 hok:HOk X.prog X.w H s.heap
 len:σ.length=X.N.length
section
variable {X:Cx} {pins:List (Addr×Obj)} {σ:List (Option V)} {H H':Hp} {s:Shared} {h':Heap}
theorem Cx.Ok.nofr (ok:X.Ok){b:Addr}{o:Obj}(e:X.base.get? b=some o):b ∉ X.fs:=fun hb=>by
 have:=(ok.funs.mem hb).1
 rw [e] at this;cases this
theorem Inv.bs (I:Inv X pins σ H s):∀ b o,X.base.get? b=some o->s.heap.get? b=some o/\H b=none:=fun b o e =>
 ⟨I.base.keep b o (I.ok.bs b o e).1 (I.ok.bs b o e).2 (I.ok.nofr e) (I.ok.noex b o e),I.base.free b o (I.ok.bs b o e).1 (I.ok.bs b o e).2 (I.ok.noex b o e)⟩
theorem Inv.bk (I:Inv X pins σ H s):∀ b o,X.base.get? b=some o->s.heap.get? b=some o:=fun b o e=>(I.bs b o e).1
theorem Inv.mod (I:Inv X pins σ H s):Mod X.K X.mg X.base:=I.ok.mod
theorem Inv.kIn (I:Inv X pins σ H s):X.K.In s.heap:=I.ok.mod.kin.keeps I.bk
theorem Inv.lt (I:Inv X pins σ H s):X.env.locals<s.heap.objs.size:=let ⟨_,hn,_⟩:=I.loc;hn.lt
theorem Inv.sz (I:Inv X pins σ H s):X.s₀.heap.objs.size<=s.heap.objs.size:=Nat.le_trans I.ok.above (Nat.le_of_lt I.lt)
theorem Inv.nofs (I:Inv X pins σ H s){a:Addr}(h:s.heap.objs.size<=a):a ∉ X.fs:=fun hb=>by
 obtain ⟨_,o,ho,_⟩:=I.ok.funs.mem hb
 exact absurd (Nat.lt_of_lt_of_le (Heap.lt_size ho) (Nat.le_trans I.sz h)) (Nat.lt_irrefl _)
theorem Inv.cne (I:Inv X pins σ H s):∀ x c,X.env.cells.lookup x=some c->c≠X.env.locals:=fun x c e z=>by
 obtain ⟨v,o,ho,hd⟩:=I.cell x c e
 obtain ⟨m,⟨o',es,ep,ho',hd',_⟩,_⟩:=I.loc
 rw [z,ho'] at ho;cases ho;rw [hd'] at hd;cases hd
theorem Inv.funs (I:Inv X pins σ H s):s.heap.FunFrames X.base X.outer:=by
 have all:∀ (l:List Env),(∀ b∈frs l,b∈X.fs)->X.s₀.heap.FunFrames X.base l->s.heap.FunFrames X.base l:=by
  intro l
  induction l with
  | nil=>intro _ _;trivial
  | cons env r ih =>
   intro hs hl
   obtain ⟨hk,⟨L,o,hf,hn,ho,hd⟩,hr⟩:=hl
   have hL:L∈X.fs:=hs L (by unfold frs;rw [List.filterMap_cons,hf];exact List.mem_cons_self)
   obtain ⟨sl,e⟩:=I.base.slot L o ho (I.ok.frf L hL) hL fun z=>I.ok.exfs L z hL
   exact ⟨hk,⟨L,_,hf,hn,e,hd⟩,ih (fun b hb=>hs b (by unfold frs;rw [List.filterMap_cons,hf];exact List.mem_cons_of_mem _ hb)) hr⟩
 exact all X.outer (fun _ hb=>hb) I.ok.funs
theorem Inv.stack (I:Inv X pins σ H s):s.heap.FunFrames X.base X.stack:=by
 rcases I.ok.stk with e | ⟨e,hf⟩
 ·rw [e];exact I.funs
 ·rw [e]
  obtain ⟨m,hn,_⟩:=I.loc
  refine .cons (by rw [I.ok.kind];decide) hf hn ?_ I.funs
  exact Heap.get?_none_of_le (Nat.le_trans I.ok.bsz I.ok.above)
theorem Inv.stkSub (I:Inv X pins σ H s):∀ b∈frs X.stack,b∈X.env.locals::X.fs:=fun b hb=>by
 rcases I.ok.stk with e | ⟨e,hf⟩
 ·rw [e] at hb;exact List.mem_cons_of_mem _ hb
 ·rw [e] at hb
  unfold frs at hb
  rw [List.filterMap_cons,hf] at hb
  exact hb
theorem Inv.stkFree (I:Inv X pins σ H s):∀ b∈frs X.stack,H b=none:=fun b hb=>by
 rcases List.mem_cons.mp (I.stkSub b hb) with e | hb
 ·rw [e];exact I.free
 ·obtain ⟨_,o,ho,_⟩:=I.ok.funs.mem hb
  exact I.base.free b o ho (I.ok.frf b hb) fun z=>I.ok.exfs b z hb
theorem Inv.step {g':Array GenState}{t':Nat}{d':Drawn}{ch:List Addr}(I:Inv X pins σ H s)
  (hch:∀ b∈ch,(b∈X.ex\/X.s₀.heap.objs.size<=b)/\b≠X.env.locals/\(∀ x c,X.env.cells.lookup x=some c->c≠b)/\∀ p∈X.pn++pins,p.1≠b)
  (keep:∀ b o,b≠X.env.locals->b ∉ X.fs->b ∉ ch->s.heap.get? b=some o->H b=none->h'.get? b=some o)
  (slot:∀ b o,b≠X.env.locals->b∈X.fs->b ∉ ch->s.heap.get? b=some o->H b=none->∃ sl,h'.get? b=some { o with slots:=sl }) (free:∀ b o,b ∉ ch->s.heap.get? b=some o->H b=none->H' b=none)
  (there:∀ b o,b ∉ ch->s.heap.get? b=some o->∃ o',h'.get? b=some o')
  (tups:∀ b xs,H b=some (.tup xs)->H' b=some (.tup xs)) (frzs:∀ b o u,H b=some (.frz o u)->H' b=some (.frz o u)) (tbls:∀ b ps,H b=some (.tbl ps)->∃ more,H' b=some (.tbl (ps++more)))
  (ns:∀ m,s.heap.Ns X.env.locals m->h'.Ns X.env.locals m) (hok:HOk X.prog X.w H' h') (hg:AllBare g') :
  Inv X pins σ H' { s with heap:=h',gens:=g',drawn:=d',toks:=t' }:=by
 have neL:∀ b o,X.s₀.heap.get? b=some o->b≠X.env.locals:=fun b o e=>Nat.ne_of_lt (Nat.lt_of_lt_of_le (Heap.lt_size e) I.ok.above)
 have neC:∀ b o,X.s₀.heap.get? b=some o->b ∉ X.ex->b ∉ ch:=fun b o e hx hb=>by
  rcases (hch b hb).1 with z | z
  ·exact hx z
  ·exact absurd (Nat.lt_of_lt_of_le (Heap.lt_size e) z) (Nat.lt_irrefl _)
 have cellK:∀ x c,X.env.cells.lookup x=some c->∀ v,s.heap.IsCell c v->h'.IsCell c v:=fun x c e v ⟨o,ho,hd⟩=>by
  have nch:c ∉ ch:=fun z=>(hch c z).2.2.1 x c e rfl
  by_cases hc:c∈X.fs
  ·obtain ⟨sl,q⟩:=slot c o (I.cne x c e) hc nch ho (I.freeC x c e)
   exact ⟨_,q,hd⟩
  ·exact ⟨o,keep c o (I.cne x c e) hc nch ho (I.freeC x c e),hd⟩
 refine ⟨I.ok,I.os,hg,⟨fun b o e n hb hx=>?_,fun b o e n hb hx=>?_,fun b o e n hx=>?_,fun b o e hx=>?_,fun b xs e=>tups b xs (I.base.tups b xs e),fun b o xs e=>frzs b o xs (I.base.frzs b o xs e),fun b ps e=>?_⟩,?_,fun x c e=>?_,?_,fun x c e=>?_,fun p hp=>?_,hok,I.len⟩
 ·exact keep b o (neL b o e) hb (neC b o e hx) (I.base.keep b o e n hb hx) (I.base.free b o e n hx)
 ·obtain ⟨sl,e1⟩:=I.base.slot b o e n hb hx
  obtain ⟨sl',e2⟩:=slot b _ (neL b o e) hb (neC b o e hx) e1 (I.base.free b o e n hx)
  exact ⟨sl',e2⟩
 ·obtain ⟨o',e1⟩:=I.base.there b o e hx
  exact free b o' (neC b o e hx) e1 (I.base.free b o e n hx)
 ·obtain ⟨o',e1⟩:=I.base.there b o e hx
  exact there b o' (neC b o e hx) e1
 ·obtain ⟨m1,e1⟩:=I.base.tbls b ps e
  obtain ⟨m2,e2⟩:=tbls b _ e1
  exact ⟨m1++m2,by rw [e2,Array.append_assoc]⟩
 ·obtain ⟨m,hn,hl⟩:=I.loc
  refine ⟨m,ns m hn,fun i x v e1 e2 e3=>?_⟩
  obtain ⟨u,r,l⟩:=hl i x v e1 e2 e3
  refine ⟨u,r,?_⟩
  rcases l with l | ⟨k,c,e,z⟩
  ·exact .inl l
  ·exact .inr ⟨k,c,e,cellK x c e _ z⟩
 ·obtain ⟨v,z⟩:=I.cell x c e
  exact ⟨v,cellK x c e v z⟩
 ·obtain ⟨m,⟨o,_,_,ho,_⟩,_⟩:=I.loc
  exact free _ o (fun z=>(hch _ z).2.1 rfl) ho I.free
 ·obtain ⟨v,o,ho,hd⟩:=I.cell x c e
  exact free c o (fun z=>(hch c z).2.2.1 x c e rfl) ho (I.freeC x c e)
 ·obtain ⟨e,n,ne,nf,d⟩:=I.pin p hp
  have nch:p.1 ∉ ch:=fun z=>(hch p.1 z).2.2.2 p hp rfl
  exact ⟨keep p.1 p.2 ne nf nch e n,free p.1 p.2 nch e n,ne,nf,d⟩
theorem Inv.un {t':Nat}(I:Inv X pins σ H s)(u:Un X.fs [] H H' s.heap h')(hok:HOk X.prog X.w H' h'):Inv X pins σ H' { s with heap:=h',toks:=t' }:=by
 obtain ⟨m,⟨o,es,ep,ho,r⟩,_⟩:=id I.loc
 obtain ⟨sl,hL⟩:=u.any ho I.free (by simp)
 exact I.step (g':=s.gens) (d':=s.drawn) (ch:=[]) (fun _ z=>nomatch z) (fun b o _ hb _ e n=>u.keep b o e n hb (by simp)) (fun b o _ hb _ e n=>u.slot b o e n hb (by simp)) (fun b o _ e n=>u.free b o e n (by simp)) (fun b o _ e=>u.there b o e (by simp)) u.tups u.frzs u.tbls (fun m' hm=>by
  obtain ⟨o',es',ep',ho',r'⟩:=hm
  rw [ho] at ho';cases ho'
  exact ⟨_,es',ep',hL,r'⟩) hok I.bare
theorem Inv.call {g':Array GenState}{t':Nat}{d':Drawn}{ch:List Addr}(I:Inv X pins σ H s)(u:Un (frs X.stack) ch H H' s.heap h')(hok:HOk X.prog X.w H' h')(hg:AllBare g')
  (hch:∀ b∈ch,(b∈X.ex\/X.s₀.heap.objs.size<=b)/\b≠X.env.locals/\(∀ x c,X.env.cells.lookup x=some c->c≠b)/\∀ p∈X.pn++pins,p.1≠b) :
  Inv X pins σ H' { s with heap:=h',gens:=g',drawn:=d',toks:=t' }:=by
 obtain ⟨m,⟨o,es,ep,ho,r⟩,_⟩:=id I.loc
 obtain ⟨sl,hL⟩:=u.any ho I.free fun z=>(hch _ z).2.1 rfl
 exact I.step (ch:=ch) hch (fun b o hL hb hc e n=>u.keep b o e n (fun z=>(List.mem_cons.mp (I.stkSub b z)).elim hL hb) hc) (fun b o _ _ hc e n=>u.any e n hc) (fun b o hc e n=>u.free b o e n hc) (fun b o hc e=>u.there b o e hc) u.tups u.frzs u.tbls (fun m' hm=>by
  obtain ⟨o',es',ep',ho',r'⟩:=hm
  rw [ho] at ho';cases ho'
  exact ⟨_,es',ep',hL,r'⟩) hok hg
theorem Inv.turned {t':Nat}{it:Addr}(I:Inv X pins σ H s)(k:∀ b o,b≠it->s.heap.get? b=some o->h'.get? b=some o)(hn:H it=none)(hL:it≠X.env.locals)
  (h1:it∈X.ex\/X.s₀.heap.objs.size<=it) (h2:∀ x c,X.env.cells.lookup x=some c->c≠it) (h3:∀ p∈X.pn++pins,p.1≠it):Inv X pins σ H { s with heap:=h',toks:=t' }:=by
 have nit:∀ b u,H b=some u->b≠it:=fun b u e z=>by rw [z,hn] at e;cases e
 refine I.step (g':=s.gens) (d':=s.drawn) (ch:=[it]) (fun b hb=>?_) (fun b o _ _ hc e _=>k b o (fun z=>hc (by simp [z])) e) (fun b o _ _ hc e _=>⟨o.slots,k b o (fun z=>hc (by simp [z])) e⟩) (fun _ _ _ _ n=>n)
  (fun b o hc e=>⟨o,k b o (fun z=>hc (by simp [z])) e⟩) (fun _ _ e=>e) (fun _ _ _ e=>e) (fun b ps e=>⟨#[],by rw [e];simp⟩) (fun m hm=>?_) (fun b u e=>?_) I.bare
 ·have e:b=it:=by simpa using hb
  subst e
  exact ⟨h1,hL,h2,h3⟩
 ·obtain ⟨o,es,ep,ho,r⟩:=hm
  exact ⟨o,es,ep,k _ o (Ne.symm hL) ho,r⟩
 ·refine (I.hok b u e).stay (fun c v hc q=>k c v ?_ q) (fun _ q=>q) fun _ _ q=>q
  rcases hc with z | z
  ·rw [z];exact nit b u e
  ·exact nit c _ z
theorem Inv.tok (I:Inv X pins σ H s)(t:Nat):Inv X pins σ H { s with toks:=t }:=I.un (h':=s.heap) (t':=t) Un.refl I.hok
theorem Inv.kept {t':Nat}(I:Inv X pins σ H s)(k:∀ b u,s.heap.get? b=some u->h'.get? b=some u):Inv X pins σ H { s with heap:=h',toks:=t' }:=I.un (Un.kept k) (I.hok.kept k)
theorem Inv.laid {a:Addr}{o:HO}{t':Nat}(I:Inv X pins σ H s)(k:∀ b u,s.heap.get? b=some u->h'.get? b=some u)(hp:s.heap.objs.size<=a)(new:ObjOk X.prog X.w (upd H a o) h' a o) :
  Inv X pins σ (upd H a o) { s with heap:=h',toks:=t' }:=I.un (Un.laid k hp (I.hok.fresh hp)) (I.hok.laid k hp new)
theorem Inv.write {x e:Addr}{o:HO}{t':Nat}(I:Inv X pins σ H s)(mu:Mut (H x))(he:e=x\/H e=some (.own x))(k:∀ b u,b≠e->s.heap.get? b=some u->h'.get? b=some u)(heo:∃ u,h'.get? e=some u)
  (new:ObjOk X.prog X.w (upd H x o) h' x o):Inv X pins σ (upd H x o) { s with heap:=h',toks:=t' }:=I.un (Un.write mu he k heo) (I.hok.write mu he k heo new)
theorem Inv.pins_of {pins':List (Addr×Obj)}(I:Inv X pins σ H s)(h:∀ p∈pins',s.heap.get? p.1=some p.2/\H p.1=none/\p.1≠X.env.locals/\p.1 ∉ X.fs/\∀ v,p.2.data≠.cell v):Inv X pins' σ H s :=
 ⟨I.ok,I.os,I.bare,I.base,I.loc,I.cell,I.free,I.freeC,fun p hp=>(List.mem_append.mp hp).elim (fun z=>I.pin p (List.mem_append_left _ z)) (h p),I.hok,I.len⟩
theorem nodup_ix {N:List Str}(hN:N.Nodup){i j:Nat}{x:Str}(a:N[i]?=some x)(b:N[j]?=some x):i=j:=by
 obtain ⟨h1,e1⟩:=List.getElem?_eq_some_iff.mp a
 obtain ⟨h2,e2⟩:=List.getElem?_eq_some_iff.mp b
 exact (List.getElem_inj hN).mp (e1.trans e2.symm)
theorem store_ok2 {M:Model}{A:Around}{E:Value->Shared->Prop}{i:Nat}{x:Str}{v:V}{u:Value}{Q:Unit->Shared->Prop}(I:Inv X pins σ H s)(hN:X.N.Nodup)(hi:X.N[i]?=some x)(hx:Loc X.env.scope x)(r:RelV v u)
  (h:∀ s',Inv X pins (σ.set i (some v)) H s'->(∃ a,Heap.SameBut a s.heap s'.heap/\(a=X.env.locals\/X.env.cells.lookup x=some a))->Q () s') (hf:X.fn x=true\/X.env.scope.names.lookup x=some .local:=by first | exact .inl rfl | exact .inr rfl | assumption):wpAny M A (storeName X.env x u) Q E s:=by
 obtain ⟨m,hn,hl⟩:=id I.loc
 have hcls:(X.env.scope.kind==.class||(X.env.scope.kind==.module&&X.env.locals != X.env.globals))=false:=by rw [I.ok.kind];rfl
 have hiσ:i < σ.length:=by rw [I.len];exact (List.getElem?_eq_some_iff.mp hi).1
 have cne:=I.cne
 have tracked:∀ {a:Addr} {h':Heap},(∃ o,s.heap.get? a=some o/\H a=none)->Heap.SameBut a s.heap h'->HOk X.prog X.w H h':=fun {a h'} ha hs b ob e=>by
  obtain ⟨_,_,hfree⟩:=ha
  refine (I.hok b ob e).stay (fun c w' hc q=>(hs.2 c ?_).trans q) (fun _ q=>q) fun _ _ q=>q
  rintro rfl
  rcases hc with rfl | hc
  ·rw [hfree] at e;cases e
  ·rw [hfree] at hc;cases hc
 rcases hx with hk | hk
 ·refine wpAny_storeName_local hk hn (fun h' hn' hs=>?_) hcls
  obtain ⟨oL,_,_,hoL,_⟩:=id hn
  refine h _ ⟨I.ok,I.os,I.bare,⟨fun b o e n hb hx=>?_,fun b o e n hb hx=>?_,I.base.free,fun b o e hx=>?_,I.base.tups,I.base.frzs,I.base.tbls⟩,⟨_,hn',fun j y v' e1 e2 e3=>?_⟩,fun y c e=>?_,I.free,I.freeC,fun p hp=>?_,tracked ⟨oL,hoL,I.free⟩ hs,by simpa using I.len⟩ ⟨_,hs,.inl rfl⟩
  ·exact (hs.2 b (Nat.ne_of_lt (Nat.lt_of_lt_of_le (Heap.lt_size e) I.ok.above))).trans (I.base.keep b o e n hb hx)
  ·obtain ⟨sl,e1⟩:=I.base.slot b o e n hb hx
   exact ⟨sl,(hs.2 b (Nat.ne_of_lt (Nat.lt_of_lt_of_le (Heap.lt_size e) I.ok.above))).trans e1⟩
  ·obtain ⟨o',e1⟩:=I.base.there b o e hx
   exact ⟨o',(hs.2 b (Nat.ne_of_lt (Nat.lt_of_lt_of_le (Heap.lt_size e) I.ok.above))).trans e1⟩
  ·by_cases hj:j=i
   ·subst hj
    rw [hi] at e1;cases e1
    rw [List.getElem?_set_self hiσ] at e2
    cases e2
    exact ⟨u,r,.inl ⟨hk,by simp⟩⟩
   ·rw [List.getElem?_set_ne (Ne.symm hj)] at e2
    obtain ⟨u',r',q⟩:=hl j y v' e1 e2 e3
    refine ⟨u',r',?_⟩
    rcases q with ⟨k,e⟩ | ⟨k,c,e,z⟩
    ·refine .inl ⟨k,?_⟩
     have:y≠x:=fun e=>hj (nodup_ix hN e1 (e▸hi))
     simp [this,e]
    ·exact .inr ⟨k,c,e,z.sameBut hs (cne y c e)⟩
  ·obtain ⟨w',z⟩:=I.cell y c e
   exact ⟨w',z.sameBut hs (cne y c e)⟩
  ·obtain ⟨e,n,ne,nf,d⟩:=I.pin p hp
   exact ⟨(hs.2 p.1 ne).trans e,n,ne,nf,d⟩
 ·have hfn:X.fn x=true:=by
   rcases hf with z | z
   ·exact z
   ·rw [z] at hk;cases hk
  obtain ⟨c,hc⟩:=I.ok.has x (.inl hk)
  obtain ⟨w',z⟩:=I.cell x c hc
  refine wpAny_storeName_cell I.ok.kind hk hc z (fun h' hc' hs=>?_)
  obtain ⟨oc,hoc,hocd⟩:=id z
  refine h { s with heap:=h' } ⟨I.ok,I.os,I.bare,⟨fun b o e n hb hx=>?_,fun b o e n hb hx=>?_,I.base.free,fun b o e hx=>?_,I.base.tups,I.base.frzs,I.base.tbls⟩,⟨m,hn.sameBut hs (Ne.symm (cne x c hc)),fun j y v' e1 e2 e3=>?_⟩,fun y c' e=>?_,I.free,I.freeC,fun p hp=>?_,tracked ⟨oc,hoc,I.freeC x c hc⟩ hs,by simpa using I.len⟩ ⟨c,hs,.inr hc⟩
  ·exact (hs.2 b (Nat.ne_of_lt (Nat.lt_of_lt_of_le (Heap.lt_size e) (I.ok.cab x c hfn hc)))).trans (I.base.keep b o e n hb hx)
  ·obtain ⟨sl,e1⟩:=I.base.slot b o e n hb hx
   exact ⟨sl,(hs.2 b (Nat.ne_of_lt (Nat.lt_of_lt_of_le (Heap.lt_size e) (I.ok.cab x c hfn hc)))).trans e1⟩
  ·obtain ⟨o',e1⟩:=I.base.there b o e hx
   exact ⟨o',(hs.2 b (Nat.ne_of_lt (Nat.lt_of_lt_of_le (Heap.lt_size e) (I.ok.cab x c hfn hc)))).trans e1⟩
  ·by_cases hj:j=i
   ·subst hj
    rw [hi] at e1;cases e1
    rw [List.getElem?_set_self hiσ] at e2
    cases e2
    exact ⟨u,r,.inr ⟨.inl hk,c,hc,hc'⟩⟩
   ·rw [List.getElem?_set_ne (Ne.symm hj)] at e2
    obtain ⟨u',r',q⟩:=hl j y v' e1 e2 e3
    refine ⟨u',r',?_⟩
    rcases q with q | ⟨k,c',e,z'⟩
    ·exact .inl q
    ·refine .inr ⟨k,c',e,z'.sameBut hs ?_⟩
     rintro rfl
     exact hj (nodup_ix hN e1 (I.ok.inj _ _ _ e hc▸hi))
  ·by_cases hcc:c'=c
   ·subst hcc;exact ⟨_,hc'⟩
   ·obtain ⟨w2,z2⟩:=I.cell y c' e
    exact ⟨w2,z2.sameBut hs hcc⟩
  ·obtain ⟨e,n,ne,nf,d⟩:=I.pin p hp
   refine ⟨(hs.2 p.1 ?_).trans e,n,ne,nf,d⟩
   intro q
   rw [q,hoc] at e
   have q':oc=p.2:=Option.some.inj e
   exact d w' (by rw [<-q'];exact hocd)
theorem store_ok {M:Model}{A:Around}{E:Value->Shared->Prop}{i:Nat}{x:Str}{v:V}{u:Value}{Q:Unit->Shared->Prop}(I:Inv X pins σ H s)(hN:X.N.Nodup)(hi:X.N[i]?=some x)(hx:Loc X.env.scope x)(r:RelV v u)
  (h:∀ s',Inv X pins (σ.set i (some v)) H s'->Q () s') (hf:X.fn x=true\/X.env.scope.names.lookup x=some .local:=by first | exact .inl rfl | exact .inr rfl | assumption):wpAny M A (storeName X.env x u) Q E s :=
 store_ok2 I hN hi hx r (fun s' I' _=>h s' I') hf
theorem Inv.call' {s':Shared}{ch:List Addr}(I:Inv X pins σ H s)(ho:s'.os=s.os)(u:Un (frs X.stack) ch H H' s.heap s'.heap)(hok:HOk X.prog X.w H' s'.heap)(hg:AllBare s'.gens)
  (hch:∀ b∈ch,(b∈X.ex\/X.s₀.heap.objs.size<=b)/\b≠X.env.locals/\(∀ x c,X.env.cells.lookup x=some c->c≠b)/\∀ p∈X.pn++pins,p.1≠b):Inv X pins σ H' s':=by
 obtain ⟨h',g',d',t',o'⟩:=s'
 have e:o'=s.os:=ho
 subst e
 exact I.call (g':=g') (t':=t') (d':=d') u hok hg hch
end
noncomputable abbrev XK:=Value->Option Addr->Hp->Prop
noncomputable abbrev St:=List (Option V)
noncomputable abbrev VK:=V->Hp->Prop
noncomputable abbrev TE:=St->Hp->VK->Prop
noncomputable abbrev TT:=St->Hp->(Bool->Hp->Prop)->Prop
noncomputable abbrev TA:=St->Hp->(List V->Hp->Prop)->Prop
structure Ends where
 nx:St->Hp->Prop
 rt:VK
 bk:St->Hp->Prop:=fun _ _=>False
 ct:St->Hp->Prop:=fun _ _=>False
noncomputable abbrev TS:=Ends->St->Hp->Prop
noncomputable def EP (X:Cx)(pins:List (Addr×Obj))(σ:St)(Q:VK)(u:Value)(s':Shared):Prop:=∃ v H',Inv X pins σ H' s'/\RelV v u/\Q v H'
noncomputable def TP (X:Cx)(pins:List (Addr×Obj))(σ:St)(Q:Bool->Hp->Prop)(b:Bool)(s':Shared):Prop:=∃ H',Inv X pins σ H' s'/\Q b H'
noncomputable def AP (X:Cx)(pins:List (Addr×Obj))(σ:St)(Q:List V->Hp->Prop)(us:List Value)(s':Shared):Prop:=∃ vs H',Inv X pins σ H' s'/\Vals vs us/\Q vs H'
noncomputable def SP (X:Cx)(pins:List (Addr×Obj))(D:Ends)(f:Flow)(s':Shared):Prop :=
 match f with
 | .next=>∃ σ' H',Inv X pins σ' H' s'/\D.nx σ' H'
 | .brk=>∃ σ' H',Inv X pins σ' H' s'/\D.bk σ' H'
 | .cont=>∃ σ' H',Inv X pins σ' H' s'/\D.ct σ' H'
 | .ret u=>∃ v σ' H',Inv X pins σ' H' s'/\RelV v u/\D.rt v H'
noncomputable def PE (X:Cx)(e:Expr)(t:TE):Prop :=
 ∀ (pins:List (Addr×Obj)) (s:Shared) (σ:St) (H:Hp) (Q:VK),Inv X pins σ H s->t σ H Q->wpAny (model X.prog X.w) X.A (eval e X.env) (EP X pins σ Q) X.xe s
noncomputable def PT (X:Cx)(e:Expr)(t:TT):Prop :=
 ∀ (pins:List (Addr×Obj)) (s:Shared) (σ:St) (H:Hp) (Q:Bool->Hp->Prop),Inv X pins σ H s->t σ H Q->wpAny (model X.prog X.w) X.A (isTrue e X.env (eval e X.env)) (TP X pins σ Q) X.xe s
noncomputable def PW (X:Cx)(e:Expr)(t:TT):Prop :=
 ∀ (whole:Sem Value) (pins:List (Addr×Obj)) (s:Shared) (σ:St) (H:Hp) (Q:Bool->Hp->Prop),Inv X pins σ H s->t σ H Q->wpAny (model X.prog X.w) X.A (isTrue e X.env whole) (TP X pins σ Q) X.xe s
theorem PW.pt {X:Cx}{e:Expr}{t:TT}(h:PW X e t):PT X e t:=h _
noncomputable def PA (X:Cx)(es:List Expr)(t:TA):Prop :=
 ∀ (pos:Pos) (pins:List (Addr×Obj)) (s:Shared) (σ:St) (H:Hp) (Q:List V->Hp->Prop),Inv X pins σ H s->t σ H Q->wpAny (model X.prog X.w) X.A (spliced (backTo pos (starEach es X.env))) (AP X pins σ Q) X.xe s
noncomputable def PS (X:Cx)(st:Stmt)(t:TS):Prop :=
 ∀ (pins:List (Addr×Obj)) (s:Shared) (σ:St) (H:Hp) (D:Ends),Inv X pins σ H s->t D σ H->wpAny (model X.prog X.w) X.A (exec st X.env) (SP X pins D) X.xe s
noncomputable def PSs (X:Cx)(st:List Stmt)(t:TS):Prop :=
 ∀ (pins:List (Addr×Obj)) (s:Shared) (σ:St) (H:Hp) (D:Ends),Inv X pins σ H s->t D σ H->wpAny (model X.prog X.w) X.A (execs st X.env) (SP X pins D) X.xe s
theorem thn {α:Type}{t:Sem α}{Q Q':α->Shared->Prop}{M:Model}{A:Around}{E:Value->Shared->Prop}{s:Shared}(h:wpAny M A t Q E s)(hQ:∀ a s,Q a s->Q' a s):wpAny M A t Q' E s:=wpAny_mono h hQ fun _ _ x=>x
end L2
end
noncomputable section
namespace L2
open PySem PySem.Spec PyProof.Rows
section
variable {X:Cx}
theorem bin {a b:Expr}{ta tb:TE}(ha:PE X a ta)(hb:PE X b tb){pins:List (Addr×Obj)}{s:Shared}{σ:St}{H:Hp}{R:V->V->Hp->Prop}(I:Inv X pins σ H s)(h:ta σ H fun x H1=>tb σ H1 fun y H2=>R x y H2)
  {α:Type} {Q:α->Shared->Prop} {f:Value->Value->Sem α}
  (hf:∀ v u s2 x y H2,Inv X pins σ H2 s2->RelV x v->RelV y u->R x y H2->wpAny (model X.prog X.w) X.A (f v u) Q X.xe s2) :
  wpAny (model X.prog X.w) X.A (eval a X.env) (fun v s₁=>wpAny (model X.prog X.w) X.A (eval b X.env) (fun u s₂=>wpAny (model X.prog X.w) X.A (f v u) Q X.xe s₂) X.xe s₁) X.xe s:=by
 refine thn (ha pins s σ H _ I h) fun v s1 ⟨x,H1,I1,r1,q1⟩=>?_
 refine thn (hb pins s1 σ H1 _ I1 q1) fun u s2 ⟨y,H2,I2,r2,q2⟩=>?_
 exact hf v u s2 x y H2 I2 r1 r2 q2
noncomputable def tVar (i:Nat):TE:=fun σ H Q=>∃ v,σ[i]?=some (some v)/\Q v H
noncomputable def tC (v:V):TE:=fun _ H Q=>Q v H
theorem pe_var {i:Nat}{x:Str}{pos:Pos}(hN:X.N[i]?=some x)(hv:Vis X.env.scope x)(hd:(x==("__debug__":Str))=false:=by decide)(hcd:(x==("__classdict__":Str))=false:=by decide):PE X (.Name x pos) (tVar i):=by
 intro pins s σ H Q I h
 obtain ⟨v,e,h⟩:=h
 obtain ⟨m,hn,hl⟩:=I.loc
 obtain ⟨u,r,l⟩:=hl i x v hN e hv
 have fin:EP X pins σ Q u s:=⟨v,H,I,r,h⟩
 rcases l with ⟨hk,hm⟩ | ⟨hk,c,hc,hcell⟩
 ·exact wpAny_Name (wpAny_loadName_local I.ok.kind hk hn hm fin) hd
 ·rcases hk with hk | hk
  ·exact wpAny_Name (wpAny_loadName_cell I.ok.kind hk hc hcell fin) hd
  ·exact wpAny_Name (wpAny_loadName_free I.ok.kind hk hc hcell fin hcd) hd
theorem pe_int {i j pos}:PE X (.Constant (.int i) j pos) (tC (.int i)):=fun _ _ _ H _ I h=>wpAny_Constant_int ⟨.int i,H,I.tok _,⟨_,rfl⟩,h⟩
theorem pe_bl {b j pos}:PE X (.Constant (.bool b) j pos) (tC (.bl b)):=fun _ _ _ H _ I h=>Constant_bool ⟨.bl b,H,I,rfl,h⟩
theorem pe_non {j pos}:PE X (.Constant .none j pos) (tC .non):=fun _ _ _ H _ I h=>Constant_none ⟨.non,H,I,rfl,h⟩
theorem pe_str {x j pos}:PE X (.Constant (.str x) j pos) (tC (.str x)):=fun _ _ _ H _ I h=>Calls.Constant_str ⟨.str x,H,I.tok _,⟨_,rfl⟩,h⟩
noncomputable def Gl (X:Cx)(x:Str):Prop:=X.env.kindOf x=some .globalImplicit
theorem ld_glob {E:Value->Shared->Prop}{pins:List (Addr×Obj)}{s:Shared}{σ:St}{H:Hp}{x:Str}{u:Value}{pos:Pos}{Q:Value->Shared->Prop}(I:Inv X pins σ H s)(hg:Gl X x)(hm:X.mg x=some u)(h:Q u s)
  (hd:(x==("__debug__":Str))=false:=by decide):wpAny (model X.prog X.w) X.A (eval (.Name x pos) X.env) Q E s :=
 Calls.Name_function_global I.ok.kind hg (Calls.loadGlobal_global (by rw [I.ok.glob];exact I.mod.glob.keeps I.bk) hm h) hd
theorem ld_blt {E:Value->Shared->Prop}{pins:List (Addr×Obj)}{s:Shared}{σ:St}{H:Hp}{x:Str}{u:Value}{pos:Pos}{Q:Value->Shared->Prop}(I:Inv X pins σ H s)(hg:Gl X x)(hm:X.mg x=none)(hv:bootBuiltins x=some u)(h:Q u s)
  (hn:x ≠ "__name__":=by decide) (hd:(x==("__debug__":Str))=false:=by decide):wpAny (model X.prog X.w) X.A (eval (.Name x pos) X.env) Q E s:=by
 obtain ⟨mb,h1,h2⟩:=I.mod.blt
 exact Calls.Name_function_global I.ok.kind hg (Calls.loadGlobal_builtin (by rw [I.ok.glob];exact I.mod.glob.keeps I.bk) hm (by rw [I.ok.blt];exact h1.keeps I.bk) ((h2 x hn).trans hv) h) hd
theorem pe_glob {x:Str}{v:V}{u:Value}{pos:Pos}(hg:Gl X x)(hm:X.mg x=some u)(r:RelV v u)(hd:(x==("__debug__":Str))=false:=by decide):PE X (.Name x pos) (tC v) :=
 fun _ _ _ H _ I h=>ld_glob I hg hm ⟨v,H,I,r,h⟩ hd
theorem pe_bltn {x:Str}{v:V}{u:Value}{pos:Pos}(hg:Gl X x)(hm:X.mg x=none)(hv:bootBuiltins x=some u)(r:RelV v u)(hn:x ≠ "__name__":=by decide)(hd:(x==("__debug__":Str))=false:=by decide):PE X (.Name x pos) (tC v) :=
 fun _ _ _ H _ I h=>ld_blt I hg hm hv ⟨v,H,I,r,h⟩ hn hd
variable {a b:Expr} {ta tb:TE} {pos:Pos}
noncomputable def PC (X:Cx)(op:CmpOp)(a b:Expr)(t:TE):Prop :=
 ∀ (pins:List (Addr×Obj)) (s:Shared) (σ:St) (H:Hp) (Q:VK),Inv X pins σ H s->t σ H Q ->
  wpAny (model X.prog X.w) X.A (eval a X.env) (fun v s₁=>wpAny (model X.prog X.w) X.A (eval b X.env) (fun u s₂=>wpAny (model X.prog X.w) X.A (compareOp op v u) (EP X pins σ Q) X.xe s₂) X.xe s₁) X.xe s
theorem nobehind (b:Expr){op:CmpOp}(h:op≠.In)(h2:op≠.NotIn):behindInMarks op b=false:=by
 have e1:(op==CmpOp.In)=false:=by cases op<;>first | rfl | exact absurd rfl h
 have e2:(op==CmpOp.NotIn)=false:=by cases op<;>first | rfl | exact absurd rfl h2
 cases b<;>simp [behindInMarks,e1,e2]
noncomputable def tIsN (ta:TE):TE:=fun σ H Q=>ta σ H fun x H1=>Q (.bl (decide (x=.non))) H1
noncomputable def tNotN (ta:TE):TE:=fun σ H Q=>ta σ H fun x H1=>Q (.bl (!decide (x=.non))) H1
theorem RelV.none_iff {x:V}{v:Value}(r:RelV x v):(v==Value.none)=decide (x=.non):=by
 cases x with
 | non=>cases r;rfl
 | bl _=>cases r;rfl
 | int _=>obtain ⟨t,rfl⟩:=r;rfl
 | str _=>obtain ⟨t,rfl⟩:=r;rfl
 | byt _=>obtain ⟨t,rfl⟩:=r;rfl
 | flt _=>obtain ⟨t,rfl⟩:=r;rfl
 | ref _=>cases r;rfl
 | ty _=>cases r;rfl
theorem pc_isN {j pos'}(ha:PE X a ta):PC X .Is a (.Constant .none j pos') (tIsN ta):=by
 intro pins s σ H Q I h
 refine thn (ha pins s σ H _ I h) fun v s1 ⟨x,H1,I1,r1,q1⟩=>?_
 exact Constant_none (is_none_gen ⟨.bl _,H1,I1,by rw [r1.none_iff];rfl,q1⟩)
theorem pc_notN {j pos'}(ha:PE X a ta):PC X .IsNot a (.Constant .none j pos') (tNotN ta):=by
 intro pins s σ H Q I h
 refine thn (ha pins s σ H _ I h) fun v s1 ⟨x,H1,I1,r1,q1⟩=>?_
 exact Constant_none (isnot_none_gen ⟨.bl _,H1,I1,by rw [r1.none_iff];rfl,q1⟩)
noncomputable def tB (t:TE):TT:=fun σ H Q=>t σ H fun x H1=>∃ c,x=.bl c/\Q c H1
theorem pe_cmp {op:CmpOp}{t:TE}(h:PC X op a b t)(h1:behindInMarks op b=false:=by first | exact nobehind _ (by decide) (by decide) | rfl):PE X (.Compare a [op] [b] pos) t:=fun pins s σ H Q I hw=>wpAny_Compare1 (h pins s σ H Q I hw) h1
theorem pt_cmp {op:CmpOp}{t:TE}(h:PC X op a b t)(h1:behindInMarks op b=false:=by first | exact nobehind _ (by decide) (by decide) | rfl):PT X (.Compare a [op] [b] pos) (tB t):=by
 intro pins s σ H Q I hw
 refine wpAny_isTrue_Compare1 (thn (h pins s σ H _ I hw) fun v s1 h1=>thn h1 fun u s2 h2=>thn h2 fun c s3 ⟨x,H1,I1,r1,q1⟩=>?_) h1
 obtain ⟨d,rfl,q⟩:=q1
 cases r1
 exact wpAny_truthy_bool ⟨H1,I1,q⟩
theorem pt_val {e:Expr}{t:TE}(h:PE X e t)(he:∀ whole,isTrue e X.env whole=(do let v <- whole;standAt e.pos;holding [v] (truthy v)):=by intro _;rfl):PT X e (tB t):=by
 intro pins s σ H Q I hw
 refine isTrue_plain (thn (h pins s σ H _ I hw) fun v s1 ⟨x,H1,I1,r1,q1⟩=>?_) (he _)
 obtain ⟨d,rfl,q⟩:=q1
 cases r1
 exact wpAny_truthy_bool ⟨H1,I1,q⟩
variable {tA tB':TT} {rest:List Expr}
noncomputable def tAnd (t u:TT):TT:=fun σ H Q=>t σ H fun c H1=>if c=true then u σ H1 Q else Q false H1
noncomputable def tOr (t u:TT):TT:=fun σ H Q=>t σ H fun c H1=>if c=true then Q true H1 else u σ H1 Q
noncomputable def tNot (t:TT):TT:=fun σ H Q=>t σ H fun c H1=>Q (!c) H1
theorem pw_and1 (ha:PT X a tA):PW X (.BoolOp .And [a] pos) tA:=by
 intro wh pins s σ H Q I h
 refine isTrue_and (thn (ha pins s σ H Q I h) fun c s1 e=>?_)
 cases c with
 | true=>exact isTrue_and_nil e
 | false=>exact e
theorem pw_or1 (ha:PT X a tA):PW X (.BoolOp .Or [a] pos) tA:=by
 intro wh pins s σ H Q I h
 refine isTrue_or (thn (ha pins s σ H Q I h) fun c s1 e=>?_)
 cases c with
 | false=>exact isTrue_or_nil e
 | true=>exact e
theorem pw_and (ha:PT X a tA)(hb:PW X (.BoolOp .And (b::rest) pos) tB'):PW X (.BoolOp .And (a::b::rest) pos) (tAnd tA tB'):=by
 intro wh pins s σ H Q I h
 refine isTrue_and (thn (ha pins s σ H _ I h) fun c s1 ⟨H1,I1,q1⟩=>?_)
 cases c with
 | true=>exact hb wh pins s1 σ H1 Q I1 q1
 | false=>exact ⟨H1,I1,q1⟩
theorem pw_or (ha:PT X a tA)(hb:PW X (.BoolOp .Or (b::rest) pos) tB'):PW X (.BoolOp .Or (a::b::rest) pos) (tOr tA tB'):=by
 intro wh pins s σ H Q I h
 refine isTrue_or (thn (ha pins s σ H _ I h) fun c s1 ⟨H1,I1,q1⟩=>?_)
 cases c with
 | true=>exact ⟨H1,I1,q1⟩
 | false=>exact hb wh pins s1 σ H1 Q I1 q1
theorem pt_not (ha:PT X a tA):PT X (.UnaryOp .Not a pos) (tNot tA):=by
 intro pins s σ H Q I h
 exact isTrue_not (ha pins s σ H (fun c H1=>Q (!c) H1) I h)
noncomputable def tAndV (ta tb:TE):TE:=fun σ H Q=>ta σ H fun x H1=>∃ c,x=.bl c/\if c=true then tb σ H1 Q else Q (.bl false) H1
noncomputable def tOrV (ta tb:TE):TE:=fun σ H Q=>ta σ H fun x H1=>∃ c,x=.bl c/\if c=true then Q (.bl true) H1 else tb σ H1 Q
noncomputable def tNotV (ta:TE):TE:=fun σ H Q=>ta σ H fun x H1=>∃ c,x=.bl c/\Q (.bl (!c)) H1
theorem pe_one {op}{t:TE}(h:PE X a t):PE X (.BoolOp op [a] pos) t:=fun pins s σ H Q I hw=>BoolOp_one (h pins s σ H Q I hw)
theorem pe_and (ha:PE X a ta)(hb:PE X (.BoolOp .And (b::rest) pos) tb):PE X (.BoolOp .And (a::b::rest) pos) (tAndV ta tb):=by
 intro pins s σ H Q I h
 refine BoolOp_and (thn (ha pins s σ H _ I h) fun v s1 ⟨x,H1,I1,r1,q1⟩=>?_)
 obtain ⟨c,rfl,q1⟩:=q1
 cases r1
 refine wpAny_truthy_bool ?_
 cases c with
 | true=>exact hb pins s1 σ H1 Q I1 q1
 | false=>exact ⟨.bl false,H1,I1,rfl,q1⟩
theorem pe_or (ha:PE X a ta)(hb:PE X (.BoolOp .Or (b::rest) pos) tb):PE X (.BoolOp .Or (a::b::rest) pos) (tOrV ta tb):=by
 intro pins s σ H Q I h
 refine BoolOp_or (thn (ha pins s σ H _ I h) fun v s1 ⟨x,H1,I1,r1,q1⟩=>?_)
 obtain ⟨c,rfl,q1⟩:=q1
 cases r1
 refine wpAny_truthy_bool ?_
 cases c with
 | false=>exact hb pins s1 σ H1 Q I1 q1
 | true=>exact ⟨.bl true,H1,I1,rfl,q1⟩
theorem pe_not (ha:PE X a ta):PE X (.UnaryOp .Not a pos) (tNotV ta):=by
 intro pins s σ H Q I h
 refine UnaryOp_ (thn (ha pins s σ H _ I h) fun v s1 ⟨x,H1,I1,r1,q1⟩=>?_)
 obtain ⟨c,rfl,q1⟩:=q1
 cases r1
 exact not_of (wpAny_truthy_bool ⟨.bl (!c),H1,I1,rfl,q1⟩)
noncomputable def tIf (t:TT)(ta tb:TE):TE:=fun σ H Q=>t σ H fun c H1=>if c=true then ta σ H1 Q else tb σ H1 Q
theorem pe_ifExp {c:Expr}(hc:PT X c tA)(ha:PE X a ta)(hb:PE X b tb):PE X (.IfExp c a b pos) (tIf tA ta tb):=by
 intro pins s σ H Q I h
 refine wpAny_IfExp (thn (hc pins s σ H _ I h) fun d s1 ⟨H1,I1,q1⟩=>?_)
 cases d with
 | true=>exact ha pins s1 σ H1 Q I1 q1
 | false=>exact hb pins s1 σ H1 Q I1 q1
end
end L2
end
noncomputable section
namespace L2
open PySem PySem.Spec PyProof.Rows
noncomputable def SqL (K:PySem.W.Frag)(H:Hp)(a:Addr)(xs:List V):Prop :=
 Rd H a (.lst xs) \/
  ∃ (o:Obj) (its:Array Value) (n:Nat),K.lookup a=some o/\o.cls=.type "list"/\o.dict=none/\o.data=.seq its n/\its.size<=sizeLine/\Vals xs its.toList
noncomputable def SqT (K:PySem.W.Frag)(H:Hp)(a:Addr)(xs:List V):Prop :=
 Rd H a (.tup xs) \/
  ∃ (o:Obj) (its:Array Value) (n:Nat),K.lookup a=some o/\o.cls=.type "tuple"/\o.data=.seq its n/\its.size<=sizeLine/\Vals xs its.toList
noncomputable def absV:Value->Option V
 | .none=>some .non
 | .bool b=>some (.bl b)
 | .int i _=>some (.int i)
 | .str x _=>some (.str x)
 | .bytes b _=>some (.byt b)
 | .float b _=>some (.flt b)
 | .ref a=>some (.ref a)
 | .type n=>some (.ty n)
 | _=>none
theorem RelV.abs {x:V}{u:Value}(r:RelV x u):absV u=some x:=by
 cases x with
 | non=>cases r;rfl
 | bl _=>cases r;rfl
 | int _=>obtain ⟨t,rfl⟩:=r;rfl
 | str _=>obtain ⟨t,rfl⟩:=r;rfl
 | byt _=>obtain ⟨t,rfl⟩:=r;rfl
 | flt _=>obtain ⟨t,rfl⟩:=r;rfl
 | ref _=>cases r;rfl
 | ty _=>cases r;rfl
theorem RelV.inj {x y:V}{u:Value}(r:RelV x u)(q:RelV y u):x=y:=Option.some.inj (r.abs.symm.trans q.abs)
theorem Vals.inj:∀ {xs ys:List V} {us:List Value},Vals xs us->Vals ys us->xs=ys
 | _,_,_,.nil,.nil=>rfl
 | _,_,_,.cons r t,.cons r' t'=>by rw [r.inj r',Vals.inj t t']
section
variable {X:Cx} {pins:List (Addr×Obj)} {σ:St} {H:Hp} {s:Shared} {a:Addr} {xs ys:List V}
theorem SqL.of {K:PySem.W.Frag}(h:H a=some (.lst xs)):SqL K H a xs:=.inl (.inl h)
theorem SqT.of {K:PySem.W.Frag}(h:H a=some (.tup xs)):SqT K H a xs:=.inl (.inl h)
theorem Inv.list (I:Inv X pins σ H s)(h:SqL X.K H a xs):∃ its:List Value,Vals xs its/\PlainL s.heap a its.toArray/\xs.length<=sizeLine:=by
 rcases h with h | ⟨o,its,n,hk,hc,hd,hs,hz,r⟩
 ·obtain ⟨z,its,n,r,e⟩:=h.ok I.hok
  exact ⟨its,r,⟨_,n,e,rfl,rfl,rfl⟩,z⟩
 ·refine ⟨its.toList,r,⟨o,n,I.kIn a o hk,hc,hd,by simpa using hs⟩,?_⟩
  have e:=r.length
  simp only [Array.length_toList] at e
  omega
theorem Inv.tuple (I:Inv X pins σ H s)(h:SqT X.K H a xs):∃ its:List Value,Vals xs its/\IsTup s.heap a its.toArray/\xs.length<=sizeLine:=by
 rcases h with h | ⟨o,its,n,hk,hc,hs,hz,r⟩
 ·obtain ⟨z,its,r,p⟩:=h.ok I.hok
  exact ⟨its,r,p,z⟩
 ·refine ⟨its.toList,r,⟨o,I.kIn a o hk,hc,n,by simpa using hs⟩,?_⟩
  have e:=r.length
  simp only [Array.length_toList] at e
  omega
theorem Inv.list_inj (I:Inv X pins σ H s)(h:SqL X.K H a xs)(h':SqL X.K H a ys):xs=ys:=by
 obtain ⟨its,r,⟨o,n,e,_,_,d⟩,_⟩:=I.list h
 obtain ⟨its',r',⟨o',n',e',_,_,d'⟩,_⟩:=I.list h'
 rw [e] at e';cases e'
 rw [d] at d'
 injection d' with d1 _
 have:its=its':=by simpa using congrArg Array.toList d1
 subst this
 exact r.inj r'
theorem Inv.tuple_inj (I:Inv X pins σ H s)(h:SqT X.K H a xs)(h':SqT X.K H a ys):xs=ys:=by
 obtain ⟨its,r,⟨o,e,_,n,d⟩,_⟩:=I.tuple h
 obtain ⟨its',r',⟨o',e',_,n',d'⟩,_⟩:=I.tuple h'
 rw [e] at e';cases e'
 rw [d] at d'
 injection d' with d1 _
 have:its=its':=by simpa using congrArg Array.toList d1
 subst this
 exact r.inj r'
end
noncomputable abbrev Cx.wish (X:Cx)(E:Value->Shared->Prop):Cx:={ X with xe:=E }
noncomputable abbrev Cx.nox (X:Cx):Cx:=X.wish fun _ _=>False
theorem Cx.Ok.wish {X:Cx}(ok:X.Ok)(E:Value->Shared->Prop):(X.wish E).Ok :=
 ⟨ok.mod,ok.kind,ok.glob,ok.blt,ok.above,ok.inj,ok.has,ok.cab,ok.hd,ok.frames,ok.stk,ok.exf,ok.bs,ok.bsz,ok.noex,ok.exfs,ok.funs,ok.frf⟩
theorem Cx.Ok.unwish {X:Cx}{E:Value->Shared->Prop}(ok:(X.wish E).Ok):X.Ok :=
 ⟨ok.mod,ok.kind,ok.glob,ok.blt,ok.above,ok.inj,ok.has,ok.cab,ok.hd,ok.frames,ok.stk,ok.exf,ok.bs,ok.bsz,ok.noex,ok.exfs,ok.funs,ok.frf⟩
section
variable {X:Cx} {pins:List (Addr×Obj)} {σ:St} {H:Hp} {s:Shared} {E:Value->Shared->Prop}
theorem Inv.wish (I:Inv X pins σ H s)(E:Value->Shared->Prop):Inv (X.wish E) pins σ H s:=⟨I.ok.wish E,I.os,I.bare,I.base,I.loc,I.cell,I.free,I.freeC,I.pin,I.hok,I.len⟩
theorem Inv.unwish (I:Inv (X.wish E) pins σ H s):Inv X pins σ H s:=⟨I.ok.unwish,I.os,I.bare,I.base,I.loc,I.cell,I.free,I.freeC,I.pin,I.hok,I.len⟩
theorem SP.unwish {D:Ends}{f:Flow}{s':Shared}(h:SP (X.wish E) pins D f s'):SP X pins D f s':=by
 cases f with
 | next=>obtain ⟨σ',H',I,q⟩:=h;exact ⟨σ',H',I.unwish,q⟩
 | brk=>obtain ⟨σ',H',I,q⟩:=h;exact ⟨σ',H',I.unwish,q⟩
 | cont=>obtain ⟨σ',H',I,q⟩:=h;exact ⟨σ',H',I.unwish,q⟩
 | ret u=>obtain ⟨v,σ',H',I,r,q⟩:=h;exact ⟨v,σ',H',I.unwish,r,q⟩
theorem PSs.nox {st:List Stmt}{t:TS}(h:PSs X.nox st t):PSs X st t:=fun pins s σ H D I hw =>
 wpAny_mono (h pins s σ H D (I.wish _) hw) (fun _ _ q=>q.unwish) fun _ _ z=>False.elim z
end
section
variable {X:Cx} {st:Stmt} {rest:List Stmt} {t u:TS} {e:Expr} {te:TE} {pos:Pos}
noncomputable def tNext:TS:=fun D σ H=>D.nx σ H
noncomputable def tSeq (t u:TS):TS:=fun D σ H=>t { D with nx:=u D } σ H
theorem pss_nil:PSs X [] tNext:=fun _ _ σ H _ I h=>wpAny_execs_nil ⟨σ,H,I,h⟩
theorem pss_cons (h1:PS X st t)(h2:PSs X rest u):PSs X (st::rest) (tSeq t u):=by
 intro pins s σ H D I h
 refine wpAny_execs_cons (thn (h1 pins s σ H { D with nx:=u D } I h) fun f s1 q=>?_)
 cases f with
 | next =>
  obtain ⟨σ',H',I',q⟩:=q
  exact h2 pins s1 σ' H' D I' q
 | ret v=>exact q
 | brk=>exact q
 | cont=>exact q
theorem Inv.quiet {pins:List (Addr×Obj)}{σ:St}{H:Hp}{s:Shared}(I:Inv X pins σ H s):interactive X.env=false:=by simp [interactive,I.ok.kind]
noncomputable def tDrop (te:TE):TS:=fun D σ H=>te σ H fun _ H1=>D.nx σ H1
theorem ps_expr (he:PE X e te)(hs:swapsWith e none pos.line X.env=pure false:=by rfl):PS X (.Expr e pos) (tDrop te):=by
 intro pins s σ H D I h
 exact wpAny_Expr_any (thn (he pins s σ H _ I h) fun v s1 ⟨x,H1,I1,r1,q1⟩=>⟨σ,H1,I1,q1⟩) I.quiet hs
noncomputable def tRet (te:TE):TS:=fun D σ H=>te σ H D.rt
theorem ps_ret (he:PE X e te):PS X (.Return (some e) pos) (tRet te):=by
 intro pins s σ H D I h
 exact wpAny_Return_some (thn (he pins s σ H _ I h) fun v s1 ⟨x,H1,I1,r1,q1⟩=>⟨x,σ,H1,I1,r1,q1⟩)
noncomputable def tIfS (c:TT)(t u:TS):TS:=fun D σ H=>c σ H fun b H1=>if b=true then t D σ H1 else u D σ H1
theorem ps_if {c:Expr}{a b:List Stmt}{tc:TT}(hc:PT X c tc)(ha:PSs X a t)(hb:PSs X b u):PS X (.If c a b pos) (tIfS tc t u):=by
 intro pins s σ H D I h
 refine wpAny_If (thn (hc pins s σ H _ I h) fun d s1 ⟨H1,I1,q1⟩=>?_)
 cases d with
 | true=>exact ha pins s1 σ H1 D I1 q1
 | false=>exact hb pins s1 σ H1 D I1 q1
noncomputable def tNever:TS:=fun _ _ _=>False
theorem ps_never:PS X st tNever:=fun _ _ _ _ _ _ h=>h.elim
end
noncomputable abbrev TG:=V->St->Hp->(St->Hp->Prop)->Prop
noncomputable abbrev TGs:=List V->St->Hp->(St->Hp->Prop)->Prop
noncomputable def PG (X:Cx)(target:Expr)(t:TG):Prop :=
 ∀ (pins:List (Addr×Obj)) (s:Shared) (σ:St) (H:Hp) (v:V) (u:Value) (Q:St->Hp->Prop),Inv X pins σ H s->RelV v u->t v σ H Q ->
  wpAny (model X.prog X.w) X.A (assign target X.env u) (fun _ s'=>∃ σ' H',Inv X pins σ' H' s'/\Q σ' H') X.xe s
noncomputable def PGs (X:Cx)(ts:List Expr)(t:TGs):Prop :=
 ∀ (pins:List (Addr×Obj)) (s:Shared) (σ:St) (H:Hp) (vs:List V) (us:List Value) (Q:St->Hp->Prop),Inv X pins σ H s->Vals vs us->t vs σ H Q ->
  wpAny (model X.prog X.w) X.A (assignInOrder ((assignEach ts X.env).map (·.2)) us) (fun _ s'=>∃ σ' H',Inv X pins σ' H' s'/\Q σ' H') X.xe s
noncomputable abbrev TSet:=V->V->V->Hp->(Hp->Prop)->Prop
noncomputable def PSet (X:Cx)(t:TSet):Prop :=
 ∀ (pins:List (Addr×Obj)) (s:Shared) (σ:St) (H:Hp) (o i v:V) (ov iv u:Value) (Q:Hp->Prop),Inv X pins σ H s->RelV o ov->RelV i iv->RelV v u->t o i v H Q ->
  wpAny (model X.prog X.w) X.A (setItem ov iv u) (fun _ s'=>∃ H',Inv X pins σ H' s'/\Q H') X.xe s
section
variable {X:Cx} {pos:Pos}
noncomputable def gName (i:Nat):TG:=fun v σ H Q=>Q (σ.set i (some v)) H
theorem pg_name {i:Nat}{x:Str}(hN:X.N.Nodup)(hi:X.N[i]?=some x)(hx:Loc X.env.scope x)(hf:X.fn x=true\/X.env.scope.names.lookup x=some .local:=by first | exact .inl rfl | exact .inr rfl | assumption):PG X (.Name x pos) (gName i):=by
 intro pins s σ H v u Q I r h
 exact wpAny_assign_Name (store_ok I hN hi hx r (fun s' I'=>⟨_,H,I',h⟩) hf)
noncomputable def gNil:TGs:=fun vs σ H Q=>vs=[]/\Q σ H
noncomputable def gCons (t:TG)(u:TGs):TGs:=fun vs σ H Q=>∃ v r,vs=v::r/\t v σ H fun σ' H'=>u r σ' H' Q
theorem pgs_nil:PGs X [] gNil:=by
 intro pins s σ H vs us Q I r h
 obtain ⟨e,h⟩:=h
 subst e
 cases r
 exact assignInOrder_nil ⟨σ,H,I,h⟩
theorem pgs_cons {e:Expr}{es:List Expr}{t:TG}{u:TGs}(h1:PG X e t)(h2:PGs X es u)
  (hs:(assignEach (e::es) X.env).map (·.2)=assign e X.env::(assignEach es X.env).map (·.2):=by rfl):PGs X (e::es) (gCons t u):=by
 intro pins s σ H vs us Q I r h
 obtain ⟨v,vr,e1,h⟩:=h
 subst e1
 cases r with
 | cons r rr =>
  rw [hs]
  refine assignInOrder_cons (thn (h1 pins s σ H _ _ _ I r h) fun _ s1 ⟨σ1,H1,I1,q1⟩=>?_)
  exact h2 pins s1 σ1 H1 _ _ Q I1 rr q1
noncomputable def gTup (K:PySem.W.Frag)(n:Nat)(t:TGs):TG:=fun v σ H Q=>∃ a xs,v=.ref a/\SqT K H a xs/\xs.length=n/\t xs σ H Q
theorem pg_tup {es:List Expr}{k:Nat}{t:TGs}{n:Nat}(hc:X.calm=true)(h:PGs X es t)
  (hn:(assignEach es X.env).length=n:=by rfl) (hst:(assignEach es X.env).findIdx? (·.1)=none:=by rfl):PG X (.Tuple es k pos) (gTup X.K n t):=by
 intro pins s σ H v u Q I r hw
 obtain ⟨a,xs,e1,hq,hl,hw⟩:=hw
 subst e1
 cases r
 obtain ⟨its,rv,ht,hz⟩:=I.tuple hq
 refine assign_Tuple_tuple (I.ok.hd hc) ht (by simp [hn,<-hl,rv.length]) hst fun h' hx=>?_
 have I1:Inv X pins σ H { s with heap:=h' }:=I.kept (t':=s.toks) fun b o e=>hx b o (Nat.ne_of_lt (Heap.lt_size e)) e
 exact h pins _ σ H xs _ Q I1 (by simpa using rv) hw
noncomputable def gSub (to ti:TE)(t:TSet):TG:=fun v σ H Q=>to σ H fun o H1=>ti σ H1 fun i H2=>t o i v H2 fun H3=>Q σ H3
theorem pg_sub {o i:Expr}{to ti:TE}{t:TSet}(ho:PE X o to)(hi:PE X i ti)(hs:PSet X t)
  (ha:∀ v,assign (.Subscript o i pos) X.env v=(do
   let ov <- holding [v] (eval o X.env)
   let iv <- holding [v,ov] (eval i X.env)
   standAt pos
   holding [v,ov,iv] (setItem ov iv v)
   release [v,ov,iv] []):=by intro _;rfl):PG X (.Subscript o i pos) (gSub to ti t):=by
 intro pins s σ H v u Q I r h
 rw [ha]
 refine wpAny_bind (wpAny_holding (thn (ho pins s σ H _ I h) fun ov s1 ⟨x,H1,I1,r1,q1⟩=>?_))
 refine wpAny_bind (wpAny_holding (thn (hi pins s1 σ H1 _ I1 q1) fun iv s2 ⟨y,H2,I2,r2,q2⟩=>?_))
 refine wpAny_bind (wpAny_standAt (wpAny_bind (wpAny_holding (thn (hs pins s2 σ H2 x y v ov iv u _ I2 r1 r2 r q2) fun _ s3 ⟨H3,I3,q3⟩=>?_))))
 exact wpAny_release ⟨σ,H3,I3,q3⟩
noncomputable def tAsg (te:TE)(g:TG):TS:=fun D σ H=>te σ H fun x H1=>g x σ H1 D.nx
theorem ps_asg {tg e:Expr}{te:TE}{g:TG}(he:PE X e te)(hg:PG X tg g)(hs:swapsWithSole [tg] e pos.line X.env=pure false:=by rfl)(hw:swappedStores [tg] e X.env=pure none:=by rfl)
  (h1:(assignEach [tg] X.env).map (·.2)=[assign tg X.env]:=by rfl):PS X (.Assign [tg] e pos) (tAsg te g):=by
 intro pins s σ H D I h
 refine wpAny_Assign_stores (thn (he pins s σ H _ I h) fun v s1 ⟨x,H1,I1,r1,q1⟩=>?_) hs hw
 rw [h1]
 exact thn (hg pins s1 σ H1 x v _ I1 r1 q1) fun _ s2 q=>q
theorem ps_set {i:Nat}{x:Str}{e:Expr}{te:TE}{pos':Pos}(hN:X.N.Nodup)(hi:X.N[i]?=some x)(hx:Loc X.env.scope x)(he:PE X e te)(hs:swapsWith e (some (.Name x pos')) pos.line X.env=pure false:=by rfl)(hf:X.fn x=true\/X.env.scope.names.lookup x=some .local:=by first | exact .inl rfl | exact .inr rfl | assumption) :
  PS X (.Assign [.Name x pos'] e pos) (tAsg te (gName i)):=by
 intro pins s σ H D I h
 refine wpAny_Assign_Name (thn (he pins s σ H _ I h) fun v s1 ⟨y,H1,I1,r1,q1⟩=>?_) hs
 exact store_ok I1 hN hi hx r1 (fun s2 I2=>⟨_,H1,I2,q1⟩) hf
end
section
variable {X:Cx} {pos:Pos}
end
structure It where
 go:Nat->Hp->Prop
 yld:Nat->Hp->V->Hp->Prop
 stop:Nat->Hp->Prop
noncomputable def FpOk (X:Cx)(pins:List (Addr×Obj))(H:Hp)(b:Addr):Prop :=
 H b=none/\b≠X.env.locals/\b ∉ X.fs/\(b∈X.ex\/X.s₀.heap.objs.size<=b)/\(∀ x c,X.env.cells.lookup x=some c->c≠b)/\∀ p∈X.pn++pins,p.1≠b
theorem Inv.fpOk {X:Cx}{pins:List (Addr×Obj)}{σ:St}{H H':Hp}{s:Shared}{b:Addr}(I:Inv X pins σ H s)(hb:s.heap.objs.size<=b)(hn:H' b=none):FpOk X pins H' b:=by
 refine ⟨hn,Nat.ne_of_gt (Nat.lt_of_lt_of_le I.lt hb),I.nofs hb,.inr (Nat.le_trans I.sz hb),fun x c e z=>?_,fun p hp z=>?_⟩
 ·obtain ⟨v,q⟩:=I.cell x c e
  exact absurd (Nat.lt_of_lt_of_le q.lt (by rw [z];exact hb)) (Nat.lt_irrefl _)
 ·exact absurd (Nat.lt_of_lt_of_le (Heap.lt_size (I.pin p hp).1) (by rw [z];exact hb)) (Nat.lt_irrefl _)
structure Turn (P:Program)(w:World)(K:PySem.W.Frag)(tg:Expr)(J:It)(fp:List Addr)(it:Addr)(tn:Nat->Heap->Prop):Prop where
 mem:it∈fp
 obj:∀ i h,tn i h->∀ b∈fp,∃ o,h.get? b=some o/\∀ v,o.data≠.cell v
 keep:∀ i h h',tn i h->(∀ b∈fp,∀ o,h.get? b=some o->h'.get? b=some o)->tn i h'
 item:∀ (X:Cx),X.prog=P->X.w=w->X.K=K->X.calm=true->∀ (i:Nat) (pins:List (Addr×Obj)) (s:Shared) (σ:St) (H:Hp) (E:Value->Shared->Prop),Inv X pins σ H s->(∀ b∈fp,FpOk X pins H b)->tn i s.heap->J.go i H ->
  wpAny (model P w) X.A (pyNext (.ref it)) (fun r s1=>∃ u,r=some u /\
   wpAny (model P w) X.A (letOwnedTupleGo tg (.ref it) u) (fun _ s2=>∃ x H',Inv X pins σ H' s2/\RelV x u/\J.yld i H x H'/\tn (i+1) s2.heap/\∀ b∈fp,H' b=none) E s1) E s
 done:∀ (X:Cx),X.prog=P->X.w=w->X.K=K->X.calm=true->∀ (i:Nat) (pins:List (Addr×Obj)) (s:Shared) (σ:St) (H:Hp) (E:Value->Shared->Prop),Inv X pins σ H s->(∀ b∈fp,FpOk X pins H b)->tn i s.heap->J.stop i H ->
  wpAny (model P w) X.A (pyNext (.ref it)) (fun r s1=>r=none/\Inv X pins σ H s1) E s
 self:∀ (A:Around) (i:Nat) (s:Shared) (Q:Value->Shared->Prop) (E:Value->Shared->Prop),tn i s.heap->Q (.ref it) s->wpAny (model P w) A (pyIter (.ref it)) Q E s
noncomputable abbrev TI:=St->Hp->(It->Hp->Prop)->Prop
noncomputable def PIE (X:Cx)(pins:List (Addr×Obj))(σ:St)(tg:Expr)(R:It->Hp->Prop)(itv:Value)(s2:Shared):Prop :=
 ∃ (it:Addr) (fp:List Addr) (tn:Nat->Heap->Prop) (J:It) (H':Hp),itv=.ref it/\Inv X pins σ H' s2/\Turn X.prog X.w X.K tg J fp it tn/\tn 0 s2.heap/\(∀ b∈fp,FpOk X pins H' b)/\R J H'
noncomputable def PI (X:Cx)(tg iter:Expr)(wi:TI):Prop :=
 ∀ (pins:List (Addr×Obj)) (s:Shared) (σ:St) (H:Hp) (R:It->Hp->Prop),Inv X pins σ H s->wi σ H R ->
  wpAny (model X.prog X.w) X.A (eval iter X.env) (fun v s1=>wpAny (model X.prog X.w) X.A (pyIter v) (PIE X pins σ tg R) X.xe s1) X.xe s
theorem go_of {M : Model} {A : Around} {E : Value -> Shared -> Prop} {s : Shared} {tg : Expr} {it : Addr} {u : Value} {o : Obj} {n : String} {vs : Array Value} {Q : Unit -> Shared -> Prop} (ho : s.heap.get? it = some o) (hc : o.cls = .type n) (hd : o.data = .fields vs)
    (hn : ["enumerate", "zip", "dict_itemiterator", "dict_reverseitemiterator", "odict_iterator", "itertools.zip_longest", "itertools.pairwise"].contains n = false) (hQ : Q () s) : wpAny M A (letOwnedTupleGo tg (.ref it) u) Q E s := by
  unfold letOwnedTupleGo
  cases tg <;> first
    | exact wpAny_pure hQ
    | (cases u <;> first
        | exact wpAny_pure hQ
        | (refine wpAny_bind (wpAny_load ho ?_)
           rw [hc, hd]
           show wpAny M A (if (["enumerate", "zip", "dict_itemiterator", "dict_reverseitemiterator", "odict_iterator", "itertools.zip_longest", "itertools.pairwise"].contains n && vs[0]? == some (rawInt _)) = true then _ else _) Q E s
           rw [if_neg (by intro h; rw [hn, Bool.false_and] at h; cases h)]
           exact wpAny_pure hQ))
noncomputable def Itl (K:PySem.W.Frag)(a:Addr):It :=
 ⟨fun i H=>∃ xs x,SqL K H a xs/\xs[i]?=some x,fun i H x H'=>H'=H/\∀ xs,SqL K H a xs->xs[i]?=some x,fun i H=>∃ xs,SqL K H a xs/\xs.length<=i⟩
noncomputable def Itt (K:PySem.W.Frag)(a:Addr):It :=
 ⟨fun i H=>∃ xs x,SqT K H a xs/\xs[i]?=some x,fun i H x H'=>H'=H/\∀ xs,SqT K H a xs->xs[i]?=some x,fun i H=>∃ xs,SqT K H a xs/\xs.length<=i⟩
noncomputable def Itr (lo:Int)(n:Nat):It:=⟨fun i _=>i<n,fun i H x H'=>H'=H/\x=.int (lo+i),fun i _=>n<=i⟩
theorem turn_list {P:Program}{w:World}{K:PySem.W.Frag}{tg:Expr}(a it:Addr):Turn P w K tg (Itl K a) [it] it (fun i h=>h.IsListIter it a i) where
 mem:=by simp
 obj:=fun i h st b hb=>by
  have e:b=it:=by simpa using hb
  subst e
  obtain ⟨o,e,c,d⟩:=st
  exact ⟨o,e,fun v z=>by rw [d] at z;cases z⟩
 keep:=fun i h h' st k=>st.at fun o e=>k it (by simp) o e
 item:=by
  intro X hP hw hK hc i pins s σ H E I hf st hg
  subst hP hw hK
  obtain ⟨xs,x,hq,hx⟩:=hg
  obtain ⟨its,rv,p,hz⟩:=I.list hq
  obtain ⟨u,hu,ru⟩:=rv.get hx
  obtain ⟨f0,f1,f2,f3,f4,f5⟩:=hf it (by simp)
  refine wpAny_pyNext_list_item st p.isList (x:=u) (by simpa using hu) fun h' st' sb=>?_
  have I1:Inv X pins σ H { s with heap:=h' }:=I.turned (t':=s.toks) (fun b o hb e=>(sb.2 b hb).trans e) f0 f1 f3 f4 f5
  obtain ⟨o,e,c,d⟩:=id st'
  exact ⟨u,rfl,go_of (s:={ s with heap:=h' }) e c d (by decide) ⟨x,H,I1,ru,⟨rfl,fun ys hy=>by rw [I.list_inj hy hq];exact hx⟩,st',fun b hb=>(hf b hb).1⟩⟩
 done:=by
  intro X hP hw hK hc i pins s σ H E I hf st hg
  subst hP hw hK
  obtain ⟨xs,hq,hx⟩:=hg
  obtain ⟨its,rv,p,hz⟩:=I.list hq
  obtain ⟨f0,f1,f2,f3,f4,f5⟩:=hf it (by simp)
  have hl:=rv.length
  exact wpAny_pyNext_list_end (I.ok.hd hc) st p.isList (by simp;omega) fun h' eb=>⟨rfl,I.turned (t':=s.toks) (fun b o hb e=>eb b o hb e) f0 f1 f3 f4 f5⟩
 self:=fun _ _ _ _ _ st h=>wpAny_pyIter_listiter st h
theorem turn_tuple {P:Program}{w:World}{K:PySem.W.Frag}{tg:Expr}(a it:Addr):Turn P w K tg (Itt K a) [it] it (fun i h=>h.IsTupleIter it a i) where
 mem:=by simp
 obj:=fun i h st b hb=>by
  have e:b=it:=by simpa using hb
  subst e
  obtain ⟨o,e,c,d⟩:=st
  exact ⟨o,e,fun v z=>by rw [d] at z;cases z⟩
 keep:=fun i h h' st k=>st.at fun o e=>k it (by simp) o e
 item:=by
  intro X hP hw hK hc i pins s σ H E I hf st hg
  subst hP hw hK
  obtain ⟨xs,x,hq,hx⟩:=hg
  obtain ⟨its,rv,p,hz⟩:=I.tuple hq
  obtain ⟨u,hu,ru⟩:=rv.get hx
  obtain ⟨f0,f1,f2,f3,f4,f5⟩:=hf it (by simp)
  refine wpAny_pyNext_tuple_item st (show s.heap.IsTuple a its.toArray from p) (x:=u) (by simpa using hu) fun h' st' sb=>?_
  have I1:Inv X pins σ H { s with heap:=h' }:=I.turned (t':=s.toks) (fun b o hb e=>(sb.2 b hb).trans e) f0 f1 f3 f4 f5
  obtain ⟨o,e,c,d⟩:=id st'
  exact ⟨u,rfl,go_of (s:={ s with heap:=h' }) e c d (by decide) ⟨x,H,I1,ru,⟨rfl,fun ys hy=>by rw [I.tuple_inj hy hq];exact hx⟩,st',fun b hb=>(hf b hb).1⟩⟩
 done:=by
  intro X hP hw hK hc i pins s σ H E I hf st hg
  subst hP hw hK
  obtain ⟨xs,hq,hx⟩:=hg
  obtain ⟨its,rv,p,hz⟩:=I.tuple hq
  obtain ⟨f0,f1,f2,f3,f4,f5⟩:=hf it (by simp)
  have hl:=rv.length
  exact wpAny_pyNext_tuple_end (I.ok.hd hc) st (show s.heap.IsTuple a its.toArray from p) (by simp;omega) fun h' eb=>⟨rfl,I.turned (t':=s.toks) (fun b o hb e=>eb b o hb e) f0 f1 f3 f4 f5⟩
 self:=fun _ _ _ _ _ st h=>wpAny_pyIter_tupleiter st h
theorem turn_range {P:Program}{w:World}{K:PySem.W.Frag}{tg:Expr}(it:Addr)(lo:Int)(n:Nat):Turn P w K tg (Itr lo n) [it] it (fun i h=>IsRangeIter h it (lo+(i:Nat)*1) ((n:Int) - (i:Nat)) 1) where
 mem:=by simp
 obj:=fun i h st b hb=>by
  have e:b=it:=by simpa using hb
  subst e
  exact ⟨_,st,fun v z=>by
   have z':Data.fields _=Data.cell v:=z
   cases z'⟩
 keep:=fun i h h' st k=>k it (by simp) _ st
 item:=by
  intro X hP hw hK hc i pins s σ H E I hf st hg
  subst hP hw hK
  obtain ⟨f0,f1,f2,f3,f4,f5⟩:=hf it (by simp)
  have W:=Walks.range (prog:=X.prog) (w:=X.w) (I.ok.hd hc) it lo 1 n
  refine W.item i s _ _ hg st fun v h' tk hv st' kk=>?_
  obtain ⟨t,rfl⟩:=hv
  have I1:Inv X pins σ H { s with heap:=h',toks:=tk }:=I.turned (fun b o hb e=>kk b o (by simpa using hb) e) f0 f1 f3 f4 f5
  refine ⟨_,rfl,go_of (s:={ s with heap:=h',toks:=tk }) (n := "range_iterator") st' rfl rfl (by decide) ⟨.int (lo+i),H,I1,⟨t,?_⟩,⟨rfl,rfl⟩,st',fun b hb=>(hf b hb).1⟩⟩
  rw [Int.mul_one]
 done:=by
  intro X hP hw hK hc i pins s σ H E I hf st hg
  subst hP hw hK
  obtain ⟨f0,f1,f2,f3,f4,f5⟩:=hf it (by simp)
  exact wpAny_pyNext_range_end (I.ok.hd hc) st (by have:n<=i:=hg;omega) fun h' eb=>⟨rfl,I.turned (t':=s.toks) (fun b o hb e=>eb b o hb e) f0 f1 f3 f4 f5⟩
 self:=fun _ _ _ _ _ st h=>wpAny_pyIter_rangeiter st h
end L2
end
noncomputable section
namespace L2
open PySem PySem.Spec PyProof.Rows
section
variable {X:Cx} {tg:Expr}
noncomputable def iList (K:PySem.W.Frag)(tl:TE):TI:=fun σ H R=>tl σ H fun x H1=>∃ a,x=.ref a/\(∃ xs,SqL K H1 a xs)/\R (Itl K a) H1
noncomputable def iTup (K:PySem.W.Frag)(tl:TE):TI:=fun σ H R=>tl σ H fun x H1=>∃ a,x=.ref a/\(∃ xs,SqT K H1 a xs)/\R (Itt K a) H1
theorem pi_list {l:Expr}{tl:TE}(hl:PE X l tl):PI X tg l (iList X.K tl):=by
 intro pins s σ H R I h
 refine thn (hl pins s σ H _ I h) fun v s1 ⟨x,H1,I1,r1,q1⟩=>?_
 obtain ⟨a,e,⟨xs,hq⟩,q⟩:=q1
 subst e
 cases r1
 obtain ⟨its,rv,p,hz⟩:=I1.list hq
 refine wpAny_pyIter_list p.isList ?_
 refine ⟨s1.heap.objs.size,[s1.heap.objs.size],_,_,H1,rfl,I1.kept (t':=s1.toks) fun b o e=>Heap.get?_push_of_some _ e,turn_list a _,⟨_,Heap.get?_push_size _ rfl,rfl,rfl⟩,fun b hb=>?_,q⟩
 have e:b=s1.heap.objs.size:=by simpa using hb
 subst e
 exact I1.fpOk (Nat.le_refl _) (I1.hok.fresh (Nat.le_refl _))
theorem pi_tup {l:Expr}{tl:TE}(hl:PE X l tl):PI X tg l (iTup X.K tl):=by
 intro pins s σ H R I h
 refine thn (hl pins s σ H _ I h) fun v s1 ⟨x,H1,I1,r1,q1⟩=>?_
 obtain ⟨a,e,⟨xs,hq⟩,q⟩:=q1
 subst e
 cases r1
 obtain ⟨its,rv,p,hz⟩:=I1.tuple hq
 refine wpAny_pyIter_tuple (show s1.heap.IsTuple a its.toArray from p) ?_
 refine ⟨s1.heap.objs.size,[s1.heap.objs.size],_,_,H1,rfl,I1.kept (t':=s1.toks) fun b o e=>Heap.get?_push_of_some _ e,turn_tuple a _,⟨_,Heap.get?_push_size _ rfl,rfl,rfl⟩,fun b hb=>?_,q⟩
 have e:b=s1.heap.objs.size:=by simpa using hb
 subst e
 exact I1.fpOk (Nat.le_refl _) (I1.hok.fresh (Nat.le_refl _))
theorem range_it {pins:List (Addr×Obj)}{σ:St}{H:Hp}{s:Shared}{R:It->Hp->Prop}{E:Value->Shared->Prop}{lo hi:Int}{t u v:Tok}{tk:Nat}(I:Inv X pins σ H s)(h1:-(2^62)<=lo)(h2:lo<2^62)(h3:-(2^62)<=hi)(h4:hi<2^62)
  (q:R (Itr lo (hi - lo).toNat) H):wpAny (model X.prog X.w) X.A (pyIter (.ref s.heap.objs.size)) (PIE X pins σ tg R) E { s with heap:=s.heap.push { cls:=.type "range",data:=.fields #[.int lo t,.int hi u,.int 1 v] },toks:=tk }:=by
 refine wpAny_pyIter_range (IsRange.new ..) (small_one h1 h2 h3 h4) ?_
 have I1:Inv X pins σ H { s with heap:=s.heap.push { cls:=.type "range",data:=.fields #[.int lo t,.int hi u,.int 1 v] },toks:=tk }:=I.kept fun b o e=>Heap.get?_push_of_some _ e
 refine ⟨(s.heap.push { cls:=.type "range",data:=.fields #[.int lo t,.int hi u,.int 1 v] }).objs.size,[(s.heap.push { cls:=.type "range",data:=.fields #[.int lo t,.int hi u,.int 1 v] }).objs.size],_,_,H,rfl,
  I1.kept (t':=tk) fun b o e=>Heap.get?_push_of_some _ e,turn_range _ lo (hi - lo).toNat,?_,fun b hb=>?_,q⟩
 ·have e1:lo+((0:Nat):Int)*1=lo:=by simp
  have e2:(((hi - lo).toNat:Nat):Int) - ((0:Nat):Int)=Builtin.Range.rangeSize lo hi 1:=by rw [rangeSize_one];split<;>omega
  show IsRangeIter _ _ (lo+((0:Nat):Int)*1) ((((hi - lo).toNat:Nat):Int) - ((0:Nat):Int)) 1
  rw [e1,e2]
  exact Heap.get?_push_size _ rfl
 ·have e:b=(s.heap.push { cls:=.type "range",data:=.fields #[.int lo t,.int hi u,.int 1 v] }).objs.size:=by simpa using hb
  subst e
  exact I1.fpOk (Nat.le_refl _) (I1.hok.fresh (Nat.le_refl _))
noncomputable def iRng1 (ta:TA):TI:=fun σ H R=>ta σ H fun vs H1=>∃ j:Int,vs=[.int j]/\-(2^62)<=j/\j<2^62/\R (Itr 0 j.toNat) H1
theorem pi_range1 {a:Expr}{ta:TA}{p pos:Pos}(hg:Gl X "range")(hm:X.mg "range"=none)(ha:PA X [a] ta)(hs:starEach [a] X.env=[(false,eval a X.env)]:=by rfl):PI X tg (.Call (.Name "range" p) [a] [] pos) (iRng1 ta):=by
 intro pins s σ H R I h
 refine Call_ (ld_blt I hg hm boot_range (PyProof.Rows.callWith_type1 (thn (ha pos pins s σ H _ I h) fun us s1 ⟨vs,H1,I1,r1,q1⟩=>?_) hs rfl))
 obtain ⟨j,e,q1,q2,q⟩:=q1
 subst e
 cases r1 with
 | cons r rr =>
  cases rr
  obtain ⟨t,rfl⟩:=r
  exact call_range_1 (range_it I1 (by omega) (by omega) q1 q2 (by simpa using q))
noncomputable def tFor (wi:TI)(g:TG)(tb:TS):TS:=fun D σ H=>wi σ H fun J H1=>∃ W:Nat->Nat->St->Hp->Prop,(∃ m,W 0 m σ H1)/\∀ i m σ H,W i m σ H ->
 (J.stop i H/\D.nx σ H)\/(J.go i H/\∃ N:St->Hp->Prop,(∀ σ' H',N σ' H'->∃ m',m'<m/\W (i+1) m' σ' H')/\∀ x H',J.yld i H x H'->g x σ H' fun σ2 H2=>tb { D with nx:=N,ct:=N,bk:=D.nx } σ2 H2)
noncomputable def pinsAt (fp:List Addr)(h:Heap):List (Addr×Obj):=fp.filterMap fun b=>(h.get? b).map fun o=>(b,o)
theorem qz {fp:List Addr}{h:Heap}{b:Addr}{o:Obj}(hb:b∈fp)(e:h.get? b=some o):(b,o)∈pinsAt fp h:=List.mem_filterMap.mpr ⟨b,hb,by rw [e];rfl⟩
theorem of_pinsAt {fp:List Addr}{h:Heap}{p:Addr×Obj}(hp:p∈pinsAt fp h):p.1∈fp/\h.get? p.1=some p.2:=by
 obtain ⟨b,hb,e⟩:=List.mem_filterMap.mp hp
 cases q:h.get? b with
 | none=>rw [q] at e;cases e
 | some o =>
  rw [q] at e
  have e':(b,o)=p:=Option.some.inj e
  subst e'
  exact ⟨hb,q⟩
theorem Inv.pinned {pins:List (Addr×Obj)}{σ:St}{H:Hp}{s:Shared}{fp:List Addr}(I:Inv X pins σ H s)(hf:∀ b∈fp,FpOk X pins H b)(ho:∀ b∈fp,∃ o,s.heap.get? b=some o/\∀ v,o.data≠.cell v):Inv X (pins++pinsAt fp s.heap) σ H s :=
 I.pins_of fun p hp=>(List.mem_append.mp hp).elim (fun z=>I.pin p (List.mem_append_right _ z)) fun z=>by
  obtain ⟨hb,e⟩:=of_pinsAt z
  obtain ⟨f0,f1,f2,_⟩:=hf p.1 hb
  obtain ⟨o,e',d⟩:=ho p.1 hb
  rw [e] at e';cases e'
  exact ⟨e,f0,f1,f2,d⟩
theorem Inv.unpinned {pins pl:List (Addr×Obj)}{σ:St}{H:Hp}{s:Shared}(I:Inv X (pins++pl) σ H s):Inv X pins σ H s:=I.pins_of fun p hp=>I.pin p (List.mem_append_right _ (List.mem_append_left _ hp))
theorem ps_for {iter:Expr}{body:List Stmt}{wi:TI}{g:TG}{tb:TS}{pos:Pos}(hp:PassesOwn (model X.prog X.w) X.A X.env X.xe)(hc:X.calm=true)(hi:PI X tg iter wi)(hg:PG X tg g)(hb:PSs X body tb)
  (hs:∀ x,foldedSetIterable iter X.env x=pure x:=by intro _;rfl):PS X (.For tg iter body [] pos) (tFor wi g tb):=by
 intro pins s σ H D I h
 refine wpAny_For (thn (hi pins s σ H _ I h) fun v s1 h1=>thn h1 fun itv s2 h2=>?_) hs
 obtain ⟨it,fp,tn,J,H2,e,I2,T,st2,f2,W,⟨m0,w0⟩,turn⟩:=h2
 subst e
 have stat:∀ {H':Hp},(∀ b∈fp,H' b=none)->∀ b∈fp,FpOk X pins H' b:=fun hn b hb=>⟨hn b hb,(f2 b hb).2⟩
 refine codeAny_forLoop_any (fun n s'=>∃ i σ' H',Inv X pins σ' H' s'/\tn i s'.heap/\(∀ b∈fp,H' b=none)/\W i n σ' H') ?_ m0 ⟨0,σ,H2,I2,st2,fun b hb=>(f2 b hb).1,w0⟩
 rintro n s3 ⟨i,σ3,H3,I3,st3,fr3,w3⟩
 rcases turn i n σ3 H3 w3 with ⟨stop,qn⟩ | ⟨go,N,hN,step⟩
 ·refine wpAny_passesOwn hp (thn (T.done X rfl rfl rfl hc i pins s3 σ3 H3 X.xe I3 (stat fr3) st3 stop) fun r s4 ⟨hr,I4⟩=>?_)
  subst hr
  exact wpAny_execs_nil ⟨σ3,H3,I4,qn⟩
 ·refine wpAny_passesOwn hp (thn (T.item X rfl rfl rfl hc i pins s3 σ3 H3 X.xe I3 (stat fr3) st3 go) fun r s4 ⟨u,hr,h4⟩=>?_)
  subst hr
  refine wpAny_passesOwn hp (thn h4 fun _ s5 ⟨x,H5,I5,r5,y5,st5,fr5⟩=>?_)
  have I5':=I5.pinned (stat fr5) (T.obj _ _ st5)
  refine wpAny_passesOwn hp (thn (hg _ s5 σ3 H5 x u _ I5' r5 (step x H5 y5)) fun _ s6 ⟨σ6,H6,I6,q6⟩=>?_)
  refine wpAny_passesOwn hp (thn (hb _ s6 σ6 H6 _ I6 q6) fun f s7 q7=>?_)
  have again:∀ {σ7:St} {H7:Hp},Inv X (pins++pinsAt fp s5.heap) σ7 H7 s7->N σ7 H7->∃ m,m<n/\∃ i σ' H',Inv X pins σ' H' s7/\tn i s7.heap/\(∀ b∈fp,H' b=none)/\W i m σ' H':=fun {σ7 H7} I7 n7=>by
   obtain ⟨m',hm,w7⟩:=hN σ7 H7 n7
   refine ⟨m',hm,i+1,σ7,H7,I7.unpinned,T.keep _ _ _ st5 fun b hb o e=>(I7.pin (b,o) (List.mem_append_right _ (List.mem_append_right _ (qz hb e)))).1,fun b hb=>?_,w7⟩
   obtain ⟨o,e,d⟩:=T.obj _ _ st5 b hb
   exact (I7.pin (b,o) (List.mem_append_right _ (List.mem_append_right _ (qz hb e)))).2.1
  cases f with
  | next=>obtain ⟨σ7,H7,I7,n7⟩:=q7;exact again I7 n7
  | cont=>obtain ⟨σ7,H7,I7,n7⟩:=q7;exact again I7 n7
  | brk=>obtain ⟨σ7,H7,I7,q7⟩:=q7;exact ⟨σ7,H7,I7.unpinned,q7⟩
  | ret v=>obtain ⟨x7,σ7,H7,I7,r7,q7⟩:=q7;exact ⟨x7,σ7,H7,I7.unpinned,r7,q7⟩
end
end L2
end
noncomputable section
namespace L2
open PySem PySem.Spec PyProof.Rows
noncomputable abbrev R2:=V->V->Hp->VK->Prop
noncomputable def OpR (X:Cx)(f:Value->Value->Sem Value)(r:R2):Prop :=
 ∀ (pins:List (Addr×Obj)) (s:Shared) (σ:St) (H:Hp) (x y:V) (v u:Value) (Q:VK),Inv X pins σ H s->RelV x v->RelV y u->r x y H Q ->
  wpAny (model X.prog X.w) X.A (f v u) (EP X pins σ Q) X.xe s
noncomputable def CallR (X:Cx)(f:Value)(r:List V->Hp->VK->Prop):Prop :=
 ∀ (pins:List (Addr×Obj)) (s:Shared) (σ:St) (H:Hp) (xs:List V) (us:List Value) (Q:VK),Inv X pins σ H s->Vals xs us->r xs H Q ->
  wpAny (model X.prog X.w) X.A (call f us) (EP X pins σ Q) X.xe s
noncomputable def tOp (r:R2)(ta tb:TE):TE:=fun σ H Q=>ta σ H fun x H1=>tb σ H1 fun y H2=>r x y H2 Q
noncomputable def rI (C:Int->Int->Prop)(g:Int->Int->V):R2:=fun x y H Q=>∃ i j,x=.int i/\y=.int j/\C i j/\Q (g i j) H
noncomputable def rI0 (g:Int->Int->V):R2:=fun x y H Q=>∃ i j,x=.int i/\y=.int j/\Q (g i j) H
section
variable {X:Cx} {a b c:Expr} {ta tb tc:TE} {pos:Pos}
theorem binT (ha:PE X a ta)(hb:PE X b tb){pins:List (Addr×Obj)}{s:Shared}{σ:St}{H:Hp}{R:V->V->Hp->Prop}(I:Inv X pins σ H s)
  (h:ta σ H fun x H1=>tb σ H1 fun y H2=>R x y H2) {Q:Value->Shared->Prop} {f:Value->Value->Sem Value}
  (hf:∀ v u s2 x y H2,Inv X pins σ H2 s2->RelV x v->RelV y u->R x y H2->wpAny (model X.prog X.w) X.A (f v u) Q X.xe s2) :
  wpAny (model X.prog X.w) X.A (eval a X.env) (fun v s₁=>wpAny (model X.prog X.w) X.A (eval b X.env) (fun u s₂=>wpAny (model X.prog X.w) X.A (f v u) Q X.xe s₂) X.xe s₁) X.xe s:=by
 refine thn (ha pins s σ H _ I h) fun v s1 ⟨x,H1,I1,r1,q1⟩=>?_
 refine thn (hb pins s1 σ H1 _ I1 q1) fun u s2 ⟨y,H2,I2,r2,q2⟩=>?_
 exact hf v u s2 x y H2 I2 r1 r2 q2
theorem pe_op {op:Operator}{r:R2}(ho:OpR X (binaryOp op) r)(ha:PE X a ta)(hb:PE X b tb):PE X (.BinOp a op b pos) (tOp r ta tb):=by
 intro pins s σ H Q I h
 exact wpAny_BinOp (binT ha hb I h fun v u s2 x y H2 I2 rx ry q=>ho pins s2 σ H2 x y v u Q I2 rx ry q)
theorem opI {f:Value->Value->Sem Value}{C:Int->Int->Prop}{g:Int->Int->Int}
  (rule:∀ (i j:Int) (t u:Tok) (s:Shared) (Q:Value->Shared->Prop) (E:Value->Shared->Prop),C i j->Q (.int (g i j) s.toks) { s with toks:=s.toks+1 }->wpAny (model X.prog X.w) X.A (f (.int i t) (.int j u)) Q E s) :
  OpR X f (rI C fun i j=>.int (g i j)):=by
 intro pins s σ H x y v u Q I rx ry h
 obtain ⟨i,j,rfl,rfl,hc,q⟩:=h
 obtain ⟨t,rfl⟩:=rx
 obtain ⟨t',rfl⟩:=ry
 exact rule i j t t' s _ _ hc ⟨.int (g i j),H,I.tok _,⟨_,rfl⟩,q⟩
theorem opI0 {f:Value->Value->Sem Value}{g:Int->Int->Int}
  (rule:∀ (i j:Int) (t u:Tok) (s:Shared) (Q:Value->Shared->Prop) (E:Value->Shared->Prop),Q (.int (g i j) s.toks) { s with toks:=s.toks+1 }->wpAny (model X.prog X.w) X.A (f (.int i t) (.int j u)) Q E s) :
  OpR X f (rI0 fun i j=>.int (g i j)):=by
 intro pins s σ H x y v u Q I rx ry h
 obtain ⟨i,j,rfl,rfl,q⟩:=h
 obtain ⟨t,rfl⟩:=rx
 obtain ⟨t',rfl⟩:=ry
 exact rule i j t t' s _ _ ⟨.int (g i j),H,I.tok _,⟨_,rfl⟩,q⟩
theorem opB0 {f:Value->Value->Sem Value}{g:Int->Int->Bool}
  (rule:∀ (i j:Int) (t u:Tok) (s:Shared) (Q:Value->Shared->Prop) (E:Value->Shared->Prop),Q (.bool (g i j)) s->wpAny (model X.prog X.w) X.A (f (.int i t) (.int j u)) Q E s) :
  OpR X f (rI0 fun i j=>.bl (g i j)):=by
 intro pins s σ H x y v u Q I rx ry h
 obtain ⟨i,j,rfl,rfl,q⟩:=h
 obtain ⟨t,rfl⟩:=rx
 obtain ⟨t',rfl⟩:=ry
 exact rule i j t t' s _ _ ⟨.bl (g i j),H,I,rfl,q⟩
noncomputable def CPow (i j:Int):Prop:=0<=j/\j<=1000000/\i.natAbs<2^64
noncomputable def CMul (i j:Int):Prop:=(-(2^64)<i/\i<2^64)\/(-(2^64)<j/\j<2^64)
theorem CMul.ok {i j:Int}(h:CMul i j):IntMulOk i j:=by
 rcases h with ⟨h1,h2⟩ | ⟨h1,h2⟩
 ·exact .of_left (intBits_le_64 h1 h2)
 ·exact .of_right (intBits_le_64 h1 h2)
theorem two_pow_nn (k:Nat):(0:Int)<=2^k:=by
 rw [two_pow_cast]
 exact Int.natCast_nonneg _
theorem op_add:OpR X (binaryOp .Add) (rI0 fun i j=>.int (i+j)):=opI0 fun _ _ _ _ _ _ _ q=>add_int q
theorem op_sub:OpR X (binaryOp .Sub) (rI0 fun i j=>.int (i - j)):=opI0 fun _ _ _ _ _ _ _ q=>sub_int q
theorem op_mod:OpR X (binaryOp .Mod) (rI (fun _ j=>0<j) fun i j=>.int (i % j)):=opI fun i j _ _ _ _ _ hc q=>by
 have h1:(0:Int)<j:=hc
 exact mod_int' (by omega) (by rw [Int.fmod_eq_emod_of_nonneg i (by omega)];exact q)
theorem op_pow:OpR X (binaryOp .Pow) (rI CPow fun i j=>.int (i^j.toNat)):=opI fun _ _ _ _ _ _ _ hc q=>pow_int_small hc.1 hc.2.1 hc.2.2 q
theorem op_shl:OpR X (binaryOp .LShift) (rI CPow fun i j=>.int (i*2^j.toNat)):=opI fun _ _ _ _ _ _ _ hc q=>lshift_int_small hc.1 hc.2.1 hc.2.2 q
theorem op_shr:OpR X (binaryOp .RShift) (rI (fun _ j=>0<=j) fun i j=>.int (i / 2^j.toNat)):=opI fun i j _ _ _ _ _ hc q =>
 rshift_int hc (by rw [Int.fdiv_eq_ediv_of_nonneg i (two_pow_nn _)];exact q)
end
section
variable {X:Cx} {a b c:Expr} {ta tb tc:TE} {pos:Pos}
theorem op_lt:OpR X (compareOp .Lt) (rI0 fun i j=>.bl (decide (i<j))):=opB0 fun _ _ _ _ _ _ _ q=>lt_int q
theorem op_le:OpR X (compareOp .LtE) (rI0 fun i j=>.bl (decide (i<=j))):=opB0 fun _ _ _ _ _ _ _ q=>le_int q
theorem op_gt:OpR X (compareOp .Gt) (rI0 fun i j=>.bl (decide (j<i))):=opB0 fun _ _ _ _ _ _ _ q=>gt_int q
theorem op_ge:OpR X (compareOp .GtE) (rI0 fun i j=>.bl (decide (j<=i))):=opB0 fun _ _ _ _ _ _ _ q=>ge_int q
theorem pe_cmpR {op:CmpOp}{r:R2}(ho:OpR X (compareOp op) r)(ha:PE X a ta)(hb:PE X b tb)(hm:behindInMarks op b=false):PE X (.Compare a [op] [b] pos) (tOp r ta tb):=by
 intro pins s σ H Q I h
 exact wpAny_Compare1 (binT ha hb I h fun v u s2 x y H2 I2 rx ry q=>ho pins s2 σ H2 x y v u Q I2 rx ry q) hm
noncomputable def tTest (t:TE):TT:=fun σ H Q=>t σ H fun x H'=>∃ k,x=.bl k/\Q k H'
theorem pt_cmpR {op:CmpOp}{r:R2}(ho:OpR X (compareOp op) r)(ha:PE X a ta)(hb:PE X b tb)(hm:behindInMarks op b=false):PT X (.Compare a [op] [b] pos) (tTest (tOp r ta tb)):=by
 intro pins s σ H Q I h
 refine wpAny_isTrue_Compare1 (thn (ha pins s σ H _ I h) fun v s1 ⟨x,H1,I1,r1,q1⟩=>thn (hb pins s1 σ H1 _ I1 q1) fun u s2 ⟨y,H2,I2,r2,q2⟩ =>
  thn (ho pins s2 σ H2 x y v u _ I2 r1 r2 q2) fun c s3 ⟨z,H3,I3,r3,k,e,q3⟩=>?_) hm
 subst e
 cases r3
 exact wpAny_truthy_bool ⟨H3,I3,q3⟩
theorem line63:(sizeLine:Nat)<2^63:=by rw [sizeLine_eq];decide
theorem op_add_str:OpR X (binaryOp .Add) (fun x y H Q=>∃ i j,x=.str i/\y=.str j/\i.length+j.length<=sizeLine/\Q (.str (i++j)) H):=by
 intro pins s σ H x y v u Q I rx ry h
 obtain ⟨i,j,rfl,rfl,hz,q⟩:=h
 obtain ⟨t,rfl⟩:=rx
 obtain ⟨t',rfl⟩:=ry
 exact add_str (fun t' tk=>⟨.str (i++j),H,I.tok _,⟨_,rfl⟩,q⟩) hz
theorem vals1 {x:V}{us:List Value}(r:Vals [x] us):∃ u,us=[u]/\RelV x u:=by
 cases r with
 | cons r1 r2=>cases r2;exact ⟨_,rfl,r1⟩
theorem vals2 {x y:V}{us:List Value}(r:Vals [x,y] us):∃ u w',us=[u,w']/\RelV x u/\RelV y w':=by
 cases r with
 | cons r1 r2 =>
  cases r2 with
  | cons r3 r4=>cases r4;exact ⟨_,_,rfl,r1,r3⟩
theorem call_abs:CallR X (.builtin "abs") (fun xs H Q=>∃ i,xs=[.int i]/\Q (.int (if i<0 then -i else i)) H):=by
 intro pins s σ H xs us Q I r h
 obtain ⟨i,rfl,q⟩:=h
 obtain ⟨u,rfl,t,rfl⟩:=vals1 r
 exact call_abs_int fun u tk=>⟨.int (if i<0 then -i else i),H,I.tok _,⟨_,rfl⟩,q⟩
theorem call_max2 (hc:X.calm=true):CallR X (.builtin "max") (fun xs H Q=>∃ i j,xs=[.int i,.int j]/\Q (.int (if j > i then j else i)) H):=by
 intro pins s σ H xs us Q I r h
 obtain ⟨i,j,rfl,q⟩:=h
 obtain ⟨u,w',rfl,⟨t,rfl⟩,⟨t',rfl⟩⟩:=vals2 r
 refine max_two_ints (I.ok.hd hc) fun h' tk k=>⟨_,H,I.kept k,?_,q⟩
 by_cases hj:j > i
 ·rw [if_pos hj,if_pos hj];exact ⟨_,rfl⟩
 ·rw [if_neg hj,if_neg hj];exact ⟨_,rfl⟩
theorem call_min2 (hc:X.calm=true):CallR X (.builtin "min") (fun xs H Q=>∃ i j,xs=[.int i,.int j]/\Q (.int (if j<i then j else i)) H):=by
 intro pins s σ H xs us Q I r h
 obtain ⟨i,j,rfl,q⟩:=h
 obtain ⟨u,w',rfl,⟨t,rfl⟩,⟨t',rfl⟩⟩:=vals2 r
 refine min_two_ints (I.ok.hd hc) fun h' tk k=>⟨_,H,I.kept k,?_,q⟩
 by_cases hj:j<i
 ·rw [if_pos hj,if_pos hj];exact ⟨_,rfl⟩
 ·rw [if_neg hj,if_neg hj];exact ⟨_,rfl⟩
theorem call_int1:CallR X (.type "int") (fun xs H Q=>(∃ i,xs=[.int i]/\Q (.int i) H)\/∃ k,xs=[.bl k]/\Q (.int (if k then 1 else 0)) H):=by
 intro pins s σ H xs us Q I r h
 rcases h with ⟨i,rfl,q⟩ | ⟨k,rfl,q⟩
 ·obtain ⟨u,rfl,t,rfl⟩:=vals1 r
  exact call_int_int ⟨.int i,H,I,⟨_,rfl⟩,q⟩
 ·obtain ⟨u,rfl,r1⟩:=vals1 r
  cases r1
  exact call_int_bool ⟨.int (if k then 1 else 0),H,I.tok _,⟨_,rfl⟩,q⟩
end
end L2
end
noncomputable section
namespace L2
open PySem PySem.Spec PyProof.Rows
structure ObjM (h:Heap)(x dx C:Addr)(mA:Str->Option Value):Prop where
 obj:h.get? x=some (PySem.W.instObj C dx)
 ns:h.Ns1 dx mA
 ne:dx≠x
theorem lookIn_ns {h:Heap}{dx:Addr}{mA:Str->Option Value}(n:h.Ns1 dx mA):∃ od,h.get? dx=some od/\∀ name,PySem.W.lookIn name od=some (mA name):=by
 obtain ⟨o,es,ep,ho,hd,hk,_,hm⟩:=n
 refine ⟨o,ho,fun name=>?_⟩
 have e:=hm name
 unfold nsFind findBy at e
 rw [<-Array.find?_toList] at e
 unfold PySem.W.lookIn
 rw [hd]
 dsimp only
 split
 ·rename_i y q
  rw [q] at e
  exact congrArg some e
 ·rename_i q
  rw [q] at e
  have a:es.toList.any (·.refKey)=false:=by
   rw [List.any_eq_false]
   intro y hy
   obtain ⟨z,t,hkey⟩:=hk y (Array.mem_toList_iff.mp hy)
   simp [DictEntry.refKey,hkey]
  have a':¬ es.toList.any (·.refKey)=true:=by rw [a];exact Bool.false_ne_true
  rw [if_neg a']
  exact congrArg some e
theorem ObjM.look {h:Heap}{x dx C:Addr}{mA:Str->Option Value}(I:ObjM h x dx C mA):∃ od,PySem.W.InstAt h x (PySem.W.instObj C dx) C (some od)/\∀ name,PySem.W.lookIn name od=some (mA name) :=
 let ⟨od,ho,hl⟩:=lookIn_ns I.ns
 ⟨od,⟨I.obj,rfl,rfl,ho⟩,hl⟩
section
variable {prog:Program} {w:World} {A:Around} {E:Value->Shared->Prop} {s:Shared} {K:PySem.W.Frag} {x dx C f:Addr} {mA:Str->Option Value} {name:Str} {v:Value}
end
theorem RelO.some_of {v:V}{o:Option Value}(r:RelO (some v) o):∃ u,o=some u/\RelV v u:=by
 cases o with
 | none=>exact (show False from r).elim
 | some u=>exact ⟨u,rfl,r⟩
section
variable {P:Program} {w:World} {H H':Hp} {h h':Heap} {a C dx:Addr} {fs fs':List (Str×V)}
theorem ins_get (hok:HOk P w H h)(e:H a=some (.ins C dx fs)):∃ mA,ObjM h a dx C mA/\(∀ f,RelO (fs.lookup f) (mA f))/\PySem.Within mA (fs.map (·.1))/\fs.length<=1000/\H dx=some (.own a):=by
 obtain ⟨d,z,ne,ob,mA,n,r,q⟩:=(show ObjOk P w H h a (.ins C dx fs) from hok a _ e)
 exact ⟨mA,⟨ob,n,ne⟩,r,q,z,d⟩
end
structure Cls (K:PySem.W.Frag)(C:Addr):Prop where
 pg:PySem.W.plainGet K C Str.empty=true
 hd:PySem.W.hasDictIn K C=true
 po:PySem.W.plainOver K C=true
 sa:PySem.W.findIn K (.ref C) "__setattr__"=some (some (.builtin "object.__setattr__"))
theorem Cls.get {K:PySem.W.Frag}{C:Addr}(c:Cls K C)(f:Str):PySem.W.plainGet K C f=true:=c.pg
section
variable {X:Cx} {pins:List (Addr×Obj)} {σ:St} {H:Hp} {s:Shared} {a C dx:Addr} {fs:List (Str×V)} {f:Str} {v:V} {A:Around} {E:Value->Shared->Prop}
end
section
variable {X:Cx} {o e value:Expr} {f:Str} {pos pos' tpos:Pos} {ta tv:TE}
end
section
variable {X:Cx} {pins:List (Addr×Obj)} {σ:St} {H:Hp} {s:Shared} {A:Around} {E:Value->Shared->Prop} {Q:Value->Shared->Prop} {c:Value} {b:Bool}
inductive TyOf (K:PySem.W.Frag)(H:Hp):V->Value->Prop where
 | non:TyOf K H .non (.type "NoneType")
 | bl (x:Bool):TyOf K H (.bl x) (.type "bool")
 | int (i:Int):TyOf K H (.int i) (.type "int")
 | str (x:Str):TyOf K H (.str x) (.type "str")
 | flt (x:UInt64):TyOf K H (.flt x) (.type "float")
 | lst {a:Addr} {xs:List V} (e:H a=some (.lst xs)):TyOf K H (.ref a) (.type "list")
 | frz {a:Addr} {o:Obj} {xs:List V} (e:H a=some (.frz o (.lst xs))):TyOf K H (.ref a) (.type "list")
 | tup {a:Addr} {xs:List V} (e:H a=some (.tup xs)):TyOf K H (.ref a) (.type "tuple")
 | dK {a:Addr} {kvs:List (Key×V)} (e:H a=some (.dK kvs)):TyOf K H (.ref a) (.type "dict")
 | dT {a:Addr} {kvs:List (List Key×V)} (e:H a=some (.dT kvs)):TyOf K H (.ref a) (.type "dict")
 | ins {a C dx:Addr} {fs:List (Str×V)} (e:H a=some (.ins C dx fs)) (cl:Cls K C) (ha:PySem.W.findIn K (.ref C) "__class__"=some (some (.builtin "object.__class__")))
   (hn:PySem.W.specialIn K (.builtin "object.__class__") "__get__"=some (some (.builtin "getset_descriptor.__get__"))) (htk:PySem.W.takesIn K (.builtin "object.__class__")=some true)
   (hm:PySem.W.mroIn K C (.type "object")=some true):TyOf K H (.ref a) (.ref C)
theorem qw {x:V}{u t:Value}(I:Inv X pins σ H s)(rx:RelV x u)(ty:TyOf X.K H x t)(e:PySem.W.kitOne X.K t c=some b)(h:∀ tk,Q (.bool b) { s with toks:=tk }) :
  wpAny (model X.prog X.w) A (call (.builtin "isinstance") [u,c]) Q E s:=by
 cases ty with
 | non=>cases (show u=Value.none from rx);exact PySem.W.kia_one PySem.W.kitx_none I.kIn True.intro e (fun z=>nomatch z) h
 | bl y=>cases (show u=Value.bool y from rx);exact PySem.W.kia_one PySem.W.kitx_bool I.kIn True.intro e (fun z=>nomatch z) h
 | int i=>obtain ⟨t,q⟩:=(show ∃ t,u=Value.int i t from rx);cases q;exact PySem.W.kia_one PySem.W.kitx_int I.kIn True.intro e (fun z=>nomatch z) h
 | str y=>obtain ⟨t,q⟩:=(show ∃ t,u=Value.str y t from rx);cases q;exact PySem.W.kia_one PySem.W.kitx_str I.kIn True.intro e (fun z=>nomatch z) h
 | flt y=>obtain ⟨t,q⟩:=(show ∃ t,u=Value.float y t from rx);cases q;exact PySem.W.kia_one PySem.W.kitx_float I.kIn True.intro e (fun z=>nomatch z) h
 | @lst a xs ea =>
  cases (show u=Value.ref a from rx)
  obtain ⟨_,_,n,_,h1⟩:=(show ObjOk X.prog X.w H s.heap a (.lst xs) from I.hok a _ ea)
  exact PySem.W.kia_one PySem.W.kitx_list I.kIn ⟨_,h1,rfl⟩ e (fun z=>nomatch z) h
 | @frz a ob xs ea =>
  cases (show u=Value.ref a from rx)
  obtain ⟨_,_,_,n,_,h1⟩:=(show ObjOk X.prog X.w H s.heap a (.frz ob (.lst xs)) from I.hok a _ ea)
  exact PySem.W.kia_one PySem.W.kitx_list I.kIn ⟨_,h1,rfl⟩ e (fun z=>nomatch z) h
 | @tup a xs ea =>
  cases (show u=Value.ref a from rx)
  obtain ⟨_,_,_,p⟩:=(show ObjOk X.prog X.w H s.heap a (.tup xs) from I.hok a _ ea)
  obtain ⟨o,h1,h2,_⟩:=p
  exact PySem.W.kia_one PySem.W.kitx_tuple I.kIn ⟨o,h1,h2⟩ e (fun z=>nomatch z) h
 | @dK a kvs ea =>
  cases (show u=Value.ref a from rx)
  obtain ⟨_,_,vs,_,p⟩:=(show ObjOk X.prog X.w H s.heap a (.dK kvs) from I.hok a _ ea)
  obtain ⟨o,es,ep,h1,h2,_⟩:=p
  exact PySem.W.kia_one PySem.W.kitx_dict I.kIn ⟨o,h1,h2.1⟩ e (fun z=>nomatch z) h
 | @dT a kvs ea =>
  cases (show u=Value.ref a from rx)
  obtain ⟨_,_,xs,_,o,es,ep,h1,h2,_⟩:=(show ObjOk X.prog X.w H s.heap a (.dT kvs) from I.hok a _ ea)
  exact PySem.W.kia_one PySem.W.kitx_dict I.kIn ⟨o,h1,h2.1⟩ e (fun z=>nomatch z) h
 | @ins a C dx fs ea cl ha hn htk hm =>
  cases (show u=Value.ref a from rx)
  obtain ⟨mA,O,_⟩:=ins_get I.hok ea
  obtain ⟨od,J,_⟩:=O.look
  exact PySem.W.kia_one (PySem.W.kitx_own (cl.get _) cl.hd ha hn htk hm) I.kIn J e (fun z=>nomatch z) h
end
end L2
end
noncomputable section
namespace L2
open PySem PySem.Spec PyProof.Rows
structure Room (k:Nat)(A:Around):Prop where
 hd:A.handled=none
 dp:A.depth+3*k+5<recursionLimit
 un:A.units+16*k+200<cLine
theorem Room.mono {j k:Nat}{A:Around}(r:Room k A)(h:j<=k):Room j A:=⟨r.hd,by have:=r.dp;omega,by have:=r.un;omega⟩
theorem Room.deeper {k:Nat}{A:Around}(r:Room (k+1) A)(env:Env):Room k (A.deeper env) :=
 ⟨r.hd,by have:=r.dp;show A.depth+1+3*k+5<_;omega,by have:=r.un;show A.units+3+16*k+200<_;omega⟩
theorem Room.in1 {k:Nat}{A:Around}(r:Room (k+1) A):Room k A.in1 :=
 ⟨r.hd,by have:=r.dp;show A.depth+3*k+5<_;omega,by have:=r.un;show A.units+1+16*k+200<_;omega⟩
theorem Room.depth {k:Nat}{A:Around}(r:Room k A):A.depth<recursionLimit:=by have:=r.dp;omega
theorem Room.units {k:Nat}{A:Around}(r:Room k A):A.units+64<cLine:=by have:=r.un;omega
theorem Room.units0 {k:Nat}{A:Around}(r:Room k A):A.units<cLine:=by have:=r.un;omega
noncomputable def tNil:TA:=fun _ H Q=>Q [] H
noncomputable def tCons (ta:TE)(tr:TA):TA:=fun σ H Q=>ta σ H fun x H1=>tr σ H1 fun xs H2=>Q (x::xs) H2
section
variable {X:Cx} {e:Expr} {es:List Expr} {te:TE} {t:TA} {pos:Pos}
theorem pa_nil:PA X [] tNil:=fun _ _ _ _ H Q I h=>Calls.spliced_nil ⟨[],H,I,.nil,h⟩
theorem zP (ha:PE X e te)(hr:PA X es t)(hs:starEach (e::es) X.env=(false,eval e X.env)::starEach es X.env:=by rfl):PA X (e::es) (tCons te t):=by
 intro pos pins s σ H Q I h
 rw [hs]
 show wpAny _ _ (spliced ((false,eval e X.env)::backTo pos (starEach es X.env))) _ _ s
 refine Calls.spliced_cons (thn (ha pins s σ H _ I h) fun u s1 ⟨x,H1,I1,r1,q1⟩=>?_)
 exact thn (hr pos pins s1 σ H1 _ I1 q1) fun us s2 ⟨xs,H2,I2,r2,q2⟩=>⟨x::xs,H2,I2,.cons r1 r2,q2⟩
noncomputable def tTup (t:TA):TE:=fun σ H Q=>t σ H fun xs H1=>xs.length<=sizeLine/\∀ p,H1 p=none->Q (.ref p) (upd H1 p (.tup xs))
noncomputable def tLst (t:TA):TE:=fun σ H Q=>t σ H fun xs H1=>xs.length<=sizeLine/\∀ p,H1 p=none->Q (.ref p) (upd H1 p (.lst xs))
theorem pe_tup {x1}(h:PA X es t):PE X (.Tuple es x1 pos) (tTup t):=by
 intro pins s σ H Q I hq
 refine wpAny_Tuple_spliced (thn (h pos pins s σ H _ I hq) fun us s1 ⟨xs,H1,I1,r,z,q⟩=>⟨by rw [<-r.length];exact z,?_⟩)
 have hf:H1 s1.heap.objs.size=none:=I1.hok.fresh (Nat.le_refl _)
 refine ⟨.ref s1.heap.objs.size,upd H1 s1.heap.objs.size (.tup xs),I1.laid (t':=s1.toks) (fun b u e=>Heap.get?_push_of_some _ e) (Nat.le_refl _) ?_,rfl,q _ hf⟩
 exact ⟨z,us,r,⟨_,Heap.get?_push_size _ rfl,rfl,_,rfl⟩⟩
theorem pe_lst (h:PA X es t):PE X (.List es pos) (tLst t):=by
 intro pins s σ H Q I hq
 refine wpAny_List_spliced (thn (h pos pins s σ H _ I hq) fun us s1 ⟨xs,H1,I1,r,z,q⟩=>⟨by rw [<-r.length];exact z,?_⟩)
 have hf:H1 s1.heap.objs.size=none:=I1.hok.fresh (Nat.le_refl _)
 refine ⟨.ref s1.heap.objs.size,upd H1 s1.heap.objs.size (.lst xs),I1.laid (t':=s1.toks) (fun b u e=>Heap.get?_push_of_some _ e) (Nat.le_refl _) ?_,rfl,q _ hf⟩
 exact ⟨z,us,0,r,Heap.get?_push_size _ rfl⟩
end
noncomputable abbrev Sp:=List V->Hp->VK->XK->Prop
noncomputable abbrev CXT:=List Env->Hp->Shared->XK->Value->Shared->Prop
structure Env0 (P:Program)(w:World)(K:PySem.W.Frag)(mg:Str->Option Value)(base:Heap)(A:Around)(outer:List Env)(s:Shared)(H:Hp):Prop where
 frames:A.frames=some outer
 mod:Mod K mg base
 bs:∀ b o,base.get? b=some o->s.heap.get? b=some o/\H b=none
 bsz:base.objs.size<=s.heap.objs.size
 funs:s.heap.FunFrames base outer
 frf:∀ b∈frs outer,H b=none
 hok:HOk P w H s.heap
 bare:AllBare s.gens
noncomputable def CE (outer:List Env)(P:Program)(w:World)(H:Hp)(s:Shared)(Q:VK)(u:Value)(s':Shared):Prop :=
 ∃ v H',s'.os=s.os/\AllBare s'.gens/\Un (frs outer) [] H H' s.heap s'.heap/\HOk P w H' s'.heap/\RelV v u/\Q v H'
noncomputable def CR (CX:CXT)(outer:List Env)(P:Program)(w:World)(H:Hp)(s:Shared)(Q:VK)(E:XK)(r:Result)(s':Shared):Prop :=
 match r with
 | .ok (.ret u)=>CE outer P w H s Q u s'
 | .ok _=>False
 | .error e=>CX outer H s E e s'
structure FnOk (P:Program)(w:World)(K:PySem.W.Frag)(mg:Str->Option Value)(base:Heap)(CX:CXT)(k:Nat)(f:Addr)(fd:FuncData)(ps:List Str)(sp:Sp):Prop where
 len:∀ vs H Q E,sp vs H Q E->vs.length=ps.length
 run:∀ (A:Around) (outer:List Env) (s:Shared) (H:Hp) (args:Args) (us:List Value) (vs:List V) (Q:VK) (E:XK),Room k A->Env0 P w K mg base A outer s H->BindsTo s fd args (ps.zip us)->Vals vs us->sp vs H Q E ->
  codeAny (model P w) A (.call (.ref f) args) (CR CX outer P w H s Q E) s
theorem FnOk.imp {P:Program}{w:World}{K:PySem.W.Frag}{mg:Str->Option Value}{base:Heap}{CX:CXT}{k:Nat}{f:Addr}{fd:FuncData}{ps:List Str}{sp sp':Sp}(F:FnOk P w K mg base CX k f fd ps sp)
  (h:∀ vs H Q E,sp' vs H Q E->sp vs H Q E):FnOk P w K mg base CX k f fd ps sp' :=
 ⟨fun vs H Q E q=>F.len vs H Q E (h _ _ _ _ q),fun A outer s H args us vs Q E hr he hb hv hs=>F.run A outer s H args us vs Q E hr he hb hv (h _ _ _ _ hs)⟩
section
variable {X:Cx} {pins:List (Addr×Obj)} {σ:St} {H:Hp} {s s':Shared}
theorem Inv.env0 (I:Inv X pins σ H s):Env0 X.prog X.w X.K X.mg X.base X.A X.stack s H :=
 ⟨I.ok.frames,I.ok.mod,I.bs,Nat.le_trans I.ok.bsz I.sz,I.stack,I.stkFree,I.hok,I.bare⟩
theorem Inv.after {Q:VK}{u:Value}(I:Inv X pins σ H s)(h:CE X.stack X.prog X.w H s Q u s'):EP X pins σ Q u s':=by
 obtain ⟨v,H',os,bare,un,hok,r,q⟩:=h
 obtain ⟨hh,g,d,t,os'⟩:=s'
 obtain rfl:os'=s.os:=os
 exact ⟨v,H',I.call (h':=hh) (g':=g) (d':=d) (t':=t) (ch:=[]) un hok bare (fun b z=>absurd z (by simp)),r,q⟩
end
noncomputable def tCall (sp:Sp)(dvs:List V)(E:XK)(t:TA):TE:=fun σ H Q=>t σ H fun vs H1=>sp (vs++dvs) H1 Q E
noncomputable def Binds (K:PySem.W.Frag)(fd:FuncData)(ps:List Str)(ds:List Value):Prop :=
 ∀ (s:Shared) (us:List Value),K.In s.heap->(us++ds).length=ps.length->BindsTo s fd ⟨us,[]⟩ (ps.zip (us++ds))
theorem Binds.all {K:PySem.W.Frag}{fd:FuncData}{ps:List Str}(h:∀ us:List Value,us.length=ps.length->bindArgs fd ⟨us,[]⟩=pure (ps.zip us)):Binds K fd ps []:=fun s us _ hl=>by
 rw [List.append_nil] at hl ⊢
 exact .of_eq (h us hl)
noncomputable def Passes (CX:CXT)(X:Cx)(E:XK):Prop:=∀ (pins:List (Addr×Obj)) (σ:St) (H:Hp) (s:Shared) (e:Value) (s':Shared),Inv X pins σ H s->CX X.stack H s E e s'->X.xe e s'
section
variable {X:Cx} {CX:CXT} {k:Nat} {f C:Addr} {fd:FuncData} {ps:List Str} {sp:Sp} {dvs:List V} {ds:List Value} {E:XK} {x m:Str} {p pos apos:Pos} {e o:Expr} {es:List Expr} {ta:TE} {t:TA}
theorem run_fn {pins:List (Addr×Obj)}{σ:St}{H:Hp}{s:Shared}{Q:VK}{us:List Value}{vs:List V}(F:FnOk X.prog X.w X.K X.mg X.base CX k f fd ps sp)(hr:Room k X.A)(hb:Binds X.K fd ps ds)(hd:Vals dvs ds)(hx:Passes CX X E)
  (I:Inv X pins σ H s) (r:Vals vs us) (h:sp (vs++dvs) H Q E):wpAny (model X.prog X.w) X.A (call (.ref f) us) (EP X pins σ Q) X.xe s:=by
 have r2:Vals (vs++dvs) (us++ds):=r.append hd
 have hl:(us++ds).length=ps.length:=by rw [<-r2.length];exact F.len _ _ _ _ h
 refine wpAny_call (codeAny_mono (F.run X.A X.stack s H ⟨us,[]⟩ (us++ds) (vs++dvs) Q E hr I.env0 (hb s us I.kIn hl) r2 h) fun r s' hq=>?_)
 cases r with
 | error e=>exact hx pins σ H s e s' I hq
 | ok fl =>
  cases fl with
  | ret u=>exact I.after hq
  | next=>exact False.elim hq
  | brk=>exact False.elim hq
  | cont=>exact False.elim hq
theorem pe_call (F:FnOk X.prog X.w X.K X.mg X.base CX k f fd ps sp)(hr:Room k X.A)(hg:Gl X x)(hm:X.mg x=some (.ref f))(hk:PySem.W.keepIn X.K (.ref f)=true)(hb:Binds X.K fd ps ds)(hd:Vals dvs ds)(hx:Passes CX X E)
  (ha:PA X (e::es) t) (hdb:(x==("__debug__":Str))=false:=by decide) (he:starEach (e::es) X.env=(false,eval e X.env)::starEach es X.env:=by rfl) (hpl:(backTo pos (starEach es X.env)).any (·.1)=false:=by rfl) :
  PE X (.Call (.Name x p) (e::es) [] pos) (tCall sp dvs E t):=by
 intro pins s σ H Q I h
 refine wpAny_Call_Name_kw (ld_glob I hg hm ?_ hdb)
 refine PySem.W.callWith_K (h₀:=X.base) I.ok.mod.kin hk (thn (ha pos pins s σ H _ I h) fun us s1 ⟨vs,H1,I1,r,q⟩=>⟨I1.kIn,?_⟩) he hpl
 exact run_fn F hr hb hd hx I1 r q
theorem pe_call0 (F:FnOk X.prog X.w X.K X.mg X.base CX k f fd ps sp)(hr:Room k X.A)(hg:Gl X x)(hm:X.mg x=some (.ref f))(hk:PySem.W.keepIn X.K (.ref f)=true)(hb:Binds X.K fd ps ds)(hd:Vals dvs ds)(hx:Passes CX X E)
  (hdb:(x==("__debug__":Str))=false:=by decide):PE X (.Call (.Name x p) [] [] pos) (tCall sp dvs E tNil):=by
 intro pins s σ H Q I h
 refine wpAny_Call_Name_kw (ld_glob I hg hm ?_ hdb)
 exact PySem.W.callWith_K0 I.kIn hk (run_fn (us:=[]) F hr hb hd hx I .nil h)
structure Mk (K:PySem.W.Frag)(C f:Addr):Prop where
 makes:PySem.W.makesIn K C=true
 init:PySem.W.findIn K (.ref C) "__init__"=some (some (.ref f))
 fn:PySem.W.isFn K (.ref f)=true
 kp:PySem.W.keepIn K (.ref C)=true
end
section
variable {X:Cx} {CX:CXT} {k:Nat} {f C:Addr} {fd:FuncData} {ps ks:List Str} {sp:Sp} {E:XK} {x m:Str} {p pos apos kpos:Pos} {e o:Expr} {es:List Expr} {kws:List Keyword} {te ta:TE} {t tk:TA} {nm:Option Str}
variable {g:List Value->List Value->List Value} {gV:List V->List V->List V}
end
structure FnScope (N P:List Str)(sc:Scope):Prop where
 kind:sc.kind=.function
 co:sc.isCoroutine=false
 gen:sc.isGenerator=false
 nd:N.Nodup
 pre:N.take P.length=P
 par:∀ x∈P,sc.names.lookup x=some .local\/sc.names.lookup x=some .cell
 nofree:∀ y∈sc.names,y.2≠.free
theorem bindL_out {kindOf:Str->Option NameKind}{x:Str}:∀ {binds:List (Str×Value)} {m:Str->Option Value},(∀ v,(x,v) ∉ binds)->bindL kindOf binds m x=m x
 | [],_,_=>rfl
 | (n,v)::r,m,h=>by
  unfold bindL
  rw [bindL_out fun w hw=>h w (List.mem_cons_of_mem _ hw)]
  split
  ·have:x≠n:=by rintro rfl;exact h v List.mem_cons_self
   simp [this]
  ·rfl
theorem bindC_out {kindOf:Str->Option NameKind}{x:Str}:∀ {binds:List (Str×Value)} {m:Str->Option Value},(∀ v,(x,v) ∉ binds)->bindC kindOf binds m x=m x
 | [],_,_=>rfl
 | (n,v)::r,m,h=>by
  unfold bindC
  rw [bindC_out fun w hw=>h w (List.mem_cons_of_mem _ hw)]
  split
  ·rfl
  ·have:x≠n:=by rintro rfl;exact h v List.mem_cons_self
   simp [this]
theorem bindL_get {kindOf:Str->Option NameKind}{x:Str}{v:Value}:∀ {P:List Str} {vs:List Value} {i:Nat} {m:Str->Option Value},P.Nodup->P[i]?=some x->vs[i]?=some v->kindOf x=some .local ->
  bindL kindOf (P.zip vs) m x=some v
 | [],_,_,_,_,h,_,_=>by simp at h
 | _::_,[],_,_,_,_,h,_=>by simp at h
 | p::P,w::vs,0,m,nd,h1,h2,hk=>by
  simp at h1 h2;subst h1;subst h2
  show bindL kindOf ((p,w)::P.zip vs) m p=_
  unfold bindL
  rw [bindL_out fun v hv=>(List.nodup_cons.mp nd).1 (List.of_mem_zip hv).1,if_pos hk]
  simp
 | p::P,w::vs,i+1,m,nd,h1,h2,hk=>by
  show bindL kindOf ((p,w)::P.zip vs) m x=_
  unfold bindL
  exact bindL_get (i:=i) (List.nodup_cons.mp nd).2 (by simpa using h1) (by simpa using h2) hk
theorem bindC_get {kindOf:Str->Option NameKind}{x:Str}{v:Value}:∀ {P:List Str} {vs:List Value} {i:Nat} {m:Str->Option Value},P.Nodup->P[i]?=some x->vs[i]?=some v->kindOf x≠some .local ->
  bindC kindOf (P.zip vs) m x=some v
 | [],_,_,_,_,h,_,_=>by simp at h
 | _::_,[],_,_,_,_,h,_=>by simp at h
 | p::P,w::vs,0,m,nd,h1,h2,hk=>by
  simp at h1 h2;subst h1;subst h2
  show bindC kindOf ((p,w)::P.zip vs) m p=_
  unfold bindC
  rw [bindC_out fun v hv=>(List.nodup_cons.mp nd).1 (List.of_mem_zip hv).1,if_neg hk]
  simp
 | p::P,w::vs,i+1,m,nd,h1,h2,hk=>by
  show bindC kindOf ((p,w)::P.zip vs) m x=_
  unfold bindC
  exact bindC_get (i:=i) (List.nodup_cons.mp nd).2 (by simpa using h1) (by simpa using h2) hk
noncomputable def start (N:List Str)(vs:List V):St:=vs.map some++List.replicate (N.length - vs.length) none
noncomputable def cxOf (CX:CXT)(P:Program)(w:World)(K:PySem.W.Frag)(mg:Str->Option Value)(base:Heap)(N:List Str)(qual:Str)(scope:Scope)(f:Addr)(cd:Value)(A:Around)(outer:List Env)(s:Shared)(H:Hp)(E:XK):Cx where
 prog:=P
 w:=w
 K:=K
 mg:=mg
 base:=base
 A:=A.deeper (envOfC qual scope s.heap.objs.size f cd)
 N:=N
 s₀:=s
 H₀:=H
 env:=envOfC qual scope s.heap.objs.size f cd
 outer:=outer
 stack:=envOfC qual scope s.heap.objs.size f cd::outer
 ex:=[]
 calm:=true
 fn:=fun _=>true
 pn:=[]
 xe:=fun e s'=>wpAny (model P w) (A.deeper (envOfC qual scope s.heap.objs.size f cd)) (leaving (envOfC qual scope s.heap.objs.size f cd) e) (fun _ s''=>CX outer H s E e s'') (fun e' s''=>CX outer H s E e' s'') s'
theorem zS {sc:Scope}{n:Nat}{x:Str}(h:sc.names.lookup x=some .cell):∃ c,(cellsFrom n sc.names []).lookup x=some c:=by
 have q:=PySem.W.cellsFrom_some sc.names n [] (.inl h)
 exact Option.isSome_iff_exists.mp q
theorem inv_start {CX:CXT}{P:Program}{w:World}{K:PySem.W.Frag}{mg:Str->Option Value}{base:Heap}{N ps:List Str}{qual:Str}{scope:Scope}{f:Addr}{cd:Value}{A:Around}{outer:List Env}{s s1:Shared}{H:Hp}{E:XK}{us:List Value}{vs:List V}
  (S:FnScope N ps scope) (hd:A.handled=none) (e0:Env0 P w K mg base A outer s H) (hl:vs.length=ps.length) (r:Vals vs us)
  (x:InCallC s s.heap.objs.size (bindL (envOfC qual scope s.heap.objs.size f cd).kindOf (ps.zip us) fun _=>none) (cellsFrom (s.heap.objs.size+1) scope.names []) (bindC (envOfC qual scope s.heap.objs.size f cd).kindOf (ps.zip us) fun _=>none) s1) :
  Inv (cxOf CX P w K mg base N qual scope f cd A outer s H E) [] (start N vs) H s1:=by
 have hpl:ps.length<=N.length:=by have:=congrArg List.length S.pre;rw [List.length_take] at this;omega
 obtain ⟨h1,tk,rfl,hk⟩:=x.done
 have noA:∀ b:Addr,b ∉ (cxOf CX P w K mg base N qual scope f cd A outer s H E).ex:=fun b z=>absurd (show b∈([]:List Addr) from z) (by simp)
 refine ⟨⟨e0.mod,S.kind,rfl,rfl,Nat.le_refl _,fun y z c h1 h2=>?_,fun y hy=>?_,fun y c _ h=>?_,fun _=>hd,Around.frames_deeper e0.frames,.inr ⟨rfl,rfl⟩,fun b z=>absurd z (noA b),e0.bs,e0.bsz,fun b _ _=>noA b,fun b z=>absurd z (noA b),e0.funs,e0.frf⟩,
  rfl,e0.bare,Un.kept hk,⟨_,x.toInCall.ns,fun i y v h1 h2 h3=>?_⟩,fun y c h=>⟨_,x.cell y c h⟩,e0.hok.fresh (Nat.le_refl _),fun y c h=>?_,fun p hp=>absurd (show p∈([]:List (Addr×Obj)) from hp) (by simp),e0.hok.kept hk,?_⟩
 ·exact name_of_addr x.apart (PySem.mem_of_lookup h1) (PySem.mem_of_lookup h2)
 ·have hy:scope.names.lookup y=some .cell\/scope.names.lookup y=some .free:=hy
  rcases hy with hy | hy
  ·exact zS hy
  ·exact absurd rfl (S.nofree _ (PySem.mem_of_lookup hy))
 ·exact Nat.le_of_lt (x.above y c (PySem.mem_of_lookup h))
 ·have hi:i<vs.length:=by
   unfold start at h2
   by_cases hi:i<vs.length
   ·exact hi
   ·rw [List.getElem?_append_right (by simpa using hi)] at h2
    rw [List.getElem?_replicate] at h2
    split at h2<;>cases h2
  have ha:vs[i]?=some v:=by
   unfold start at h2
   rw [List.getElem?_append_left (by simpa using hi),List.getElem?_map] at h2
   cases e:vs[i]? with
   | none=>rw [e] at h2;cases h2
   | some a=>rw [e] at h2;cases h2;rfl
  obtain ⟨u,hu,rv⟩:=r.get ha
  have hp:ps[i]?=some y:=by
   rw [<-S.pre,List.getElem?_take_of_lt (by omega)];exact h1
  have ndP:ps.Nodup:=by rw [<-S.pre];exact S.nd.sublist (List.take_sublist _ _)
  refine ⟨u,rv,?_⟩
  rcases S.par y (List.mem_of_getElem? hp) with k | k
  ·exact .inl ⟨k,bindL_get ndP hp hu k⟩
  ·obtain ⟨c,e⟩:=zS (n:=s.heap.objs.size+1) k
   refine .inr ⟨.inl k,c,e,?_⟩
   have q:=x.cell y c e
   rw [bindC_get ndP hp hu (by show scope.names.lookup y≠_;rw [k];decide)] at q
   exact q
 ·exact e0.hok.fresh (Nat.le_of_lt (x.above y c (PySem.mem_of_lookup h)))
 ·unfold start
  show _=N.length
  rw [List.length_append,List.length_map,List.length_replicate]
  omega
theorem fn_of {CX:CXT}{P:Program}{w:World}{K:PySem.W.Frag}{mg:Str->Option Value}{base:Heap}{k:Nat}{f:Addr}{name qual:Str}{params:Arguments}{body:List Stmt}{scope:Scope}{dV kV doc pm cdv ct oc:Value}{an od:Option Addr}
  {osl:Array (Option Value)} {N ps:List Str} {sp:Sp} (lk:K.lookup f=some ⟨oc,od,.func (PySem.W.fnOf name qual params body scope dV kV doc pm an cdv ct),osl⟩) (hcd:PySem.W.codeIn K cdv qual=true) (S:FnScope N ps scope)
  (len:∀ vs H Q E,sp vs H Q E->vs.length=ps.length)
  (hbody:∀ (A:Around) (outer:List Env) (s:Shared) (H:Hp) (vs:List V) (Q:VK) (E:XK),Room k (A.deeper (envOfC qual scope s.heap.objs.size f cdv))->sp vs H Q E ->
   ∃ t,PSs (cxOf CX P w K mg base N qual scope f cdv A outer s H E) body t/\t { nx:=fun _ H'=>Q .non H',rt:=Q } (start N vs) H) :
  FnOk P w K mg base CX (k+1) f (PySem.W.fnOf name qual params body scope dV kV doc pm an cdv ct) ps sp:=by
 refine ⟨len,fun A outer s H args us vs Q E hr e0 hb r hsp=>?_⟩
 have hl:=len _ _ _ _ hsp
 have KX:K.In s.heap:=e0.mod.kin.keeps fun b o e=>(e0.bs b o e).1
 have lim:s.heap.NoLimit:=e0.mod.nolimit.keeps fun b o e=>(e0.bs b o e).1
 have hkind:∀ y∈ps.zip us,scope.names.lookup y.1=some .local\/(scope.names.lookup y.1=some .cell/\((cellsFrom (s.heap.objs.size+1) scope.names []).lookup y.1).isSome=true):=fun ⟨n,v⟩ hy=>by
  rcases S.par n (List.of_mem_zip hy).1 with q | q
  ·exact .inl q
  ·exact .inr ⟨q,PySem.W.cellsFrom_some _ _ _ (.inl q)⟩
 refine codeAny_call_function hr.depth (KX _ _ lk) rfl S.co S.gen rfl (PySem.W.codeRec_of KX hcd) (hb _ _ _ _ ?_)
 refine wpAny_newFunctionEnv_cells S.kind hkind fun env he s1 x=>?_
 subst he
 refine ⟨lim.keeps x.toInCall.keep,codeAny_func ?_⟩
 obtain ⟨t,ht,hq⟩:=hbody A outer s H vs Q E (hr.deeper _) hsp
 have I:Inv (cxOf CX P w K mg base N qual scope f cdv A outer s H E) [] (start N vs) H s1:=inv_start S hr.hd e0 hl r x
 refine wpAny_mono (ht [] s1 (start N vs) H _ I hq) (fun fl s' hs=>?_) fun e s' hs=>hs
 have fin:∀ {σ':St} {H':Hp} {v:V} {u:Value},Inv (cxOf CX P w K mg base N qual scope f cdv A outer s H E) [] σ' H' s'->RelV v u->Q v H'->CE outer P w H s Q u s' :=
  fun {σ' H' v u} J rv q=>⟨v,H',J.os,J.bare,J.base,J.hok,rv,q⟩
 cases fl with
 | ret u =>
  obtain ⟨v,σ',H',J,rv,q⟩:=hs
  exact fin J rv q
 | next =>
  obtain ⟨σ',H',J,q⟩:=hs
  exact fin (v:=V.non) (u:=Value.none) J rfl q
 | brk =>
  obtain ⟨_,_,_,q⟩:=hs
  exact False.elim q
 | cont =>
  obtain ⟨_,_,_,q⟩:=hs
  exact False.elim q
end L2
end
noncomputable section
namespace L2
open PySem PySem.Spec PyProof.Rows
section
variable {X:Cx} {x:Str} {p pos:Pos} {e:Expr} {es:List Expr} {t:TA} {id T:String} {r:List V->Hp->VK->Prop}
noncomputable def tCB (r:List V->Hp->VK->Prop)(t:TA):TE:=fun σ H Q=>t σ H fun vs H1=>r vs H1 Q
theorem pe_callB (hc:CallR X (.builtin id) r)(hg:Gl X x)(hm:X.mg x=none)(hv:bootBuiltins x=some (.builtin id))(ha:PA X (e::es) t)(hn:x ≠ "__name__":=by decide)(hdb:(x==("__debug__":Str))=false:=by decide)
  (he:starEach (e::es) X.env=(false,eval e X.env)::starEach es X.env:=by rfl) (hpl:(backTo pos (starEach es X.env)).any (·.1)=false:=by rfl):PE X (.Call (.Name x p) (e::es) [] pos) (tCB r t):=by
 intro pins s σ H Q I h
 refine wpAny_Call_Name_kw (ld_blt I hg hm hv ?_ hn hdb)
 exact PyProof.Rows.callWith_builtin1 (thn (ha pos pins s σ H _ I h) fun us s1 ⟨vs,H1,I1,r1,q1⟩=>hc pins s1 σ H1 vs us Q I1 r1 q1) he hpl
theorem pe_callTy (hc:CallR X (.type T) r)(hg:Gl X x)(hm:X.mg x=none)(hv:bootBuiltins x=some (.type T))(ha:PA X (e::es) t)(hn:x ≠ "__name__":=by decide)(hdb:(x==("__debug__":Str))=false:=by decide)
  (he:starEach (e::es) X.env=(false,eval e X.env)::starEach es X.env:=by rfl) (hpl:(backTo pos (starEach es X.env)).any (·.1)=false:=by rfl):PE X (.Call (.Name x p) (e::es) [] pos) (tCB r t):=by
 intro pins s σ H Q I h
 refine wpAny_Call_Name_kw (ld_blt I hg hm hv ?_ hn hdb)
 exact PyProof.Rows.callWith_type1 (thn (ha pos pins s σ H _ I h) fun us s1 ⟨vs,H1,I1,r1,q1⟩=>hc pins s1 σ H1 vs us Q I1 r1 q1) he hpl
end
end L2
end
noncomputable section
namespace HT
open PySem PyProof.Rows
section
open PySem.SeqAt
open PySem.AutoSeq1 (wpAny_loadPart')
open PySem.MeetsSeq PySem.MeetsSeq2 PySem.MeetsSeq3
end
section
variable {prog:Program} {w:World} {A:Around} {E:Value->Shared->Prop} {s:Shared}
theorem cat_tup {t b:Addr}{vs ws:List Value}{Q:Value->Shared->Prop}(ht:IsTup s.heap t vs.toArray)(hb:IsTup s.heap b ws.toArray)(hv:vs≠[])
  (h1:ws=[]->Q (.ref t) s) (h2:ws≠[]->Q (.ref s.heap.objs.size) { s with heap:=s.heap.push { cls:=.type "tuple",data:=.seq (vs++ws).toArray } })
  (hsz:vs.length+ws.length<=sizeLine):wpAny (model prog w) A (binaryOp .Add (.ref t) (.ref b)) Q E s:=by
 obtain ⟨⟨cls,dd,data,sl⟩,ho,hc,n,hd⟩:=id ht
 obtain ⟨⟨cls2,dd2,data2,sl2⟩,ho2,hc2,n2,hd2⟩:=id hb
 simp only at hc hd hc2 hd2
 subst hc hd hc2 hd2
 have e:vs.toArray++ws.toArray=(vs++ws).toArray:=by simp
 by_cases hw:ws=[]
 ·exact concat_meets ⟨_,ho,rfl⟩ ⟨_,ho2,rfl⟩ noFill_tuple_add seq_tuple_add PySem.F.slot_tuple_add PySem.F.entry_tuple_add (PySem.F.args_tuple_add_2 _ _)
   (tuple_addW1 t b vs.toArray ws.toArray n n2 dd dd2 sl sl2 (by simpa using hv) (by simp [hw])) ⟨ho,ho2,h1 hw⟩
 ·refine concat_meets ⟨_,ho,rfl⟩ ⟨_,ho2,rfl⟩ noFill_tuple_add seq_tuple_add PySem.F.slot_tuple_add PySem.F.entry_tuple_add (PySem.F.args_tuple_add_2 _ _)
   (tuple_addW2 t b vs.toArray ws.toArray n n2 dd dd2 sl sl2 (by simpa using hv) (by simpa using hw) (by rw [List.size_toArray,List.size_toArray];exact hsz)) ⟨ho,ho2,?_⟩
  rw [e]
  exact h2 hw
noncomputable def sIx (n d:Nat):Option Int->Nat
 | none=>d
 | some v=>if v<0 then (v+(n:Int)).toNat else min v.toNat n
theorem sIx_le (n d:Nat)(hd:d<=n)(o:Option Int):sIx n d o<=n:=by
 cases o with
 | none=>exact hd
 | some v =>
  show (if v<0 then (v+(n:Int)).toNat else min v.toNat n)<=n
  by_cases hv:v<0
  ·rw [if_pos hv];omega
  ·rw [if_neg hv];exact Nat.min_le_right _ _
theorem clip_eq (v:Int)(n d:Nat):(if v<0 then max (v+(n:Int)) 0 else min v (n:Int))=((sIx n d (some v):Nat):Int):=by
 show (if v<0 then max (v+(n:Int)) 0 else min v (n:Int))=(((if v<0 then (v+(n:Int)).toNat else min v.toNat n):Nat):Int)
 by_cases hv:v<0
 ·simp only [if_pos hv];omega
 ·simp only [if_neg hv];omega
theorem adjust_gen (lo hi:Option Int)(n:Nat):Builtin.Slice.sliceAdjust lo hi 1 (n:Int)=(((sIx n 0 lo:Nat):Int),((sIx n n hi:Nat):Int)):=by
 have h1:¬ ((1:Int)<0):=by omega
 unfold Builtin.Slice.sliceAdjust
 simp only [h1,if_false]
 refine Prod.ext ?_ ?_
 ·cases lo with
  | none=>rfl
  | some v=>exact clip_eq v n 0
 ·cases hi with
  | none=>rfl
  | some v=>exact clip_eq v n n
theorem places_gen (i j:Nat):Builtin.Slice.slicePlaces (i:Int) (j:Int) 1=j - i:=by
 unfold Builtin.Slice.slicePlaces
 have h1:(1:Int) > 0:=by omega
 simp only [h1,if_true,Int.ediv_one]
 split<;>omega
theorem slicePart_ {v:Value}{o:Option Int}{Q:Option Int->Shared->Prop}(p:IsPart v o)(h:Q o s):wpAny (model prog w) A (Builtin.Slice.slicePartIndex v) Q E s:=by
 cases p with
 | none=>exact slicePart_none h
 | int i t=>exact slicePart_int h
theorem sliceApplied_gen {sl:Addr}{vl vu:Value}{lo hi:Option Int}{n:Nat}{Q:Int×Int×Nat->Shared->Prop}(hs:s.heap.IsSliceOf sl vl vu .none)(pl:IsPart vl lo)(pu:IsPart vu hi)
  (h:Q (((sIx n 0 lo:Nat):Int),1,sIx n n hi - sIx n 0 lo) s):wpAny (model prog w) A (Builtin.Slice.sliceApplied (.ref sl) (pure (n:Int))) Q E s:=by
 obtain ⟨os,hos,hcs,hds⟩:=id hs
 unfold Builtin.Slice.sliceApplied Builtin.Slice.sliceFields
 refine wpAny_bind (wpAny_bind (wpAny_field hos hds (x:=vl) rfl (wpAny_bind (wpAny_field hos hds (x:=vu) rfl (wpAny_bind (wpAny_field hos hds (x:=.none) rfl (wpAny_pure ?_)))))))
 refine wpAny_bind (slicePart_none ?_)
 show wpAny _ _ (if ((1:Int)==0)=true then _ else _) _ _ s
 rw [if_neg (by decide)]
 refine wpAny_bind (slicePart_ pl (wpAny_bind (slicePart_ pu (wpAny_bind (wpAny_pure ?_)))))
 show wpAny _ _ (match Builtin.Slice.sliceAdjust lo hi 1 (n:Int) with | (lo,hi)=>pure (lo,(1:Int),Builtin.Slice.slicePlaces lo hi 1)) _ _ s
 rw [adjust_gen lo hi n]
 show wpAny _ _ (pure (((sIx n 0 lo:Nat):Int),(1:Int),Builtin.Slice.slicePlaces ((sIx n 0 lo:Nat):Int) ((sIx n n hi:Nat):Int) 1)) _ _ s
 rw [places_gen]
 exact wpAny_pure h
theorem pick_gen (xs:Array Value)(i k:Nat):((List.range k).filterMap fun (m:Nat)=>xs[((i:Int)+(m:Int)*1).toNat]?).toArray=((xs.toList.drop i).take k).toArray:=by
 have e:(fun (m:Nat)=>xs[((i:Int)+(m:Int)*1).toNat]?)=fun m=>xs[i+m]?:=by
  funext m
  have:((i:Int)+(m:Int)*1).toNat=i+m:=by omega
  rw [this]
 rw [e]
 have:=pick_run xs i k
 rw [List.filterMap_map] at this
 have e2:((fun x=>xs[x]?) ∘ fun x=>i+x)=fun m=>xs[i+m]?:=rfl
 rw [e2] at this
 rw [this]
theorem getItem_tuple_cut {t sl:Addr}{items:Array Value}{vl vu:Value}{lo hi:Option Int}{Q:Value->Shared->Prop}(ht:IsTup s.heap t items)(hs:s.heap.IsSliceOf sl vl vu .none)(pl:IsPart vl lo)(pu:IsPart vu hi)
  (hw:¬ (sIx items.size 0 lo=0/\sIx items.size items.size hi=items.size))
  (h:Q (.ref s.heap.objs.size) { s with heap:=s.heap.push { cls:=.type "tuple",data:=.seq ((items.toList.drop (sIx items.size 0 lo)).take (sIx items.size items.size hi - sIx items.size 0 lo)).toArray } })
  (hsz:items.size<=sizeLine):wpAny (model prog w) A (getItem (.ref t) (.ref sl)) Q E s:=by
 have htake:sizeOk (.seq ((items.toList.drop (sIx items.size 0 lo)).take (sIx items.size items.size hi - sIx items.size 0 lo)).toArray):=by
  show ((items.toList.drop (sIx items.size 0 lo)).take (sIx items.size items.size hi - sIx items.size 0 lo)).toArray.size<=sizeLine
  rw [List.size_toArray,List.length_take,List.length_drop,Array.length_toList]
  omega
 have hj:sIx items.size items.size hi<=items.size:=sIx_le _ _ (Nat.le_refl _) hi
 obtain ⟨os,hos,hcs,hds⟩:=id hs
 have hTs:s.TypeIs (.ref sl) "slice":=⟨os,hos,hcs⟩
 unfold getItem
 try with_reducible refine wpAny_holding ?_
 first | refine wpAny_bind (wpAny_pure ?_) | skip
 refine wpAny_bind (wpAny_sequenceKey ht.typeIs (by decide) ?_)
 refine wpAny_bind (wpAny_callSpecial?_slot (name:=Str.ofString "__getitem__") ht.typeIs PyProof.Rows.slot_tuple_getitem
  (wpAny_call_entry PyProof.Rows.slot_tuple_getitem ht.typeIs entry_tuple_getitem ?_ (args_tuple_getitem _ _)))
 show wpAny _ _ (Builtin.Tuple.tupleItemsOf (.ref t) >>= _) _ _ s
 refine wpAny_bind (tupleItemsOf_ ht ?_)
 refine wpAny_bind (wpAny_typeOf hTs ?_)
 rw [if_pos (by decide)]
 refine wpAny_bind (sliceApplied_gen hs pl pu ?_)
 have hno:¬ ((((sIx items.size 0 lo:Nat):Int)==0&&(1:Int)==1&&(sIx items.size items.size hi - sIx items.size 0 lo)==items.size)=true):=by
  intro q
  rw [Bool.and_eq_true,Bool.and_eq_true] at q
  have q1:((sIx items.size 0 lo:Nat):Int)=0:=eq_of_beq q.1.1
  have q2:sIx items.size items.size hi - sIx items.size 0 lo=items.size:=eq_of_beq q.2
  exact hw ⟨by omega,by omega⟩
 show wpAny _ _ (if (((sIx items.size 0 lo:Nat):Int)==0&&(1:Int)==1&&(sIx items.size items.size hi - sIx items.size 0 lo)==items.size)=true then _ else _) _ _ s
 rw [if_neg hno,pick_gen]
 first
  | exact wpAny_bind (m:=Builtin.Tuple.tupleExact _) (wpAny_newObj_type (wpAny_pure ⟨_,rfl,wpAny_pure h⟩) htake)
  | exact wpAny_bind (m:=Builtin.Tuple.tupleExact _) (wpAny_newObj_type (wpAny_bind (wpAny_pure (wpAny_pure ⟨_,rfl,wpAny_pure h⟩))) htake)
  | exact wpAny_bind (wpAny_bind (m:=Builtin.Tuple.tupleExact _) (wpAny_newObj_type (wpAny_pure (wpAny_pure ⟨_,rfl,wpAny_pure h⟩)) htake))
  | exact wpAny_bind (wpAny_bind (m:=Builtin.Tuple.tupleExact _) (wpAny_newObj_type (wpAny_pure ⟨_,rfl,wpAny_pure h⟩) htake))
end
end HT
noncomputable section
namespace L2
open PySem PySem.Spec PyProof.Rows
noncomputable abbrev TO:=St->Hp->(Option Int->Hp->Prop)->Prop
noncomputable def PO (X:Cx)(e:Option Expr)(t:TO):Prop :=
 ∀ (pins:List (Addr×Obj)) (s:Shared) (σ:St) (H:Hp) (Q:Option Int->Hp->Prop),Inv X pins σ H s->t σ H Q ->
  wpAny (model X.prog X.w) X.A (evalPart e X.env) (fun u s'=>∃ o H',Inv X pins σ H' s'/\IsPart u o/\Q o H') X.xe s
noncomputable def tNoPart:TO:=fun _ H Q=>Q none H
noncomputable def tPart (t:TE):TO:=fun σ H Q=>t σ H fun x H1=>∃ i,x=.int i/\Q (some i) H1
section
variable {X:Cx} {e:Expr} {te:TE} {lo hi:Option Expr} {tl th:TO} {pos p2:Pos}
theorem po_none:PO X none tNoPart:=by
 intro pins s σ H Q I h
 rw [evalPart_none]
 exact wpAny_pure ⟨none,H,I,.none,h⟩
theorem po_some (h:PE X e te):PO X (some e) (tPart te):=by
 intro pins s σ H Q I hw
 rw [evalPart_some]
 refine thn (h pins s σ H _ I hw) fun u s1 ⟨x,H1,I1,r1,q1⟩=>?_
 obtain ⟨i,rfl,q⟩:=q1
 obtain ⟨t,rfl⟩:=r1
 exact ⟨some i,H1,I1,.int i t,q⟩
noncomputable def SlR (X:Cx)(r:V->Option Int->Option Int->Hp->VK->Prop):Prop :=
 ∀ (pins:List (Addr×Obj)) (s:Shared) (σ:St) (H:Hp) (x:V) (v vl vu:Value) (lo hi:Option Int) (sl:Addr) (Q:VK),Inv X pins σ H s->RelV x v->s.heap.IsSliceOf sl vl vu .none->IsPart vl lo->IsPart vu hi->r x lo hi H Q ->
  ∃ T id,typeLookup (.type T) "__getitem__"=pure (some (.builtin id))/\s.TypeIs v T/\wpAny (model X.prog X.w) X.A (getItem v (.ref sl)) (EP X pins σ Q) X.xe s
noncomputable def tSl (r:V->Option Int->Option Int->Hp->VK->Prop)(te:TE)(tl th:TO):TE:=fun σ H Q=>te σ H fun x H1=>tl σ H1 fun l H2=>th σ H2 fun u H3=>r x l u H3 Q
theorem pe_slice {r:V->Option Int->Option Int->Hp->VK->Prop}(hr:SlR X r)(he:PE X e te)(hl:PO X lo tl)(hu:PO X hi th):PE X (.Subscript e (.Slice lo hi none p2) pos) (tSl r te tl th):=by
 intro pins s σ H Q I h
 refine Subscript_ (thn (he pins s σ H _ I h) fun v s1 ⟨x,H1,I1,r1,q1⟩=>?_)
 refine wpAny_Slice (thn (hl pins s1 σ H1 _ I1 q1) fun vl s2 ⟨l,H2,I2,pl,q2⟩=>thn (hu pins s2 σ H2 _ I2 q2) fun vu s3 ⟨u,H3,I3,pu,q3⟩=>?_)
 rw [evalPart_none]
 refine wpAny_pure ?_
 have I4:Inv X pins σ H3 { s3 with heap:=s3.heap.push { cls:=.type "slice",data:=.fields #[vl,vu,.none] } }:=I3.kept (t':=s3.toks) fun b ob q=>Heap.get?_push_of_some _ q
 obtain ⟨T,id,hT,ht,hg⟩:=hr pins { s3 with heap:=s3.heap.push { cls:=.type "slice",data:=.fields #[vl,vu,.none] } } σ H3 x v vl vu l u s3.heap.objs.size Q I4 r1 (Heap.IsSliceOf.new ..) pl pu q3
 show wpAny (model X.prog X.w) X.A (subscriptTail e (.Slice lo hi none p2) v (.ref s3.heap.objs.size)) (EP X pins σ Q) X.xe { s3 with heap:=s3.heap.push { cls:=.type "slice",data:=.fields #[vl,vu,.none] } }
 exact tail_any (ops:=[.ref s3.heap.objs.size,v]) ht hT hg (by with_unfolding_all rfl)
noncomputable def cutV (xs:List V)(lo hi:Option Int):List V:=(xs.drop (HT.sIx xs.length 0 lo)).take (HT.sIx xs.length xs.length hi - HT.sIx xs.length 0 lo)
theorem cutV_length (xs:List V)(lo hi:Option Int):(cutV xs lo hi).length<=xs.length:=by
 unfold cutV
 rw [List.length_take,List.length_drop]
 omega
noncomputable def rSlT (K:PySem.W.Frag):V->Option Int->Option Int->Hp->VK->Prop:=fun x lo hi H Q=>∃ a xs,x=.ref a/\SqT K H a xs /\
 ¬ (HT.sIx xs.length 0 lo=0/\HT.sIx xs.length xs.length hi=xs.length)/\∀ p,H p=none->Q (.ref p) (upd H p (.tup (cutV xs lo hi)))
theorem sl_tup:SlR X (rSlT X.K):=by
 intro pins s σ H x v vl vu lo hi sl Q I rx hs pl pu h
 obtain ⟨a,xs,rfl,hx,hw,q⟩:=h
 cases rx
 obtain ⟨its,r,ht,hz⟩:=I.tuple hx
 have hlen:its.toArray.size=xs.length:=by rw [List.size_toArray];exact r.length.symm
 refine ⟨"tuple",_,PyProof.Rows.slot_tuple_getitem.lookup,ht.typeIs,?_⟩
 refine HT.getItem_tuple_cut ht hs pl pu (by rw [hlen];exact hw) ?_ (by rw [hlen];exact hz)
 rw [hlen]
 refine ⟨.ref s.heap.objs.size,_,I.laid (t':=s.toks) (o:=.tup (cutV xs lo hi)) (fun b ob q=>Heap.get?_push_of_some _ q) (Nat.le_refl _) ?_,rfl,q _ (I.hok.fresh (Nat.le_refl _))⟩
 exact ⟨Nat.le_trans (cutV_length xs lo hi) hz,_,(r.drop (HT.sIx xs.length 0 lo)).take (HT.sIx xs.length xs.length hi - HT.sIx xs.length 0 lo),IsTup.new _ _⟩
noncomputable def rCatT (K:PySem.W.Frag):R2:=fun x y H Q=>∃ a b xs ys,x=.ref a/\y=.ref b/\SqT K H a xs/\SqT K H b ys/\xs≠[]/\xs.length+ys.length<=sizeLine /\
 (ys=[]->Q (.ref a) H)/\(ys≠[]->∀ p,H p=none->Q (.ref p) (upd H p (.tup (xs++ys))))
theorem Vals.nil_iff {xs:List V}{us:List Value}(r:Vals xs us):us=[]↔xs=[]:=by
 cases r with
 | nil=>simp
 | cons _ _=>simp
theorem op_catT:OpR X (binaryOp .Add) (rCatT X.K):=by
 intro pins s σ H x y v u Q I rx ry h
 obtain ⟨a,b,xs,ys,rfl,rfl,ha,hb,hx,hz,q1,q2⟩:=h
 cases rx
 cases ry
 obtain ⟨its,r1,p1,_⟩:=I.tuple ha
 obtain ⟨its2,r2,p2,_⟩:=I.tuple hb
 refine HT.cat_tup p1 p2 (fun z=>hx (r1.nil_iff.mp z)) (fun z=>⟨.ref a,H,I,rfl,q1 (r2.nil_iff.mp z)⟩) (fun z=>?_) (by rw [<-r1.length,<-r2.length];exact hz)
 refine ⟨.ref s.heap.objs.size,_,I.laid (t':=s.toks) (o:=.tup (xs++ys)) (fun b ob q=>Heap.get?_push_of_some _ q) (Nat.le_refl _) ?_,rfl,q2 (fun w=>z (r2.nil_iff.mpr w)) _ (I.hok.fresh (Nat.le_refl _))⟩
 exact ⟨by rw [List.length_append];exact hz,_,r1.append r2,IsTup.new _ _⟩
end
end L2
end
noncomputable section
namespace L2
open PySem PySem.Spec PyProof.Rows
noncomputable def ixN (n:Nat)(i:Int):Option Nat:=if 0<=i then (if i<n then some i.toNat else none) else if -(n:Int)<=i then some (i+n).toNat else none
noncomputable def atI {α:Type}(xs:List α)(i:Int):Option α:=(ixN xs.length i).bind fun j=>xs[j]?
theorem ixN_seq {n:Nat}{i:Int}{j:Nat}(h:ixN n i=some j):seqIndex? i n=some j/\j<n/\-(n:Int)<=i/\i<n:=by
 unfold ixN at h
 by_cases h0:0<=i
 ·rw [if_pos h0] at h
  by_cases h1:i<n
  ·rw [if_pos h1] at h
   have e:i.toNat=j:=Option.some.inj h
   exact ⟨by rw [seqIndex_of h0 h1,e],by omega,by omega,h1⟩
  ·rw [if_neg h1] at h;cases h
 ·rw [if_neg h0] at h
  by_cases h1:-(n:Int)<=i
  ·rw [if_pos h1] at h
   have e:(i+n).toNat=j:=Option.some.inj h
   exact ⟨by rw [seqIndex_neg (by omega) h1,e],by omega,h1,by omega⟩
  ·rw [if_neg h1] at h;cases h
theorem atI_get {α:Type}{xs:List α}{i:Int}{v:α}(h:atI xs i=some v):∃ j,seqIndex? i xs.length=some j/\xs[j]?=some v/\j<xs.length/\-(xs.length:Int)<=i/\i<xs.length:=by
 unfold atI at h
 cases e:ixN xs.length i with
 | none=>rw [e] at h;cases h
 | some j =>
  rw [e] at h
  obtain ⟨h1,h2,h3,h4⟩:=ixN_seq e
  exact ⟨j,h1,h,h2,h3,h4⟩
noncomputable def PlainIx (b:Expr):Prop:=∀ o i,subscripted b false o i=operate [o,i] (getItem o i)
noncomputable def IxR (X:Cx)(r:R2):Prop :=
 ∀ (value slice:Expr) (pins:List (Addr×Obj)) (s:Shared) (σ:St) (H:Hp) (x y:V) (v u:Value) (Q:VK),Inv X pins σ H s->RelV x v->RelV y u->r x y H Q ->
  subscripted slice false v u=operate [v,u] (getItem v u)->wpAny (model X.prog X.w) X.A (subscriptTail value slice v u) (EP X pins σ Q) X.xe s
noncomputable def MtR (X:Cx)(id:String)(r:V->List V->Hp->VK->Prop):Prop :=
 ∀ (pins:List (Addr×Obj)) (s:Shared) (σ:St) (H:Hp) (x:V) (xs:List V) (v:Value) (us:List Value) (Q:VK),Inv X pins σ H s->RelV x v->Vals xs us->r x xs H Q ->
  wpAny (model X.prog X.w) X.A (call (.builtin id) (v::us)) (EP X pins σ Q) X.xe s
section
variable {X:Cx} {a b:Expr} {ta tb:TE} {pos:Pos}
theorem pe_ix {r:R2}(hr:IxR X r)(ha:PE X a ta)(hb:PE X b tb)(hs:PlainIx b):PE X (.Subscript a b pos) (tOp r ta tb):=by
 intro pins s σ H Q I h
 exact Subscript_ (binT ha hb I h fun v u s2 x y H2 I2 rx ry q=>hr a b pins s2 σ H2 x y v u Q I2 rx ry q (hs _ _))
noncomputable def rIxL (K:PySem.W.Frag):R2:=fun x y H Q=>∃ p xs i v,x=.ref p/\y=.int i/\SqL K H p xs/\atI xs i=some v/\Q v H
noncomputable def rIxT (K:PySem.W.Frag):R2:=fun x y H Q=>∃ p xs i v,x=.ref p/\y=.int i/\SqT K H p xs/\atI xs i=some v/\Q v H
noncomputable def rIxS:R2:=fun x y H Q=>∃ z i c,x=.str z/\y=.int i/\z.length<=sizeLine/\atI z.cps.toList i=some c/\Q (.str ⟨#[c]⟩) H
theorem ix_list:IxR X (rIxL X.K):=by
 intro value slice pins s σ H x y v u Q I rx ry h hs
 obtain ⟨p,xs,i,z,rfl,rfl,hq,he,q⟩:=h
 cases rx
 obtain ⟨t,rfl⟩:=ry
 obtain ⟨its,r,pl,hz⟩:=I.list hq
 obtain ⟨j,h1,h2,h3,h4,h5⟩:=atI_get he
 obtain ⟨w,ew,rw'⟩:=r.get h2
 have hl:=r.length
 have hn:=line63
 have fin:EP X pins σ Q w s:=⟨z,H,I,rw',q⟩
 by_cases h0:0<=i
 ·have hj:i.toNat=j:=by
   rw [seqIndex_of h0 h5] at h1
   exact Option.some.inj h1
  exact item_listR pl.isList h0 (by omega) (by rw [hj];simpa using ew) fin hs
 ·have hj:(i+(its.toArray.size:Int)).toNat=j:=by
   rw [seqIndex_neg (by omega) h4] at h1
   rw [List.size_toArray,<-hl]
   exact Option.some.inj h1
  exact subscriptTail_builtinR (x:=w) pl.isList.typeIs slot_list_getitem.lookup
   (wpAny_getItem_list_neg (Q:=fun r s'=>r=w/\EP X pins σ Q r s') pl.isList (by omega) (by rw [List.size_toArray]<;>omega) (by omega) (by rw [hj];simpa using ew) ⟨rfl,fin⟩) hs
theorem ix_tup:IxR X (rIxT X.K):=by
 intro value slice pins s σ H x y v u Q I rx ry h hs
 obtain ⟨p,xs,i,z,rfl,rfl,hq,he,q⟩:=h
 cases rx
 obtain ⟨t,rfl⟩:=ry
 obtain ⟨its,r,pl,hz⟩:=I.tuple hq
 obtain ⟨j,h1,h2,h3,h4,h5⟩:=atI_get he
 obtain ⟨w,ew,rw'⟩:=r.get h2
 have hl:=r.length
 have hn:=line63
 have fin:EP X pins σ Q w s:=⟨z,H,I,rw',q⟩
 exact subscriptTail_builtinR (x:=w) pl.typeIs slot_tuple_getitem.lookup
  (getItem_tuple (j:=j) (Q:=fun r s'=>r=w/\EP X pins σ Q r s') pl (by omega) (by omega) (by rw [List.size_toArray,<-hl];exact h1) (by simpa using ew) ⟨rfl,fin⟩) hs
theorem ix_str:IxR X rIxS:=by
 intro value slice pins s σ H x y v u Q I rx ry h hs
 obtain ⟨z,i,c,rfl,rfl,hz,he,q⟩:=h
 obtain ⟨t,rfl⟩:=rx
 obtain ⟨t',rfl⟩:=ry
 obtain ⟨j,h1,h2,h3,h4,h5⟩:=atI_get he
 have hl:z.cps.toList.length=z.length:=by simp [Str.length]
 rw [hl] at h1 h4 h5
 have hn:=line63
 exact tail_any (typeIs_str s z t) slot_str_getitem.lookup (getItem_str (c:=c) (by
  have e1:decide (i < -(2^63:Int))=false:=decide_eq_false (by omega)
  have e2:decide (i ≥ 2^63)=false:=decide_eq_false (by omega)
  rw [e1,e2,Bool.or_false]) (by rw [h1];simpa using h2) ⟨.str ⟨#[c]⟩,H,I.tok _,⟨_,rfl⟩,q⟩) hs
theorem mapSeq_set (its:List Value)(n j:Nat)(u:Value):Obj.mapSeq (·.setIfInBounds j u) { cls:=.type "list",data:=.seq its.toArray n }={ cls:=.type "list",data:=.seq (its.set j u).toArray n }:=by
 simp [Obj.mapSeq]
theorem Inv.lst {pins:List (Addr×Obj)}{σ:St}{H:Hp}{s:Shared}{p:Addr}{xs:List V}(I:Inv X pins σ H s)(h:H p=some (.lst xs)) :
  ∃ (its:List Value) (n:Nat),Vals xs its/\s.heap.get? p=some { cls:=.type "list",data:=.seq its.toArray n }/\xs.length<=sizeLine:=by
 obtain ⟨z,its,n,r,e⟩:=I.hok p _ h
 exact ⟨its,n,r,e,z⟩
theorem Inv.lstUpd {pins:List (Addr×Obj)}{σ:St}{H:Hp}{s:Shared}{p:Addr}{xs ys:List V}{its its':List Value}{n n':Nat}{f:Obj->Obj}(I:Inv X pins σ H s)(h:H p=some (.lst xs))
  (ho:s.heap.get? p=some { cls:=.type "list",data:=.seq its.toArray n }) (hf:f { cls:=.type "list",data:=.seq its.toArray n }={ cls:=.type "list",data:=.seq its'.toArray n' }) (r:Vals ys its') (hz:ys.length<=sizeLine) (t:Nat) :
  Inv X pins σ (upd H p (.lst ys)) { s with heap:=s.heap.update p f,toks:=t }:=by
 have e:(s.heap.update p f).get? p=some { cls:=.type "list",data:=.seq its'.toArray n' }:=by
  rw [Heap.get?_update_self f ho (by rw [hf]<;>rfl),hf]
 refine I.write (x:=p) (e:=p) (by rw [h];trivial) (.inl rfl) (fun b u hb q=>(Heap.get?_update_other _ _ (Ne.symm hb)).trans q) ⟨_,e⟩ ?_
 exact ⟨hz,its',n',r,e⟩
noncomputable def rSetL:V->V->V->Hp->(Hp->Prop)->Prop:=fun o i v H Q=>∃ p xs k j,o=.ref p/\i=.int k/\H p=some (.lst xs)/\ixN xs.length k=some j/\Q (upd H p (.lst (xs.set j v)))
theorem set_list:PSet X rSetL:=by
 intro pins s σ H o i v ov iv u Q I ro ri rv h
 obtain ⟨p,xs,k,j,rfl,rfl,hp,hj,q⟩:=h
 cases ro
 obtain ⟨t,rfl⟩:=ri
 obtain ⟨its,n,r,ho,hz⟩:=I.lst hp
 obtain ⟨h1,h2,h3,h4⟩:=ixN_seq hj
 have hl:=r.length
 have hn:=line63
 have I':Inv X pins σ (upd H p (.lst (xs.set j v))) { s with heap:=s.heap.update p (Obj.mapSeq (·.setIfInBounds j u)) } :=
  I.lstUpd hp ho (mapSeq_set its n j u) (r.set rv j) (by rw [List.length_set];exact hz) s.toks
 by_cases h0:0<=k
 ·have hk:k.toNat=j:=by
   rw [seqIndex_of h0 h4] at h1
   exact Option.some.inj h1
  exact PySem.W.ki_setAt ho h0 (by omega) (by rw [List.size_toArray,<-hl];exact h4) (by rw [hk];exact ⟨_,I',q⟩)
 ·have hk:(k+(its.toArray.size:Int)).toNat=j:=by
   rw [seqIndex_neg (by omega) h3] at h1
   rw [List.size_toArray,<-hl]
   exact Option.some.inj h1
  exact PySem.W.ki_setBack ho (by omega) (by rw [List.size_toArray,<-hl];exact h3) (by omega) (by rw [hk];exact ⟨_,I',q⟩)
theorem slice_bounds (lo hi:Option Int)(n:Nat):(sliceBounds lo hi none n).1=((HT.sIx n 0 lo:Nat):Int)/\(sliceBounds lo hi none n).2.1=((HT.sIx n n hi:Nat):Int)/\(sliceBounds lo hi none n).2.2=1:=by
 refine ⟨?_,?_,rfl⟩
 ·cases lo with
  | none=>simp [sliceBounds,HT.sIx]
  | some i =>
   simp only [sliceBounds,HT.sIx,Option.getD_none,show (1:Int) > 0 by decide,if_true]
   by_cases h:i<0
   ·simp only [h,if_true]<;>omega
   ·simp only [h,if_false]<;>omega
 ·cases hi with
  | none=>simp [sliceBounds,HT.sIx]
  | some i =>
   simp only [sliceBounds,HT.sIx,Option.getD_none,show (1:Int) > 0 by decide,if_true]
   by_cases h:i<0
   ·simp only [h,if_true]<;>omega
   ·simp only [h,if_false]<;>omega
theorem slicePick_cut (its:List Value)(lo hi:Option Int):slicePick its.toArray lo hi none=((its.drop (HT.sIx its.length 0 lo)).take (HT.sIx its.length its.length hi - HT.sIx its.length 0 lo)).toArray:=by
 obtain ⟨h1,h2,h3⟩:=slice_bounds lo hi its.toArray.size
 unfold slicePick
 rw [h1,h2,h3]
 simp only [sliceRange_one,pick_run,List.size_toArray]<;>rfl
noncomputable def rSlL (K:PySem.W.Frag):V->Option Int->Option Int->Hp->VK->Prop:=fun x lo hi H Q=>∃ a xs,x=.ref a/\SqL K H a xs/\∀ p,H p=none->Q (.ref p) (upd H p (.lst (cutV xs lo hi)))
theorem sl_list:SlR X (rSlL X.K):=by
 intro pins s σ H x v vl vu lo hi sl Q I rx hs pl pu h
 obtain ⟨a,xs,rfl,hx,q⟩:=h
 cases rx
 obtain ⟨its,r,ht,hz⟩:=I.list hx
 have hlen:=r.length
 refine ⟨"list",_,slot_list_getitem.lookup,ht.isList.typeIs,?_⟩
 refine wpAny_getItem_list_slice ht.isList hs pl pu .none (by simp) ?_ (by rw [List.size_toArray]<;>omega)
 rw [slicePick_cut,<-hlen]
 refine ⟨.ref s.heap.objs.size,_,I.laid (t':=s.toks) (o:=.lst (cutV xs lo hi)) (fun b ob q=>Heap.get?_push_of_some _ q) (Nat.le_refl _) ?_,rfl,q _ (I.hok.fresh (Nat.le_refl _))⟩
 exact ⟨Nat.le_trans (cutV_length xs lo hi) hz,_,0,(r.drop (HT.sIx xs.length 0 lo)).take (HT.sIx xs.length xs.length hi - HT.sIx xs.length 0 lo),Heap.get?_push_size _ rfl⟩
theorem call_len_seq:CallR X (.builtin "len") (fun xs H Q=>∃ p ys,xs=[.ref p]/\(SqL X.K H p ys\/SqT X.K H p ys)/\Q (.int ys.length) H):=by
 intro pins s σ H xs us Q I r h
 obtain ⟨p,ys,rfl,hq,q⟩:=h
 obtain ⟨u,rfl,rx⟩:=vals1 r
 cases rx
 have hn:=line63
 rcases hq with hq | hq
 ·obtain ⟨its,r',pl,hz⟩:=I.list hq
  have hlen:=r'.length
  exact Calls.call_len_list pl.isList (by simp only [List.size_toArray]<;>omega) ⟨.int ys.length,H,I.tok _,⟨s.toks+1,by rw [List.size_toArray,hlen]⟩,q⟩
 ·obtain ⟨its,r',pl,hz⟩:=I.tuple hq
  have hlen:=r'.length
  exact len_tuple pl (by simp only [List.size_toArray]<;>omega) ⟨.int ys.length,H,I.tok _,⟨s.toks+1,by rw [List.size_toArray,hlen]⟩,q⟩
theorem call_len_str:CallR X (.builtin "len") (fun xs H Q=>∃ z,xs=[.str z]/\z.length<=sizeLine/\Q (.int z.length) H):=by
 intro pins s σ H xs us Q I r h
 obtain ⟨z,rfl,hz,q⟩:=h
 obtain ⟨u,rfl,t,rfl⟩:=vals1 r
 have hn:=line63
 exact len_str (by omega) ⟨.int z.length,H,I.tok _,⟨_,rfl⟩,q⟩
theorem CallR.or {f:Value}{r r':List V->Hp->VK->Prop}(h:CallR X f r)(h':CallR X f r'):CallR X f (fun xs H Q=>r xs H Q\/r' xs H Q):=by
 intro pins s σ H xs us Q I rs q
 rcases q with q | q
 ·exact h pins s σ H xs us Q I rs q
 ·exact h' pins s σ H xs us Q I rs q
theorem call_list_of:CallR X (.type "list") (fun xs H Q=>∃ p ys,xs=[.ref p]/\(SqL X.K H p ys\/SqT X.K H p ys)/\∀ l,H l=none->Q (.ref l) (upd H l (.lst ys))):=by
 intro pins s σ H xs us Q I r h
 obtain ⟨p,ys,rfl,hq,q⟩:=h
 obtain ⟨u,rfl,rx⟩:=vals1 r
 cases rx
 have fin:∀ (its:List Value),Vals ys its->ys.length<=sizeLine->∀ (h':Heap) (c':Nat),(∀ b o',s.heap.get? b=some o'->h'.get? b=some o') ->
   h'.get? s.heap.objs.size=some { cls:=.type "list",dict:=none,data:=.seq its.toArray c',slots:=#[] }->EP X pins σ Q (.ref s.heap.objs.size) { s with heap:=h' }:=fun its r' hz h' c' kp e =>
  ⟨.ref s.heap.objs.size,_,I.laid (t':=s.toks) kp (Nat.le_refl _) (show ObjOk X.prog X.w _ h' _ (.lst ys) from ⟨hz,its,c',r',e⟩),rfl,q _ (I.hok.fresh (Nat.le_refl _))⟩
 rcases hq with hq | hq
 ·obtain ⟨its,r',pl,hz⟩:=I.list hq
  have hlen:=r'.length
  obtain ⟨o,ho,hc,n,hd⟩:=pl.isList
  exact call_list_seq p (.inl rfl) ho hc hd (fun h' c' kp e=>fin its r' hz h' c' kp e) (by simp only [List.size_toArray]<;>omega)
 ·obtain ⟨its,r',pl,hz⟩:=I.tuple hq
  have hlen:=r'.length
  obtain ⟨o,ho,hc,n,hd⟩:=pl
  exact call_list_seq p (.inr rfl) ho hc hd (fun h' c' kp e=>fin its r' hz h' c' kp e) (by simp only [List.size_toArray]<;>omega)
theorem call_tuple_of:CallR X (.type "tuple") (fun xs H Q=>∃ p ys,xs=[.ref p]/\((SqL X.K H p ys/\∀ l,H l=none->Q (.ref l) (upd H l (.tup ys)))\/(SqT X.K H p ys/\Q (.ref p) H))):=by
 intro pins s σ H xs us Q I r h
 obtain ⟨p,ys,rfl,h⟩:=h
 obtain ⟨u,rfl,rx⟩:=vals1 r
 cases rx
 rcases h with ⟨hq,q⟩ | ⟨hq,q⟩
 ·obtain ⟨its,r',pl,hz⟩:=I.list hq
  have hlen:=r'.length
  refine call_tuple_list pl.isList (fun h' kp=>?_) (by simp only [List.size_toArray]<;>omega)
  have I1:Inv X pins σ H { s with heap:=h' }:=I.kept (t':=s.toks) kp
  have I2:Inv X pins σ (upd H h'.objs.size (.tup ys)) { s with heap:=h'.push { cls:=.type "tuple",data:=.seq its.toArray } } :=
   I1.laid (t':=s.toks) (fun b o e=>Heap.get?_push_of_some _ e) (Nat.le_refl _) (show ObjOk X.prog X.w _ _ _ (.tup ys) from ⟨hz,its,r',IsTup.new _ _⟩)
  exact ⟨.ref h'.objs.size,_,I2,rfl,q _ (I1.hok.fresh (Nat.le_refl _))⟩
 ·obtain ⟨its,r',pl,hz⟩:=I.tuple hq
  exact call_tuple_same pl ⟨.ref p,H,I,rfl,q⟩
noncomputable def tyV (K:PySem.W.Frag)(T:String)(x:V)(H:Hp):Prop:=match x with
 | .str _=>T = "str"
 | .int _=>T = "int"
 | .ref p=>(T = "list"/\∃ xs,SqL K H p xs)\/(T = "tuple"/\∃ o,K.lookup p=some o/\o.cls=.type "tuple"/\o.dict=none) \/
   (T = "dict"/\((∃ kvs,H p=some (.dK kvs))\/∃ kvs,H p=some (.dT kvs)))\/(T = "set"/\∃ S n,H p=some (.set S n))
 | _=>False
theorem tyV_is {pins:List (Addr×Obj)}{σ:St}{H:Hp}{s:Shared}{T:String}{x:V}{v:Value}(I:Inv X pins σ H s)(r:RelV x v)(ty:tyV X.K T x H) :
  s.TypeIs v T/\∀ a,v=.ref a->∃ ob,s.heap.get? a=some ob/\ob.dict=none:=by
 cases x with
 | str z =>
  obtain ⟨t,rfl⟩:=r
  cases (show T = "str" from ty)
  exact ⟨typeIs_str s z t,fun _ e=>nomatch e⟩
 | int i =>
  obtain ⟨t,rfl⟩:=r
  cases (show T = "int" from ty)
  exact ⟨typeIs_int s i t,fun _ e=>nomatch e⟩
 | ref p =>
  cases r
  rcases ty with ⟨rfl,xs,hq⟩ | ⟨rfl,o,hk,hc,hd⟩ | ⟨rfl,hk⟩ | ⟨rfl,S,n,hk⟩
  ·obtain ⟨its,_,pl,_⟩:=I.list hq
   refine ⟨pl.isList.typeIs,fun a e=>?_⟩
   cases e
   obtain ⟨o,n,e,c,hd,_⟩:=pl
   exact ⟨o,e,hd⟩
  ·refine ⟨⟨o,I.kIn p o hk,hc⟩,fun a e=>?_⟩
   cases e
   exact ⟨o,I.kIn _ o hk,hd⟩
  ·have z:∃ o,s.heap.get? p=some o/\o.ExactDict:=by
    rcases hk with ⟨kvs,hk⟩ | ⟨kvs,hk⟩
    ·obtain ⟨_,_,_,_,o,_,_,e,ex,_⟩:=I.hok p _ hk
     exact ⟨o,e,ex⟩
    ·obtain ⟨_,_,_,_,o,_,_,e,ex,_⟩:=I.hok p _ hk
     exact ⟨o,e,ex⟩
   obtain ⟨o,e,ex⟩:=z
   refine ⟨⟨o,e,ex.1⟩,fun a e2=>?_⟩
   cases e2
   exact ⟨o,e,ex.2.1⟩
  ·obtain ⟨o,_,_,_,e,ex,_⟩:=I.hok p _ hk
   refine ⟨⟨o,e,ex.1⟩,fun a e2=>?_⟩
   cases e2
   exact ⟨o,e,ex.2.1⟩
 | _=>exact False.elim ty
noncomputable def tBM0 (K:PySem.W.Frag)(T:String)(r:V->List V->Hp->VK->Prop)(to:TE):TE:=fun σ H Q=>to σ H fun x H1=>tyV K T x H1/\r x [] H1 Q
noncomputable def tBM (K:PySem.W.Frag)(T:String)(r:V->List V->Hp->VK->Prop)(to:TE)(t:TA):TE:=fun σ H Q=>to σ H fun x H1=>tyV K T x H1/\t σ H1 fun xs H2=>r x xs H2 Q
variable {o e:Expr} {es:List Expr} {to:TE} {t:TA} {name:Str} {apos cpos:Pos} {T id:String} {r:V->List V->Hp->VK->Prop}
theorem pe_bm0 (pa:PlainAttrs T)(slot:Slot T name id)(hty:typeOf (.builtin id)=pure (.type "method_descriptor"))(hm:MtR X id r)(ho:PE X o to)
  (hbase:attributeBase o name X.env (eval o X.env)=eval o X.env:=by rfl) (hline:(apos.endLine==cpos.line)=true:=by rfl):PE X (.Call (.Attribute o name apos) [] [] cpos) (tBM0 X.K T r to):=by
 intro pins s σ H Q I h
 refine wpAny_Call_method0_late hbase hline (thn (ho pins s σ H _ I h) fun v s1 ⟨x,H1,I1,r1,ty,q1⟩=>?_)
 obtain ⟨h1,h2⟩:=tyV_is I1 r1 ty
 exact ⟨T,id,pa,slot,hty,h1,h2,Calls.callWith_builtin rfl (PySem.evalArgs_none (hm pins s1 σ H1 x [] v [] Q I1 r1 .nil q1))⟩
theorem pe_bm (pa:PlainAttrs T)(slot:Slot T name id)(hty:typeOf (.builtin id)=pure (.type "method_descriptor"))(hm:MtR X id r)(ho:PE X o to)(ha:PA X (e::es) t)
  (hbase:attributeBase o name X.env (eval o X.env)=eval o X.env:=by rfl)
  (hfew:((backTo cpos (starEach (e::es) X.env)).all (fun x=>!x.1)&&(backToKw cpos (keywordEach [] X.env)).all (fun x=>x.1.isSome)
   && decide ((e::es).length+([]:List Keyword).length+(if ([]:List Keyword).isEmpty then 0 else 1)<30))=true:=by rfl)
  (hline:(apos.endLine==cpos.line)=true:=by rfl) (hs:starEach (e::es) X.env=(false,eval e X.env)::starEach es X.env:=by rfl) (hplain:(backTo cpos (starEach es X.env)).any (·.1)=false:=by rfl) :
  PE X (.Call (.Attribute o name apos) (e::es) [] cpos) (tBM X.K T r to t):=by
 intro pins s σ H Q I h
 refine wpAny_Call_method_late hbase hfew hline rfl (thn (ho pins s σ H _ I h) fun v s1 ⟨x,H1,I1,r1,ty,q1⟩=>?_)
 obtain ⟨h1,h2⟩:=tyV_is I1 r1 ty
 refine ⟨T,id,pa,slot,hty,h1,h2,?_⟩
 have hA:=ha cpos pins s1 σ H1 _ I1 q1
 rw [hs] at hA ⊢
 refine Calls.callWith_builtin (by show (false||(backTo cpos (starEach es X.env)).any (·.1))=false;rw [hplain]<;>rfl) (Calls.evalArgs_plain ?_)
 exact thn hA fun us s2 ⟨vs,H2,I2,r2,q2⟩=>hm pins s2 σ H2 x vs v us Q I2 r1 r2 q2
end
end L2
end
noncomputable section
namespace L2
open PySem PySem.Spec PyProof.Rows
noncomputable def MtM (X:Cx)(id:String)(r:V->List V->Hp->VK->Prop):Prop :=
 ∀ (pins:List (Addr×Obj)) (s:Shared) (σ:St) (H:Hp) (x:V) (xs:List V) (v:Value) (us:List Value) (Q:VK),Inv X pins σ H s->RelV x v->Vals xs us->r x xs H Q ->
  wpAny (model X.prog X.w) X.A (call (.builtin id) (v::us)) (EP X pins σ Q) X.xe s
theorem Vals.one:∀ {x:V} {us:List Value},Vals [x] us->∃ u,us=[u]/\RelV x u
 | _,_,.cons r .nil=>⟨_,rfl,r⟩
theorem Vals.zero:∀ {us:List Value},Vals [] us->us=[]
 | _,.nil=>rfl
theorem Vals.dropLast {xs:List V}{us:List Value}(h:Vals xs us):Vals xs.dropLast us.dropLast:=by
 induction h with
 | nil=>exact .nil
 | cons r t ih =>
  cases t with
  | nil=>exact .nil
  | cons q t'=>exact .cons r ih
theorem Vals.reverse {xs:List V}{us:List Value}(h:Vals xs us):Vals xs.reverse us.reverse:=by
 induction h with
 | nil=>exact .nil
 | cons r t ih=>rw [List.reverse_cons,List.reverse_cons];exact Vals.append ih (.cons r .nil)
theorem Vals.rep {xs:List V}{us:List Value}(h:Vals xs us):∀ k:Nat,Vals (List.replicate k xs).flatten (List.replicate k us).flatten
 | 0=>.nil
 | k+1=>by
  rw [List.replicate_succ,List.replicate_succ,List.flatten_cons,List.flatten_cons]
  exact Vals.append h (Vals.rep h k)
theorem foldl_rep (its:List Value):∀ (k:Nat) (acc:List Value),
  List.foldl (fun x1 x2=>x1++x2) acc.toArray (List.replicate k its.toArray)=(acc++(List.replicate k its).flatten).toArray
 | 0,acc=>by simp
 | k+1,acc=>by
  have e:acc.toArray++its.toArray=(acc++its).toArray:=by simp
  have e2:(acc++its)++(List.replicate k its).flatten=acc++(List.replicate (k+1) its).flatten:=by
   rw [List.replicate_succ,List.flatten_cons,List.append_assoc]
  rw [<-e2,<-foldl_rep its k (acc++its),<-e,List.replicate_succ,List.foldl_cons]
section
variable {X:Cx} {pins:List (Addr×Obj)} {σ:St} {H:Hp} {s:Shared} {l b:Addr} {xs ys zs:List V}
theorem Inv.lset {its its':List Value}{n:Nat}{f:Array Value->Array Value}{t':Nat}(I:Inv X pins σ H s)(hH:H l=some (.lst xs))
  (e:s.heap.get? l=some { cls:=.type "list",data:=.seq its.toArray n }) (hf:f its.toArray=its'.toArray) (hv:Vals ys its') (hz:ys.length<=sizeLine) :
  Inv X pins σ (upd H l (.lst ys)) { s with heap:=s.heap.update l (Obj.mapSeq f),toks:=t' }:=by
 have q:=PySem.IsL.update e f
 rw [hf] at q
 refine I.write (x:=l) (e:=l) (by rw [hH];exact trivial) (.inl rfl) (fun b' u hb hu=>(Heap.get?_update_other s.heap (Obj.mapSeq f) (Ne.symm hb)).trans hu) ⟨_,q⟩ ?_
 exact ⟨hz,its',_,hv,q⟩
theorem Inv.lnew {its:List Value}{t':Nat}(I:Inv X pins σ H s)(hv:Vals ys its)(hz:ys.length<=sizeLine) :
  Inv X pins σ (upd H s.heap.objs.size (.lst ys)) { s with heap:=s.heap.push { cls:=.type "list",data:=.seq its.toArray },toks:=t' } :=
 I.laid (fun _ _ q=>Heap.get?_push_of_some _ q) (Nat.le_refl _) ⟨hz,its,0,hv,Heap.get?_push_size _ rfl⟩
theorem Inv.fresh (I:Inv X pins σ H s):H s.heap.objs.size=none:=I.hok.fresh (Nat.le_refl _)
theorem Inv.lstM (I:Inv X pins σ H s)(hH:H l=some (.lst xs)):xs.length<=sizeLine/\∃ (its:List Value) (n:Nat),Vals xs its/\xs.length=its.length/\s.heap.get? l=some { cls:=.type "list",data:=.seq its.toArray n }:=by
 obtain ⟨z,its,n,r,e⟩:=I.hok l _ hH
 exact ⟨z,its,n,r,r.length,e⟩
theorem notLongL {n:Nat}(h:n<=sizeLine):Builtin.List.listTooLong n=false:=by
 unfold Builtin.List.listTooLong
 exact decide_eq_false (by omega)
end
section
variable {X:Cx}
noncomputable def rAppend:V->List V->Hp->VK->Prop:=fun x vs H Q=>∃ l xs y,x=.ref l/\vs=[y]/\H l=some (.lst xs)/\xs.length<sizeLine/\Q .non (upd H l (.lst (xs++[y])))
theorem mt_append:MtM X "list.append" rAppend:=by
 intro pins s σ H x vs v us Q I rx rv h
 obtain ⟨l,xs,y,rfl,rfl,hH,hz,q⟩:=h
 cases rx
 obtain ⟨u,rfl,ru⟩:=rv.one
 obtain ⟨z,its,n,r,hl,e⟩:=I.lstM hH
 refine call_meets F.slot_list_append ⟨_,e,rfl⟩ F.entry_list_append (F.args_list_append_2 _ _) (PySem.list_append l its.toArray n u (by rw [List.size_toArray];omega)) ⟨e,?_⟩
 refine ⟨.non,_,I.lset (its':=its++[u]) hH e (by simp) (r.append (.cons ru .nil)) ?_,rfl,q⟩
 rw [List.length_append,List.length_singleton]
 omega
noncomputable def rExtend:V->List V->Hp->VK->Prop:=fun x vs H Q=>∃ l b xs zs,x=.ref l/\vs=[.ref b]/\H l=some (.lst xs)/\H b=some (.lst zs)/\xs.length+zs.length<=sizeLine/\Q .non (upd H l (.lst (xs++zs)))
theorem mt_extend:MtM X "list.extend" rExtend:=by
 intro pins s σ H x vs v us Q I rx rv h
 obtain ⟨l,b,xs,zs,rfl,rfl,hH,hB,hz,q⟩:=h
 cases rx
 obtain ⟨u,rfl,ru⟩:=rv.one
 cases ru
 obtain ⟨z,its,n,r,hl,e⟩:=I.lstM hH
 obtain ⟨z2,its2,n2,r2,hl2,e2⟩:=I.lstM hB
 have hsz:its.toArray.size+its2.toArray.size<=sizeLine:=by rw [List.size_toArray,List.size_toArray];omega
 have hlong:¬ (!its.toArray.isEmpty&&Builtin.List.listTooLong (its.toArray.size+its2.toArray.size))=true:=by
  rw [notLongL hsz,Bool.and_false]
  exact Bool.false_ne_true
 refine call_meets F.slot_list_extend ⟨_,e,rfl⟩ F.entry_list_extend (F.args_list_extend_2 _ _)
  (AutoSeq1.list_extend_list_list_0 l its.toArray n b its2.toArray n2 hlong (by rw [List.size_toArray];omega) (by omega)) ⟨e,e2,?_⟩
 refine ⟨.non,_,I.lset (its':=its++its2) hH e (by simp) (r.append r2) ?_,rfl,q⟩
 rw [List.length_append]
 omega
noncomputable def rCat:R2:=fun x y H Q=>∃ l b xs zs,x=.ref l/\y=.ref b/\H l=some (.lst xs)/\H b=some (.lst zs)/\xs.length+zs.length<=sizeLine/\∀ p,H p=none->Q (.ref p) (upd H p (.lst (xs++zs)))
theorem op_cat:OpR X (binaryOp .Add) rCat:=by
 intro pins s σ H x y v u Q I rx ry h
 obtain ⟨l,b,xs,zs,rfl,rfl,hH,hB,hz,q⟩:=h
 cases rx
 cases ry
 obtain ⟨z,its,n,r,hl,e⟩:=I.lstM hH
 obtain ⟨z2,its2,n2,r2,hl2,e2⟩:=I.lstM hB
 refine PySem.P.add_list e e2 ?_ (by rw [List.size_toArray,List.size_toArray];omega)
 have ea:its.toArray++its2.toArray=(its++its2).toArray:=by simp
 rw [ea]
 exact ⟨.ref _,_,I.lnew (t':=s.toks) (r.append r2) (by rw [List.length_append];omega),rfl,q _ I.fresh⟩
noncomputable def rRep:R2:=fun x y H Q=>∃ l k xs,x=.ref l/\y=.int k/\H l=some (.lst xs)/\-(2^63)<=k/\k<2^63/\xs.length*k.toNat<=sizeLine /\
 ∀ p,H p=none->Q (.ref p) (upd H p (.lst (List.replicate k.toNat xs).flatten))
theorem len_rep {α:Type}(xs:List α)(k:Nat):(List.replicate k xs).flatten.length=k*xs.length:=by
 induction k with
 | zero=>simp
 | succ k ih=>rw [List.replicate_succ,List.flatten_cons,List.length_append,ih,Nat.succ_mul,Nat.add_comm]
theorem op_rep:OpR X (binaryOp .Mult) rRep:=by
 intro pins s σ H x y v u Q I rx ry h
 obtain ⟨l,k,xs,rfl,rfl,hH,h1,h2,hz,q⟩:=h
 cases rx
 obtain ⟨t,rfl⟩:=ry
 obtain ⟨z,its,n,r,hl,e⟩:=I.lstM hH
 have hlen:its.toArray.size*k.toNat<=sizeLine:=by rw [List.size_toArray,<-hl];exact hz
 have hcap:¬ its.toArray.size*k.toNat > (2^63 - 1) / 8:=by
  have:(sizeLine:Nat)<=(2^63 - 1) / 8:=by decide
  omega
 have hfit:¬ (!Builtin.List.listFitsIndex k)=true:=by
  rw [fitsIndex_both h1 h2]
  exact Bool.false_ne_true
 have hlong:¬ Builtin.List.listTooLong (its.toArray.size*k.toNat)=true:=by
  rw [notLongL hlen]
  exact Bool.false_ne_true
 have hnew:List.foldl (fun x1 x2=>x1++x2) #[] (List.replicate (if its.toArray.isEmpty=true then 0 else k.toNat) its.toArray)=(List.replicate k.toNat its).flatten.toArray:=by
  have f0:∀ m:Nat,List.foldl (fun x1 x2=>x1++x2) #[] (List.replicate m its.toArray)=(List.replicate m its).flatten.toArray:=fun m=>by
   have:=foldl_rep its m []
   rw [List.nil_append] at this
   exact this
  rw [f0]
  cases its with
  | nil=>simp
  | cons a r'=>rw [if_neg (by simp)]
 refine wpAny_binaryOp_repeat_ref (T := "list") (U := "int") (by decide) ⟨_,e,rfl⟩ (fun s'=>typeIs_int s' k t) noFill_list_mul F.fills_int_mul F.slot_int_rmul repeat_list F.slot_int_index.lookup
  (call_meets F.slot_int_rmul (typeIs_int s k t) F.entry_int_rmul (F.args_int_rmul_2 _ _) (int___rmul___int_list k t l its.toArray n)
   ⟨e,rfl,⟨_,e,rfl⟩,call_meets F.slot_list_mul ⟨_,e,rfl⟩ F.entry_list_mul (F.args_list_mul_2 _ _) (AutoListH.list___mul___list_int_3 l its.toArray n k t hfit hcap hlong) ⟨e,?_⟩⟩)
 rw [hnew]
 exact ⟨.ref _,_,I.lnew (t':=s.toks) (r.rep k.toNat) (by rw [len_rep,Nat.mul_comm];exact hz),rfl,q _ I.fresh⟩
end
section
variable {prog:Program} {w:World} {A:Around} {E:Value->Shared->Prop} {s:Shared}
end
section
variable {X:Cx}
end
end L2
end
noncomputable section
namespace Att
open PySem PySem.W PySem.Calls PyProof.Rows
theorem ints_of_wellAll {P:Params}{h:Heap}:∀ (ns:List Int) (vs:List Value),WellAll P h vs (ns.map WData.int)->IntsAre vs ns:=by
 intro ns
 induction ns with
 | nil =>
  intro vs w
  rw [List.map_nil] at w
  cases w
  exact .nil
 | cons n ns ih =>
  intro vs w
  rw [List.map_cons] at w
  cases w with
  | cons a b =>
   cases a
   exact .cons _ _ (ih _ b)
theorem script_of {l:OpenLaw}{n:Nat}(hn:l.most=some n){P:Params}{h:Heap}{args:List WData}{vals:List Value}
  (hpre:l.row.toRowW.claim.pre args=true) (hwl:WellAll P h vals args) :
  ∃ a vs ns,vals=[Value.ref a]/\args=[WData.list (ns.map WData.int)]/\h.get? a=some { cls:=.type "list",data:=.seq vs.toArray }/\IntsAre vs ns/\ns.length<=n:=by
 have hsh:WShape.hasAll [] args [.list .int]=true:=(pre_splitW hpre).1
 have hc:l.pre.holds [] { args:=args }=true:=(pre_splitW hpre).2
 obtain ⟨d,r,rfl,h1,h2⟩:=hasAllW_cons hsh
 obtain rfl:=hasAllW_nil h2
 obtain ⟨xs,rfl,h3⟩:=hasW_list h1
 obtain ⟨ns,rfl⟩:=items_int h3
 have hlen:ns.length<=n:=by
  unfold OpenLaw.pre at hc
  have h4:(WTm.not (.lt (.lit (.int (n:Int))) (.len (.arg 0)))).holds [] { args:=[.list (ns.map .int)] }=true:=by
   have h4:=(holds_andW hc).1
   rw [hn] at h4
   exact h4
  have h5:=condW_of h4 (w_not (w_lt w_lit (w_len_list (w_arg rfl))))
  rw [List.length_map] at h5
  refine Nat.le_of_not_lt fun q=>?_
  have q':(n:Int)<((ns.length:Nat):Int):=by omega
  first
   | (rw [decide_eq_true q'] at h5;exact absurd h5 (by decide))
   | (simp at h5;omega)
 cases hwl with
 | cons w1 w2 =>
  cases w2
  cases w1 with
  | list ho hall=>exact ⟨_,_,ns,rfl,rfl,ho,ints_of_wellAll ns _ hall,hlen⟩
theorem post_true (l:OpenLaw)(args:List WData):l.row.toRowW.claim.post args (.bool true) args=true :=
 postW_of (r:=l.row.toRowW) (X:=(true==true))
  (show WShape.has [] (.bool true) .bool=true by first | rfl | decide | simp [WShape.has,WShape.arms,WShape.armsAll])
  (show (WTm.eq .res (.lit (.bool true))).value [] { args:=args,res:=some (.bool true),after:=args }=some (.bool (true==true)) from w_eq_bool (w_res rfl) w_lit) rfl
theorem attach_call {l:OpenLaw}{n:Nat}{q:Program}{loose:List Str}{XP:(Str->Option Value)->Heap->Prop}{YP:World->Heap->Prop}{d:DefRec}
  (hn:l.most=some n) (hdf:d.params.defaults=[])
  (call:∀ (w:World) (s₀ s₁:Shared) (mg mb:Str->Option Value) (fa:Addr) (o:Obj) (pm cd doc:Value) (a:Addr) (vs:List Value) (ns:List Int),
   Ground q loose [] XP w s₀ mg mb s₁.heap->YP w s₁.heap ->
   s₁.heap.get? fa=some o->o.data=.func (docDef d.name d.params d.body d.scope pm cd doc)->s₁.heap.CodeRec cd d.name->mg d.name=some (.ref fa) ->
   s₁.heap.get? a=some { cls:=.type "list",data:=.seq vs.toArray }->IntsAre vs ns->ns.length<=n->s₁.gens=#[] ->
   codeAny (model l.prog w) callerA (.call (.ref fa) ⟨[.ref a],[]⟩) (fun r s'=>r=.ok (.ret (.bool true))/\OldK s₁.heap s'.heap/\s'.os=s₁.os/\AllBare s'.gens) s₁) :
  WalkO q loose XP YP l.row.toRowW d [] (fun f vs=>PySem.call f vs):=by
 intro w s₀ s₁ mg mb G Y fa o pm cd doc dV kV ho hd hcd hD hmg hg args vals as hpre hlay hrd hwl hlo
 obtain rfl:dV=.none:=Dflts.none hD hdf
 obtain rfl:kV=.none:=Dflts.noKw hD
 obtain ⟨a,vs,ns,rfl,rfl,hobj,hints,hlen⟩:=script_of hn hpre hwl
 refine enter_call (codeAny_mono (call w s₀ s₁ mg mb fa o pm cd doc a vs ns G Y ho (fd_plain hd) hcd hmg hobj hints hlen hg) fun r s' hq=>?_)
 obtain ⟨rfl,h2,h3,h4⟩:=hq
 exact ⟨.inl ⟨.bool true,.bool true,[],rfl,fun _=>rfl,.bool true,post_true l _,fun _=>⟨List.Pairwise.nil,fun _ hm=>(nomatch hm)⟩⟩,h2,h3,h4⟩
section
variable {prog:Program} {w:World} {A:Around} {E:Value->Shared->Prop} {s:Shared} {K:Frag}
end
end Att
noncomputable section
namespace L2
open PySem PySem.Spec PyProof.Rows
theorem vals_ints:∀ {vs:List Value} {ns:List Int},IntsAre vs ns->Vals (ns.map V.int) vs
 | _,_,.nil=>.nil
 | _,_,.cons n t h=>.cons ⟨t,rfl⟩ (vals_ints h)
end L2
end
noncomputable section
namespace L2
open PySem PySem.Spec PyProof.Rows
end L2
end
noncomputable section
namespace L2
open PySem PySem.Spec PyProof.Rows
noncomputable def defArgs (s:Stmt):Arguments:=match s with
 | .FunctionDef _ a _ _ _ _ _ _ _ _=>a
 | _=>{ posonlyargs:=[],args:=[],vararg:=none,kwonlyargs:=[],kw_defaults:=[],kwarg:=none,defaults:=[] }
noncomputable def zK (s:Stmt):List Stmt:=match s with
 | .FunctionDef _ _ b _ _ _ _ _ _ _=>b
 | _=>[]
noncomputable def defScope (s:Stmt):Scope:=match s with
 | .FunctionDef _ _ _ _ _ _ sc _ _ _=>sc
 | _=>{ kind:=.function,names:=[],isGenerator:=false,isCoroutine:=false }
noncomputable abbrev CX0:CXT:=fun _ _ _ _ _ _=>False
noncomputable abbrev E0:XK:=fun _ _ _=>False
theorem pass0 {X:Cx}:Passes CX0 X E0:=fun _ _ _ _ _ _ _ h=>h.elim
structure Fun (K:PySem.W.Frag)(x qual:Str)(st:Stmt)(f:Addr)(fd:FuncData):Prop where
 ex:∃ (oc:Value) (od:Option Addr) (kV doc pm:Value) (an:Option Addr) (cdv ct:Value) (osl:Array (Option Value)),
  fd=PySem.W.fnOf x qual (defArgs st) (zK st) (defScope st) .none kV doc pm an cdv ct/\K.lookup f=some ⟨oc,od,.func fd,osl⟩/\PySem.W.codeIn K cdv qual=true
 kp:PySem.W.keepIn K (.ref f)=true
section
variable {P:Program} {w:World} {K:PySem.W.Frag} {mg:Str->Option Value} {base:Heap}
theorem Fun.ok {x qual:Str}{st:Stmt}{f:Addr}{fd:FuncData}{N ps:List Str}{k:Nat}{sp:Sp}(F:Fun K x qual st f fd)(S:FnScope N ps (defScope st))(len:∀ vs H Q E,sp vs H Q E->vs.length=ps.length)
  (hbody:∀ (cdv:Value) (A:Around) (outer:List Env) (s:Shared) (H:Hp) (vs:List V) (Q:VK) (E:XK),Room k (A.deeper (envOfC qual (defScope st) s.heap.objs.size f cdv))->sp vs H Q E ->
   ∃ t,PSs (cxOf CX0 P w K mg base N qual (defScope st) f cdv A outer s H E).nox (zK st) t/\t { nx:=fun _ H'=>Q .non H',rt:=Q } (start N vs) H):FnOk P w K mg base CX0 (k+1) f fd ps sp:=by
 obtain ⟨oc,od,kV,doc,pm,an,cdv,ct,osl,rfl,lk,hcd⟩:=F.ex
 refine fn_of lk hcd S len fun A outer s H vs Q E hr hsp=>?_
 obtain ⟨t,h,q⟩:=hbody cdv A outer s H vs Q E hr hsp
 exact ⟨t,h.nox,q⟩
theorem Fun.binds {x qual:Str}{st:Stmt}{f:Addr}{fd:FuncData}{ps:List Str}(F:Fun K x qual st f fd)
  (h:∀ (kV doc pm:Value) (an:Option Addr) (cdv ct:Value) (us:List Value),us.length=ps.length->bindArgs (PySem.W.fnOf x qual (defArgs st) (zK st) (defScope st) .none kV doc pm an cdv ct) ⟨us,[]⟩=pure (ps.zip us)):Binds K fd ps []:=by
 obtain ⟨oc,od,kV,doc,pm,an,cdv,ct,osl,rfl,lk,hcd⟩:=F.ex
 exact .all (h kV doc pm an cdv ct)
theorem fun_mk {x qual:Str}{st:Stmt}{f:Addr}{oc:Value}{od an:Option Addr}{osl:Array (Option Value)}{kV doc pm cdv ct:Value}(l:K.lookup f=some ⟨oc,od,.func (PySem.W.fnOf x qual (defArgs st) (zK st) (defScope st) .none kV doc pm an cdv ct),osl⟩)
  (c:PySem.W.codeIn K cdv qual=true) (k:PySem.W.keepIn K (.ref f)=true):Fun K x qual st f (PySem.W.fnOf x qual (defArgs st) (zK st) (defScope st) .none kV doc pm an cdv ct):=⟨⟨oc,od,kV,doc,pm,an,cdv,ct,osl,rfl,l,c⟩,k⟩
end
theorem hu_of {A:Around}{k:Nat}(hr:Room k A):A.units+1<cLine:=Nat.lt_of_le_of_lt (Nat.add_le_add_left (by decide:1<=64) _) hr.units
section
variable {X:Cx}
theorem pv (i:Nat){x:Str}{pos:Pos}(hN:X.N[i]?=some x:=by rfl)(hv:Vis X.env.scope x:=by first | exact Or.inl rfl | exact Or.inr (Or.inl rfl) | exact Or.inr (Or.inr rfl))(hd:(x==("__debug__":Str))=false:=by decide)
  (hcd:(x==("__classdict__":Str))=false:=by decide):PE X (.Name x pos) (tVar i):=pe_var hN hv hd hcd
end
theorem iteF {A B:Prop}(h:B):if false=true then A else B:=by
 rw [if_neg Bool.false_ne_true]
 exact h
theorem iteT {A B:Prop}(h:A):if true=true then A else B:=by
 rw [if_pos rfl]
 exact h
noncomputable def Same (H H':Hp):Prop:=∀ b o,H b=some o->H' b=some o
theorem Same.refl (H:Hp):Same H H:=fun _ _ h=>h
end L2
end
noncomputable section
namespace L2
open PySem PySem.Spec PyProof.Rows
theorem compLoopT {prog:Program}{w:World}{A:Around}{R:Result->Shared->Prop}{s:Shared}{elt target iter:Expr}{ifs:List Expr}{scope:Scope}{pos:Pos}{it acc:Value}{env:Env}(I:Nat->Shared->Prop)
  (turn:∀ n s,I n s->wpAny (model prog w) A (pyNext it) (fun r s₁=>match r with
   | none=>R (.ok .next) s₁
   | some v=>wpAny (model prog w) A (letOwnedTupleGo target it v) (fun _ s₁'=>wpAny (model prog w) A (assign target env v) (fun _ s₂ =>
     wpAny (model prog w) A (forIn ifs true fun c r=>if r=true then do let ok <- isTrue c env (eval c env);pure (ForInStep.yield ok) else pure (ForInStep.yield r)) (fun ok s₃ =>
      if ok=true then wpAny (model prog w) A (eval elt env) (fun x s₄ =>
       wpAny (model prog w) A (call (.builtin "list.append") [acc,x]) (fun _ s₅=>∃ m,m<n/\I m s₅) (notedBy (model prog w) A env fun e s'=>R (.error e) s') s₄) (notedBy (model prog w) A env fun e s'=>R (.error e) s') s₃
      else ∃ m,m<n/\I m s₃) (notedBy (model prog w) A env fun e s'=>R (.error e) s') s₂) (notedBy (model prog w) A env fun e s'=>R (.error e) s') s₁') (notedBy (model prog w) A env fun e s'=>R (.error e) s') s₁) (notedBy (model prog w) A env fun e s'=>R (.error e) s') s)
  (n:Nat) (h:I n s) :
  codeAny (model prog w) A (.compLoop (.ListComp elt [⟨target,iter,ifs,0⟩] scope pos) 0 it acc env) R s:=by
 refine codeAny_loop rfl I (fun n s hI=>?_) n h
 show wpAny _ A ((compTurn (.ListComp elt [⟨target,iter,ifs,0⟩] scope pos) 0 it acc env).onRaise (fun x=>do noteFrame x env;theTreesLotGoes x)) _ _ s
 refine wpAny_noted ?_
 rw [compTurn_list]
 refine wpAny_bind (wpAny_standAt (wpAny_bind (wpAny_mono (turn n s hI) (fun r s₁ h₁=>?_) fun _ _ h'=>h')))
 cases r with
 | none=>exact wpAny_pure h₁
 | some v =>
  refine wpAny_bind (wpAny_mono h₁ (fun _ s₁' h₁'=>?_) fun _ _ h'=>h')
  refine wpAny_bind (wpAny_mono h₁' (fun _ s₂ h₂=>wpAny_bind (wpAny_mono h₂ (fun ok s₃ h₃=>?_) fun _ _ h'=>h')) fun _ _ h'=>h')
  cases ok with
  | false=>exact wpAny_pure ⟨rfl,h₃⟩
  | true =>
   exact wpAny_bind (wpAny_bind (wpAny_mono h₃ (fun x s₄ h₄=>wpAny_bind (wpAny_mono h₄ (fun _ s₅ h₅=>wpAny_pure (wpAny_pure ⟨rfl,h₅⟩)) fun _ _ h'=>h')) fun _ _ h'=>h'))
noncomputable def clOf (cells:List (Str×Addr)):List (Str×NameKind)->List (Str×Addr)->List (Str×Addr)
 | [],acc=>acc
 | (n,k)::r,acc=>clOf cells r (if k==.free then (match cells.lookup n with | some c=>(n,c)::acc | none=>acc) else acc)
theorem closure_forIn {env:Env}:∀ (names:List (Str×NameKind)) (acc:List (Str×Addr)),(∀ y∈names,y.2=.free->∃ c,env.cells.lookup y.1=some c) ->
  (forIn names acc fun (x:Str×NameKind) (cs:List (Str×Addr))=>(if x.2==.free then do let c <- cellOf env x.1;pure (ForInStep.yield ((x.1,c)::cs)) else pure (ForInStep.yield cs):Sem (ForInStep (List (Str×Addr)))))=pure (clOf env.cells names acc)
 | [],acc,_=>by rw [List.forIn_nil];rfl
 | (n,k)::r,acc,h=>by
  have ih:=fun a=>closure_forIn r a fun y hy=>h y (List.mem_cons_of_mem _ hy)
  rw [List.forIn_cons]
  unfold clOf
  cases e:(k==NameKind.free) with
  | false =>
   simp only [Bool.false_eq_true,if_false]
   exact ih acc
  | true =>
   have hk:k=.free:=by simpa using e
   obtain ⟨c,hc⟩:=h (n,k) List.mem_cons_self hk
   have e1:cellOf env n=pure c:=by unfold cellOf;rw [hc]
   simp only [if_true,e1,hc]
   exact ih _
theorem z0 {scope:Scope}{env:Env}(h:∀ y∈scope.names,y.2=.free->∃ c,env.cells.lookup y.1=some c):closureFor scope env=pure (clOf env.cells scope.names []):=by
 have:=closure_forIn (env:=env) scope.names [] h
 show (forIn scope.names [] (fun (x:Str×NameKind) (cs:List (Str×Addr))=>(if x.2==.free then do let c <- cellOf env x.1;pure (ForInStep.yield ((x.1,c)::cs)) else pure (ForInStep.yield cs):Sem (ForInStep (List (Str×Addr))))) >>= fun cs=>pure cs)=_
 rw [this]
 rfl
theorem clOf_mem {cells:List (Str×Addr)}{n:Str}{c:Addr}:∀ {names:List (Str×NameKind)} {acc:List (Str×Addr)},(n,c)∈clOf cells names acc->cells.lookup n=some c\/(n,c)∈acc
 | [],_,h=>.inr h
 | (m,k)::r,acc,h=>by
  unfold clOf at h
  rcases clOf_mem h with z | z
  ·exact .inl z
  ·cases e:(k==NameKind.free) with
   | false=>simp only [e,Bool.false_eq_true,if_false] at z;exact .inr z
   | true =>
    simp only [e,if_true] at z
    cases q:cells.lookup m with
    | none=>rw [q] at z;exact .inr z
    | some d =>
     rw [q] at z
     rcases List.mem_cons.mp z with y | y
     ·cases y;exact .inl q
     ·exact .inr y
theorem clOf_has {cells:List (Str×Addr)}{n:Str}{c:Addr}(hc:cells.lookup n=some c):∀ {names:List (Str×NameKind)} {acc:List (Str×Addr)},((n,NameKind.free)∈names\/(n,c)∈acc)->(n,c)∈clOf cells names acc
 | [],_,h=>by rcases h with h | h;(exact absurd h (by simp));exact h
 | (m,k)::r,acc,h=>by
  unfold clOf
  refine clOf_has hc ?_
  rcases h with h | h
  ·rcases List.mem_cons.mp h with e | h
   ·cases e
    right
    simp [hc]
   ·exact .inl h
  ·right
   cases e:(k==NameKind.free) with
   | false=>simpa using h
   | true =>
    simp only [if_true]
    cases q:cells.lookup m with
    | none=>exact h
    | some d=>exact List.mem_cons_of_mem _ h
theorem lookup_of_mem {α:Type}{n:Str}{c:α}:∀ {l:List (Str×α)},(n,c)∈l->(∀ d,(n,d)∈l->d=c)->l.lookup n=some c
 | (m,d)::r,h,u=>by
  rw [List.lookup_cons]
  cases e:n==m with
  | true =>
   have e':=beq_iff_eq.mp e
   subst e'
   rw [u d List.mem_cons_self]
  | false =>
   rcases List.mem_cons.mp h with z | z
   ·cases z;simp at e
   ·exact lookup_of_mem z fun d' h'=>u d' (List.mem_cons_of_mem _ h')
theorem z8 {cells:List (Str×Addr)}{n:Str}{c:Addr}{names:List (Str×NameKind)}(hc:cells.lookup n=some c)(h:(n,NameKind.free)∈names):(clOf cells names []).lookup n=some c:=by
 refine lookup_of_mem (clOf_has hc (.inl h)) fun d hd=>?_
 rcases clOf_mem hd with z | z
 ·rw [hc] at z;exact (Option.some.inj z).symm
 ·exact absurd z (by simp)
theorem zh:∀ (names:List (Str×NameKind)) (n:Nat) (acc:List (Str×Addr)),cellsFrom n names acc=cellsFrom n names []++acc
 | [],_,acc=>by simp [cellsFrom]
 | (x,k)::r,n,acc=>by
  unfold cellsFrom
  split
  ·rw [zh r (n+1) ((x,n)::acc),zh r (n+1) [(x,n)]]
   simp
  ·exact zh r n acc
theorem zv:∀ {names:List (Str×NameKind)} {n:Nat} {acc:List (Str×Addr)} {x:Str} {c:Addr},(x,c)∈cellsFrom n names acc->(x,NameKind.cell)∈names\/(x,c)∈acc
 | [],_,_,_,_,h=>.inr h
 | (y,k)::r,n,acc,x,c,h=>by
  unfold cellsFrom at h
  split at h
  ·rename_i hk
   rcases zv h with z | z
   ·exact .inl (List.mem_cons_of_mem _ z)
   ·rcases List.mem_cons.mp z with e | z
    ·cases e
     have:k=.cell:=by simpa using hk
     subst this
     exact .inl List.mem_cons_self
    ·exact .inr z
  ·rcases zv h with z | z
   ·exact .inl (List.mem_cons_of_mem _ z)
   ·exact .inr z
theorem zC {α:Type}(x:Str):∀ (l r:List (Str×α)),(l++r).lookup x=(l.lookup x).or (r.lookup x)
 | [],r=>by simp
 | (y,v)::l,r=>by
  rw [List.cons_append,List.lookup_cons,List.lookup_cons]
  cases x==y with
  | true=>rfl
  | false=>exact zC x l r
end L2
end
noncomputable section
namespace L2
open PySem PySem.Spec PyProof.Rows
noncomputable def zU (N':List Str)(src:List (Option Nat))(scope:Scope)(XN:List Str)(xs:Scope):Bool :=
 (scope.kind==.function) &&
 (scope.names.all fun y=>!(y.2==.free)||(xs.names.lookup y.1==some .cell||xs.names.lookup y.1==some .free)) &&
 (scope.names.all fun y=>!(y.2==.local)||scope.names.lookup y.1==some .local) &&
 (scope.names.all fun y=>!(y.2==.cell)||(scope.names.all fun z=>!(z.1==y.1)||z.2==.cell)) &&
 (src.length==N'.length) &&
 ((N'.zip src).all fun y=>match y.2 with | none=>true | some j=>XN[j]?==some y.1&&scope.names.lookup y.1==some .free)
structure CompCk (N':List Str)(src:List (Option Nat))(scope:Scope)(XN:List Str)(xs:Scope):Prop where
 kind:scope.kind=.function
 fr:∀ y∈scope.names,y.2=.free->xs.names.lookup y.1=some .cell\/xs.names.lookup y.1=some .free
 loc:∀ y∈scope.names,y.2=.local->scope.names.lookup y.1=some .local
 cel:∀ y∈scope.names,y.2=.cell->∀ z∈scope.names,z.1=y.1->z.2=.cell
 len:src.length=N'.length
 sr:∀ (i j:Nat) (x:Str),src[i]?=some (some j)->N'[i]?=some x->XN[j]?=some x/\scope.names.lookup x=some .free
theorem compCk {N':List Str}{src:List (Option Nat)}{scope:Scope}{XN:List Str}{xs:Scope}(h:zU N' src scope XN xs=true):CompCk N' src scope XN xs:=by
 unfold zU at h
 simp only [Bool.and_eq_true] at h
 obtain ⟨⟨⟨⟨⟨h1,h2⟩,h3⟩,h4⟩,h5⟩,h6⟩:=h
 refine ⟨by simpa using h1,fun y hy e=>?_,fun y hy e=>?_,fun y hy e z hz ez=>?_,by simpa using h5,fun i j x e1 e2=>?_⟩
 ·have:=List.all_eq_true.mp h2 y hy
  simpa [e] using this
 ·have:=List.all_eq_true.mp h3 y hy
  simpa [e] using this
 ·have:=List.all_eq_true.mp h4 y hy
  simp only [e,beq_self_eq_true,Bool.not_true,Bool.false_or] at this
  have:=List.all_eq_true.mp this z hz
  simpa [ez] using this
 ·have hm:(x,some j)∈N'.zip src:=by
   refine List.mem_of_getElem? (i:=i) ?_
   rw [List.getElem?_zip_eq_some]
   exact ⟨e2,e1⟩
  have:=List.all_eq_true.mp h6 _ hm
  simpa using this
noncomputable abbrev zE (X:Cx)(N':List Str)(scope:Scope)(C:Addr)(cells:List (Str×Addr))(s:Shared)(H:Hp)(ex:List Addr):Cx where
 prog:=X.prog
 w:=X.w
 K:=X.K
 mg:=X.mg
 base:=X.base
 A:=X.A
 N:=N'
 s₀:=s
 H₀:=H
 env:={ scope:=relabel scope X.env,locals:=C,globals:=X.env.globals,cells:=cells,qual:=X.env.qual,func:=none,code:=X.env.code,frame:=X.env.frame,builtins:=X.env.builtins }
 outer:=X.stack
 stack:=X.stack
 ex:=ex
 fn:=fun x=>scope.names.lookup x==some .cell
 calm:=X.calm
 pn:=[]
 xe:=fun _ _=>False
noncomputable def PIf (X:Cx)(ifs:List Expr)(t:TT):Prop :=
 ∀ (pins:List (Addr×Obj)) (s:Shared) (σ:St) (H:Hp) (Q:Bool->Hp->Prop),Inv X pins σ H s->t σ H Q ->
  wpAny (model X.prog X.w) X.A (forIn ifs true fun c r=>if r=true then do let ok <- isTrue c X.env (eval c X.env);pure (ForInStep.yield ok) else pure (ForInStep.yield r)) (TP X pins σ Q) X.xe s
noncomputable def tYes:TT:=fun _ H Q=>Q true H
theorem pif_nil {X:Cx}:PIf X [] tYes:=fun _ _ _ H _ I h=>wpAny_tests_nil ⟨H,I,h⟩
theorem pif_one {X:Cx}{c:Expr}{t:TT}(h:PT X c t):PIf X [c] t:=fun pins s σ H Q I hw=>wpAny_tests_one (h pins s σ H Q I hw)
noncomputable def srcSt (src:List (Option Nat))(σ:St):St:=src.map fun o=>match o with | none=>none | some j=>(σ[j]?).join
noncomputable def tComp (src:List (Option Nat))(wi:TI)(g:TG)(tc:TT)(te:TE):TE:=fun σ H Q=>wi σ H fun J H1=>∀ D,H1 D=none ->
 ∃ W:Nat->Nat->St->Hp->Prop,(∃ m,W 0 m (srcSt src σ) (upd H1 D (.lst [])))/\∀ i m σ' H',W i m σ' H' ->
  (J.stop i H'/\Q (.ref D) H')\/(J.go i H'/\∃ N:St->Hp->Prop,(∀ σ2 H2,N σ2 H2->∃ m',m'<m/\W (i+1) m' σ2 H2) /\
   ∀ x H2,J.yld i H' x H2->g x σ' H2 fun σ3 H3=>tc σ3 H3 fun b H4=>if b=true then te σ3 H4 fun v H5=>∃ ys,H5 D=some (.lst ys)/\ys.length<sizeLine/\N σ3 (upd H5 D (.lst (ys++[v]))) else N σ3 H4)
theorem qf {env:Env}:∀ {names:List (Str×NameKind)} {x:Str} {k:NameKind},names.lookup x=some k ->
  (names.map fun (n,k)=>if (k==NameKind.free&&env.scope.kind==.function&&env.kindOf n==some .cell) then (n,NameKind.cell) else (n,k)).lookup x =
   some (if (k==NameKind.free&&env.scope.kind==.function&&env.kindOf x==some .cell) then NameKind.cell else k)
 | [],_,_,h=>by simp at h
 | (n,k)::r,x,k',h=>by
  have ih:=@qf env r x k'
  show List.lookup x ((if (k==NameKind.free&&env.scope.kind==.function&&env.kindOf n==some .cell)=true then (n,NameKind.cell) else (n,k))::_)=_
  cases hx:x==n with
  | true =>
   have e:=beq_iff_eq.mp hx
   subst e
   simp only [List.lookup_cons,hx] at h
   cases h
   by_cases hc:(k==NameKind.free&&env.scope.kind==.function&&env.kindOf x==some .cell)=true
   ·rw [if_pos hc,if_pos hc];simp only [List.lookup_cons,hx]
   ·rw [if_neg hc,if_neg hc];simp only [List.lookup_cons,hx]
  | false =>
   simp only [List.lookup_cons,hx] at h
   by_cases hc:(k==NameKind.free&&env.scope.kind==.function&&env.kindOf n==some .cell)=true
   ·rw [if_pos hc];simp only [List.lookup_cons,hx];exact ih h
   ·rw [if_neg hc];simp only [List.lookup_cons,hx];exact ih h
theorem z9 {env:Env}:∀ {names:List (Str×NameKind)} {x:Str},names.lookup x=none ->
  (names.map fun (n,k)=>if (k==NameKind.free&&env.scope.kind==.function&&env.kindOf n==some .cell) then (n,NameKind.cell) else (n,k)).lookup x=none
 | [],_,_=>rfl
 | (n,k)::r,x,h=>by
  have ih:=@z9 env r x
  show List.lookup x ((if (k==NameKind.free&&env.scope.kind==.function&&env.kindOf n==some .cell)=true then (n,NameKind.cell) else (n,k))::_)=_
  cases hx:x==n with
  | true=>simp only [List.lookup_cons,hx] at h;cases h
  | false =>
   simp only [List.lookup_cons,hx] at h
   by_cases hc:(k==NameKind.free&&env.scope.kind==.function&&env.kindOf n==some .cell)=true
   ·rw [if_pos hc];simp only [List.lookup_cons,hx];exact ih h
   ·rw [if_neg hc];simp only [List.lookup_cons,hx];exact ih h
theorem comp_start {X:Cx}{N':List Str}{src:List (Option Nat)}{scope:Scope}{pins:List (Addr×Obj)}{σ:St}{H:Hp}{s s4:Shared}{fp:List Addr}
  (hck:CompCk N' src scope X.N X.env.scope) (I:Inv X pins σ H s) (hf:∀ b∈fp,FpOk X pins H b) (hfl:∀ b∈fp,b<s.heap.objs.size)
  (e4:∃ tk,s4={ s with heap:=pushCells (s.heap.push { cls:=.type "dict",data:=.dict #[] }) scope.names,toks:=tk }) :
  Inv (zE X N' scope s.heap.objs.size (cellsFrom (s.heap.objs.size+1) scope.names (clOf X.env.cells scope.names [])) s H fp) [] (srcSt src σ) H s4:=by
 obtain ⟨tk,rfl⟩:=e4
 have hk:∀ b o,s.heap.get? b=some o->(pushCells (s.heap.push { cls:=.type "dict",data:=.dict #[] }) scope.names).get? b=some o:=fun b o e=>pushCells_keeps _ _ b o (Heap.get?_push_of_some _ e)
 have ok:=cellsFrom_ok scope.names (s.heap.push { cls:=.type "dict",data:=.dict #[] }) (s.heap.objs.size+1) [] ⟨fun _ _ hm=>(nomatch hm),List.Pairwise.nil⟩ (by rw [Heap.size_push];exact Nat.le_refl _)
 rw [Heap.size_push] at ok
 have eapp:=zh scope.names (s.heap.objs.size+1) (clOf X.env.cells scope.names [])
 have lk:∀ x c,(cellsFrom (s.heap.objs.size+1) scope.names (clOf X.env.cells scope.names [])).lookup x=some c ->
   ((x,c)∈cellsFrom (s.heap.objs.size+1) scope.names []/\(x,NameKind.cell)∈scope.names)\/(X.env.cells.lookup x=some c/\(cellsFrom (s.heap.objs.size+1) scope.names []).lookup x=none):=fun x c e=>by
  rw [eapp,zC] at e
  cases q:(cellsFrom (s.heap.objs.size+1) scope.names []).lookup x with
  | some d =>
   rw [q] at e
   have e':d=c:=Option.some.inj e
   subst e'
   have hm:=PySem.mem_of_lookup q
   refine .inl ⟨hm,?_⟩
   rcases zv hm with z | z
   ·exact z
   ·exact absurd z (by simp)
  | none =>
   rw [q] at e
   have e':(clOf X.env.cells scope.names []).lookup x=some c:=e
   rcases clOf_mem (PySem.mem_of_lookup e') with z | z
   ·exact .inr ⟨z,rfl⟩
   ·exact absurd z (by simp)
 have up:∀ x c,(x,c)∈cellsFrom (s.heap.objs.size+1) scope.names []->s.heap.objs.size+1<=c:=fun x c h=>(ok.empty x c h).2
 have old:∀ x c,X.env.cells.lookup x=some c->c<s.heap.objs.size:=fun x c h=>by
  obtain ⟨v,q⟩:=I.cell x c h
  exact q.lt
 have hbelow:∀ b,b<s.heap.objs.size->b≠s.heap.objs.size:=fun b h=>Nat.ne_of_lt h
 have fpl:∀ b∈fp,H b=none/\b≠X.env.locals/\b ∉ X.fs:=fun b hb=>⟨(hf b hb).1,(hf b hb).2.1,(hf b hb).2.2.1⟩
 have hns:(pushCells (s.heap.push { cls:=.type "dict",data:=.dict #[] }) scope.names).Ns s.heap.objs.size (fun _=>none):=(Heap.Ns.new s.heap (.type "dict")).keeps (pushCells_keeps _ _)
 have hkind:∀ x k,scope.names.lookup x=some k->(relabel scope X.env).names.lookup x=some (if (k==NameKind.free&&X.env.scope.kind==.function&&X.env.kindOf x==some .cell) then NameKind.cell else k):=fun x k e=>qf (env:=X.env) e
 have hkind0:∀ x,scope.names.lookup x=none->(relabel scope X.env).names.lookup x=none:=fun x e=>z9 (env:=X.env) e
 have frc:∀ x c,(x,NameKind.free)∈scope.names->X.env.cells.lookup x=some c->(cellsFrom (s.heap.objs.size+1) scope.names (clOf X.env.cells scope.names [])).lookup x=some c:=fun x c hx hc=>by
  rw [eapp,zC]
  cases q:(cellsFrom (s.heap.objs.size+1) scope.names []).lookup x with
  | some d =>
   rcases zv (PySem.mem_of_lookup q) with z | z
   ·have:=hck.cel _ z rfl _ hx rfl
    cases this
   ·exact absurd z (by simp)
  | none=>exact z8 hc hx
 have hfree:∀ x,(x,NameKind.free)∈scope.names->∃ c,X.env.cells.lookup x=some c:=fun x hx=>I.ok.has x (hck.fr _ hx rfl)
 refine ⟨⟨I.ok.mod,hck.kind,I.ok.glob,I.ok.blt,Nat.le_refl _,fun x y c e1 e2=>?_,fun x hx=>?_,fun x c hx e=>?_,I.ok.hd,I.ok.frames,.inl rfl,fun b hb=>⟨hbelow b (hfl b hb),fun x c e z=>?_⟩,I.bs,Nat.le_trans I.ok.bsz I.sz,fun b o e hb=>?_,fun b hb z=>?_,I.stack,I.stkFree⟩,
  rfl,I.bare,Un.kept hk,⟨_,hns,fun i x v e1 e2 e3=>?_⟩,fun x c e=>?_,I.hok.fresh (Nat.le_refl _),fun x c e=>?_,fun p hp=>absurd (show p∈([]:List (Addr×Obj)) from hp) (by simp),I.hok.kept hk,by unfold srcSt;rw [List.length_map];exact hck.len⟩
 ·rcases lk x c e1 with ⟨a1,_⟩ | ⟨a1,_⟩<;>rcases lk y c e2 with ⟨a2,_⟩ | ⟨a2,_⟩
  ·exact name_of_addr ok.apart a1 a2
  ·exact absurd (Nat.lt_of_lt_of_le (old _ _ a2) (Nat.le_of_succ_le (up _ _ a1))) (Nat.lt_irrefl _)
  ·exact absurd (Nat.lt_of_lt_of_le (old _ _ a1) (Nat.le_of_succ_le (up _ _ a2))) (Nat.lt_irrefl _)
  ·exact I.ok.inj x y c a1 a2
 ·cases q:scope.names.lookup x with
  | none =>
   have hx':(relabel scope X.env).names.lookup x=some .cell\/(relabel scope X.env).names.lookup x=some .free:=hx
   rw [hkind0 x q] at hx'
   rcases hx' with z | z<;>cases z
  | some k =>
   have hx':(relabel scope X.env).names.lookup x=some .cell\/(relabel scope X.env).names.lookup x=some .free:=hx
   rw [hkind x k q] at hx'
   cases k with
   | free =>
    obtain ⟨c,hc⟩:=hfree x (PySem.mem_of_lookup q)
    exact ⟨c,frc x c (PySem.mem_of_lookup q) hc⟩
   | cell =>
    obtain ⟨c,hc⟩:=zS (n:=s.heap.objs.size+1) q
    exact ⟨c,by show (cellsFrom _ _ _).lookup x=_;rw [eapp,zC,hc];rfl⟩
   | _=>rcases hx' with z | z<;>cases z
 ·have hx':(scope.names.lookup x==some .cell)=true:=hx
  have q:scope.names.lookup x=some .cell:=by simpa using hx'
  rcases lk x c e with ⟨a,_⟩ | ⟨a,b⟩
  ·have:=up _ _ a;show s.heap.objs.size<=c;omega
  ·obtain ⟨d,hd⟩:=zS (n:=s.heap.objs.size+1) q
   rw [hd] at b;cases b
 ·subst z
  rcases lk x c e with ⟨a,_⟩ | ⟨a,_⟩
  ·exact absurd (Nat.lt_of_lt_of_le (hfl c hb) (Nat.le_of_succ_le (up _ _ a))) (Nat.lt_irrefl _)
  ·exact (hf c hb).2.2.2.2.1 x c a rfl
 ·rcases (hf b hb).2.2.2.1 with z | z
  ·exact I.ok.noex b o e z
  ·exact absurd (Nat.lt_of_lt_of_le (Heap.lt_size e) (Nat.le_trans I.ok.bsz z)) (Nat.lt_irrefl _)
 ·rcases List.mem_cons.mp (I.stkSub b z) with y | y
  ·exact (fpl b hb).2.1 y
  ·exact (fpl b hb).2.2 y
 ·have e2':(srcSt src σ)[i]?=some (some v):=e2
  unfold srcSt at e2'
  rw [List.getElem?_map] at e2'
  cases q:src[i]? with
  | none=>rw [q] at e2';cases e2'
  | some o =>
   rw [q] at e2'
   cases o with
   | none=>cases e2'
   | some j =>
    have e2'':(σ[j]?).join=some v:=Option.some.inj e2'
    have ej:σ[j]?=some (some v):=by
     cases q2:σ[j]? with
     | none=>rw [q2] at e2'';cases e2''
     | some o2=>rw [q2] at e2'';exact congrArg some e2''
    obtain ⟨h1,h2⟩:=hck.sr i j x q e1
    have hm:=PySem.mem_of_lookup h2
    obtain ⟨mX,hnX,hlX⟩:=I.loc
    have hvis:Vis X.env.scope x:=by
     rcases hck.fr _ hm rfl with z | z
     ·exact .inr (.inl z)
     ·exact .inr (.inr z)
    obtain ⟨u,ru,look⟩:=hlX j x v h1 ej hvis
    refine ⟨u,ru,.inr ?_⟩
    have hcell:∃ c,X.env.cells.lookup x=some c/\s.heap.IsCell c (some u):=by
     rcases look with ⟨z,_⟩ | ⟨_,c,z1,z2⟩
     ·have z':X.env.scope.names.lookup x=some .local:=z
      rcases hck.fr _ hm rfl with y | y<;>(rw [z'] at y;cases y)
     ·exact ⟨c,z1,z2⟩
    obtain ⟨c,c1,c2⟩:=hcell
    refine ⟨?_,c,frc x c hm c1,c2.keeps hk⟩
    show (relabel scope X.env).names.lookup x=some .cell\/(relabel scope X.env).names.lookup x=some .free
    rw [hkind x _ h2]
    by_cases hc:(NameKind.free==NameKind.free&&X.env.scope.kind==.function&&X.env.kindOf x==some .cell)=true
    ·rw [if_pos hc];exact .inl rfl
    ·rw [if_neg hc];exact .inr rfl
 ·rcases lk x c e with ⟨a,_⟩ | ⟨a,_⟩
  ·exact ⟨_,(ok.empty x c a).1⟩
  ·obtain ⟨v,q⟩:=I.cell x c a
   exact ⟨v,q.keeps hk⟩
 ·rcases lk x c e with ⟨a,_⟩ | ⟨a,_⟩
  ·exact I.hok.fresh (by have:=up _ _ a;omega)
  ·exact I.freeC x c a
theorem comp_end {X:Cx}{N':List Str}{scope:Scope}{pins:List (Addr×Obj)}{σ σ':St}{H H5:Hp}{s s5:Shared}{fp:List Addr}{cells:List (Str×Addr)}{h':Heap}
  (I:Inv X pins σ H s) (hf:∀ b∈fp,FpOk X pins H b) (J:Inv (zE X N' scope s.heap.objs.size cells s H fp) [] σ' H5 s5) (hs:Heap.SameBut s.heap.objs.size s5.heap h') :
  Inv X pins σ H5 { s5 with heap:=h' }:=by
 have neC:∀ b o,s.heap.get? b=some o->b≠s.heap.objs.size:=fun b o e=>Nat.ne_of_lt (Heap.lt_size e)
 have u:Un (frs X.stack) fp H H5 s.heap s5.heap:=J.base
 refine I.call' (s':={ s5 with heap:=h' }) (ch:=fp) J.os ⟨fun b o e n hb hx=>?_,fun b o e n hb hx=>?_,fun b o e n hx=>u.free b o e n hx,fun b o e hx=>?_,u.tups,u.frzs,u.tbls⟩ (fun b o e=>?_) J.bare fun b hb=>⟨(hf b hb).2.2.2.1,(hf b hb).2.1,(hf b hb).2.2.2.2.1,(hf b hb).2.2.2.2.2⟩
 ·exact (hs.2 b (neC b o e)).trans (u.keep b o e n hb hx)
 ·obtain ⟨sl,q⟩:=u.slot b o e n hb hx
  exact ⟨sl,(hs.2 b (neC b o e)).trans q⟩
 ·obtain ⟨o',q⟩:=u.there b o e hx
  exact ⟨o',(hs.2 b (neC b o e)).trans q⟩
 ·have fr:H5 s.heap.objs.size=none:=J.free
  refine (J.hok b o e).stay (fun c w' hc q=>(hs.2 c ?_).trans q) (fun _ q=>q) fun _ _ q=>q
  rintro rfl
  rcases hc with z | hc
  ·rw [<-z,fr] at e;cases e
  ·rw [fr] at hc;cases hc
theorem wpAny_compEnv {M:Model}{A:Around}{E:Value->Shared->Prop}{s:Shared}{scope:Scope}{globals:Addr}{closure:List (Str×Addr)}{qual:Str}{outer:Env}{Q:Env->Shared->Prop}
  (h:Q { scope:=scope,locals:=s.heap.objs.size,globals:=globals,cells:=cellsFrom (s.heap.objs.size+1) scope.names closure,qual:=qual,func:=none,code:=outer.code,frame:=outer.frame,builtins:=outer.builtins }
   { s with heap:=pushCells (s.heap.push { cls:=.type "dict",data:=.dict #[] }) scope.names }) :
  wpAny M A (newFunctionEnv scope globals closure [] qual none .none (some outer)) Q E s:=by
 simp only [newFunctionEnv,Option.isSome_some,if_true]
 refine wpAny_bind (wpAny_alloc ?_)
 refine wpAny_bind (wpAny_layCells _ (fun name kind cells=>by cases hkc:kind==NameKind.cell<;>simp [hkc]) _ _ _ _ ?_)
 rw [show ({ s with heap:=s.heap.push { cls:=.type "dict",data:=.dict #[] } }:Shared).heap.objs.size=s.heap.objs.size+1 from Heap.size_push ..]
 refine wpAny_bind ?_
 rw [List.forIn_nil]
 exact wpAny_pure (wpAny_pure h)
theorem comp_loop {X':Cx}{R:Result->Shared->Prop}{elt tg iter:Expr}{ifs:List Expr}{scope:Scope}{pos:Pos}{g:TG}{tc:TT}{te:TE}{J:It}{fp:List Addr}{it D:Addr}{tn:Nat->Heap->Prop}{W:Nat->Nat->St->Hp->Prop}
  {QD:Hp->Prop} {σ0:St} {H0:Hp} {s4:Shared} {m0:Nat} (hx:X'.xe=fun _ _=>False) (hcalm:X'.calm=true) (I4:Inv X' [] σ0 H0 s4) (T:Turn X'.prog X'.w X'.K tg J fp it tn) (tn4:tn 0 s4.heap)
  (stat:∀ H':Hp,(∀ b∈fp,H' b=none)->∀ b∈fp,FpOk X' [] H' b) (fr0:∀ b∈fp,H0 b=none) (w0:W 0 m0 σ0 H0)
  (turn:∀ i m σ' H',W i m σ' H'->(J.stop i H'/\QD H')\/(J.go i H'/\∃ N:St->Hp->Prop,(∀ σ2 H2,N σ2 H2->∃ m',m'<m/\W (i+1) m' σ2 H2) /\
   ∀ x H2,J.yld i H' x H2->g x σ' H2 fun σ3 H3=>tc σ3 H3 fun b H4=>if b=true then te σ3 H4 fun v H5=>∃ ys,H5 D=some (.lst ys)/\ys.length<sizeLine/\N σ3 (upd H5 D (.lst (ys++[v]))) else N σ3 H4))
  (hg:PG X' tg g) (hif:PIf X' ifs tc) (he:PE X' elt te) (hend:∀ σ' H' s',Inv X' [] σ' H' s'->QD H'->R (.ok .next) s') :
  codeAny (model X'.prog X'.w) X'.A (.compLoop (.ListComp elt [⟨tg,iter,ifs,0⟩] scope pos) 0 (.ref it) (.ref D) X'.env) R s4:=by
 have nox:∀ {α:Type} {t:Sem α} {Q Q':α->Shared->Prop} {E:Value->Shared->Prop} {s:Shared},wpAny (model X'.prog X'.w) X'.A t Q X'.xe s->(∀ a s,Q a s->Q' a s)->wpAny (model X'.prog X'.w) X'.A t Q' E s :=
  fun h hQ=>wpAny_mono h hQ fun _ _ z=>by rw [hx] at z;exact z.elim
 refine compLoopT (fun n s'=>∃ i σ' H',Inv X' [] σ' H' s'/\tn i s'.heap/\(∀ b∈fp,H' b=none)/\W i n σ' H') ?_ m0 ⟨0,σ0,H0,I4,tn4,fr0,w0⟩
 rintro n s3 ⟨i,σ3,H3,I3,st3,fr3,w3⟩
 rcases turn i n σ3 H3 w3 with ⟨stop,qn⟩ | ⟨go,N,hN,step⟩
 ·refine nox (T.done X' rfl rfl rfl hcalm i [] s3 σ3 H3 X'.xe I3 (stat H3 fr3) st3 stop) fun r s4 ⟨hr,I4⟩=>?_
  subst hr
  exact hend σ3 H3 s4 I4 qn
 ·refine nox (T.item X' rfl rfl rfl hcalm i [] s3 σ3 H3 X'.xe I3 (stat H3 fr3) st3 go) fun r s4 ⟨u,hr,h4⟩=>?_
  subst hr
  refine nox h4 fun _ s5 ⟨x,H5,I5,r5,y5,st5,fr5⟩=>?_
  have I5':=I5.pinned (stat H5 fr5) (T.obj _ _ st5)
  refine nox (hg _ s5 σ3 H5 x u _ I5' r5 (step x H5 y5)) fun _ s6 ⟨σ6,H6,I6,q6⟩=>?_
  have again:∀ {σ7:St} {H7:Hp} {s7:Shared},Inv X' ([]++pinsAt fp s5.heap) σ7 H7 s7->N σ7 H7->∃ m,m<n/\∃ i σ' H',Inv X' [] σ' H' s7/\tn i s7.heap/\(∀ b∈fp,H' b=none)/\W i m σ' H':=fun {σ7 H7 s7} I7 n7=>by
   obtain ⟨m',hm,w7⟩:=hN σ7 H7 n7
   refine ⟨m',hm,i+1,σ7,H7,I7.unpinned,T.keep _ _ _ st5 fun b hb o e=>(I7.pin (b,o) (List.mem_append_right _ (List.mem_append_right _ (qz hb e)))).1,fun b hb=>?_,w7⟩
   obtain ⟨o,e,d⟩:=T.obj _ _ st5 b hb
   exact (I7.pin (b,o) (List.mem_append_right _ (List.mem_append_right _ (qz hb e)))).2.1
  refine nox (hif _ s6 σ6 H6 _ I6 q6) fun b s7 ⟨H7,I7,q7⟩=>?_
  cases b with
  | false =>
   rw [if_neg Bool.false_ne_true] at q7 ⊢
   exact again I7 q7
  | true =>
   rw [if_pos rfl] at q7 ⊢
   refine nox (he _ s7 σ6 H7 _ I7 q7) fun v s8 ⟨y,H8,I8,r8,ys,hy,hz,q8⟩=>?_
   refine nox (mt_append _ s8 σ6 H8 (.ref D) [y] (.ref D) [v] (fun _ H9=>N σ6 H9) I8 rfl (.cons r8 .nil) ⟨D,ys,y,rfl,rfl,hy,hz,q8⟩) fun v9 s9 ⟨_,H9,I9,_,q9⟩=>?_
   exact again I9 q9
theorem pe_comp {X:Cx}{elt tg iter:Expr}{ifs:List Expr}{scope:Scope}{pos:Pos}{wi:TI}{g:TG}{tc:TT}{te:TE}(N':List Str)(src:List (Option Nat))
  (hck:zU N' src scope X.N X.env.scope=true) (hi:PI X tg iter wi) (hcalm:X.calm=true)
  (hin:∀ (C:Addr) (cells:List (Str×Addr)) (s:Shared) (H:Hp) (ex:List Addr),PG (zE X N' scope C cells s H ex) tg g/\PIf (zE X N' scope C cells s H ex) ifs tc/\PE (zE X N' scope C cells s H ex) elt te)
  (hs:∀ x,foldedSetIterable iter X.env x=pure x:=by intro _;rfl):PE X (.ListComp elt [⟨tg,iter,ifs,0⟩] scope pos) (tComp src wi g tc te):=by
 intro pins s σ H Q I h
 have ck:=compCk hck
 rw [eval_ListComp]
 have hcl:=z0 (scope:=scope) (env:=X.env) fun y hy e=>I.ok.has y.1 (ck.fr y hy e)
 refine wpAny_comprehension_free (use:=none) rfl hs hcl ck.kind ck.loc (thn (hi pins s σ H _ I h) fun v s1 h1=>thn h1 fun itv s2 h2=>?_)
 obtain ⟨it,fp,tn,J,H2,e,I2,T,st2,f2,W⟩:=h2
 subst e
 have hD:=I2.fresh
 obtain ⟨W,⟨m0,w0⟩,turn⟩:=W _ hD
 have I3:=I2.lnew (its:=[]) (ys:=[]) (t':=s2.toks) .nil (Nat.zero_le _)
 have fpD:∀ b∈fp,b<s2.heap.objs.size:=fun b hb=>by obtain ⟨o,q,_⟩:=T.obj _ _ st2 b hb;exact Heap.lt_size q
 have f3:∀ b∈fp,FpOk X pins (upd H2 s2.heap.objs.size (.lst [])) b:=fun b hb=>⟨by rw [za (Nat.ne_of_lt (fpD b hb))];exact (f2 b hb).1,(f2 b hb).2⟩
 refine wpAny_newObj_type (wpAny_compEnv ?_)
 generalize hs3:({ s2 with heap:=s2.heap.push { cls:=.type "list",data:=.seq ([]:List Value).toArray },toks:=s2.toks }:Shared)=s3 at I3
 have hs3':({ s2 with heap:=s2.heap.push { cls:=.type "list",data:=.seq ([]:List Value).toArray } }:Shared)=s3:=hs3
 have fp3:∀ b∈fp,b<s3.heap.objs.size:=fun b hb=>by
  rw [<-hs3]
  show b<(s2.heap.push _).objs.size
  rw [Heap.size_push]
  exact Nat.lt_succ_of_lt (fpD b hb)
 have I4:=comp_start (s4:={ s3 with heap:=pushCells (s3.heap.push { cls:=.type "dict",data:=.dict #[] }) scope.names }) ck I3 f3 fp3 ⟨_,rfl⟩
 have tn4:tn 0 (pushCells (s3.heap.push { cls:=.type "dict",data:=.dict #[] }) scope.names):=T.keep _ _ _ st2 fun b hb o e=>pushCells_keeps _ _ b o (Heap.get?_push_of_some _ (by rw [<-hs3];exact Heap.get?_push_of_some _ e))
 obtain ⟨hg,hif,he⟩:=hin s3.heap.objs.size (cellsFrom (s3.heap.objs.size+1) scope.names (clOf X.env.cells scope.names [])) s3 (upd H2 s2.heap.objs.size (.lst [])) fp
 have stat:∀ H':Hp,(∀ b∈fp,H' b=none)->∀ b∈fp,FpOk (zE X N' scope s3.heap.objs.size (cellsFrom (s3.heap.objs.size+1) scope.names (clOf X.env.cells scope.names [])) s3 (upd H2 s2.heap.objs.size (.lst [])) fp) [] H' b:=fun H' hn b hb =>
  ⟨hn b hb,(I4.ok.exf b hb).1,I4.ok.exfs b hb,.inl hb,fun x c e=>(I4.ok.exf b hb).2 x c e,fun p hp=>absurd (show p∈([]:List (Addr×Obj)) from hp) (by simp)⟩
 have T':Turn X.prog X.w X.K tg J fp it tn:=T
 have fr0:∀ b∈fp,upd H2 s2.heap.objs.size (.lst []) b=none:=fun b hb=>(f3 b hb).1
 have L:=comp_loop (X':=zE X N' scope s3.heap.objs.size (cellsFrom (s3.heap.objs.size+1) scope.names (clOf X.env.cells scope.names [])) s3 (upd H2 s2.heap.objs.size (.lst [])) fp) (R:=compPost (model X.prog X.w) X.A X.xe none (EP X pins σ Q) (Value.ref s2.heap.objs.size) s3.heap.objs.size) (iter:=iter) (scope:=scope) (pos:=pos) (QD:=fun H'=>Q (.ref s2.heap.objs.size) H') rfl hcalm I4 T' tn4 stat fr0 w0 turn hg hif he
  (fun σ' H' s' J' q=>by
   obtain ⟨mm,hn,_⟩:=J'.loc
   exact ⟨mm,hn,fun h' hs'=>⟨.ref s2.heap.objs.size,H',comp_end I3 f3 J' hs',rfl,q⟩⟩)
 exact codeAny_compStart_list L (T.self _ _ _ _ _ tn4 L)
end L2
end
noncomputable section
namespace L2
open PySem PySem.Spec PyProof.Rows
section
variable {X:Cx}
theorem b_abs:bootBuiltins "abs"=some (.builtin "abs"):=by decide +kernel
theorem b_len:bootBuiltins "len"=some (.builtin "len"):=by decide +kernel
theorem b_min:bootBuiltins "min"=some (.builtin "min"):=by decide +kernel
theorem b_max:bootBuiltins "max"=some (.builtin "max"):=by decide +kernel
theorem b_all:bootBuiltins "all"=some (.builtin "all"):=by decide +kernel
theorem b_isinstance:bootBuiltins "isinstance"=some (.builtin "isinstance"):=by decide +kernel
theorem b_int:bootBuiltins "int"=some (.type "int"):=by decide +kernel
theorem b_bool:bootBuiltins "bool"=some (.type "bool"):=by decide +kernel
theorem b_str:bootBuiltins "str"=some (.type "str"):=by decide +kernel
theorem b_tuple:bootBuiltins "tuple"=some (.type "tuple"):=by decide +kernel
theorem b_list:bootBuiltins "list"=some (.type "list"):=by decide +kernel
noncomputable def CDivL (i j:Int):Prop:=0<j/\j<2^4096
theorem log2_lt_of {y:Int}(h0:0<y)(h:y<2^4096):y.natAbs.log2<9000:=by
 have hn:y.natAbs<2^4096:=by
  have:(y.natAbs:Int)=y:=by omega
  have h2:(y.natAbs:Int)<((2^4096:Nat):Int):=by rw [this];simpa using h
  exact Int.ofNat_lt.mp h2
 have:=(Nat.log2_lt (by omega)).mpr hn
 omega
theorem op_fdivL:OpR X (binaryOp .FloorDiv) (rI CDivL fun i j=>.int (i / j)):=opI fun i j _ _ _ _ _ hc q=>by
 refine floordiv_int (by have:=hc.1;omega) ?_ (.inl (PyProof.noPylong_of_log2 (log2_lt_of hc.1 hc.2)))
 rw [Int.fdiv_eq_ediv_of_nonneg i (by have:=hc.1;omega)]
 exact q
theorem ix_listK {K:PySem.W.Frag}(hK:X.K=K):IxR X (rIxL K):=by subst hK;exact ix_list
theorem ix_tupK {K:PySem.W.Frag}(hK:X.K=K):IxR X (rIxT K):=by subst hK;exact ix_tup
theorem call_lenK {K:PySem.W.Frag}(hK:X.K=K):CallR X (.builtin "len") (fun xs H Q=>∃ p ys,xs=[.ref p]/\(SqL K H p ys\/SqT K H p ys)/\Q (.int ys.length) H):=by subst hK;exact call_len_seq
theorem call_tupleK {K:PySem.W.Frag}(hK:X.K=K):CallR X (.type "tuple") (fun xs H Q=>∃ p ys,xs=[.ref p]/\((SqL K H p ys/\∀ l,H l=none->Q (.ref l) (upd H l (.tup ys)))\/(SqT K H p ys/\Q (.ref p) H))):=by subst hK;exact call_tuple_of
theorem call_listK {K:PySem.W.Frag}(hK:X.K=K):CallR X (.type "list") (fun xs H Q=>∃ p ys,xs=[.ref p]/\(SqL K H p ys\/SqT K H p ys)/\∀ l,H l=none->Q (.ref l) (upd H l (.lst ys))):=by subst hK;exact call_list_of
theorem pi_listK {K:PySem.W.Frag}{tg l:Expr}{tl:TE}(hK:X.K=K)(hl:PE X l tl):PI X tg l (iList K tl):=by subst hK;exact pi_list hl
theorem pi_tupK {K:PySem.W.Frag}{tg l:Expr}{tl:TE}(hK:X.K=K)(hl:PE X l tl):PI X tg l (iTup K tl):=by subst hK;exact pi_tup hl
theorem pg_tupK {K:PySem.W.Frag}{pos:Pos}{es:List Expr}{k:Nat}{t:TGs}{n:Nat}(hK:X.K=K)(hc:X.calm=true)(h:PGs X es t)
  (hn:(assignEach es X.env).length=n:=by rfl) (hst:(assignEach es X.env).findIdx? (·.1)=none:=by rfl):PG X (.Tuple es k pos) (gTup K n t):=by subst hK;exact pg_tup hc h hn hst
end
end L2
end
noncomputable section
namespace L2
open PySem PySem.Spec PyProof.Rows
structure DefAt (K:PySem.W.Frag)(mg:Str->Option Value)(x:Str)(st:Stmt)(ps:List Str)(f:Addr)(fd:FuncData):Prop where
 fn:Fun K x x st f fd
 mg:mg x=some (.ref f)
 bi:Binds K fd ps []
end L2
end
noncomputable section
namespace L2
open PySem PySem.Spec PyProof.Rows
@[irreducible] noncomputable def Hold (p:Prop):Prop:=p
theorem Same.new {p:Addr}{H H1:Hp}{o:HO}(h:Same H H1)(hp:H1 p=none):Same H (L2.upd H1 p o):=fun x o e=>by
 have e1:=h x o e
 rw [za (zq e1 hp)]
 exact e1
end L2
end
noncomputable section
namespace L2
open PySem PySem.Spec PyProof.Rows
section
variable {prog:Program} {w:World} {A:Around} {R:Result->Shared->Prop} {I:Addr} {fp wr:List Addr} {n:Nat} {P:Nat->Value->Prop} {St:Nat->Heap->Prop} {kw:List (Str×Value)}
theorem min_loopD (W:Walks prog w A.in1 I fp wr n P St)(bt:Nat->Nat->Bool)(hcmp:CmpOf prog w A.in1 .Lt P bt)(S:Addr)(hSf:S ∉ fp) :
  ∀ (k j:Nat) (s:Shared) (vb:Value) (c:Nat),n - (j+1)=k->j+1<=n->St (j+1) s.heap->P (argBest bt j) vb ->
  s.heap.get? S=some { cls:=.type "list",dict:=none,data:=.seq #[vb,vb] c,slots:=#[] } ->
  (∀ v h' tk,P (argBest bt (n - 1)) v->(∀ b o,b ∉ wr->b≠S->s.heap.get? b=some o->h'.get? b=some o)->R (.ok (.ret v)) { s with heap:=h',toks:=tk }) ->
  codeAny (model prog w) A (.builtin "min.loop" ⟨[.ref I,.none,.ref S],kw⟩) R s:=by
 have hSw:S ∉ wr:=fun h=>hSf (W.sub _ h)
 have hname:(toString "min"++toString ".loop":String) = "min.loop":=by decide
 intro k
 induction k with
 | zero =>
  intro j s vb c hk hj hst hPb hS hR
  have hin:j+1=n:=by omega
  refine codeAny_builtin F.entry_min_loop ?_
  rw [Around.under_plainId F.plain_min_loop _]
  show wpAny _ A.in1 (seqItems? (.ref S) >>= _) _ _ s
  refine wpAny_bind (wpAny_seqItems hS rfl ?_)
  show wpAny _ A.in1 (tryCatch (pyNext (.ref I)) _ >>= _) _ _ s
  refine wpAny_bind (wpAny_tryCatch (W.done s _ _ (hin▸hst) fun h' tk hk'=>?_))
  have hS':=hk' S _ hSw hS
  show wpAny _ A.in1 (updateSeq S (fun _=>#[]) >>= _) _ _ _
  refine wpAny_bind ?_
  refine wpAny_updateSeq hS' rfl (wpAny_bind (wpAny_letGo (wpAny_pure ?_)))
  refine hR vb _ tk (by rw [<-hin];exact hPb) fun b o hbw hbS e=>(Heap.get?_update_other _ _ (Ne.symm hbS)).trans (hk' b o hbw e)
 | succ k ih =>
  intro j s vb c hk hj hst hPb hS hR
  have hlt:j+1<n:=by omega
  refine codeAny_builtin F.entry_min_loop ?_
  rw [Around.under_plainId F.plain_min_loop _]
  show wpAny _ A.in1 (seqItems? (.ref S) >>= _) _ _ s
  refine wpAny_bind (wpAny_seqItems hS rfl ?_)
  show wpAny _ A.in1 (tryCatch (pyNext (.ref I)) _ >>= _) _ _ s
  refine wpAny_bind (wpAny_tryCatch (W.item (j+1) s _ _ hlt hst fun v h' tk hP hst' hk'=>?_))
  have hS':=hk' S _ hSw hS
  show wpAny _ A.in1 (tryCatch (holding [v,v] (richCompare .Lt v vb >>= _)) _ >>= _) _ _ _
  refine wpAny_bind (wpAny_tryCatch (wpAny_holding (wpAny_bind (hcmp (j+1) (argBest bt j) v vb _ _ _ hP hPb ?_))))
  refine wpAny_bind (wpAny_holding (wpAny_truthy_bool ?_))
  refine wpAny_bind (wpAny_letGo (wpAny_pure ?_))
  cases hb:bt (j+1) (argBest bt j) with
  | true =>
   simp only [if_true]
   refine wpAny_bind ?_
   refine wpAny_updateSeq hS' rfl (wpAny_bind (wpAny_letGo ?_))
   rw [hname]
   refine wpAny_pure ⟨plainId_quiet F.plain_min_loop _,ih (j+1) _ v _ (by omega) hlt (W.frame _ _ _ hst' fun b hbf o e=>?_) (by simp only [argBest,hb,if_true];exact hP) (Heap.get?_update_self _ hS' rfl)
    fun v' h'' tk'' hP' hk''=>?_⟩
   ·exact (Heap.get?_update_other _ _ (fun h:S=b=>hSf (by rw [h];exact hbf))).trans e
   ·exact hR v' h'' tk'' hP' fun b o hbw hbS e=>hk'' b o hbw hbS ((Heap.get?_update_other _ _ (Ne.symm hbS)).trans (hk' b o hbw e))
  | false =>
   simp only [Bool.false_eq_true,if_false]
   refine wpAny_bind (wpAny_letGo ?_)
   rw [hname]
   refine wpAny_pure ⟨plainId_quiet F.plain_min_loop _,ih (j+1) _ vb c (by omega) hlt hst' (by simp only [argBest,hb,Bool.false_eq_true,if_false];exact hPb) hS' fun v' h'' tk'' hP' hk''=>?_⟩
   exact hR v' h'' tk'' hP' fun b o hbw hbS e=>hk'' b o hbw hbS (hk' b o hbw e)
theorem min_firstD (W:Walks prog w A.in1 I fp wr n P St)(bt:Nat->Nat->Bool)(hcmp:CmpOf prog w A.in1 .Lt P bt)(S:Addr)(hSf:S ∉ fp){s:Shared}{c:Nat}{d:Value}(hst:St 0 s.heap)
  (hS:s.heap.get? S=some { cls:=.type "list",dict:=none,data:=.seq #[] c,slots:=#[] })
  (h0:n=0->∀ h' tk,(∀ b o,b ∉ wr->b≠S->s.heap.get? b=some o->h'.get? b=some o)->R (.ok (.ret d)) { s with heap:=h',toks:=tk })
  (hR:0<n->∀ v h' tk,P (argBest bt (n - 1)) v->(∀ b o,b ∉ wr->b≠S->s.heap.get? b=some o->h'.get? b=some o)->R (.ok (.ret v)) { s with heap:=h',toks:=tk }) :
  codeAny (model prog w) A (.builtin "min.loop" ⟨[.ref I,.none,.ref S],[(Str.ofString "default",d)]⟩) R s:=by
 have hSw:S ∉ wr:=fun h=>hSf (W.sub _ h)
 have hname:(toString "min"++toString ".loop":String) = "min.loop":=by decide
 refine codeAny_builtin F.entry_min_loop ?_
 rw [Around.under_plainId F.plain_min_loop _]
 show wpAny _ A.in1 (seqItems? (.ref S) >>= _) _ _ s
 refine wpAny_bind (wpAny_seqItems hS rfl ?_)
 show wpAny _ A.in1 (tryCatch (pyNext (.ref I)) _ >>= _) _ _ s
 rcases Nat.eq_zero_or_pos n with hn | hn
 ·refine wpAny_bind (wpAny_tryCatch (W.done s _ _ (hn▸hst) fun h' tk hk'=>?_))
  show wpAny _ A.in1 (rule _ >>= _) _ _ _
  refine wpAny_bind (wpAny_rule (wpAny_pure ?_))
  exact h0 hn h' tk fun b o hbw _ e=>hk' b o hbw e
 ·refine wpAny_bind (wpAny_tryCatch (W.item 0 s _ _ hn hst fun v h' tk hP hst' hk'=>?_))
  have hS':=hk' S _ hSw hS
  show wpAny _ A.in1 (updateSeq S (fun _=>#[v,v]) >>= _) _ _ _
  refine wpAny_bind ?_
  refine wpAny_updateSeq hS' rfl ?_
  rw [hname]
  refine wpAny_pure ⟨plainId_quiet F.plain_min_loop _,min_loopD W bt hcmp S hSf _ 0 _ v _ rfl hn (W.frame _ _ _ hst' fun b hbf o e=>?_) hP (Heap.get?_update_self _ hS' rfl) fun v' h'' tk'' hP' hk''=>?_⟩
  ·exact (Heap.get?_update_other _ _ (fun h:S=b=>hSf (by rw [h];exact hbf))).trans e
  ·exact hR hn v' h'' tk'' hP' fun b o hbw hbS e=>hk'' b o hbw hbS ((Heap.get?_update_other _ _ (Ne.symm hbS)).trans (hk' b o hbw e))
end
theorem args_minD (a d:Value):argsOk "min" ⟨[a],[(Str.ofString "default",d)]⟩:=by unfold argsOk;kernel_rfl
theorem qJ (val : Nat -> Int) : ∀ k j, j <= k -> val (argBest (fun i j => decide (val i < val j)) k) <= val j
  | 0, j, h => by have : j = 0 := by omega
                  subst this; exact Int.le_refl _
  | k + 1, j, h => by
    have ih := qJ val k
    unfold argBest
    by_cases hb : val (k + 1) < val (argBest (fun i j => decide (val i < val j)) k)
    · rw [if_pos (by simpa using hb)]
      by_cases hj : j = k + 1
      · subst hj; exact Int.le_refl _
      · have := ih j (by omega); omega
    · rw [if_neg (by simpa using hb)]
      by_cases hj : j = k + 1
      · subst hj; omega
      · exact ih j (by omega)
noncomputable def rMinD (K:PySem.W.Frag):V->V->Hp->VK->Prop:=fun x d H Q=>∃ a ns,x=.ref a/\SqL K H a (ns.map V.int)/\(ns=[]->Q d H)/\∀ m∈ns,(∀ y∈ns,m<=y)->Q (.int m) H
theorem vals_at {ns:List Int}{its:List Value}(r:Vals (ns.map V.int) its){i:Nat}{v:Value}(h:its[i]?=some v):∃ z t,ns[i]?=some z/\v=Value.int z t:=by
 have hl:=r.length
 rw [List.length_map] at hl
 have hi:i<its.length:=(List.getElem?_eq_some_iff.mp h).1
 obtain ⟨u,e1,q⟩:=r.get (i:=i) (x:=.int ns[i]) (by rw [List.getElem?_map,List.getElem?_eq_getElem (by omega)];rfl)
 rw [h] at e1;cases e1
 obtain ⟨t,rfl⟩:=q
 exact ⟨_,t,List.getElem?_eq_getElem (by omega),rfl⟩
theorem run_minD {X:Cx}{pins:List (Addr×Obj)}{σ:St}{H:Hp}{s:Shared}{x d:V}{u w':Value}{Q:VK}(hc:X.calm=true)(I:Inv X pins σ H s)(rx:RelV x u)(rd:RelV d w')(h:rMinD X.K x d H Q) :
  wpAny (model X.prog X.w) X.A (call (.builtin "min") [u] [(Str.ofString "default",w')]) (EP X pins σ Q) X.xe s:=by
 obtain ⟨a,ns,rfl,hS,q0,qm⟩:=h
 cases rx
 obtain ⟨its,rv,pl,hz⟩:=I.list hS
 have hl:=rv.length
 rw [List.length_map] at hl
 have hname:(toString "min"++toString ".loop":String) = "min.loop":=by decide
 refine kmb_tree F.kind_min F.plain_min F.entry_min (args_minD _ _) ?_
 show wpAny _ X.A.in1 (Builtin.Builtins.bindParams "min" ["key", "default"] 0 ⟨[],[(Str.ofString "default",w')]⟩ >>= _) _ _ s
 refine wpAny_bind (wpAny_of_eq (show Builtin.Builtins.bindParams "min" ["key", "default"] 0 ⟨[],[(Str.ofString "default",w')]⟩=pure [none,some w'] from rfl) ?_)
 refine wpAny_bind (wpAny_pure ?_)
 refine wpAny_bind (wpAny_pyIter_list pl.isList ?_)
 have hal:a<s.heap.objs.size:=by obtain ⟨o,_,e,_⟩:=pl;exact Heap.lt_size e
 have W:=Walks.list (prog:=X.prog) (w:=X.w) (A:=X.A.in1) (I.ok.hd hc) s.heap.objs.size a (Nat.ne_of_lt hal) its.toArray
 refine wpAny_bind (wpAny_newObj_type ?_)
 generalize hs2:s.heap.push _=h2
 have hsz2:h2.objs.size=s.heap.objs.size+1:=by rw [<-hs2,Heap.size_push]
 have hk2:∀ b o,s.heap.get? b=some o->h2.get? b=some o:=fun b o e=>by rw [<-hs2];exact Heap.get?_push_of_some _ e
 have hSf:h2.objs.size ∉ [s.heap.objs.size,a]:=by
  rw [hsz2]
  intro z
  rcases List.mem_cons.mp z with z | z
  ·exact absurd z (Nat.succ_ne_self _)
  ·have z':s.heap.objs.size+1=a:=by simpa using z
   exact absurd (Nat.lt_of_lt_of_le hal (by rw [<-z'];exact Nat.le_succ _)) (Nat.lt_irrefl _)
 have st0:(h2.push { cls:=.type "list",data:=.seq ([]:List Value).toArray }).IsListIter s.heap.objs.size a 0/\(h2.push { cls:=.type "list",data:=.seq ([]:List Value).toArray }).IsList a its.toArray:=by
  refine ⟨⟨_,Heap.get?_push_of_some _ (by rw [<-hs2];exact Heap.get?_push_size _ rfl),rfl,rfl⟩,?_⟩
  obtain ⟨o,e,r⟩:=pl.isList
  exact ⟨o,Heap.get?_push_of_some _ (hk2 _ _ e),r⟩
 let val:Nat->Int:=fun i=>ns.getD i 0
 have hval:∀ i v,its.toArray[i]?=some v->∃ t,v=Value.int (val i) t:=fun i v e=>by
  obtain ⟨z,t,e1,e2⟩:=vals_at rv (i:=i) (v:=v) (by rw [List.getElem?_toArray] at e;exact e)
  refine ⟨t,?_⟩
  rw [e2]
  show Value.int z t=Value.int (ns.getD i 0) t
  rw [List.getD_eq_getElem?_getD,e1]
  rfl
 rw [hname]
 have nx:∀ (h':Heap) (tk:Nat),(∀ b o,b ∉ [s.heap.objs.size]->b≠h2.objs.size->(h2.push { cls:=.type "list",data:=.seq ([]:List Value).toArray }).get? b=some o->h'.get? b=some o)->Inv X pins σ H { s with heap:=h',toks:=tk }:=fun h' tk k=>I.kept fun b o e=>by
  refine k b o ?_ ?_ (Heap.get?_push_of_some _ (hk2 b o e))
  ·intro z
   have z':b=s.heap.objs.size:=by simpa using z
   exact absurd (Heap.lt_size e) (by rw [z'];exact Nat.lt_irrefl _)
  ·intro z
   exact absurd (Heap.lt_size e) (by rw [z,hsz2];exact Nat.not_lt.mpr (Nat.le_succ _))
 refine wpAny_pure ⟨plainId_quiet F.plain_min_loop _,min_firstD (d:=w') W _ (CmpOf.ints_lt val hval) h2.objs.size hSf st0 (Heap.get?_push_size _ rfl) (fun hn h' tk k=>?_) fun hn v h' tk hP k=>?_⟩
 ·have e:ns=[]:=by
   have:its.toArray.size=0:=hn
   have:its.length=0:=by simpa using this
   exact List.length_eq_zero_iff.mp (by omega)
  exact ⟨d,H,nx h' tk k,rd,q0 e⟩
 ·obtain ⟨z,t,e1,e2⟩:=vals_at rv (i:=argBest (fun i j=>decide (val i<val j)) (its.toArray.size - 1)) (v:=v) (by rw [List.getElem?_toArray] at hP;exact hP)
  subst e2
  have hv:val (argBest (fun i j=>decide (val i<val j)) (its.toArray.size - 1))=z:=by
   show ns.getD _ 0=z
   rw [List.getD_eq_getElem?_getD,e1]
   rfl
  refine ⟨.int z,H,nx h' tk k,⟨t,rfl⟩,qm z (List.mem_of_getElem? e1) fun y hy=>?_⟩
  obtain ⟨j,hj,e3⟩:=List.mem_iff_getElem.mp hy
  have:=qJ val (its.toArray.size - 1) j (by simp only [List.size_toArray];omega)
  rw [hv] at this
  have e4:val j=y:=by
   show ns.getD j 0=y
   rw [List.getD_eq_getElem?_getD,List.getElem?_eq_getElem hj]
   exact e3
  omega
noncomputable def tMinD (K:PySem.W.Frag)(ta td:TE):TE:=fun σ H Q=>ta σ H fun x H1=>td σ H1 fun d H2=>rMinD K x d H2 Q
theorem pe_minD {X:Cx}{K:PySem.W.Frag}{e de:Expr}{ta td:TE}{p pos kp:Pos}(hK:X.K=K)(hc:X.calm=true)(hg:Gl X "min")(hm:X.mg "min"=none)(ha:PE X e ta)(hd:PE X de td)
  (hs:starEach [e] X.env=[(false,eval e X.env)]:=by rfl) :
  PE X (.Call (.Name "min" p) [e] [⟨some "default",de,kp⟩] pos) (tMinD K ta td):=by
 subst hK
 intro pins s σ H Q I h
 refine wpAny_Call_Name_kw (ld_blt I hg hm b_min ?_)
 have h':tCons ta tNil σ H (fun vs H1=>match vs with | [x]=>td σ H1 fun d H2=>rMinD X.K x d H2 Q | _=>False):=h
 refine callWith_kw (env:=X.env) (thn ((zP ha pa_nil hs) pos pins s σ H _ I h') fun us s1 ⟨vs,H1,I1,r1,q1⟩=>?_) (by rw [hs];rfl) (by rw [hs];rfl)
 match vs,q1,r1 with
 | [x],q1,r1 =>
  obtain ⟨u,rfl,ru⟩:=vals1 r1
  refine kws_cons (thn (hd pins s1 σ H1 _ I1 q1) fun v s2 ⟨d,H2,I2,rd,q2⟩=>kws_nil ?_)
  exact run_minD hc I2 ru rd q2
end L2
end
noncomputable section
namespace L2
open PySem PySem.Spec PyProof.Rows
inductive D where
 | non | bl (b:Bool) | int (i:Int) | str (x:Str) | tup (l:List D) | lst (l:List D)
mutual
noncomputable def D.deep:D->Nat
 | .tup l=>D.deepL l+1
 | .lst l=>D.deepL l+1
 | _=>0
noncomputable def D.deepL:List D->Nat
 | []=>0
 | d::l=>max (D.deep d) (D.deepL l)
end
section
variable {X:Cx}
end
end L2
end
noncomputable section
namespace L2
open PySem PySem.Spec PyProof.Rows
section
variable {X:Cx}
noncomputable def rCatA (K:PySem.W.Frag):R2:=fun x y H Q=>∃ a b xs ys,x=.ref a/\y=.ref b/\SqT K H a xs/\SqT K H b ys/\xs.length+ys.length<=sizeLine/\∀ p H',Same H H'->SqT K H' p (xs++ys)->Q (.ref p) H'
theorem cat_nil {prog:Program}{w:World}{A:Around}{E:Value->Shared->Prop}{s:Shared}{t b:Addr}{ws:List Value}{Q:Value->Shared->Prop}(ht:IsTup s.heap t ([]:List Value).toArray)(hb:IsTup s.heap b ws.toArray)(h1:Q (.ref b) s) :
  wpAny (model prog w) A (binaryOp .Add (.ref t) (.ref b)) Q E s:=by
 obtain ⟨⟨cls,dd,data,sl⟩,ho,hc,n,hd⟩:=id ht
 obtain ⟨⟨cls2,dd2,data2,sl2⟩,ho2,hc2,n2,hd2⟩:=id hb
 simp only at hc hd hc2 hd2
 subst hc hd hc2 hd2
 exact concat_meets ⟨_,ho,rfl⟩ ⟨_,ho2,rfl⟩ noFill_tuple_add seq_tuple_add PySem.F.slot_tuple_add PySem.F.entry_tuple_add (PySem.F.args_tuple_add_2 _ _)
   (tuple_addW0 t b _ ws.toArray n n2 dd dd2 sl sl2 rfl) ⟨ho,ho2,h1⟩
theorem op_catK {K:PySem.W.Frag}(hK:X.K=K):OpR X (binaryOp .Add) (rCatA K):=by
 subst hK
 intro pins s σ H x y v u Q I rx ry h
 obtain ⟨a,b,xs,ys,e1,e2,ha,hb,hz,q⟩:=h
 by_cases hx:xs=[]
 ·subst e1;subst e2;subst hx
  cases rx;cases ry
  obtain ⟨its,r1,p1,_⟩:=I.tuple ha
  obtain ⟨its2,r2,p2,_⟩:=I.tuple hb
  obtain rfl:its=[]:=r1.nil_iff.mpr rfl
  exact cat_nil p1 p2 ⟨.ref b,H,I,rfl,q b H (Same.refl H) hb⟩
 ·refine op_catT pins s σ H x y v u Q I rx ry ⟨a,b,xs,ys,e1,e2,ha,hb,hx,hz,fun z=>?_,fun z p hp=>?_⟩
  ·subst z
   exact q a H (Same.refl H) (by rw [List.append_nil];exact ha)
  ·exact q p _ ((Same.refl H).new hp) (SqT.of zb)
noncomputable def rSlA (K:PySem.W.Frag):V->Option Int->Option Int->Hp->VK->Prop:=fun x lo hi H Q=>∃ a xs,x=.ref a/\SqT K H a xs/\∀ p H',Same H H'->SqT K H' p (cutV xs lo hi)->Q (.ref p) H'
theorem getItem_whole {prog:Program}{w:World}{A:Around}{E:Value->Shared->Prop}{s:Shared}{t sl:Addr}{items:Array Value}{vl vu:Value}{lo hi:Option Int}{Q:Value->Shared->Prop}(ht:IsTup s.heap t items)(hs:s.heap.IsSliceOf sl vl vu .none)(pl:IsPart vl lo)(pu:IsPart vu hi)
  (hw:HT.sIx items.size 0 lo=0/\HT.sIx items.size items.size hi=items.size) (h:Q (.ref t) s):wpAny (model prog w) A (getItem (.ref t) (.ref sl)) Q E s:=by
 obtain ⟨os,hos,hcs,hds⟩:=id hs
 have hTs:s.TypeIs (.ref sl) "slice":=⟨os,hos,hcs⟩
 unfold getItem
 try with_reducible refine wpAny_holding ?_
 first | refine wpAny_bind (wpAny_pure ?_) | skip
 refine wpAny_bind (wpAny_sequenceKey ht.typeIs (by decide) ?_)
 refine wpAny_bind (wpAny_callSpecial?_slot (name:=Str.ofString "__getitem__") ht.typeIs PyProof.Rows.slot_tuple_getitem
  (wpAny_call_entry PyProof.Rows.slot_tuple_getitem ht.typeIs entry_tuple_getitem ?_ (args_tuple_getitem _ _)))
 show wpAny _ _ (Builtin.Tuple.tupleItemsOf (.ref t) >>= _) _ _ s
 refine wpAny_bind (tupleItemsOf_ ht ?_)
 refine wpAny_bind (wpAny_typeOf hTs ?_)
 rw [if_pos (by decide)]
 refine wpAny_bind (HT.sliceApplied_gen hs pl pu ?_)
 have hyes:((((HT.sIx items.size 0 lo:Nat):Int)==0&&(1:Int)==1&&(HT.sIx items.size items.size hi - HT.sIx items.size 0 lo)==items.size)=true):=by
  rw [hw.1,hw.2]
  simp
 show wpAny _ _ (if (((HT.sIx items.size 0 lo:Nat):Int)==0&&(1:Int)==1&&(HT.sIx items.size items.size hi - HT.sIx items.size 0 lo)==items.size)=true then _ else _) _ _ s
 rw [if_pos hyes]
 refine wpAny_bind (wpAny_bind (wpAny_typeOf ht.typeIs (wpAny_pure ?_)))
 rw [if_pos (by decide)]
 exact wpAny_bind (wpAny_rule (wpAny_pure ⟨_,rfl,wpAny_pure h⟩))
theorem cutV_whole {xs:List V}{lo hi:Option Int}(h:HT.sIx xs.length 0 lo=0/\HT.sIx xs.length xs.length hi=xs.length):cutV xs lo hi=xs:=by
 unfold cutV
 rw [h.1,h.2]
 simp
theorem sl_tupK {K:PySem.W.Frag}(hK:X.K=K):SlR X (rSlA K):=by
 subst hK
 intro pins s σ H x v vl vu lo hi sl Q I rx hs pl pu h
 obtain ⟨a,xs,e1,hx,q⟩:=h
 by_cases hw:HT.sIx xs.length 0 lo=0/\HT.sIx xs.length xs.length hi=xs.length
 ·subst e1
  cases rx
  obtain ⟨its,r,ht,hz⟩:=I.tuple hx
  have hlen:its.toArray.size=xs.length:=by rw [List.size_toArray];exact r.length.symm
  refine ⟨"tuple",_,PyProof.Rows.slot_tuple_getitem.lookup,ht.typeIs,?_⟩
  exact getItem_whole ht hs pl pu (by rw [hlen];exact hw) ⟨.ref a,H,I,rfl,q a H (Same.refl H) (by rw [cutV_whole hw];exact hx)⟩
 ·exact sl_tup pins s σ H x v vl vu lo hi sl Q I rx hs pl pu ⟨a,xs,e1,hx,hw,fun p hp=>q p _ ((Same.refl H).new hp) (SqT.of zb)⟩
theorem sl_listK {K:PySem.W.Frag}(hK:X.K=K):SlR X (rSlL K):=by subst hK;exact sl_list
end
noncomputable def Its (x:Str):It:=⟨fun i _=>i<x.cps.size,fun i H v H'=>H'=H/\∃ c,x.cps[i]?=some c/\v=.str ⟨#[c]⟩,fun i _=>x.cps.size<=i⟩
theorem turn_str {P:Program}{w:World}{K:PySem.W.Frag}{tg:Expr}{ty:String}{x:Str}{t:Tok}(it:Addr)(hn:["enumerate", "zip", "dict_itemiterator", "dict_reverseitemiterator", "odict_iterator", "itertools.zip_longest", "itertools.pairwise"].contains ty=false)
  (W:∀ A:Around,A.handled=none->Walks P w A it [it] [it] x.cps.size (SignAt x) (fun i h=>h.IsStrIter it ty x t i))
  (hend:∀ (A:Around) (s:Shared) (i:Nat) (Q:Option Value->Shared->Prop) (E:Value->Shared->Prop),A.handled=none->s.heap.IsStrIter it ty x t i->x.cps[i]?=none->(∀ h',Heap.ExtBut it s.heap h'->Q none { s with heap:=h' })->wpAny (model P w) A (pyNext (.ref it)) Q E s)
  (hself:∀ (A:Around) (i:Nat) (s:Shared) (Q:Value->Shared->Prop) (E:Value->Shared->Prop),s.heap.IsStrIter it ty x t i->Q (.ref it) s->wpAny (model P w) A (pyIter (.ref it)) Q E s):Turn P w K tg (Its x) [it] it (fun i h=>h.IsStrIter it ty x t i) where
 mem:=by simp
 obj:=fun i h st b hb=>by
  have e:b=it:=by simpa using hb
  subst e
  obtain ⟨o,ho,hc,hd⟩:=st
  exact ⟨o,ho,fun v z=>by rw [hd] at z;cases z⟩
 keep:=fun i h h' st k=>by
  obtain ⟨o,ho,r⟩:=st
  exact ⟨o,k it (by simp) _ ho,r⟩
 item:=by
  intro X hP hw hK hc i pins s σ H E I hf st hg
  subst hP hw hK
  obtain ⟨f0,f1,f2,f3,f4,f5⟩:=hf it (by simp)
  refine (W X.A (I.ok.hd hc)).item i s _ _ hg st fun v h' tk hv st' kk=>?_
  obtain ⟨c,u,hcx,rfl⟩:=hv
  have I1:Inv X pins σ H { s with heap:=h',toks:=tk }:=I.turned (fun b o hb e=>kk b o (by simpa using hb) e) f0 f1 f3 f4 f5
  obtain ⟨o,ho,hcl,hd⟩:=id st'
  exact ⟨_,rfl,go_of (s:={ s with heap:=h',toks:=tk }) (n:=ty) ho hcl hd hn ⟨.str ⟨#[c]⟩,H,I1,⟨u,rfl⟩,⟨rfl,c,hcx,rfl⟩,st',fun b hb=>(hf b hb).1⟩⟩
 done:=by
  intro X hP hw hK hc i pins s σ H E I hf st hg
  subst hP hw hK
  obtain ⟨f0,f1,f2,f3,f4,f5⟩:=hf it (by simp)
  have hin:x.cps.size<=i:=hg
  exact hend X.A s i _ E (I.ok.hd hc) st (by simp;omega) fun h' eb=>⟨rfl,I.turned (t':=s.toks) (fun b o hb e=>eb b o hb e) f0 f1 f3 f4 f5⟩
 self:=fun A i s Q E st h=>hself A i s Q E st h
noncomputable def iStr (tl:TE):TI:=fun σ H R=>tl σ H fun v H1=>∃ x,v=.str x/\R (Its x) H1
theorem pi_str {X:Cx}{tg l:Expr}{tl:TE}(hl:PE X l tl):PI X tg l (iStr tl):=by
 intro pins s σ H R I h
 refine thn (hl pins s σ H _ I h) fun v s1 ⟨v0,H1,I1,r1,q1⟩=>?_
 obtain ⟨x,e,q⟩:=q1
 subst e
 obtain ⟨t,rfl⟩:=r1
 have fin:∀ (ty:String) (o:Obj),o={ cls:=.type ty,data:=.fields #[.str x t,.int 0 0] }->Turn X.prog X.w X.K tg (Its x) [s1.heap.objs.size] s1.heap.objs.size (fun i h=>h.IsStrIter s1.heap.objs.size ty x t i)->PIE X pins σ tg R (.ref s1.heap.objs.size) { s1 with heap:=s1.heap.push o }:=fun ty o eo T=>by
  subst eo
  refine ⟨s1.heap.objs.size,[s1.heap.objs.size],_,_,H1,rfl,I1.kept (t':=s1.toks) fun b o e=>Heap.get?_push_of_some _ e,T,⟨_,Heap.get?_push_size _ rfl,rfl,rfl⟩,fun b hb=>?_,q⟩
  have e:b=s1.heap.objs.size:=by simpa using hb
  subst e
  exact I1.fpOk (Nat.le_refl _) (I1.hok.fresh (Nat.le_refl _))
 cases ha:x.cps.all (·<128)
 ·exact wpAny_pyIter_wide ha (fin "str_iterator" _ rfl (turn_str _ (by decide) (fun A hA=>Walks.strWide hA _ x t) (fun A s i Q E hA st hx hQ=>wpAny_pyNext_wide_end hA st hx hQ) fun A i s Q E st h=>wpAny_pyIter_striter_wide st h))
 ·exact wpAny_pyIter_ascii ha (fin "str_ascii_iterator" _ rfl (turn_str _ (by decide) (fun A hA=>Walks.strAscii hA _ x t) (fun A s i Q E hA st hx hQ=>wpAny_pyNext_ascii_end hA st hx hQ) fun A i s Q E st h=>wpAny_pyIter_striter_ascii st h))
end L2
end
noncomputable section
namespace L2
open PySem PySem.Spec PyProof.Rows
section
variable {X:Cx} {K:PySem.W.Frag} {T id:String} {name:Str} {o e:Expr} {es:List Expr} {to:TE} {t:TA} {r:V->List V->Hp->VK->Prop} {apos cpos:Pos}
theorem pe_bmK (hK:X.K=K)(pa:PlainAttrs T)(slot:Slot T name id)(hty:typeOf (.builtin id)=pure (.type "method_descriptor"))(hm:MtR X id r)(ho:PE X o to)(ha:PA X (e::es) t)
  (hbase:attributeBase o name X.env (eval o X.env)=eval o X.env:=by rfl)
  (hfew:((backTo cpos (starEach (e::es) X.env)).all (fun x=>!x.1)&&(backToKw cpos (keywordEach [] X.env)).all (fun x=>x.1.isSome)
   && decide ((e::es).length+([]:List Keyword).length+(if ([]:List Keyword).isEmpty then 0 else 1)<30))=true:=by rfl)
  (hline:(apos.endLine==cpos.line)=true:=by rfl) (hs:starEach (e::es) X.env=(false,eval e X.env)::starEach es X.env:=by rfl) (hplain:(backTo cpos (starEach es X.env)).any (·.1)=false:=by rfl) :
  PE X (.Call (.Attribute o name apos) (e::es) [] cpos) (tBM K T r to t):=by
 subst hK
 exact pe_bm pa slot hty hm ho ha hbase hfew hline hs hplain
end
structure Mach where
 letters:Int
 rooms:Int
 begins:List Int
 ends:List Int
 doors:List (Int×Str×Int×Int)
noncomputable def doorD (q:Int×Str×Int×Int):D:=.tup [.int q.1,.str q.2.1,.int q.2.2.1,.int q.2.2.2]
noncomputable def Mach.D (M:Mach):D:=.tup [.int M.letters,.int M.rooms,.tup (M.begins.map .int),.tup (M.ends.map .int),.tup (M.doors.map doorD)]
noncomputable def ltr (i:Nat):Str:=⟨#[97+i]⟩
structure DoorOk (letters rooms:Int)(q:Int×Str×Int×Int):Prop where
 s0:0<=q.1
 s1:q.1<rooms
 l:∃ i:Nat,(i:Int)<letters/\q.2.1=ltr i
 g0:0<=q.2.2.1
 g1:q.2.2.1<rooms
 t0:0<=q.2.2.2
 t1:q.2.2.2<=3
structure RoomsOk (rooms:Int)(l:List Int):Prop where
 mem:∀ r∈l,0<=r/\r<rooms
 up:l.Pairwise (· < ·)
structure Mach.Ok (most:Nat)(M:Mach):Prop where
 l0:1<=M.letters
 l1:M.letters<=3
 r0:1<=M.rooms
 r1:M.rooms<=5
 b:RoomsOk M.rooms M.begins
 e:RoomsOk M.rooms M.ends
 d:∀ q∈M.doors,DoorOk M.letters M.rooms q
 m:M.doors.length<=most
end L2
end
noncomputable section
namespace L2
open PySem PySem.Spec PyProof.Rows
mutual
noncomputable def D.tups:D->Bool
 | .lst _=>false
 | .tup l=>D.tupsL l
 | _=>true
noncomputable def D.tupsL:List D->Bool
 | []=>true
 | d::l=>D.tups d&&D.tupsL l
end
end L2
end
noncomputable section
namespace L2
open PySem PySem.Spec PyProof.Rows
end L2
end
noncomputable section
namespace L2
end L2
end
noncomputable section
namespace L2
open PySem PySem.Spec PyProof.Rows
noncomputable def optD:Option Int->D
 | none=>.non
 | some i=>.int i
noncomputable def addO:Option Int->Option Int->Option Int
 | some a,some b=>some (a+b)
 | _,_=>none
noncomputable def minO:List Int->Option Int
 | []=>none
 | a::l=>some (match minO l with | none=>a | some b=>if b<a then b else a)
theorem minO_nil_iff:∀ {l:List Int},minO l=none↔l=[]
 | []=>by simp [minO]
 | a::l=>by simp [minO]
theorem minO_spec : ∀ {l : List Int} {m : Int}, minO l = some m -> m ∈ l /\ ∀ y ∈ l, m <= y
  | [], m, h => by cases h
  | a :: l, m, h => by
    unfold minO at h
    have h' := Option.some.inj h
    cases e : minO l with
    | none =>
      rw [e] at h'
      have : l = [] := minO_nil_iff.mp e
      subst this
      have : a = m := h'
      subst this
      exact ⟨List.mem_cons_self, fun y hy => by have : y = a := by simpa using hy
                                                omega⟩
    | some b =>
      rw [e] at h'
      obtain ⟨h1, h2⟩ := minO_spec e
      have h'' : (if b < a then b else a) = m := h'
      split at h''
      · subst h''
        exact ⟨List.mem_cons_of_mem _ h1, fun y hy => by
          rcases List.mem_cons.mp hy with z | z
          · omega
          · exact h2 y z⟩
      · subst h''
        exact ⟨List.mem_cons_self, fun y hy => by
          rcases List.mem_cons.mp hy with z | z
          · omega
          · have := h2 y z; omega⟩
end L2
end
noncomputable section
namespace L2
open PySem PySem.Spec PyProof.Rows
theorem ps_setComp {X:Cx}{elt tg iter:Expr}{ifs:List Expr}{scope:Scope}{pos spos py:Pos}{y:Str}{i:Nat}{wi:TI}{g:TG}{tc:TT}{te:TE}(N':List Str)(src:List (Option Nat))
  (hN:X.N.Nodup) (hyi:X.N[i]?=some y) (hyl:X.env.scope.names.lookup y=some .local)
  (hck:zU N' src scope X.N X.env.scope=true) (hi:PI X tg iter wi) (hcalm:X.calm=true)
  (hin:∀ (C:Addr) (cells:List (Str×Addr)) (s:Shared) (H:Hp) (ex:List Addr),PG (zE X N' scope C cells s H ex) tg g/\PIf (zE X N' scope C cells s H ex) ifs tc/\PE (zE X N' scope C cells s H ex) elt te)
  (hs:∀ x,foldedSetIterable iter X.env x=pure x:=by intro _;rfl)
  (hsw:swapsWith (.ListComp elt [⟨tg,iter,ifs,0⟩] scope pos) (some (.Name y py)) spos.line X.env=pure true:=by rfl) :
  PS X (.Assign [.Name y py] (.ListComp elt [⟨tg,iter,ifs,0⟩] scope pos) spos) (tAsg (tComp src wi g tc te) (gName i)):=by
 intro pins s σ H D0 I h
 have ck:=compCk hck
 rw [exec_Assign_Name_used _ _ _ _ hsw]
 refine wpAny_bind (wpAny_standAt (wpAny_bind ?_))
 show wpAny _ X.A (do let _ <- comprehension (.ListComp elt [⟨tg,iter,ifs,0⟩] scope pos) scope X.env _ (newList []) false (eval iter X.env) (some (assign (.Name y py) X.env))) _ _ s
 have hcl:=z0 (scope:=scope) (env:=X.env) fun y hy e=>I.ok.has y.1 (ck.fr y hy e)
 refine wpAny_bind (wpAny_mono (wpAny_comprehension_free (use:=some (assign (.Name y py) X.env)) (Q:=fun _ s'=>SP X pins D0 .next s') rfl hs hcl ck.kind ck.loc (thn (hi pins s σ H _ I h) fun v s1 h1=>thn h1 fun itv s2 h2=>?_)) (fun _ s' hq=>wpAny_pure (wpAny_pure hq)) fun _ _ e=>e)
 obtain ⟨it,fp,tn,J,H2,e,I2,T,st2,f2,W⟩:=h2
 subst e
 have hD:=I2.fresh
 obtain ⟨W,⟨m0,w0⟩,turn⟩:=W _ hD
 have I3:=I2.lnew (its:=[]) (ys:=[]) (t':=s2.toks) .nil (Nat.zero_le _)
 have fpD:∀ b∈fp,b<s2.heap.objs.size:=fun b hb=>by obtain ⟨o,q,_⟩:=T.obj _ _ st2 b hb;exact Heap.lt_size q
 have f3:∀ b∈fp,FpOk X pins (upd H2 s2.heap.objs.size (.lst [])) b:=fun b hb=>⟨by rw [za (Nat.ne_of_lt (fpD b hb))];exact (f2 b hb).1,(f2 b hb).2⟩
 refine wpAny_newObj_type (wpAny_compEnv ?_)
 generalize hs3:({ s2 with heap:=s2.heap.push { cls:=.type "list",data:=.seq ([]:List Value).toArray },toks:=s2.toks }:Shared)=s3 at I3
 have hs3':({ s2 with heap:=s2.heap.push { cls:=.type "list",data:=.seq ([]:List Value).toArray } }:Shared)=s3:=hs3
 have fp3:∀ b∈fp,b<s3.heap.objs.size:=fun b hb=>by
  rw [<-hs3]
  show b<(s2.heap.push _).objs.size
  rw [Heap.size_push]
  exact Nat.lt_succ_of_lt (fpD b hb)
 have I4:=comp_start (s4:={ s3 with heap:=pushCells (s3.heap.push { cls:=.type "dict",data:=.dict #[] }) scope.names }) ck I3 f3 fp3 ⟨_,rfl⟩
 have tn4:tn 0 (pushCells (s3.heap.push { cls:=.type "dict",data:=.dict #[] }) scope.names):=T.keep _ _ _ st2 fun b hb o e=>pushCells_keeps _ _ b o (Heap.get?_push_of_some _ (by rw [<-hs3];exact Heap.get?_push_of_some _ e))
 obtain ⟨hg,hif,he⟩:=hin s3.heap.objs.size (cellsFrom (s3.heap.objs.size+1) scope.names (clOf X.env.cells scope.names [])) s3 (upd H2 s2.heap.objs.size (.lst [])) fp
 have stat:∀ H':Hp,(∀ b∈fp,H' b=none)->∀ b∈fp,FpOk (zE X N' scope s3.heap.objs.size (cellsFrom (s3.heap.objs.size+1) scope.names (clOf X.env.cells scope.names [])) s3 (upd H2 s2.heap.objs.size (.lst [])) fp) [] H' b:=fun H' hn b hb =>
  ⟨hn b hb,(I4.ok.exf b hb).1,I4.ok.exfs b hb,.inl hb,fun x c e=>(I4.ok.exf b hb).2 x c e,fun p hp=>absurd (show p∈([]:List (Addr×Obj)) from hp) (by simp)⟩
 have T':Turn X.prog X.w X.K tg J fp it tn:=T
 have fr0:∀ b∈fp,upd H2 s2.heap.objs.size (.lst []) b=none:=fun b hb=>(f3 b hb).1
 have L:=comp_loop (X':=zE X N' scope s3.heap.objs.size (cellsFrom (s3.heap.objs.size+1) scope.names (clOf X.env.cells scope.names [])) s3 (upd H2 s2.heap.objs.size (.lst [])) fp) (R:=compPost (model X.prog X.w) X.A X.xe (some (assign (.Name y py) X.env)) (fun _ s'=>SP X pins D0 .next s') (Value.ref s2.heap.objs.size) s3.heap.objs.size) (iter:=iter) (scope:=scope) (pos:=pos) (QD:=fun H'=>D0.nx (σ.set i (some (.ref s2.heap.objs.size))) H') rfl hcalm I4 T' tn4 stat fr0 w0 turn hg hif he
  (fun σ' H' s' J' q=>by
   have J2:=comp_end I3 f3 J' (Heap.SameBut.refl _ _)
   obtain ⟨mm,hn,_⟩:=J'.loc
   have nL:s3.heap.objs.size≠X.env.locals:=Nat.ne_of_gt I3.lt
   have nC:∀ x c,X.env.cells.lookup x=some c->c≠s3.heap.objs.size:=fun x c e=>by
    obtain ⟨v,z⟩:=I3.cell x c e
    exact Nat.ne_of_lt z.lt
   show wpAny _ X.A (assign (.Name y py) X.env (.ref s2.heap.objs.size)) _ _ _
   refine wpAny_assign_Name (store_ok2 (v:=.ref s2.heap.objs.size) J2 hN hyi (.inl hyl) rfl (fun s5 I5 sb=>?_) (.inr hyl))
   obtain ⟨aa,sb,ha⟩:=sb
   have na:s3.heap.objs.size≠aa:=by
    rcases ha with z | z
    ·rw [z];exact nL
    ·exact fun e=>nC _ _ z e.symm
   refine ⟨mm,hn.sameBut sb na,fun h' hs'=>⟨_,H',I5.turned (t':=s5.toks) (fun b o hb e=>(hs'.2 b hb).trans e) J'.free nL (.inr I3.sz) nC fun p hp z=>?_,q⟩⟩
   exact absurd (Heap.lt_size (I3.pin p hp).1) (by rw [z];exact Nat.lt_irrefl _))
 exact codeAny_compStart_list L (T.self _ _ _ _ _ tn4 L)
end L2
end
noncomputable section
namespace L2
open PySem PySem.Spec PyProof.Rows
noncomputable def rSlS:V->Option Int->Option Int->Hp->VK->Prop:=fun x lo hi H Q=>∃ z,x=.str z/\z.length<=sizeLine/\Q (.str (PySem.Txt.slice z lo hi)) H
theorem isPart_of {v:Value}{o:Option Int}(p:IsPart v o):∃ q:Option (Int×Tok),v=partValue q/\q.map (·.1)=o:=by
 cases p with
 | none=>exact ⟨none,rfl,rfl⟩
 | int i t=>exact ⟨some (i,t),rfl,rfl⟩
theorem sl_str {X:Cx}:SlR X rSlS:=by
 intro pins s σ H x v vl vu lo hi sl Q I rx hs pl pu h
 obtain ⟨z,rfl,hz,q⟩:=h
 obtain ⟨t,rfl⟩:=rx
 obtain ⟨l,rfl,el⟩:=isPart_of pl
 obtain ⟨u,rfl,eu⟩:=isPart_of pu
 refine ⟨"str",_,F.slot_str_getitem.lookup,typeIs_str s z t,?_⟩
 refine wpAny_getItem_str_slice (l:=l) (u:=u) (st:=none) hs rfl ?_
 unfold sliceMade
 have e:slicePicked z l u none=Builtin.Str.strSliceIndices lo hi 1 z.length:=by
  unfold slicePicked
  rw [el,eu]
  rfl
 rw [e]
 unfold PySem.Txt.slice at q
 split
 ·rename_i hc
  have hc':((1:Int)==1&&(Builtin.Str.strSliceIndices lo hi 1 z.length).length==z.length)=true:=hc
  rw [if_pos hc'] at q
  exact ⟨.str z,H,I,⟨t,rfl⟩,q⟩
 ·rename_i hc
  have hc':¬ ((1:Int)==1&&(Builtin.Str.strSliceIndices lo hi 1 z.length).length==z.length)=true:=hc
  rw [if_neg hc'] at q
  have hlen:(Str.mk (List.filterMap (fun x=>z.cps[x]?) (Builtin.Str.strSliceIndices lo hi 1 z.length)).toArray).length<=sizeLine:=by
   show (List.filterMap (fun x=>z.cps[x]?) (Builtin.Str.strSliceIndices lo hi 1 z.length)).toArray.size<=sizeLine
   rw [List.size_toArray]
   exact Nat.le_trans (List.length_filterMap_le _ _) (Nat.le_trans (sliceIndices_le lo hi z.length) hz)
  exact ⟨hlen,.str _,H,I.tok _,⟨_,rfl⟩,q⟩
end L2
end
noncomputable section
namespace L2
open PySem PySem.Spec PyProof.Rows
end L2
end
noncomputable section
namespace L2
open PySem PySem.Spec PyProof.Rows
section
variable {M:Model} {A:Around} {E:Value->Shared->Prop} {s₀ s:Shared} {m cm:Str->Option Value} {env:Env} {cs:List (Str×Addr)}
theorem put_loc {n:Str}{v:Value}{Q:Unit->Shared->Prop}(z:InCallC s₀ env.locals m cs cm s)(kf:env.scope.kind=.function)(kl:env.kindOf n=some .local)
  (go:∀ s',InCallC s₀ env.locals (fun y=>if y=n then some v else m y) cs cm s'->Q () s'):wpAny M A (storeName env n v) Q E s:=by
 refine wpAny_storeName_local kl z.toInCall.ns (fun g gn gs=>go _ ⟨⟨?a,gn,fun b o e=>?b,z.toInCall.fresh⟩,fun k c e=>?c,z.apart,z.above⟩) (by rw [kf];rfl)
 case a=>obtain ⟨h₁,tk,e⟩:=z.toInCall.same;subst e;exact ⟨g,_,rfl⟩
 case b=>exact gs.extBut b o (Nat.ne_of_lt (Nat.lt_of_lt_of_le (Heap.lt_size e) z.toInCall.fresh)) (z.toInCall.keep b o e)
 case c=>exact (z.cell k c e).sameBut gs (Nat.ne_of_gt (z.above k c (PySem.mem_of_lookup e)))
theorem put_cel {n:Str}{c:Addr}{v:Value}{Q:Unit->Shared->Prop}(z:InCallC s₀ env.locals m cs cm s)(kf:env.scope.kind=.function)(kc:env.kindOf n=some .cell)
  (e1:env.cells.lookup n=some c) (e2:cs.lookup n=some c) (go:∀ s',InCallC s₀ env.locals m cs (fun y=>if y=n then some v else cm y) s'->Q () s'):wpAny M A (storeName env n v) Q E s:=by
 have up:=z.above n c (PySem.mem_of_lookup e2)
 refine wpAny_storeName_cell kf kc e1 (z.cell n c e2) fun g gc gs=>go _ ⟨⟨?a,z.toInCall.ns.sameBut gs (Nat.ne_of_lt up),fun b o e=>?b,z.toInCall.fresh⟩,fun k c' e=>?c,z.apart,z.above⟩
 case a=>obtain ⟨h₁,tk,e⟩:=z.toInCall.same;subst e;exact ⟨g,_,rfl⟩
 case b=>exact gs.extBut b o (Nat.ne_of_lt (Nat.lt_trans (Nat.lt_of_lt_of_le (Heap.lt_size e) z.toInCall.fresh) up)) (z.toInCall.keep b o e)
 case c =>
  by_cases q:k=n
  ·subst q
   rw [e2] at e;cases e
   simpa using gc
  ·rw [if_neg q]
   exact (z.cell k c' e).sameBut gs fun y=>q (name_of_addr z.apart (PySem.mem_of_lookup e) (y▸PySem.mem_of_lookup e2))
theorem put_all (f:Str×Value->PUnit->Sem (ForInStep PUnit))(hf:∀ n v u,f (n,v) u=(do storeName env n v;pure (.yield ⟨⟩)))(kf:env.scope.kind=.function)(sub:∀ n c,cs.lookup n=some c->env.cells.lookup n=some c) :
  ∀ (bs:List (Str×Value)) (m cm:Str->Option Value) (s:Shared) (Q:PUnit->Shared->Prop),InCallC s₀ env.locals m cs cm s ->
   (∀ y∈bs,env.kindOf y.1=some .local\/(env.kindOf y.1=some .cell/\∃ c,cs.lookup y.1=some c)) ->
   (∀ s',InCallC s₀ env.locals (bindL env.kindOf bs m) cs (bindC env.kindOf bs cm) s'->Q ⟨⟩ s')->wpAny M A (forIn bs ⟨⟩ f) Q E s
 | [],m,cm,s,Q,z,_,go=>by rw [List.forIn_nil];exact wpAny_pure (go s z)
 | (n,v)::r,m,cm,s,Q,z,hy,go=>by
  rw [List.forIn_cons,hf]
  have hr:=fun y (q:y∈r)=>hy y (List.mem_cons_of_mem _ q)
  rcases hy (n,v) List.mem_cons_self with kl | ⟨kc,c,e2⟩
  ·refine wpAny_bind (wpAny_bind (put_loc z kf kl fun s' z'=>wpAny_pure (put_all f hf kf sub r _ _ s' Q z' hr fun s'' z''=>go s'' ?_)))
   unfold bindL bindC;rw [if_pos kl,if_pos kl];exact z''
  ·have nl:¬ env.kindOf n=some .local:=by rw [kc];decide
   refine wpAny_bind (wpAny_bind (put_cel z kf kc (sub n c e2) e2 fun s' z'=>wpAny_pure (put_all f hf kf sub r _ _ s' Q z' hr fun s'' z''=>go s'' ?_)))
   unfold bindL bindC;rw [if_neg nl,if_neg nl];exact z''
end
theorem enter_clos {M:Model}{A:Around}{E:Value->Shared->Prop}{s:Shared}{scope:Scope}{globals:Addr}{clos:List (Str×Addr)}{binds:List (Str×Value)}{qual:Str}{func:Option Addr}{code:Value}{builtins:Addr}{Q:Env->Shared->Prop}
  (kf:scope.kind=.function) (hy:∀ y∈binds,scope.names.lookup y.1=some .local\/(scope.names.lookup y.1=some .cell/\∃ c,(cellsFrom (s.heap.objs.size+1) scope.names []).lookup y.1=some c))
  (go:∀ env,env=newEnv scope s.heap.objs.size globals (cellsFrom (s.heap.objs.size+1) scope.names clos) qual func code none builtins ->
   ∀ s',InCallC s env.locals (bindL env.kindOf binds fun _=>none) (cellsFrom (s.heap.objs.size+1) scope.names []) (bindC env.kindOf binds fun _=>none) s'->Q env s') :
  wpAny M A (newFunctionEnv scope globals clos binds qual func code none builtins) Q E s:=by
 simp only [newFunctionEnv,Option.isSome_none,Bool.false_eq_true,if_false]
 refine wpAny_bind (wpAny_alloc (wpAny_bind (wpAny_layCells _ (fun nm kd ce=>by cases q:kd==NameKind.cell<;>simp [q]) _ _ _ _ ?_)))
 have ok:=cellsFrom_ok scope.names (s.heap.push { cls:=.type "frame",data:=.dict #[] }) (s.heap.objs.size+1) [] ⟨fun _ _ hm=>(nomatch hm),List.Pairwise.nil⟩ (by rw [Heap.size_push];exact Nat.le_refl _)
 have esz:({ s with heap:=s.heap.push { cls:=.type "frame",data:=.dict #[] } }:Shared).heap.objs.size=s.heap.objs.size+1:=Heap.size_push ..
 rw [Heap.size_push] at ok
 rw [esz]
 refine wpAny_bind (put_all (s₀:=s) (cs:=cellsFrom (s.heap.objs.size+1) scope.names []) (env:=newEnv scope s.heap.objs.size globals (cellsFrom (s.heap.objs.size+1) scope.names clos) qual func code none builtins)
  _ (fun _ _ _=>rfl) kf (fun n c e=>?sub) binds (fun _=>none) (fun _=>none) _ _ ⟨⟨⟨_,_,rfl⟩,?ns,fun b o e=>?k,Nat.le_refl _⟩,fun n c e=>(ok.empty n c (PySem.mem_of_lookup e)).1,ok.apart,fun n c e=>(ok.empty n c e).2⟩ hy fun s' x=>wpAny_pure (go _ rfl s' x))
 case sub =>
  show (cellsFrom _ _ _).lookup n=some c
  rw [zh,zC,e];rfl
 case ns=>exact (Heap.Ns.new s.heap (.type "frame")).keeps (pushCells_keeps _ _)
 case k=>exact pushCells_keeps _ _ b o (Heap.get?_push_of_some _ e)
noncomputable def qb (c:Addr)(qual:Str):HO:=.ext fun h=>h.CodeRec (.ref c) qual
noncomputable def lamO (f:Addr)(fd:FuncData):HO:=.ext fun h=>h.get? f=some { cls:=.type "function",data:=.func fd }
theorem codeO_ok {P:Program}{w:World}{H:Hp}{h:Heap}{c:Addr}{q:Str}(r:h.CodeRec (.ref c) q):ObjOk P w H h c (qb c q):=by
 refine ⟨r,?_,fun h1 h2 z k=>?_⟩
 ·obtain ⟨c',o,vs,t,e,g,_⟩:=r
  cases e
  exact ⟨o,g⟩
 ·obtain ⟨c',o,vs,t,e,g,d⟩:=z
  cases e
  exact ⟨c,o,vs,t,rfl,k o g,d⟩
theorem codeO_get {P:Program}{w:World}{H:Hp}{h:Heap}{c:Addr}{q:Str}(x:HOk P w H h)(e:H c=some (qb c q)):h.CodeRec (.ref c) q:=(x c _ e).1
theorem lamO_ok {P:Program}{w:World}{H:Hp}{h:Heap}{f:Addr}{fd:FuncData}(r:h.get? f=some { cls:=.type "function",data:=.func fd }):ObjOk P w H h f (lamO f fd) :=
 ⟨r,⟨_,r⟩,fun _ _ z k=>k _ z⟩
theorem lamO_get {P:Program}{w:World}{H:Hp}{h:Heap}{f:Addr}{fd:FuncData}(x:HOk P w H h)(e:H f=some (lamO f fd)):h.get? f=some { cls:=.type "function",data:=.func fd }:=(x f _ e).1
noncomputable def isC (cells:List (Str×Addr))(b:Addr):Bool:=cells.any fun p=>cells.lookup p.1==some b
theorem isC_iff {cells:List (Str×Addr)}{b:Addr}:isC cells b=true↔∃ x,cells.lookup x=some b:=by
 unfold isC
 rw [List.any_eq_true]
 constructor
 ·rintro ⟨p,_,e⟩;exact ⟨p.1,by simpa using e⟩
 ·rintro ⟨x,e⟩;exact ⟨(x,b),PySem.mem_of_lookup e,by simpa using e⟩
noncomputable def Drop (cells:List (Str×Addr))(H:Hp):Hp:=fun b=>if isC cells b=true then none else H b
noncomputable def Put (cells:List (Str×Addr))(H H':Hp):Hp:=fun b=>if isC cells b=true then H b else H' b
theorem Drop.cell {cells:List (Str×Addr)}{H:Hp}{b:Addr}(h:isC cells b=true):Drop cells H b=none:=if_pos h
theorem Drop.ne {cells:List (Str×Addr)}{H:Hp}{b:Addr}(h:isC cells b≠true):Drop cells H b=H b:=if_neg h
theorem Drop.some {cells:List (Str×Addr)}{H:Hp}{b:Addr}{o:HO}(h:Drop cells H b=some o):isC cells b≠true/\H b=some o:=by
 unfold Drop at h
 split at h
 ·cases h
 ·rename_i z;exact ⟨z,h⟩
theorem Drop.none {cells:List (Str×Addr)}{H:Hp}{b:Addr}(h:H b=none):Drop cells H b=none:=by
 unfold Drop
 split
 ·rfl
 ·exact h
theorem Put.cell {cells:List (Str×Addr)}{H H':Hp}{b:Addr}(h:isC cells b=true):Put cells H H' b=H b:=if_pos h
theorem Put.ne {cells:List (Str×Addr)}{H H':Hp}{b:Addr}(h:isC cells b≠true):Put cells H H' b=H' b:=if_neg h
noncomputable def Cells (clos:List (Str×Addr))(H:Hp):Prop:=∀ x c,clos.lookup x=some c->∃ o v,H c=some (.frz o (.own c))/\o.data=.cell v
theorem Cells.at {clos:List (Str×Addr)}{H:Hp}(z:Cells clos H){b:Addr}(h:isC clos b=true):∃ o v,H b=some (.frz o (.own b))/\o.data=.cell v:=by
 obtain ⟨x,e⟩:=isC_iff.mp h
 exact z x b e
noncomputable def Cap (clos:List (Str×Addr))(H:Hp)(fr:List Str)(cap:List V):Prop:=∀ (i:Nat) (x:Str) (v:V),fr[i]?=some x->cap[i]?=some v->∃ c o u,clos.lookup x=some c/\H c=some (.frz o (.own c))/\o.data=.cell (some u)/\RelV v u
structure LamScope (N ps fr:List Str)(sc:Scope):Prop where
 kind:sc.kind=.function
 co:sc.isCoroutine=false
 gen:sc.isGenerator=false
 nd:N.Nodup
 app:N=ps++fr
 par:∀ x∈ps,sc.names.lookup x=some .local\/sc.names.lookup x=some .cell
 frs:∀ x∈fr,sc.names.lookup x=some .free
 cel:∀ y∈sc.names,y.2=.cell->sc.names.lookup y.1=some .cell
noncomputable def cxLam (P:Program)(w:World)(K:PySem.W.Frag)(mg:Str->Option Value)(base:Heap)(N:List Str)(qual:Str)(scope:Scope)(f:Addr)(cd:Value)(clos:List (Str×Addr))(A:Around)(outer:List Env)(s:Shared)(H:Hp):Cx where
 prog:=P
 w:=w
 K:=K
 mg:=mg
 base:=base
 A:=A.deeper (PySem.W.envX qual scope s.heap.objs.size f cd (cellsFrom (s.heap.objs.size+1) scope.names clos))
 N:=N
 s₀:=s
 H₀:=Drop clos H
 env:=PySem.W.envX qual scope s.heap.objs.size f cd (cellsFrom (s.heap.objs.size+1) scope.names clos)
 outer:=outer
 stack:=PySem.W.envX qual scope s.heap.objs.size f cd (cellsFrom (s.heap.objs.size+1) scope.names clos)::outer
 ex:=[]
 fn:=fun x=>scope.names.lookup x==some .cell
 calm:=true
 pn:=[]
 xe:=fun _ _=>False
theorem HOk.drop {P:Program}{w:World}{H:Hp}{h:Heap}{clos:List (Str×Addr)}(x:HOk P w H h)(z:Cells clos H):HOk P w (Drop clos H) h:=fun b o e=>by
 obtain ⟨_,e'⟩:=Drop.some e
 have nc:∀ c u,H c=some u->(∀ o v,u≠.frz o v)->isC clos c≠true:=fun c u q d y=>by
  obtain ⟨o,v,q',_⟩:=z.at y
  rw [q] at q';cases q'
  exact d _ _ rfl
 exact (x b o e').stay (fun _ _ _ q=>q) (fun c q=>by rw [Drop.ne (nc c _ q fun _ _=>by nofun)];exact q) fun c xs q=>by rw [Drop.ne (nc c _ q fun _ _=>by nofun)];exact q
theorem inv_lam {P:Program}{w:World}{K:PySem.W.Frag}{mg:Str->Option Value}{base:Heap}{N ps fr:List Str}{qual:Str}{scope:Scope}{f:Addr}{cd:Value}{clos:List (Str×Addr)}{A:Around}{outer:List Env}{s s1:Shared}{H:Hp}{us:List Value}{vs cap:List V}
  (S:LamScope N ps fr scope) (hd:A.handled=none) (e0:Env0 P w K mg base A outer s H) (hl:vs.length=ps.length) (hlc:cap.length=fr.length) (r:Vals vs us)
  (hc:Cells clos H) (inj:∀ x y c,clos.lookup x=some c->clos.lookup y=some c->x=y) (hfr:∀ x,scope.names.lookup x=some .free->∃ c,clos.lookup x=some c) (hcap:Cap clos H fr cap)
  (x:InCallC s s.heap.objs.size (bindL (PySem.W.envX qual scope s.heap.objs.size f cd (cellsFrom (s.heap.objs.size+1) scope.names clos)).kindOf (ps.zip us) fun _=>none) (cellsFrom (s.heap.objs.size+1) scope.names [])
   (bindC (PySem.W.envX qual scope s.heap.objs.size f cd (cellsFrom (s.heap.objs.size+1) scope.names clos)).kindOf (ps.zip us) fun _=>none) s1) :
  Inv (cxLam P w K mg base N qual scope f cd clos A outer s H) [] (vs.map some++cap.map some) (Drop clos H) s1:=by
 obtain ⟨h1,tk,rfl,hk⟩:=x.done
 have noA:∀ b:Addr,b ∉ (cxLam P w K mg base N qual scope f cd clos A outer s H).ex:=fun b z=>absurd (show b∈([]:List Addr) from z) (by simp)
 have lk:∀ y c,(cellsFrom (s.heap.objs.size+1) scope.names clos).lookup y=some c->(cellsFrom (s.heap.objs.size+1) scope.names []).lookup y=some c\/((cellsFrom (s.heap.objs.size+1) scope.names []).lookup y=none/\clos.lookup y=some c):=fun y c e=>by
  rw [zh,zC] at e
  cases q:(cellsFrom (s.heap.objs.size+1) scope.names []).lookup y with
  | some d=>rw [q] at e;left;simpa using e
  | none=>rw [q] at e;right;exact ⟨rfl,by simpa using e⟩
 have own:∀ y c,(cellsFrom (s.heap.objs.size+1) scope.names []).lookup y=some c->s.heap.objs.size<c:=fun y c e=>x.above y c (PySem.mem_of_lookup e)
 have old:∀ y c,clos.lookup y=some c->c<s.heap.objs.size:=fun y c e=>by
  obtain ⟨o,v,q,_⟩:=hc y c e
  exact e0.hok.lt q
 have hx:∀ y c,clos.lookup y=some c->scope.names.lookup y=some .free->(cellsFrom (s.heap.objs.size+1) scope.names clos).lookup y=some c:=fun y c e k=>by
  rw [zh,zC]
  cases q:(cellsFrom (s.heap.objs.size+1) scope.names []).lookup y with
  | none=>exact e
  | some d =>
   rcases zv (PySem.mem_of_lookup q) with z | z
   ·rw [S.cel _ z rfl] at k;cases k
   ·exact absurd z (by simp)
 have dn:∀ b,H b=none->Drop clos H b=none:=fun b e=>Drop.none e
 refine ⟨⟨e0.mod,S.kind,rfl,rfl,Nat.le_refl _,fun y z c a b=>?inj,fun y hy=>?has,fun y c hy e=>?cab,fun _=>hd,Around.frames_deeper e0.frames,.inr ⟨rfl,rfl⟩,fun b z=>absurd z (noA b),fun b o e=>⟨(e0.bs b o e).1,dn b (e0.bs b o e).2⟩,e0.bsz,fun b _ _=>noA b,fun b z=>absurd z (noA b),e0.funs,fun b hb=>dn b (e0.frf b hb)⟩,
  rfl,e0.bare,Un.kept hk,⟨_,x.toInCall.ns,fun i y v q1 q2 q3=>?loc⟩,fun y c e=>?cell,dn _ (e0.hok.fresh (Nat.le_refl _)),fun y c e=>?freeC,fun p hp=>absurd (show p∈([]:List (Addr×Obj)) from hp) (by simp),(e0.hok.drop hc).kept hk,?len⟩
 case inj =>
  rcases lk y c a with a | ⟨_,a⟩<;>rcases lk z c b with b | ⟨_,b⟩
  ·exact name_of_addr x.apart (PySem.mem_of_lookup a) (PySem.mem_of_lookup b)
  ·exact absurd (Nat.lt_trans (own _ _ a) (old _ _ b)) (Nat.lt_irrefl _)
  ·exact absurd (Nat.lt_trans (own _ _ b) (old _ _ a)) (Nat.lt_irrefl _)
  ·exact inj y z c a b
 case has =>
  have hy:scope.names.lookup y=some .cell\/scope.names.lookup y=some .free:=hy
  rcases hy with hy | hy
  ·obtain ⟨c,e⟩:=zS (n:=s.heap.objs.size+1) hy
   refine ⟨c,?_⟩
   show (cellsFrom (s.heap.objs.size+1) scope.names clos).lookup y=some c
   rw [zh,zC,e];rfl
  ·obtain ⟨c,e⟩:=hfr y hy
   exact ⟨c,hx y c e hy⟩
 case cab =>
  have hy:(scope.names.lookup y==some .cell)=true:=hy
  have hy':scope.names.lookup y=some .cell:=by simpa using hy
  rcases lk y c e with a | ⟨a,_⟩
  ·exact Nat.le_of_lt (own y c a)
  ·obtain ⟨d,q⟩:=zS (n:=s.heap.objs.size+1) hy'
   rw [q] at a;cases a
 case loc =>
  have ndP:ps.Nodup:=by have:=S.nd;rw [S.app] at this;exact (List.nodup_append.mp this).1
  by_cases hi:i<vs.length
  ·have ha:vs[i]?=some v:=by
    rw [List.getElem?_append_left (by simpa using hi),List.getElem?_map] at q2
    cases e:vs[i]? with
    | none=>rw [e] at q2;cases q2
    | some a=>rw [e] at q2;cases q2;rfl
   obtain ⟨u,hu,rv⟩:=r.get ha
   have hp:ps[i]?=some y:=by
    have q1':N[i]?=some y:=q1
    rw [S.app,List.getElem?_append_left (by omega)] at q1';exact q1'
   refine ⟨u,rv,?_⟩
   rcases S.par y (List.mem_of_getElem? hp) with k | k
   ·exact .inl ⟨k,bindL_get ndP hp hu k⟩
   ·obtain ⟨c,e⟩:=zS (n:=s.heap.objs.size+1) k
    refine .inr ⟨.inl k,c,?_,?_⟩
    ·show (cellsFrom (s.heap.objs.size+1) scope.names clos).lookup y=some c
     rw [zh,zC,e];rfl
    ·have q:=x.cell y c e
     rw [bindC_get ndP hp hu (by show scope.names.lookup y≠_;rw [k];decide)] at q
     exact q
  ·have hf:fr[i - vs.length]?=some y:=by
    have q1':N[i]?=some y:=q1
    rw [S.app,List.getElem?_append_right (by omega)] at q1';rw [hl];exact q1'
   have hv:cap[i - vs.length]?=some v:=by
    rw [List.getElem?_append_right (by simpa using hi),List.getElem?_map,List.length_map] at q2
    cases e:cap[i - vs.length]? with
    | none=>rw [e] at q2;cases q2
    | some a=>rw [e] at q2;cases q2;rfl
   obtain ⟨c,o,u,e1,e2,e3,e4⟩:=hcap _ y v hf hv
   have kf:=S.frs y (List.mem_of_getElem? hf)
   refine ⟨u,e4,.inr ⟨.inr kf,c,hx y c e1 kf,?_⟩⟩
   exact ⟨o,hk c o (e0.hok c _ e2).1,e3⟩
 case cell =>
  rcases lk y c e with a | ⟨_,a⟩
  ·exact ⟨_,x.cell y c a⟩
  ·obtain ⟨o,v,q,d⟩:=hc y c a
   exact ⟨v,o,hk c o (e0.hok c _ q).1,d⟩
 case freeC =>
  rcases lk y c e with a | ⟨_,a⟩
  ·exact dn c (e0.hok.fresh (Nat.le_of_lt (own y c a)))
  ·exact Drop.cell (isC_iff.mpr ⟨y,a⟩)
 case len =>
  show _=N.length
  rw [S.app]
  simp [hl,hlc]
theorem lam_end {P:Program}{w:World}{outer:List Env}{H H':Hp}{s s':Shared}{clos:List (Str×Addr)}(hok:HOk P w H s.heap)(hc:Cells clos H)(frf:∀ b∈frs outer,H b=none)
  (un:Un (frs outer) [] (Drop clos H) H' s.heap s'.heap) (ok':HOk P w H' s'.heap):Un (frs outer) [] H (Put clos H H') s.heap s'.heap/\HOk P w (Put clos H H') s'.heap:=by
 have nc:∀ b,H b=none->isC clos b≠true:=fun b e y=>by
  obtain ⟨o,v,q,_⟩:=hc.at y
  rw [e] at q;cases q
 have nc2:∀ c u,H c=some u->(∀ o v,u≠.frz o v)->isC clos c≠true:=fun c u q d y=>by
  obtain ⟨o,v,q',_⟩:=hc.at y
  rw [q] at q';cases q'
  exact d _ _ rfl
 have gone:∀ b,isC clos b=true->H' b=none:=fun b y=>by
  obtain ⟨o,v,q,_⟩:=hc.at y
  exact un.free b o (hok b _ q).1 (Drop.cell y) (by simp)
 refine ⟨⟨fun b o e n hb hx=>un.keep b o e (Drop.none n) hb hx,fun b o e n hb hx=>un.slot b o e (Drop.none n) hb hx,fun b o e n hx=>?_,fun b o e hx=>un.there b o e hx,fun b xs e=>?_,fun b o u e=>?_,fun b ps e=>?_⟩,fun b o e=>?_⟩
 ·rw [Put.ne (nc b n)];exact un.free b o e (Drop.none n) hx
 ·have z:=nc2 b _ e fun _ _=>by nofun
  rw [Put.ne z];exact un.tups b xs (by rw [Drop.ne z];exact e)
 ·by_cases z:isC clos b=true
  ·rw [Put.cell z];exact e
  ·rw [Put.ne z];exact un.frzs b o u (by rw [Drop.ne z];exact e)
 ·have z:=nc2 b _ e fun _ _=>by nofun
  rw [Put.ne z];exact un.tbls b ps (by rw [Drop.ne z];exact e)
 ·by_cases z:isC clos b=true
  ·rw [Put.cell z] at e
   obtain ⟨ob,v,q,d⟩:=hc.at z
   rw [q] at e;cases e
   have g:=(hok b _ q).1
   have g':=un.keep b ob g (Drop.cell z) (fun y=>by rw [frf b y] at q;cases q) (by simp)
   exact ⟨g',ob,g'⟩
  ·rw [Put.ne z] at e
   have np:∀ c u,H' c=some u->Put clos H H' c=some u:=fun c u q=>by
    rw [Put.ne fun y=>by rw [gone c y] at q;cases q];exact q
   exact (ok' b o e).stay (fun _ _ _ q=>q) (fun c q=>np c _ q) fun c xs q=>np c _ q
structure ClOk (P:Program)(w:World)(K:PySem.W.Frag)(mg:Str->Option Value)(base:Heap)(k:Nat)(R:Hp->Prop)(f:Addr)(sp:Sp):Prop where
 run:∀ (A:Around) (outer:List Env) (s:Shared) (H:Hp) (us:List Value) (vs:List V) (Q:VK),Room k A->Env0 P w K mg base A outer s H->R H->Vals vs us->sp vs H Q E0 ->
  codeAny (model P w) A (.call (.ref f) ⟨us,[]⟩) (CR CX0 outer P w H s Q E0) s
theorem ClOk.ofFn {P:Program}{w:World}{K:PySem.W.Frag}{mg:Str->Option Value}{base:Heap}{k:Nat}{f:Addr}{fd:FuncData}{ps:List Str}{sp:Sp}(F:FnOk P w K mg base CX0 k f fd ps sp)(hb:Binds K fd ps []):ClOk P w K mg base k (fun _=>True) f sp :=
 ⟨fun A outer s H us vs Q hr e0 _ r h=>by
  have hl:=F.len _ _ _ _ h
  have:=hb s us (e0.mod.kin.keeps fun b o e=>(e0.bs b o e).1) (by rw [List.append_nil,<-r.length];exact hl)
  rw [List.append_nil] at this
  exact F.run A outer s H ⟨us,[]⟩ us vs Q E0 hr e0 this r h⟩
noncomputable def LamAt (H:Hp)(f:Addr)(qual:Str)(params:Arguments)(body:Expr)(scope:Scope)(fr:List Str)(cap:List V)(clos:List (Str×Addr)):Prop :=
 ∃ pm c' ctv,H f=some (lamO f (PySem.W.kla_fn "<lambda>" qual params body scope clos pm (.ref c') ctv))/\H c'=some (qb c' qual)/\Cells clos H /\
  (∀ x y c,clos.lookup x=some c->clos.lookup y=some c->x=y)/\(∀ x,scope.names.lookup x=some .free->∃ c,clos.lookup x=some c)/\Cap clos H fr cap
end L2
end
noncomputable section
namespace L2
open PySem PySem.Spec PyProof.Rows
noncomputable def BM (mg:Str->Option Value)(base:Heap):Prop:=∃ bm ob,mg "__builtins__"=some (.ref bm)/\bm≠builtinsNs/\base.get? bm=some ob/\ob.cls=.type "module"/\ob.dict=some builtinsNs/\ob.data=.plain
noncomputable def tLam (cells:List (Str×Addr))(P:Addr)(qual:Str)(params:Arguments)(body:Expr)(scope:Scope)(pos:Pos):TE:=fun _ H Q =>
 ∃ ps:Array Value,H P=some (.tbl ps)/\TriplesOk ps.toList /\
  (codeAmong pos ps.toList=none->∀ c' f pm ctv,H c'=none->H f=none->c'≠f ->
   Q (.ref f) (upd (upd (upd H P (.tbl (ps++#[rawInt pos.line,rawInt pos.col,.ref c']))) c' (qb c' qual)) f (lamO f (PySem.W.kla_fn "<lambda>" qual params body scope (clOf cells scope.names []) pm (.ref c') ctv)))) /\
  (∀ cv,codeAmong pos ps.toList=some cv->∃ c',cv=.ref c'/\∀ f pm ctv,H f=none->Q (.ref f) (upd H f (lamO f (PySem.W.kla_fn "<lambda>" qual params body scope (clOf cells scope.names []) pm (.ref c') ctv))))
noncomputable def lamCheck (scope xs:Scope):Bool:=scope.names.all fun y=>!(y.2==.free)||(xs.names.lookup y.1==some .cell||xs.names.lookup y.1==some .free)
theorem pe_lambda {X:Cx}{c P:Addr}{params:Arguments}{body:Expr}{scope:Scope}{pos:Pos}(hcode:X.env.code=.ref c)(C:PySem.W.CodeHd X.base c P)(hB:BM X.mg X.base)
  (hck:lamCheck scope X.env.scope=true) (hdef:defaultsOf params X.env=([],[]):=by rfl) :
  PE X (.Lambda params body scope pos) (tLam X.env.cells P (X.env.qual ++ "<lambda>") params body scope pos):=by
 intro pins s σ H Q I h
 have hfr:∀ y∈scope.names,y.2=.free->X.env.kindOf y.1=some .cell\/X.env.kindOf y.1=some .free:=fun y hy e=>by
  have z:=List.all_eq_true.mp hck y hy
  have z':X.env.scope.names.lookup y.1=some .cell\/X.env.scope.names.lookup y.1=some .free:=by simpa [e] using z
  exact z'
 obtain ⟨ps,hP,ht,hnew,hhit⟩:=h
 refine PySem.W.kla_eval hdef ?_
 have hcl:=z0 (scope:=scope) (env:=X.env) fun y hy e=>I.ok.has y.1 (hfr y hy e)
 have oP:s.heap.get? P=some (PySem.W.tabObj ps):=I.hok P _ hP
 have hgs:s.heap.Ns mainGlobals X.mg:=I.mod.glob.keeps I.bk
 have hC:PySem.W.CodeHd s.heap c P:=C.keeps I.bk
 have hgP:mainGlobals≠P:=fun q=>by
  obtain ⟨o,es,ep,e,d,_⟩:=hgs
  rw [q,oP] at e;cases e;cases d
 have hb:s.heap.BuiltinsAt X.mg P:=by
  obtain ⟨bm,ob,b1,b2,b3,b4,b5,b6⟩:=hB
  refine ⟨bm,ob,b1,b2,fun q=>?_,fun q=>?_,I.bk _ _ b3,b4,b5,b6⟩
  ·obtain ⟨o,es,ep,e,d,_⟩:=I.mod.glob
   rw [q,e] at b3;cases b3;rw [d] at b6;cases b6
  ·have e:=I.bk _ _ b3
   rw [q,oP] at e;cases e;cases b4
 cases q:codeAmong pos ps.toList with
 | none =>
  refine PySem.W.kla_makeFunction (mg:=X.mg) hcl I.ok.glob hgs hcode hC oP ht q hgP hb fun c' ctv h' tk hx hge hlt hrec htb=>?_
  have hPl:P<s.heap.objs.size:=Heap.lt_size oP
  have hcP:c'≠P:=Nat.ne_of_gt (Nat.lt_of_lt_of_le hPl hge)
  have hfP:h'.objs.size≠P:=Nat.ne_of_gt (Nat.lt_trans (Nat.lt_of_lt_of_le hPl hge) hlt)
  have hcf:c'≠h'.objs.size:=Nat.ne_of_lt hlt
  have hsz:s.heap.objs.size<=h'.objs.size:=Nat.le_trans hge (Nat.le_of_lt hlt)
  have nP:∀ b,H b=none->b≠P:=fun b n z=>by rw [z,hP] at n;cases n
  have lt:∀ b o,H b=some o->b≠c'/\b≠h'.objs.size:=fun b o e=>⟨Nat.ne_of_lt (Nat.lt_of_lt_of_le (I.hok.lt e) hge),Nat.ne_of_lt (Nat.lt_of_lt_of_le (I.hok.lt e) hsz)⟩
  have lt2:∀ b o,s.heap.get? b=some o->b≠c'/\b≠h'.objs.size:=fun b o e=>⟨Nat.ne_of_lt (Nat.lt_of_lt_of_le (Heap.lt_size e) hge),Nat.ne_of_lt (Nat.lt_of_lt_of_le (Heap.lt_size e) hsz)⟩
  have keep:∀ b o,b≠P->s.heap.get? b=some o->(h'.push (PySem.W.kla_obj "<lambda>" (X.env.qual ++ "<lambda>") params body scope (clOf X.env.cells scope.names []) ((X.mg "__name__").getD .none) c' ctv)).get? b=some o:=fun b o n e=>Heap.get?_push_of_some _ (hx b o n e)
  have at3:∀ b,b≠P->b≠c'->b≠h'.objs.size->∀ o1 o2 o3,upd (upd (upd H P o1) c' o2) h'.objs.size o3 b=H b:=fun b n1 n2 n3 o1 o2 o3=>by rw [za n3,za n2,za n1]
  refine ⟨.ref h'.objs.size,upd (upd (upd H P (.tbl (ps++#[rawInt pos.line,rawInt pos.col,.ref c']))) c' (qb c' (X.env.qual ++ "<lambda>"))) h'.objs.size (lamO h'.objs.size (PySem.W.kla_fn "<lambda>" (X.env.qual ++ "<lambda>") params body scope (clOf X.env.cells scope.names []) ((X.mg "__name__").getD .none) (.ref c') ctv)),I.un (t':=tk) ⟨fun b o e n _ _=>keep b o (nP b n) e,fun b o e n _ _=>⟨o.slots,keep b o (nP b n) e⟩,fun b o e n _=>?fr,fun b o e _=>?th,fun b xs e=>?tu,fun b o u e=>?fz,fun b qs e=>?tb⟩ ?ok,rfl,hnew q c' h'.objs.size _ ctv (I.hok.fresh hge) (I.hok.fresh hsz) hcf⟩
  case fr=>rw [at3 b (nP b n) (lt2 b o e).1 (lt2 b o e).2];exact n
  case th =>
   by_cases z:b=P
   ·subst z;exact ⟨_,Heap.get?_push_of_some _ htb⟩
   ·exact ⟨o,keep b o z e⟩
  case tu=>rw [at3 b (fun z=>by rw [z,hP] at e;cases e) (lt b _ e).1 (lt b _ e).2];exact e
  case fz=>rw [at3 b (fun z=>by rw [z,hP] at e;cases e) (lt b _ e).1 (lt b _ e).2];exact e
  case tb =>
   by_cases z:b=P
   ·subst z
    rw [hP] at e;cases e
    exact ⟨#[rawInt pos.line,rawInt pos.col,.ref c'],by rw [za (Ne.symm hfP),za (Ne.symm hcP),zb]⟩
   ·exact ⟨#[],by rw [at3 b z (lt b _ e).1 (lt b _ e).2,e];simp⟩
  case ok =>
   intro b o e
   by_cases zf:b=h'.objs.size
   ·subst zf
    rw [zb] at e;cases e
    exact lamO_ok (Heap.get?_push_size _ rfl)
   ·rw [za zf] at e
    by_cases zc:b=c'
    ·subst zc
     rw [zb] at e;cases e
     obtain ⟨c2,oc,vs,t,e1,e2,e3⟩:=hrec
     exact codeO_ok ⟨c2,oc,vs,t,e1,Heap.get?_push_of_some _ e2,e3⟩
    ·rw [za zc] at e
     by_cases zp:b=P
     ·subst zp
      rw [zb] at e;cases e
      exact Heap.get?_push_of_some _ htb
     ·rw [za zp] at e
      have up3:∀ d u,H d=some u->(∀ ps,u≠.tbl ps)->upd (upd (upd H P (.tbl (ps++#[rawInt pos.line,rawInt pos.col,.ref c']))) c' (qb c' (X.env.qual ++ "<lambda>"))) h'.objs.size (lamO h'.objs.size (PySem.W.kla_fn "<lambda>" (X.env.qual ++ "<lambda>") params body scope (clOf X.env.cells scope.names []) ((X.mg "__name__").getD .none) (.ref c') ctv)) d=some u:=fun d u e nt=>by
       rw [at3 d (fun z=>by rw [z,hP] at e;cases e;exact nt _ rfl) (lt d _ e).1 (lt d _ e).2];exact e
      refine (I.hok b o e).stay (fun d u hd q=>keep d u ?_ q) (fun d q=>up3 d _ q fun _=>by nofun) fun d xs q=>up3 d _ q fun _=>by nofun
      rintro rfl
      rcases hd with hd | hd
      ·exact zp hd.symm
      ·rw [hP] at hd;cases hd
 | some cv =>
  obtain ⟨c',rfl,hq⟩:=hhit cv q
  refine PySem.W.kla_makeFunctionHit (mg:=X.mg) hcl I.ok.glob hgs hcode hC oP ht q hb fun ctv h' tk hk hsz=>?_
  refine ⟨.ref h'.objs.size,_,I.laid (t':=tk) (fun b o e=>Heap.get?_push_of_some _ (hk b o e)) hsz (lamO_ok (Heap.get?_push_size _ rfl)),rfl,hq h'.objs.size _ ctv (I.hok.fresh hsz)⟩
structure Caught (cl:List (Str×Addr))(N:List Str)(kd:Str->Option NameKind)(σ:St)(H1 H2:Hp):Prop where
 ne:∀ b,isC cl b≠true->H2 b=H1 b
 free:∀ b,isC cl b=true->H1 b=none
 cells:Cells cl H2
 cap:∀ (i:Nat) (x:Str) (v:V) (c:Addr),N[i]?=some x->σ[i]?=some (some v)->(kd x=some .cell\/kd x=some .free)->cl.lookup x=some c->∃ o u,H2 c=some (.frz o (.own c))/\o.data=.cell (some u)/\RelV v u
 inj:∀ x y c,cl.lookup x=some c->cl.lookup y=some c->x=y
noncomputable def tCallC (cl:List (Str×Addr))(N:List Str)(kd:Str->Option NameKind)(sp:Sp)(t:TA):TE:=fun σ H Q=>t σ H fun vs H1=>∀ H2,Caught cl N kd σ H1 H2->sp vs H2 (fun v H3=>Q v (Drop cl H3)) E0
theorem run_fnC {X:Cx}{k:Nat}{f:Addr}{fd:FuncData}{ps:List Str}{sp:Sp}{pins:List (Addr×Obj)}{σ:St}{H:Hp}{s:Shared}{Q:VK}{us:List Value}{vs:List V}(F:FnOk X.prog X.w X.K X.mg X.base CX0 k f fd ps sp)(hr:Room k X.A)(hb:Binds X.K fd ps [])
  (hfn:∀ x,X.fn x=true) (I:Inv X pins σ H s) (r:Vals vs us) (h:∀ H2,Caught X.env.cells X.N X.env.kindOf σ H H2->sp vs H2 (fun v H3=>Q v (Drop X.env.cells H3)) E0):wpAny (model X.prog X.w) X.A (call (.ref f) us) (EP X pins σ Q) X.xe s:=by
 let H2:Hp:=fun b=>if isC X.env.cells b=true then (s.heap.get? b).map fun o=>.frz o (.own b) else H b
 have h2n:∀ b,isC X.env.cells b≠true->H2 b=H b:=fun b z=>if_neg z
 have h2c:∀ b,isC X.env.cells b=true->∃ o v,s.heap.get? b=some o/\o.data=.cell v/\H2 b=some (.frz o (.own b)):=fun b z=>by
  obtain ⟨x,e⟩:=isC_iff.mp z
  obtain ⟨v,o,g,d⟩:=I.cell x b e
  exact ⟨o,v,g,d,by show (if _ then _ else _)=_;rw [if_pos z,g];rfl⟩
 have fr:∀ b,isC X.env.cells b=true->H b=none:=fun b z=>by
  obtain ⟨x,e⟩:=isC_iff.mp z
  exact I.freeC x b e
 have up:∀ b,isC X.env.cells b=true->X.s₀.heap.objs.size<=b:=fun b z=>by
  obtain ⟨x,e⟩:=isC_iff.mp z
  exact I.ok.cab x b (hfn x) e
 have nlt:∀ b o,X.s₀.heap.get? b=some o->isC X.env.cells b≠true:=fun b o e z=>absurd (Nat.lt_of_lt_of_le (Heap.lt_size e) (up b z)) (Nat.lt_irrefl _)
 have nst:∀ b∈frs X.stack,isC X.env.cells b≠true:=fun b hb z=>by
  rcases List.mem_cons.mp (I.stkSub b hb) with e | hb
  ·obtain ⟨x,e2⟩:=isC_iff.mp z
   exact I.cne x b e2 e
  ·obtain ⟨_,o,ho,_⟩:=I.ok.funs.mem hb
   exact nlt b o ho z
 have ok2:HOk X.prog X.w H2 s.heap:=fun b o e=>by
  by_cases z:isC X.env.cells b=true
  ·obtain ⟨ob,v,g,d,q⟩:=h2c b z
   rw [q] at e;cases e
   exact ⟨g,ob,g⟩
  ·rw [h2n b z] at e
   have np:∀ c u,H c=some u->H2 c=some u:=fun c u q=>by rw [h2n c fun y=>by rw [fr c y] at q;cases q];exact q
   exact (I.hok b o e).stay (fun _ _ _ q=>q) (fun c q=>np c _ q) fun c xs q=>np c _ q
 have nb:∀ b o,X.base.get? b=some o->isC X.env.cells b≠true:=fun b o e=>nlt b o (I.ok.bs b o e).1
 have e0:Env0 X.prog X.w X.K X.mg X.base X.A X.stack s H2:=⟨I.ok.frames,I.ok.mod,fun b o e=>⟨(I.bs b o e).1,by rw [h2n b (nb b o e)];exact (I.bs b o e).2⟩,Nat.le_trans I.ok.bsz I.sz,I.stack,fun b hb=>by rw [h2n b (nst b hb)];exact I.stkFree b hb,ok2,I.bare⟩
 have ca:Caught X.env.cells X.N X.env.kindOf σ H H2:=⟨h2n,fr,fun x c e=>by
   obtain ⟨o,v,g,d,q⟩:=h2c c (isC_iff.mpr ⟨x,e⟩)
   exact ⟨o,v,q,d⟩,fun i x v c e1 e2 e3 e4=>by
   obtain ⟨m,hn,hl⟩:=I.loc
   have vis:Vis X.env.scope x:=e3.elim (fun z=>.inr (.inl z)) fun z=>.inr (.inr z)
   obtain ⟨u,ru,lk⟩:=hl i x v e1 e2 vis
   rcases lk with ⟨z,_⟩ | ⟨_,c2,z1,z2⟩
   ·rcases e3 with y | y<;>(rw [z] at y;cases y)
   ·rw [e4] at z1;cases z1
    obtain ⟨o,w',g,d,q⟩:=h2c c (isC_iff.mpr ⟨x,e4⟩)
    obtain ⟨o2,g2,d2⟩:=z2
    rw [g] at g2;cases g2
    exact ⟨o,u,q,d2,ru⟩,I.ok.inj⟩
 have hsp:=h H2 ca
 have hl:=F.len _ _ _ _ hsp
 have hb':=hb s us I.kIn (by rw [List.append_nil,<-r.length];exact hl)
 rw [List.append_nil] at hb'
 refine wpAny_call (codeAny_mono (F.run X.A X.stack s H2 ⟨us,[]⟩ us vs _ E0 hr e0 hb' r hsp) fun r s' hq=>?_)
 cases r with
 | error e=>exact False.elim hq
 | ok fl =>
  cases fl with
  | next=>exact False.elim hq
  | brk=>exact False.elim hq
  | cont=>exact False.elim hq
  | ret u =>
   obtain ⟨v,H3,os,bare,un,ok3,rv,q⟩:=hq
   have h3c:∀ b,isC X.env.cells b=true->∃ o,s.heap.get? b=some o/\s'.heap.get? b=some o/\H3 b=some (.frz o (.own b)):=fun b z=>by
    obtain ⟨o,v,g,d,q2⟩:=h2c b z
    have q3:=un.frzs b o _ q2
    exact ⟨o,g,(ok3 b _ q3).1,q3⟩
   have nz:∀ b u,H b=some u->isC X.env.cells b≠true:=fun b u e y=>by rw [fr b y] at e;cases e
   refine ⟨v,_,I.call' (H':=Drop X.env.cells H3) (ch:=[]) os ⟨fun b o e n hb hx=>?k,fun b o e n hb hx=>?sl,fun b o e n hx=>?fr,fun b o e hx=>un.there b o e hx,fun b xs e=>?tu,fun b o u e=>?fz,fun b ps e=>?tb⟩ (fun b o e=>?hok) bare (fun b z=>absurd z (by simp)),rv,q⟩
   case k =>
    by_cases z:isC X.env.cells b=true
    ·obtain ⟨o2,g,g',_⟩:=h3c b z
     rw [e] at g;cases g
     exact g'
    ·exact un.keep b o e (by rw [h2n b z];exact n) hb hx
   case sl=>exact un.slot b o e (by rw [h2n b (nst b hb)];exact n) hb hx
   case fr =>
    by_cases z:isC X.env.cells b=true
    ·exact Drop.cell z
    ·exact Drop.none (un.free b o e (by rw [h2n b z];exact n) hx)
   case tu =>
    rw [Drop.ne (nz b _ e)]
    exact un.tups b xs (by rw [h2n b (nz b _ e)];exact e)
   case fz =>
    rw [Drop.ne (nz b _ e)]
    exact un.frzs b o u (by rw [h2n b (nz b _ e)];exact e)
   case tb =>
    rw [Drop.ne (nz b _ e)]
    exact un.tbls b ps (by rw [h2n b (nz b _ e)];exact e)
   case hok =>
    obtain ⟨z,e3⟩:=Drop.some e
    have np:∀ c u,H3 c=some u->(∀ o w',u≠.frz o w')->Drop X.env.cells H3 c=some u:=fun c u q d=>by
     rw [Drop.ne fun y=>by obtain ⟨o,_,_,q3⟩:=h3c c y;rw [q] at q3;cases q3;exact d _ _ rfl];exact q
    exact (ok3 b o e3).stay (fun _ _ _ q=>q) (fun c q=>np c _ q fun _ _=>by nofun) fun c xs q=>np c _ q fun _ _=>by nofun
theorem pe_callC {X:Cx}{k:Nat}{f:Addr}{fd:FuncData}{ps:List Str}{sp:Sp}{x:Str}{p pos:Pos}{e:Expr}{es:List Expr}{t:TA}(F:FnOk X.prog X.w X.K X.mg X.base CX0 k f fd ps sp)(hr:Room k X.A)(hg:Gl X x)(hm:X.mg x=some (.ref f))(hk:PySem.W.keepIn X.K (.ref f)=true)(hb:Binds X.K fd ps [])
  (hfn:∀ x,X.fn x=true) (ha:PA X (e::es) t) (hdb:(x==("__debug__":Str))=false:=by decide) (he:starEach (e::es) X.env=(false,eval e X.env)::starEach es X.env:=by rfl) (hpl:(backTo pos (starEach es X.env)).any (·.1)=false:=by rfl) :
  PE X (.Call (.Name x p) (e::es) [] pos) (tCallC X.env.cells X.N X.env.kindOf sp t):=by
 intro pins s σ H Q I h
 refine wpAny_Call_Name_kw (ld_glob I hg hm ?_ hdb)
 refine PySem.W.callWith_K (h₀:=X.base) I.ok.mod.kin hk (thn (ha pos pins s σ H _ I h) fun us s1 ⟨vs,H1,I1,r,q⟩=>⟨I1.kIn,?_⟩) he hpl
 exact run_fnC F hr hb hfn I1 r q
noncomputable def FnIn (K:PySem.W.Frag)(H:Hp)(f:Addr):Prop:=(∃ fd,H f=some (lamO f fd))\/∃ oc od fd sl,K.lookup f=some ⟨oc,od,.func fd,sl⟩
theorem FnIn.at {X:Cx}{pins:List (Addr×Obj)}{σ:St}{H:Hp}{s:Shared}{f:Addr}(h:FnIn X.K H f)(I:Inv X pins σ H s):PySem.W.FnAt f s.heap:=by
 rcases h with ⟨fd,h⟩ | ⟨oc,od,fd,sl,h⟩
 ·exact ⟨_,_,_,_,lamO_get I.hok h⟩
 ·exact ⟨_,_,_,_,I.kIn _ _ h⟩
noncomputable def tCallV (P:Program)(w:World)(K:PySem.W.Frag)(mg:Str->Option Value)(base:Heap)(k:Nat)(i:Nat)(t:TA):TE:=fun σ H Q=>∃ f,σ[i]?=some (some (.ref f))/\FnIn K H f/\t σ H fun vs H1=>FnIn K H1 f/\∃ R sp,ClOk P w K mg base k R f sp/\R H1/\sp vs H1 Q E0
theorem run_cl {X:Cx}{k:Nat}{f:Addr}{sp:Sp}{R:Hp->Prop}{pins:List (Addr×Obj)}{σ:St}{H:Hp}{s:Shared}{Q:VK}{us:List Value}{vs:List V}(F:ClOk X.prog X.w X.K X.mg X.base k R f sp)(hr:Room k X.A)(I:Inv X pins σ H s)(hR:R H)(r:Vals vs us)(h:sp vs H Q E0) :
  wpAny (model X.prog X.w) X.A (call (.ref f) us) (EP X pins σ Q) X.xe s:=by
 refine wpAny_call (codeAny_mono (F.run X.A X.stack s H us vs Q hr I.env0 hR r h) fun r s' hq=>?_)
 cases r with
 | error e=>exact False.elim hq
 | ok fl =>
  cases fl with
  | ret u=>exact I.after hq
  | next=>exact False.elim hq
  | brk=>exact False.elim hq
  | cont=>exact False.elim hq
theorem pe_callV {X:Cx}{P:Program}{w:World}{K:PySem.W.Frag}{mg:Str->Option Value}{base:Heap}{k i:Nat}{x:Str}{p pos:Pos}{e:Expr}{es:List Expr}{t:TA}(hP:X.prog=P)(hw:X.w=w)(hK:X.K=K)(hmg:X.mg=mg)(hbs:X.base=base)(hr:Room k X.A)(hv:PE X (.Name x p) (tVar i))(ha:PA X (e::es) t)
  (he:starEach (e::es) X.env=(false,eval e X.env)::starEach es X.env:=by rfl) (hpl:(backTo pos (starEach es X.env)).any (·.1)=false:=by rfl) :
  PE X (.Call (.Name x p) (e::es) [] pos) (tCallV P w K mg base k i t):=by
 subst hP hw hK hmg hbs
 intro pins s σ H Q I h
 obtain ⟨f,hσ,hf,ht⟩:=h
 refine wpAny_Call_Name_kw (thn (hv pins s σ H (fun v H'=>v=.ref f/\H'=H) I ⟨.ref f,hσ,rfl,rfl⟩) fun u s0 ⟨v,H0,I0,r0,ev,eH⟩=>?_)
 subst ev
 subst eH
 cases r0
 exact PySem.W.callWith_F (q:=f) (hf.at I0) (thn (ha pos pins s0 σ H0 _ I0 ht) fun us s1 ⟨vs,H1,I1,r,hF,R,sp,F,hR,q⟩=>⟨hF.at I1,run_cl F hr I1 hR r q⟩) he hpl
end L2
end
noncomputable section
namespace L2
open PySem PySem.Spec PyProof.Rows
noncomputable def tabsOf (K:PySem.W.Frag)(names:List Str):List (Str×Addr×Addr):=names.filterMap fun x=>(PySem.W.tabIn K x).map fun p=>(x,p)
theorem mem_tabsOf {K:PySem.W.Frag}{names:List Str}{y:Str×Addr×Addr}:y∈tabsOf K names↔y.1∈names/\PySem.W.tabIn K y.1=some y.2:=by
 unfold tabsOf
 rw [List.mem_filterMap]
 constructor
 ·rintro ⟨x,hx,e⟩
  obtain ⟨p,hp,rfl⟩:=Option.map_eq_some_iff.mp e
  exact ⟨hx,hp⟩
 ·rintro ⟨hx,e⟩
  exact ⟨y.1,hx,by rw [e];rfl⟩
noncomputable def Codes (K:PySem.W.Frag)(names:List Str)(base:Heap):Prop:=∀ x∈names,∀ c P,PySem.W.tabIn K x=some (c,P)->PySem.W.CodeHd base c P
noncomputable def Blank (K:PySem.W.Frag)(names:List Str)(H:Hp):Prop:=∀ x∈names,∀ c P,PySem.W.tabIn K x=some (c,P)->H P=some (.tbl #[])
noncomputable def tabsIn (K:PySem.W.Frag)(names:List Str)(ts:List Addr):Bool:=names.all fun x=>match PySem.W.tabIn K x with
 | some (c,P)=>PySem.W.codeHdIn K c P&&ts.contains P
 | none=>true
theorem tab_some {K:PySem.W.Frag}{x:Str}(h:(PySem.W.tabIn K x).isSome=true):PySem.W.tabIn K x=some (((PySem.W.tabIn K x).getD (0,0)).1,((PySem.W.tabIn K x).getD (0,0)).2):=by
 obtain ⟨p,e⟩:=Option.isSome_iff_exists.mp h
 rw [e]
 rfl
end L2
end
noncomputable section
namespace L2
open PySem PySem.Spec PyProof.Rows
noncomputable def TabOkH (H:Hp)(P:Addr)(q:Str):Prop:=∃ ps:Array Value,H P=some (.tbl ps)/\TriplesOk ps.toList/\∀ pos cv,codeAmong pos ps.toList=some cv->∃ c',cv=.ref c'/\H c'=some (qb c' q)
noncomputable def TabsH (T:List (Addr×Str))(H:Hp):Prop:=∀ y∈T,TabOkH H y.1 y.2
noncomputable def SameT (H H':Hp):Prop:=∀ b o,(∀ ps,o≠.tbl ps)->H b=some o->H' b=some o
theorem SameT.of {H H1:Hp}(a:Same H H1):SameT H H1:=fun c o _ h=>a c o h
theorem TabsH.keep {T:List (Addr×Str)}{H H':Hp}(h:TabsH T H)(k:∀ b o,(∀ xs,o≠.lst xs)->H b=some o->H' b=some o):TabsH T H':=fun y hy=>by
 obtain ⟨ps,e,t,c⟩:=h y hy
 refine ⟨ps,k _ _ (fun _=>by nofun) e,t,fun pos cv q=>?_⟩
 obtain ⟨c',e1,e2⟩:=c pos cv q
 exact ⟨c',e1,k _ _ (fun _=>by unfold qb;nofun) e2⟩
theorem TabsH.same {T:List (Addr×Str)}{H H':Hp}(h:TabsH T H)(s:Same H H'):TabsH T H':=h.keep fun b o _ e=>s b o e
theorem TabsH.new {T:List (Addr×Str)}{H:Hp}{a:Addr}{o:HO}(h:TabsH T H)(n:H a=none):TabsH T (upd H a o):=h.same ((Same.refl H).new n)
theorem TabsH.put {T:List (Addr×Str)}{H:Hp}{a:Addr}{o:HO}{xs:List V}(h:TabsH T H)(n:H a=some (.lst xs)):TabsH T (upd H a o):=h.keep fun b u d e=>by
 rw [za fun z=>by subst z;rw [n] at e;cases e;exact d _ rfl];exact e
theorem TabsH.init {T:List (Addr×Str)}{H:Hp}(h:∀ p∈T.map (·.1),H p=some (.tbl #[])):TabsH T H:=fun y hy =>
 ⟨#[],h _ (List.mem_map_of_mem hy),trivial,fun pos cv e=>by simp [codeAmong] at e⟩
theorem codeAmong_add {pos:Pos}{a b:Int}{c cv:Value}:∀ (l:List Value),TriplesOk l->codeAmong pos (l++[rawInt a,rawInt b,c])=some cv->codeAmong pos l=some cv\/cv=c:=by
 intro l
 fun_induction TriplesOk l with
 | case1 =>
  intro _ e
  simp only [List.nil_append,codeAmong,rawInt] at e
  split at e
  ·exact .inr (Option.some.inj e).symm
  ·cases e
 | case2 x t y u z rest ih =>
  intro h e
  simp only [List.cons_append,codeAmong] at e ⊢
  split at e
  ·rename_i q
   left;rw [if_pos q];exact e
  ·rename_i q
   rw [if_neg q];exact ih h e
 | case3 l h1 h2=>intro h;exact h.elim
theorem lamAt_of {cells:List (Str×Addr)}{N:List Str}{kd:Str->Option NameKind}{σ:St}{H1 H2:Hp}{f:Addr}{q:Str}{params:Arguments}{body:Expr}{scope:Scope}{fr:List Str}{cap:List V}(ca:Caught cells N kd σ H1 H2)
  (hf:∃ pm c' ctv,H1 f=some (lamO f (PySem.W.kla_fn "<lambda>" q params body scope (clOf cells scope.names []) pm (.ref c') ctv))/\H1 c'=some (qb c' q))
  (hfr:∀ x,scope.names.lookup x=some .free->∃ c,cells.lookup x=some c)
  (hcap:∀ (i:Nat) (x:Str) (v:V),fr[i]?=some x->cap[i]?=some v->scope.names.lookup x=some .free/\(kd x=some .cell\/kd x=some .free)/\∃ j:Nat,N[j]?=some x/\σ[j]?=some (some v)) :
  LamAt H2 f q params body scope fr cap (clOf cells scope.names []):=by
 obtain ⟨pm,c',ctv,h1,h2⟩:=hf
 have up:∀ b o,H1 b=some o->H2 b=some o:=fun b o e=>by
  rw [ca.ne b fun z=>by rw [ca.free b z] at e;cases e];exact e
 have sub:∀ x c,(clOf cells scope.names []).lookup x=some c->cells.lookup x=some c:=fun x c e=>by
  rcases clOf_mem (PySem.mem_of_lookup e) with z | z
  ·exact z
  ·exact absurd z (by simp)
 refine ⟨pm,c',ctv,up _ _ h1,up _ _ h2,fun x c e=>ca.cells x c (sub x c e),fun x y c e1 e2=>ca.inj x y c (sub x c e1) (sub y c e2),fun x k=>?_,fun i x v e1 e2=>?_⟩
 ·obtain ⟨c,e⟩:=hfr x k
  exact ⟨c,z8 e (PySem.mem_of_lookup k)⟩
 ·obtain ⟨k,kk,j,e3,e4⟩:=hcap i x v e1 e2
  obtain ⟨c,e⟩:=hfr x k
  obtain ⟨o,u,e5,e6,e7⟩:=ca.cap j x v c e3 e4 kk e
  exact ⟨c,o,u,z8 e (PySem.mem_of_lookup k),e5,e6,e7⟩
theorem Caught.same {cells:List (Str×Addr)}{N:List Str}{kd:Str->Option NameKind}{σ:St}{H1 H2:Hp}(ca:Caught cells N kd σ H1 H2):Same H1 H2:=fun b o e=>by
 rw [ca.ne b fun z=>by rw [ca.free b z] at e;cases e];exact e
theorem Fun.okC {P:Program}{w:World}{K:PySem.W.Frag}{mg:Str->Option Value}{base:Heap}{x qual:Str}{st:Stmt}{f c:Addr}{fd:FuncData}{N ps:List Str}{k:Nat}{sp:Sp}(F:Fun K x qual st f fd)(hcd:fd.code=.ref c)(S:FnScope N ps (defScope st))(len:∀ vs H Q E,sp vs H Q E->vs.length=ps.length)
  (hbody:∀ (A:Around) (outer:List Env) (s:Shared) (H:Hp) (vs:List V) (Q:VK) (E:XK),Room k (A.deeper (envOfC qual (defScope st) s.heap.objs.size f (.ref c)))->sp vs H Q E ->
   ∃ t,PSs (cxOf CX0 P w K mg base N qual (defScope st) f (.ref c) A outer s H E).nox (zK st) t/\t { nx:=fun _ H'=>Q .non H',rt:=Q } (start N vs) H):FnOk P w K mg base CX0 (k+1) f fd ps sp:=by
 obtain ⟨oc,od,kV,doc,pm,an,cdv,ct,osl,rfl,lk,hc⟩:=F.ex
 have e:cdv=.ref c:=hcd
 subst e
 refine fn_of lk hc S len fun A outer s H vs Q E hr hsp=>?_
 obtain ⟨t,h,q⟩:=hbody A outer s H vs Q E hr hsp
 exact ⟨t,h.nox,q⟩
end L2
end
noncomputable section
namespace L2
open PySem PySem.Spec PyProof.Rows
noncomputable def rowO (r:List (Option Int)):D:=.tup (r.map optD)
end L2
end
noncomputable section
namespace L2
open PySem PySem.Spec PyProof.Rows
theorem call_minL {X:Cx}{K:PySem.W.Frag}(hc:X.calm=true)(hK:X.K=K):CallR X (.builtin "min") (fun xs H Q=>∃ a ns,xs=[.ref a]/\SqL K H a (ns.map V.int)/\ns≠[]/\∀ m∈ns,(∀ y∈ns,m<=y)->Q (.int m) H):=by
 subst hK
 intro pins s σ H xs us Q I r h
 obtain ⟨a,ns,rfl,hS,hne,q⟩:=h
 obtain ⟨u,rfl,ru⟩:=vals1 r
 cases ru
 obtain ⟨its,rv,pl,hz⟩:=I.list hS
 have hl:=rv.length
 rw [List.length_map] at hl
 have hpos:0<ns.length:=List.length_pos_iff.mpr hne
 refine call_min_walk (wpAny_pyIter_list pl.isList ?_)
 have hal:a<s.heap.objs.size:=by obtain ⟨o,_,e,_⟩:=pl;exact Heap.lt_size e
 have W:=Walks.list (prog:=X.prog) (w:=X.w) (A:=X.A.in1) (I.ok.hd hc) s.heap.objs.size a (Nat.ne_of_lt hal) its.toArray
 let val:Nat->Int:=fun i=>ns.getD i 0
 have hval:∀ i v,its.toArray[i]?=some v->∃ t,v=Value.int (val i) t:=fun i v e=>by
  obtain ⟨z,t,e1,e2⟩:=vals_at rv (i:=i) (v:=v) (by rw [List.getElem?_toArray] at e;exact e)
  refine ⟨t,?_⟩
  rw [e2]
  show Value.int z t=Value.int (ns.getD i 0) t
  rw [List.getD_eq_getElem?_getD,e1]
  rfl
 refine ⟨_,_,_,_,_,_,_,rfl,W,⟨⟨_,Heap.get?_push_size _ rfl,rfl,rfl⟩,?_⟩,fun b hb=>?_,by rw [List.size_toArray];omega,CmpOf.ints_lt val hval,fun v h' tk hP k=>?_⟩
 ·obtain ⟨o,e,r⟩:=pl.isList
  exact ⟨o,Heap.get?_push_of_some _ e,r⟩
 ·show b<(s.heap.push _).objs.size
  rw [Heap.size_push]
  rcases List.mem_cons.mp hb with z | z
  ·rw [z];exact Nat.lt_succ_self _
  ·have z':b=a:=by simpa using z
   rw [z'];exact Nat.lt_succ_of_lt hal
 ·obtain ⟨z,t,e1,e2⟩:=vals_at rv (i:=argBest (fun i j=>decide (val i<val j)) (its.toArray.size - 1)) (v:=v) (by rw [List.getElem?_toArray] at hP;exact hP)
  subst e2
  have hv:val (argBest (fun i j=>decide (val i<val j)) (its.toArray.size - 1))=z:=by
   show ns.getD _ 0=z
   rw [List.getD_eq_getElem?_getD,e1]
   rfl
  refine ⟨.int z,H,I.kept (h':=h') (t':=tk) fun b o q=>k b o ?_ (Heap.get?_push_of_some _ q),⟨t,rfl⟩,q z (List.mem_of_getElem? e1) fun y hy=>?_⟩
  ·intro z
   have z':b=s.heap.objs.size:=by simpa using z
   exact absurd (Heap.lt_size q) (by rw [z'];exact Nat.lt_irrefl _)
  ·obtain ⟨j,hj,e3⟩:=List.mem_iff_getElem.mp hy
   have:=qJ val (its.toArray.size - 1) j (by simp only [List.size_toArray];omega)
   rw [hv] at this
   have e4:val j=y:=by
    show ns.getD j 0=y
    rw [List.getD_eq_getElem?_getD,List.getElem?_eq_getElem hj]
    exact e3
   omega
noncomputable def mx (a b:Int):Int:=if b > a then b else a
theorem mx_le {a b x:Int}:mx a b<=x↔a<=x/\b<=x:=by unfold mx;split<;>omega
noncomputable def sgn (s:Nat->Nat->Int):Nat->Nat->Option Int:=fun i j=>some (s i j)
noncomputable def sprod (n:Nat)(s t:Nat->Nat->Int)(i j:Nat):Int:=(minO ((List.range n).map fun k=>mx (s i k) (t k j))).getD 3
theorem minO_le {l:List Int}{m x:Int}(h:minO l=some m):m<=x↔∃ y∈l,y<=x:=by
 obtain ⟨h1,h2⟩:=minO_spec h
 exact ⟨fun z=>⟨m,h1,z⟩,fun ⟨y,hy,z⟩=>Int.le_trans (h2 y hy) z⟩
theorem minO_some {l:List Int}(h:l≠[]):∃ m,minO l=some m:=by
 cases e:minO l with
 | none=>exact absurd (minO_nil_iff.mp e) h
 | some m=>exact ⟨m,rfl⟩
theorem sprod_le {n:Nat}(hn:1<=n){s t:Nat->Nat->Int}{i j:Nat}{x:Int}:sprod n s t i j<=x↔∃ k,k<n/\s i k<=x/\t k j<=x:=by
 obtain ⟨m,hm⟩:=minO_some (l:=(List.range n).map fun k=>mx (s i k) (t k j)) (by
  intro z
  have:=congrArg List.length z
  rw [List.length_map,List.length_range] at this
  simp at this
  omega)
 unfold sprod
 rw [hm]
 show m<=x↔_
 rw [minO_le hm]
 constructor
 ·rintro ⟨y,hy,hx⟩
  obtain ⟨k,hk,rfl⟩:=List.mem_map.mp hy
  exact ⟨k,List.mem_range.mp hk,mx_le.mp hx⟩
 ·rintro ⟨k,hk,hx⟩
  exact ⟨_,List.mem_map.mpr ⟨k,List.mem_range.mpr hk,rfl⟩,mx_le.mpr hx⟩
theorem eq_of_le {a b:Int}(h:∀ x,a<=x↔b<=x):a=b:=by
 have h1:=(h b).mpr (Int.le_refl _)
 have h2:=(h a).mp (Int.le_refl _)
 omega
theorem sprod_in {n:Nat}(hn:1<=n){s t:Nat->Nat->Int}(h:∀ i j,i<n->j<n->0<=s i j/\s i j<=3)(h':∀ i j,i<n->j<n->0<=t i j/\t i j<=3){i j:Nat}(hi:i<n)(hj:j<n):0<=sprod n s t i j/\sprod n s t i j<=3:=by
 constructor
 ·obtain ⟨k,hk,h1,h2⟩:=(sprod_le hn (s:=s) (t:=t) (i:=i) (j:=j)).mp (Int.le_refl _)
  have:=h i k hi hk
  omega
 ·exact (sprod_le hn).mpr ⟨0,by omega,(h i 0 hi (by omega)).2,(h' 0 j (by omega) hj).2⟩
end L2
end
noncomputable section
namespace L2
open PySem PySem.Spec PyProof.Rows
section
variable {X:Cx}
end
end L2
end
noncomputable section
namespace L2
open PySem PySem.Spec PyProof.Rows
noncomputable def mx3 (a b c:Int):Int:=mx (mx a b) c
noncomputable def rnd (x:Int):Int:=if x=0\/x=3 then x else 2
noncomputable def sharp (n:Nat)(s:Nat->Nat->Int)(i j:Nat):Int:=(minO ((List.range n).map fun k=>mx3 (s i k) (rnd (s k k)) (s k j))).getD 3
end L2
end
noncomputable section
namespace L2
open PySem PySem.Spec PyProof.Rows
section
variable {n:Nat} {s:Nat->Nat->Int}
end
end L2
end
noncomputable section
namespace L2
open PySem PySem.Spec PyProof.Rows
noncomputable def tDef (cells:List (Str×Addr))(P:Addr)(name q:Str)(params:Arguments)(body:List Stmt)(scope:Scope)(pos:Pos)(i:Nat):TS:=fun D σ H =>
 ∃ ps:Array Value,H P=some (.tbl ps)/\TriplesOk ps.toList /\
  (codeAmong pos ps.toList=none->∀ c' f doc pm ctv,H c'=none->H f=none->c'≠f ->
   D.nx (σ.set i (some (.ref f))) (upd (upd (upd H P (.tbl (ps++#[rawInt pos.line,rawInt pos.col,.ref c']))) c' (qb c' q)) f (lamO f (PySem.W.fnX name q params body scope (clOf cells scope.names []) .none .none doc pm none (.ref c') ctv)))) /\
  (∀ cv,codeAmong pos ps.toList=some cv->∃ c',cv=.ref c'/\∀ f doc pm ctv,H f=none->D.nx (σ.set i (some (.ref f))) (upd H f (lamO f (PySem.W.fnX name q params body scope (clOf cells scope.names []) .none .none doc pm none (.ref c') ctv))))
theorem ps_def {X:Cx}{c P:Addr}{name q:Str}{i:Nat}{params:Arguments}{body:List Stmt}{scope:Scope}{pos:Pos}(hN:X.N.Nodup)(hi:X.N[i]?=some name)(hx:Loc X.env.scope name)(hcode:X.env.code=.ref c)(C:PySem.W.CodeHd X.base c P)(hB:BM X.mg X.base)
  (hck:lamCheck scope X.env.scope=true) (hq:qualnameIn X.env name name=q:=by rfl) (hd0:params.defaults=[]:=by rfl) (hk0:params.kw_defaults=[]:=by rfl) (ha:annTrees params none X.env=[]:=by rfl) (hf:X.fn name=true\/X.env.scope.names.lookup name=some .local:=by first | exact .inl rfl | exact .inr rfl) :
  PS X (.FunctionDef name params body [] none [] scope none name pos) (tDef X.env.cells P name q params body scope pos i):=by
 intro pins s σ H D I h
 have hfr:∀ y∈scope.names,y.2=.free->X.env.kindOf y.1=some .cell\/X.env.kindOf y.1=some .free:=fun y hy e=>by
  have z:=List.all_eq_true.mp hck y hy
  have z':X.env.scope.names.lookup y.1=some .cell\/X.env.scope.names.lookup y.1=some .free:=by simpa [e] using z
  exact z'
 obtain ⟨ps,hP,ht,hnew,hhit⟩:=h
 refine PySem.W.nestDef_K hd0 hk0 ha ?_
 rw [hq]
 have fin:∀ {H2:Hp} {f:Addr} {s2:Shared},Inv X pins σ H2 s2->D.nx (σ.set i (some (.ref f))) H2->wpAny (model X.prog X.w) X.A (storeName X.env name (.ref f)) (fun _ s3=>SP X pins D .next s3) X.xe s2:=fun {H2 f s2} I2 q2=>store_ok (v:=.ref f) I2 hN hi hx rfl (fun s3 I3=>⟨_,H2,I3,q2⟩) hf
 have hcl:=z0 (scope:=scope) (env:=X.env) fun y hy e=>I.ok.has y.1 (hfr y hy e)
 have oP:s.heap.get? P=some (PySem.W.tabObj ps):=I.hok P _ hP
 have hgs:s.heap.Ns mainGlobals X.mg:=I.mod.glob.keeps I.bk
 have hC:PySem.W.CodeHd s.heap c P:=C.keeps I.bk
 have hgP:mainGlobals≠P:=fun q=>by
  obtain ⟨o,es,ep,e,d,_⟩:=hgs
  rw [q,oP] at e;cases e;cases d
 have hb:s.heap.BuiltinsAt X.mg P:=by
  obtain ⟨bm,ob,b1,b2,b3,b4,b5,b6⟩:=hB
  refine ⟨bm,ob,b1,b2,fun q=>?_,fun q=>?_,I.bk _ _ b3,b4,b5,b6⟩
  ·obtain ⟨o,es,ep,e,d,_⟩:=I.mod.glob
   rw [q,e] at b3;cases b3;rw [d] at b6;cases b6
  ·have e:=I.bk _ _ b3
   rw [q,oP] at e;cases e;cases b4
 cases qq:codeAmong pos ps.toList with
 | none =>
  refine PySem.W.makeFunction_K (mg:=X.mg) hcl I.ok.glob hgs hcode hC oP ht qq hgP hb fun c' ctv doc h' tk hx hge hlt hrec htb=>?_
  have hPl:P<s.heap.objs.size:=Heap.lt_size oP
  have hcP:c'≠P:=Nat.ne_of_gt (Nat.lt_of_lt_of_le hPl hge)
  have hfP:h'.objs.size≠P:=Nat.ne_of_gt (Nat.lt_trans (Nat.lt_of_lt_of_le hPl hge) hlt)
  have hcf:c'≠h'.objs.size:=Nat.ne_of_lt hlt
  have hsz:s.heap.objs.size<=h'.objs.size:=Nat.le_trans hge (Nat.le_of_lt hlt)
  have nP:∀ b,H b=none->b≠P:=fun b n z=>by rw [z,hP] at n;cases n
  have lt:∀ b o,H b=some o->b≠c'/\b≠h'.objs.size:=fun b o e=>⟨Nat.ne_of_lt (Nat.lt_of_lt_of_le (I.hok.lt e) hge),Nat.ne_of_lt (Nat.lt_of_lt_of_le (I.hok.lt e) hsz)⟩
  have lt2:∀ b o,s.heap.get? b=some o->b≠c'/\b≠h'.objs.size:=fun b o e=>⟨Nat.ne_of_lt (Nat.lt_of_lt_of_le (Heap.lt_size e) hge),Nat.ne_of_lt (Nat.lt_of_lt_of_le (Heap.lt_size e) hsz)⟩
  have keep:∀ b o,b≠P->s.heap.get? b=some o->(h'.push (PySem.W.fnMade name q params body scope (clOf X.env.cells scope.names []) doc ((X.mg "__name__").getD .none) c' ctv)).get? b=some o:=fun b o n e=>Heap.get?_push_of_some _ (hx b o n e)
  have at3:∀ b,b≠P->b≠c'->b≠h'.objs.size->∀ o1 o2 o3,upd (upd (upd H P o1) c' o2) h'.objs.size o3 b=H b:=fun b n1 n2 n3 o1 o2 o3=>by rw [za n3,za n2,za n1]
  refine fin (H2:=upd (upd (upd H P (.tbl (ps++#[rawInt pos.line,rawInt pos.col,.ref c']))) c' (qb c' q)) h'.objs.size (lamO h'.objs.size (PySem.W.fnX name q params body scope (clOf X.env.cells scope.names []) .none .none doc ((X.mg "__name__").getD .none) none (.ref c') ctv))) (I.un (t':=tk) ⟨fun b o e n _ _=>keep b o (nP b n) e,fun b o e n _ _=>⟨o.slots,keep b o (nP b n) e⟩,fun b o e n _=>?fr,fun b o e _=>?th,fun b xs e=>?tu,fun b o u e=>?fz,fun b qs e=>?tb⟩ ?ok) (hnew qq c' h'.objs.size doc _ ctv (I.hok.fresh hge) (I.hok.fresh hsz) hcf)
  case fr=>rw [at3 b (nP b n) (lt2 b o e).1 (lt2 b o e).2];exact n
  case th =>
   by_cases z:b=P
   ·subst z;exact ⟨_,Heap.get?_push_of_some _ htb⟩
   ·exact ⟨o,keep b o z e⟩
  case tu=>rw [at3 b (fun z=>by rw [z,hP] at e;cases e) (lt b _ e).1 (lt b _ e).2];exact e
  case fz=>rw [at3 b (fun z=>by rw [z,hP] at e;cases e) (lt b _ e).1 (lt b _ e).2];exact e
  case tb =>
   by_cases z:b=P
   ·subst z
    rw [hP] at e;cases e
    exact ⟨#[rawInt pos.line,rawInt pos.col,.ref c'],by rw [za (Ne.symm hfP),za (Ne.symm hcP),zb]⟩
   ·exact ⟨#[],by rw [at3 b z (lt b _ e).1 (lt b _ e).2,e];simp⟩
  case ok =>
   intro b o e
   by_cases zf:b=h'.objs.size
   ·subst zf
    rw [zb] at e;cases e
    exact lamO_ok (Heap.get?_push_size _ rfl)
   ·rw [za zf] at e
    by_cases zc:b=c'
    ·subst zc
     rw [zb] at e;cases e
     obtain ⟨c2,oc,vs,t,e1,e2,e3⟩:=hrec
     exact codeO_ok ⟨c2,oc,vs,t,e1,Heap.get?_push_of_some _ e2,e3⟩
    ·rw [za zc] at e
     by_cases zp:b=P
     ·subst zp
      rw [zb] at e;cases e
      exact Heap.get?_push_of_some _ htb
     ·rw [za zp] at e
      have up3:∀ d u,H d=some u->(∀ ps,u≠.tbl ps)->upd (upd (upd H P (.tbl (ps++#[rawInt pos.line,rawInt pos.col,.ref c']))) c' (qb c' q)) h'.objs.size (lamO h'.objs.size (PySem.W.fnX name q params body scope (clOf X.env.cells scope.names []) .none .none doc ((X.mg "__name__").getD .none) none (.ref c') ctv)) d=some u:=fun d u e nt=>by
       rw [at3 d (fun z=>by rw [z,hP] at e;cases e;exact nt _ rfl) (lt d _ e).1 (lt d _ e).2];exact e
      refine (I.hok b o e).stay (fun d u hd q=>keep d u ?_ q) (fun d q=>up3 d _ q fun _=>by nofun) fun d xs q=>up3 d _ q fun _=>by nofun
      rintro rfl
      rcases hd with hd | hd
      ·exact zp hd.symm
      ·rw [hP] at hd;cases hd
 | some cv =>
  obtain ⟨c',rfl,hq2⟩:=hhit cv qq
  refine PySem.W.makeFunction_hit (mg:=X.mg) hcl I.ok.glob hgs hcode hC oP ht qq hb fun ctv doc h' tk hk hsz=>?_
  exact fin (I.laid (t':=tk) (fun b o e=>Heap.get?_push_of_some _ (hk b o e)) hsz (lamO_ok (Heap.get?_push_size _ rfl))) (hq2 h'.objs.size doc _ ctv (I.hok.fresh hsz))
noncomputable def DefIn (H:Hp)(f:Addr)(name qual:Str)(params:Arguments)(body:List Stmt)(scope:Scope)(fr:List Str)(cap:List V)(clos:List (Str×Addr)):Prop :=
 ∃ doc pm c' ctv,H f=some (lamO f (PySem.W.fnX name qual params body scope clos .none .none doc pm none (.ref c') ctv))/\H c'=some (qb c' qual)/\Cells clos H /\
  (∀ x y c,clos.lookup x=some c->clos.lookup y=some c->x=y)/\(∀ x,scope.names.lookup x=some .free->∃ c,clos.lookup x=some c)/\Cap clos H fr cap
theorem defIn_of {cells:List (Str×Addr)}{N:List Str}{kd:Str->Option NameKind}{σ:St}{H1 H2:Hp}{f:Addr}{q:Str}{name:Str}{params:Arguments}{body:List Stmt}{scope:Scope}{fr:List Str}{cap:List V}(ca:Caught cells N kd σ H1 H2)
  (hf:∃ doc pm c' ctv,H1 f=some (lamO f (PySem.W.fnX name q params body scope (clOf cells scope.names []) .none .none doc pm none (.ref c') ctv))/\H1 c'=some (qb c' q))
  (hfr:∀ x,scope.names.lookup x=some .free->∃ c,cells.lookup x=some c)
  (hcap:∀ (i:Nat) (x:Str) (v:V),fr[i]?=some x->cap[i]?=some v->scope.names.lookup x=some .free/\(kd x=some .cell\/kd x=some .free)/\∃ j:Nat,N[j]?=some x/\σ[j]?=some (some v)) :
  DefIn H2 f name q params body scope fr cap (clOf cells scope.names []):=by
 obtain ⟨doc,pm,c',ctv,h1,h2⟩:=hf
 have up:∀ b o,H1 b=some o->H2 b=some o:=fun b o e=>by
  rw [ca.ne b fun z=>by rw [ca.free b z] at e;cases e];exact e
 have sub:∀ x c,(clOf cells scope.names []).lookup x=some c->cells.lookup x=some c:=fun x c e=>by
  rcases clOf_mem (PySem.mem_of_lookup e) with z | z
  ·exact z
  ·exact absurd z (by simp)
 refine ⟨doc,pm,c',ctv,up _ _ h1,up _ _ h2,fun x c e=>ca.cells x c (sub x c e),fun x y c e1 e2=>ca.inj x y c (sub x c e1) (sub y c e2),fun x k=>?_,fun i x v e1 e2=>?_⟩
 ·obtain ⟨c,e⟩:=hfr x k
  exact ⟨c,z8 e (PySem.mem_of_lookup k)⟩
 ·obtain ⟨k,kk,j,e3,e4⟩:=hcap i x v e1 e2
  obtain ⟨c,e⟩:=hfr x k
  obtain ⟨o,u,e5,e6,e7⟩:=ca.cap j x v c e3 e4 kk e
  exact ⟨c,o,u,z8 e (PySem.mem_of_lookup k),e5,e6,e7⟩
theorem DefIn.fn {K:PySem.W.Frag}{H:Hp}{f:Addr}{name qual:Str}{params:Arguments}{body:List Stmt}{scope:Scope}{fr:List Str}{cap:List V}{clos:List (Str×Addr)}(h:DefIn H f name qual params body scope fr cap clos):FnIn K H f:=by
 obtain ⟨doc,pm,c',ctv,h1,_⟩:=h
 exact .inl ⟨_,h1⟩
end L2
end
noncomputable section
namespace L2
open PySem PySem.Spec PyProof.Rows Builtin
section
variable {P:Program} {w:World} {A:Around} {E:Value->Shared->Prop} {s:Shared}
theorem nx_tup_item {it t:Addr}{i:Nat}{l:Array Value}{v:Value}{Q:Value->Shared->Prop}(ti:s.heap.IsTupleIter it t i)(tt:s.heap.IsTuple t l)(hv:l[i]?=some v)
  (k:∀ h',h'.IsTupleIter it t (i+1)->Heap.SameBut it s.heap h'->Q v { s with heap:=h' }):wpAny (model P w) A (Builtin.SmallTypes.nextOf (.ref it)) Q E s:=by
 obtain ⟨o,e1,e2,e3⟩:=id ti
 obtain ⟨p,p1,_,n,p2⟩:=tt
 unfold Builtin.SmallTypes.nextOf
 refine wpAny_bind (wpAny_callSpecial?_slot (name:=Str.ofString "__next__") ti.typeIs F.slot_tuple_iterator_next (wpAny_call_entry F.slot_tuple_iterator_next ti.typeIs F.entry_tuple_iterator_next ?_ (F.args_tuple_iterator_next_1 _)))
 show wpAny _ _ (field (.ref it) 0 >>= _) _ _ _
 refine wpAny_bind (wpAny_field e1 e3 (x:=.ref t) rfl ?_)
 show wpAny _ _ (if (Value.ref t==Value.none)=true then _ else _) _ _ _
 rw [if_neg (show ¬((Value.ref t==Value.none)=true) from fun z=>nomatch z)]
 show wpAny _ _ (field (.ref it) 1 >>= _) _ _ _
 refine wpAny_bind (wpAny_field e1 e3 (x:=.int i 0) rfl ?_)
 show wpAny _ _ (seqItems? (.ref t) >>= _) _ _ _
 refine wpAny_bind (wpAny_seqItems p1 p2 ?_)
 simp only [Int.toNat_natCast,hv]
 refine wpAny_bind (wpAny_setField e1 e3 (by simp) (wpAny_pure ⟨v,rfl,wpAny_pure (k _ ⟨_,Heap.get?_update_self _ e1 (Obj.isFreed_of_fields (Obj.data_mapFields e3 _)),(Obj.cls_mapFields ..).trans e2,by rw [Obj.data_mapFields e3];simp [rawInt]⟩ (Heap.SameBut.update ..))⟩))
theorem nx_tup_end {it t:Addr}{i:Nat}{l:Array Value}{Q:Value->Shared->Prop}(hh:A.handled=none)(ti:s.heap.IsTupleIter it t i)(tt:s.heap.IsTuple t l)(hv:l[i]?=none)
  (k:∀ h' e,Heap.ExtBut it s.heap h'->(∃ o,h'.get? e=some o/\o.cls=.type "StopIteration")->E (.ref e) { s with heap:=h' }):wpAny (model P w) A (Builtin.SmallTypes.nextOf (.ref it)) Q E s:=by
 obtain ⟨o,e1,e2,e3⟩:=id ti
 obtain ⟨p,p1,_,n,p2⟩:=tt
 unfold Builtin.SmallTypes.nextOf
 refine wpAny_bind (wpAny_callSpecial?_slot (name:=Str.ofString "__next__") ti.typeIs F.slot_tuple_iterator_next (wpAny_call_entry F.slot_tuple_iterator_next ti.typeIs F.entry_tuple_iterator_next ?_ (F.args_tuple_iterator_next_1 _)))
 show wpAny _ _ (field (.ref it) 0 >>= _) _ _ _
 refine wpAny_bind (wpAny_field e1 e3 (x:=.ref t) rfl ?_)
 show wpAny _ _ (if (Value.ref t==Value.none)=true then _ else _) _ _ _
 rw [if_neg (show ¬((Value.ref t==Value.none)=true) from fun z=>nomatch z)]
 show wpAny _ _ (field (.ref it) 1 >>= _) _ _ _
 refine wpAny_bind (wpAny_field e1 e3 (x:=.int i 0) rfl ?_)
 show wpAny _ _ (seqItems? (.ref t) >>= _) _ _ _
 refine wpAny_bind (wpAny_seqItems p1 p2 ?_)
 simp only [Int.toNat_natCast,hv]
 refine wpAny_bind (wpAny_rule (wpAny_bind (wpAny_setField e1 e3 (by simp) ?_)))
 show wpAny _ _ (newExc (.type "StopIteration") [] >>= _) _ _ (_:Shared)
 refine wpAny_bind ?_
 simp only [newExc,newTuple]
 refine wpAny_bind (wpAny_newObj_type ?_ (by size_fits))
 refine wpAny_bind (m:=firstArgMember _ _) (wpAny_of_eq (a:=Value.none) (by first | rfl | (simp only [firstArgMember];rfl)) (wpAny_newObj_type ?_ (by size_fits)))
 simp only [raiseNew]
 refine wpAny_bind (wpAny_handled ?_)
 first | rw [show A.in1.handled=none from hh] | rw [hh]
 exact wpAny_bind (wpAny_pure (wpAny_throw (k _ _ (((Heap.SameBut.update ..).extBut.push _).push _) ⟨_,Heap.get?_push_size _ rfl,rfl⟩)))
end
structure Dw (P:Program)(w:World)(K:PySem.W.Frag)(J:It)(it:Addr)(tn:Nat->Heap->Prop):Prop where
 obj:∀ i h,tn i h->∃ o,h.get? it=some o/\∀ v,o.data≠.cell v
 keep:∀ i h h',tn i h->(∀ o,h.get? it=some o->h'.get? it=some o)->tn i h'
 item:∀ (X:Cx),X.prog=P->X.w=w->X.K=K->∀ (A:Around) (i:Nat) (pins:List (Addr×Obj)) (s:Shared) (σ:St) (H:Hp) (Q:Value->Shared->Prop) (E:Value->Shared->Prop),Inv X pins σ H s->tn i s.heap->J.go i H ->
  (∀ x u h' tk,RelV x u->J.yld i H x H->tn (i+1) h'->Heap.SameBut it s.heap h'->Q u { s with heap:=h',toks:=tk })->wpAny (model P w) A (Builtin.SmallTypes.nextOf (.ref it)) Q E s
 done:∀ (X:Cx),X.prog=P->X.w=w->X.K=K->∀ (A:Around) (i:Nat) (pins:List (Addr×Obj)) (s:Shared) (σ:St) (H:Hp) (Q:Value->Shared->Prop) (E:Value->Shared->Prop),A.handled=none->Inv X pins σ H s->tn i s.heap->J.stop i H ->
  (∀ h' e,Heap.ExtBut it s.heap h'->(∃ o,h'.get? e=some o/\o.cls=.type "StopIteration")->E (.ref e) { s with heap:=h' })->wpAny (model P w) A (Builtin.SmallTypes.nextOf (.ref it)) Q E s
theorem dw_list {P:Program}{w:World}{K:PySem.W.Frag}(a it:Addr):Dw P w K (Itl K a) it (fun i h=>h.IsListIter it a i) where
 obj:=fun i h st=>by
  obtain ⟨o,e,c,d⟩:=st
  exact ⟨o,e,fun v z=>by rw [d] at z;cases z⟩
 keep:=fun i h h' st k=>st.at k
 item:=by
  intro X hP hw hK A i pins s σ H Q E I st hg k
  subst hP hw hK
  obtain ⟨xs,x,hq,hx⟩:=hg
  obtain ⟨its,rv,p,hz⟩:=I.list hq
  obtain ⟨u,hu,ru⟩:=rv.get hx
  exact wpAny_nextOf_list_item st p.isList (x:=u) (by simpa using hu) fun h' st' sb=>k x u h' s.toks ru ⟨rfl,fun ys hy=>by rw [I.list_inj hy hq];exact hx⟩ st' sb
 done:=by
  intro X hP hw hK A i pins s σ H Q E hA I st hg k
  subst hP hw hK
  obtain ⟨xs,hq,hx⟩:=hg
  obtain ⟨its,rv,p,hz⟩:=I.list hq
  have hl:=rv.length
  exact wpAny_nextOf_list_end hA st p.isList (by simp;omega) k
theorem dw_tup {P:Program}{w:World}{K:PySem.W.Frag}(a it:Addr):Dw P w K (Itt K a) it (fun i h=>h.IsTupleIter it a i) where
 obj:=fun i h st=>by
  obtain ⟨o,e,c,d⟩:=st
  exact ⟨o,e,fun v z=>by rw [d] at z;cases z⟩
 keep:=fun i h h' st k=>st.at k
 item:=by
  intro X hP hw hK A i pins s σ H Q E I st hg k
  subst hP hw hK
  obtain ⟨xs,x,hq,hx⟩:=hg
  obtain ⟨its,rv,p,hz⟩:=I.tuple hq
  obtain ⟨u,hu,ru⟩:=rv.get hx
  exact nx_tup_item st (show s.heap.IsTuple a its.toArray from p) (v:=u) (by simpa using hu) fun h' st' sb=>k x u h' s.toks ru ⟨rfl,fun ys hy=>by rw [I.tuple_inj hy hq];exact hx⟩ st' sb
 done:=by
  intro X hP hw hK A i pins s σ H Q E hA I st hg k
  subst hP hw hK
  obtain ⟨xs,hq,hx⟩:=hg
  obtain ⟨its,rv,p,hz⟩:=I.tuple hq
  have hl:=rv.length
  exact nx_tup_end hA st (show s.heap.IsTuple a its.toArray from p) (by simp;omega) k
theorem dw_str {P:Program}{w:World}{K:PySem.W.Frag}(x:Str)(t:Tok)(it:Addr):Dw P w K (Its x) it (fun i h=>h.IsStrIter it (strIterType x) x t i) where
 obj:=fun i h st=>by
  obtain ⟨o,e,c,d⟩:=st
  exact ⟨o,e,fun v z=>by rw [d] at z;cases z⟩
 keep:=fun i h h' st k=>by
  obtain ⟨o,ho,r⟩:=st
  exact ⟨o,k _ ho,r⟩
 item:=by
  intro X hP hw hK A i pins s σ H Q E I st hg k
  subst hP hw hK
  have hg':i<x.cps.size:=hg
  have hc:x.cps[i]?=some x.cps[i]:=by simp [hg']
  unfold strIterType at st k
  cases ha:x.cps.all (·<128)
  ·rw [ha] at st k
   exact wpAny_nextOf_wide_item st hc fun h' st' sb=>k (.str ⟨#[x.cps[i]]⟩) _ h' (s.toks+1) ⟨_,rfl⟩ ⟨rfl,_,hc,rfl⟩ st' sb
  ·rw [ha] at st k
   exact wpAny_nextOf_ascii_item st hc fun h' st' sb=>k (.str ⟨#[x.cps[i]]⟩) _ h' (s.toks+1) ⟨_,rfl⟩ ⟨rfl,_,hc,rfl⟩ st' sb
 done:=by
  intro X hP hw hK A i pins s σ H Q E hA I st hg k
  subst hP hw hK
  have hg':x.cps.size<=i:=hg
  have hc:x.cps[i]?=none:=by simp [hg']
  unfold strIterType at st
  cases ha:x.cps.all (·<128)
  ·rw [ha] at st
   exact wpAny_nextOf_wide_end hA st hc k
  ·rw [ha] at st
   exact wpAny_nextOf_ascii_end hA st hc k
section
variable {X:Cx} {pins:List (Addr×Obj)} {σ:St} {H:Hp} {s:Shared} {A:Around} {E:Value->Shared->Prop} {J1 J2:It} {t1 t2:Nat->Heap->Prop} {z ti to i1 i2:Addr} {n:Nat} {a b:Value}
end
noncomputable def Mkr (v:Value)(o:Obj)(h:Heap):Prop:=∀ (P:Program) (w:World) (A:Around) (E:Value->Shared->Prop) (s:Shared) (Q:Value->Shared->Prop),(∀ b u,h.get? b=some u->s.heap.get? b=some u) ->
 Q (.ref s.heap.objs.size) { s with heap:=s.heap.push o }->wpAny (model P w) A (pyIter v) Q E s
noncomputable def Sr (K:PySem.W.Frag)(H:Hp)(x:V)(J:It):Prop:=(∃ a,x=.ref a/\(∃ xs,SqL K H a xs)/\J=Itl K a)\/(∃ a,x=.ref a/\(∃ xs,SqT K H a xs)/\J=Itt K a)\/∃ y,x=.str y/\J=Its y
theorem Sr.mk {X:Cx}{pins:List (Addr×Obj)}{σ:St}{H:Hp}{s:Shared}{x:V}{u:Value}{J:It}(I:Inv X pins σ H s)(h:Sr X.K H x J)(r:RelV x u) :
  ∃ (o:Obj) (tn:Addr->Nat->Heap->Prop),o.isFreed=false/\Mkr u o s.heap/\(∀ it,Dw X.prog X.w X.K J it (tn it))/\∀ it h',h'.get? it=some o->tn it 0 h':=by
 rcases h with ⟨a,e,⟨xs,hq⟩,e'⟩ | ⟨a,e,⟨xs,hq⟩,e'⟩ | ⟨y,e,e'⟩
 ·subst e e';cases r
  obtain ⟨its,rv,p,hz⟩:=I.list hq
  exact ⟨_,fun it i h=>h.IsListIter it a i,rfl,fun P w A E s' Q hk q=>wpAny_pyIter_list (p.isList.at fun o e=>hk _ _ e) q,fun it=>dw_list a it,fun it h' e=>⟨_,e,rfl,rfl⟩⟩
 ·subst e e';cases r
  obtain ⟨its,rv,p,hz⟩:=I.tuple hq
  exact ⟨_,fun it i h=>h.IsTupleIter it a i,rfl,fun P w A E s' Q hk q=>wpAny_pyIter_tuple (Heap.IsTuple.at (show s.heap.IsTuple a its.toArray from p) fun o e=>hk _ _ e) q,fun it=>dw_tup a it,fun it h' e=>⟨_,e,rfl,rfl⟩⟩
 ·subst e e';obtain ⟨t,rfl⟩:=r
  exact ⟨_,fun it i h=>h.IsStrIter it (strIterType y) y t i,rfl,fun P w A E s' Q hk q=>wpAny_pyIter_strU q,fun it=>dw_str y t it,fun it h' e=>⟨_,e,rfl,rfl⟩⟩
end L2
end
noncomputable section
namespace L2
open PySem PySem.Spec PyProof.Rows Builtin
open AutoSeq1 (wpAny_loadPart')
section
variable {X:Cx} {pins:List (Addr×Obj)} {σ:St} {H:Hp} {s:Shared} {A:Around} {E:Value->Shared->Prop} {J1:It} {t1:Nat->Heap->Prop} {z it:Addr} {n:Nat} {old:Value}
end
end L2
end
noncomputable section
namespace L2
open PySem PySem.Spec PyProof.Rows Builtin
open AutoSeq1 (wpAny_loadPart')
theorem noFill_tmul:fillsNumberSlot (.type "tuple") "mul"=pure false :=
 PySem.fillsNumberSlot_seq (id := "tuple.__mul__") (r:=some (.builtin "tuple.__rmul__")) PySem.F.slot_tuple_mul.lookup (by decide +kernel) PySem.F.slot_tuple_rmul.lookup (by decide +kernel)
theorem repeat_tup:seqRepeat? (.type "tuple")=pure (some (.builtin "tuple.__mul__")):=by
 unfold seqRepeat?
 rw [PySem.seqSlot_of (T := "tuple") (name := "__mul__") (id := "tuple.__mul__") PySem.F.slot_tuple_mul.lookup (by decide +kernel),PySem.seqSlot_of (T := "tuple") (name := "__rmul__") (id := "tuple.__rmul__") PySem.F.slot_tuple_rmul.lookup (by decide +kernel)]
 rfl
theorem int_rmul_tup (a:Int)(t:Tok)(l:Addr)(o:Obj)(items:Array Value)(n:Nat)(dct:Option Addr)(sl:Array (Option Value)) :
  Meets (Builtin.«int.__rmul__» ⟨[.int a t,.ref l],[]⟩) (fun _ R s=>s.heap.get? l=some { cls:=.type "tuple",dict:=dct,data:=.seq items n,slots:=sl }/\R (.ok (.ret Value.notImplemented)) s) :=
 .of_wp fun prog w A R s h=>by obtain ⟨hp,g,d,tk,os⟩:=s;obtain ⟨hl,h⟩:=h;wp_walk;exact ⟨_,rfl,h⟩
noncomputable def repT {α:Type}:Nat->List α->List α
 | 0,_=>[]
 | n+1,a=>a++repT n a
theorem fold_rep {α:Type}(l:List α):∀ (n:Nat) (acc:Array α),(List.replicate n l.toArray).foldl (·++·) acc=acc++(repT n l).toArray
 | 0,acc=>by simp [repT]
 | n+1,acc=>by rw [List.replicate_succ,List.foldl_cons,fold_rep l n];simp [repT]
theorem fold_size {α:Type}(a:Array α):∀ (n:Nat) (acc:Array α),((List.replicate n a).foldl (·++·) acc).size=acc.size+a.size*n
 | 0,acc=>by simp
 | n+1,acc=>by rw [List.replicate_succ,List.foldl_cons,fold_size a n,Array.size_append,Nat.mul_succ];omega
noncomputable def TmA (items:Array Value)(k:Int)(l:Addr)(R:Value->Shared->Prop)(s:Shared):Prop :=
 ((items.isEmpty||k==1)=true->R (.ref l) s)/\((items.isEmpty||k==1)=false->R (.ref s.heap.objs.size) { s with heap:=s.heap.push { cls:=.type "tuple",data:=.seq ((List.replicate k.toNat items).foldl (·++·) #[]) } })
theorem tmul_call {P:Program}{w:World}{A:Around}{E:Value->Shared->Prop}{s:Shared}{l:Addr}{items:Array Value}{k:Int}{t:Tok}{Q:Value->Shared->Prop}(h0:0<=k)(h1:k<=1000000)(hz:items.size*k.toNat<=1000000)(hl:IsTup s.heap l items)
  (h:TmA items k l Q s):wpAny (model P w) A (call (.builtin "tuple.__mul__") [.ref l,.int k t]) Q E s:=by
 refine wpAny_call_entry PySem.F.slot_tuple_mul hl.typeIs PySem.F.entry_tuple_mul ?_ (PySem.F.args_tuple_mul_2 _ _)
 obtain ⟨q1,q2⟩:=h
 show wpAny _ _ (asIndex (.int k t) >>= _) _ _ _
 refine wpAny_bind (wpAny_pure ?_)
 rw [if_neg (by rw [decide_eq_false (by omega),decide_eq_false (by omega)];decide)]
 show wpAny _ _ (Builtin.Tuple.tupleItemsOf (.ref l) >>= _) _ _ _
 refine wpAny_bind (tupleItemsOf_ hl ?_)
 have hzi:(items.size:Int)*k<=1000000:=by
  have:((items.size*k.toNat:Nat):Int)<=1000000:=by omega
  rw [Int.natCast_mul,Int.toNat_of_nonneg h0] at this
  exact this
 cases hb:(items.isEmpty||k==1) with
 | true =>
  rw [if_pos rfl]
  unfold Builtin.Tuple.tupleIsExact
  refine wpAny_bind (wpAny_bind (wpAny_typeOf hl.typeIs (wpAny_pure ?_)))
  rw [if_pos (by decide)]
  exact wpAny_bind (wpAny_rule (wpAny_pure ⟨_,rfl,q1 hb⟩))
 | false =>
  rw [if_neg Bool.false_ne_true]
  have he:items.isEmpty=false:=by
   rw [Bool.or_eq_false_iff] at hb;exact hb.1
  have q:=q2 hb
  show wpAny _ _ (if (decide (k<=0)||items.isEmpty)=true then _ else _) _ _ _
  by_cases hk:k<=0
  ·rw [if_pos (by rw [decide_eq_true hk];rfl)]
   have:k.toNat=0:=by omega
   rw [this] at q
   exact wpAny_bind (wpAny_newObj_type (wpAny_pure ⟨_,rfl,q⟩) (by size_fits))
  ·rw [if_neg (by rw [decide_eq_false hk,he];decide)]
   show wpAny _ _ (if (items.size:Int)*k > (2^63 - 1) / 8 then _ else _) _ _ _
   rw [if_neg (by omega)]
   show wpAny _ _ (if Builtin.Tuple.tupleTooMany ((items.size:Int)*k)=true then _ else _) _ _ _
   rw [if_neg (by unfold Builtin.Tuple.tupleTooMany;rw [decide_eq_false (by unfold sizeLine;omega)];decide)]
   refine wpAny_bind (wpAny_newObj_type (wpAny_pure ⟨_,rfl,q⟩) ?_)
   show Array.size _<=sizeLine
   rw [fold_size]
   show 0+_<=_
   rw [Nat.zero_add]
   have h3:items.size*k.toNat<=sizeLine:=Nat.le_trans hz (by decide)
   exact h3
theorem repT_nil {α:Type}:∀ n,repT n ([]:List α)=[]
 | 0=>rfl
 | n+1=>by simp [repT,repT_nil n]
theorem repT_one {α:Type}(l:List α):repT 1 l=l:=by simp [repT]
theorem repT_len {α:Type}(l:List α):∀ n,(repT n l).length=l.length*n
 | 0=>by simp [repT]
 | n+1=>by simp [repT,repT_len l n,Nat.mul_add];omega
theorem Vals.repT {xs:List V}{us:List Value}(r:Vals xs us):∀ n,Vals (repT n xs) (repT n us)
 | 0=>.nil
 | n+1=>r.append (Vals.repT r n)
noncomputable def rMulT (K:PySem.W.Frag):R2:=fun x y H Q=>∃ a xs n,x=.ref a/\y=.int n/\SqT K H a xs/\(0<=n/\n<=1000000/\xs.length*n.toNat<=1000000)/\∀ p H',Same H H'->SqT K H' p (repT n.toNat xs)->Q (.ref p) H'
theorem op_mulT {X:Cx}{K:PySem.W.Frag}(hK:X.K=K):OpR X (binaryOp .Mult) (rMulT K):=by
 subst hK
 intro pins s σ H x y v u Q I rx ry h
 obtain ⟨a,xs,n,rfl,rfl,ha,⟨h0,h1,hz⟩,q⟩:=h
 cases rx
 obtain ⟨t,rfl⟩:=ry
 obtain ⟨its,r1,p1,hzz⟩:=I.tuple ha
 have hlen:=r1.length
 obtain ⟨⟨cls,dd,data,sl⟩,ho,hc,n1,hd⟩:=id p1
 simp only at hc hd
 subst hc hd
 refine wpAny_binaryOp_repeat_ref (T := "tuple") (U := "int") (by decide) p1.typeIs (fun s'=>typeIs_int s' n t) noFill_tmul PySem.F.fills_int_mul PySem.F.slot_int_rmul repeat_tup PySem.F.slot_int_index.lookup
  (call_meets PySem.F.slot_int_rmul (typeIs_int s n t) PySem.F.entry_int_rmul (PySem.F.args_int_rmul_2 _ _) (int_rmul_tup n t a default its.toArray n1 dd sl) ⟨ho,⟨rfl,p1.typeIs,tmul_call h0 h1 (by rw [List.size_toArray,<-hlen];exact hz) p1 ⟨fun hb=>?_,fun hb=>?_⟩⟩⟩)
 ·refine ⟨.ref a,H,I,rfl,q a H (Same.refl H) ?_⟩
  rw [Bool.or_eq_true] at hb
  rcases hb with hb | hb
  ·have hi:its=[]:=by simpa using hb
   have hx:xs=[]:=r1.nil_iff.mp hi
   rw [hx,repT_nil];rw [hx] at ha;exact ha
  ·have:n=1:=by simpa using hb
   subst this
   show SqT _ _ _ (repT 1 xs)
   rw [repT_one];exact ha
 ·have hp:=I.hok.fresh (Nat.le_refl s.heap.objs.size)
  refine ⟨.ref s.heap.objs.size,_,I.laid (t':=s.toks) (o:=.tup (repT n.toNat xs)) (fun b ob q=>Heap.get?_push_of_some _ q) (Nat.le_refl _) ?_,rfl,q _ _ ((Same.refl H).new hp) (SqT.of zb)⟩
  refine ⟨by rw [repT_len];exact Nat.le_trans hz (by decide),repT n.toNat its,r1.repT _,?_⟩
  rw [show (repT n.toNat its).toArray=(List.replicate n.toNat its.toArray).foldl (·++·) #[] by rw [fold_rep];simp]
  exact ⟨_,Heap.get?_push_size _ rfl,rfl,_,rfl⟩
end L2
end
noncomputable section
namespace L2
open PySem PySem.Spec PyProof.Rows
end L2
end
noncomputable section
namespace L2
open PySem PySem.Spec PyProof.Rows
end L2
end
noncomputable section
namespace L2
open PySem PySem.Spec PyProof.Rows
end L2
end
noncomputable section
namespace L2
open PySem PySem.Spec PyProof.Rows
section
variable {κ:Type} [DecidableEq κ]
noncomputable def valV (kvs:List (κ×V))(k:κ):Option V:=(kvs.find? fun kv=>decide (kv.1=k)).map (·.2)
noncomputable def putK (kvs:List (κ×V))(k:κ)(v:V):List (κ×V) :=
 if (kvs.any fun kv=>decide (kv.1=k))=true then kvs.map (fun kv=>if kv.1=k then (kv.1,v) else kv) else kvs++[(k,v)]
theorem valV_pos {p:κ×V}{r:List (κ×V)}{k:κ}(e:p.1=k):valV (p::r) k=some p.2:=by simp [valV,List.find?_cons,e]
theorem valV_neg {p:κ×V}{r:List (κ×V)}{k:κ}(e:¬ p.1=k):valV (p::r) k=valV r k:=by simp [valV,List.find?_cons,e]
theorem valV_any (k:κ):∀ kvs:List (κ×V),(kvs.any fun kv=>decide (kv.1=k))=(valV kvs k).isSome
 | []=>rfl
 | p::r=>by
  rw [List.any_cons]
  by_cases e:p.1=k
  ·simp only [valV_pos e,decide_eq_true e,Bool.true_or,Option.isSome_some]
  ·rw [valV_neg e,decide_eq_false e,Bool.false_or];exact valV_any k r
theorem qF (kvs:List (κ×V))(k:κ)(v:V):(putK kvs k v).length<=kvs.length+1:=by
 unfold putK
 split
 ·rw [List.length_map];omega
 ·rw [List.length_append,List.length_cons,List.length_nil];omega
theorem RelO.isSome_eq {o:Option V}{u:Option Value}(r:RelO o u):o.isSome=u.isSome:=by
 cases o with
 | none=>cases u with
  | none=>rfl
  | some _=>exact (show False from r).elim
 | some _=>cases u with
  | none=>exact (show False from r).elim
  | some _=>rfl
theorem KV.val {kvs:List (κ×V)}{vs:List (κ×Value)}(r:KV kvs vs)(k:κ):RelO (valV kvs k) (valueAt vs k):=by
 unfold KV at r
 induction r with
 | nil=>exact True.intro
 | @cons p q ps qs h t ih =>
  obtain ⟨h1,h2⟩:=h
  by_cases e:p.1=k
  ·have e':q.1=k:=h1.symm.trans e
   have b:valueAt (q::qs) k=some q.2:=by simp [valueAt,List.find?_cons,e']
   rw [valV_pos e,b];exact h2
  ·have e':¬ q.1=k:=fun z=>e (h1.trans z)
   have b:valueAt (q::qs) k=valueAt qs k:=by simp [valueAt,List.find?_cons,e']
   rw [valV_neg e,b];exact ih
theorem KV.any {kvs:List (κ×V)}{vs:List (κ×Value)}(r:KV kvs vs)(k:κ):(kvs.any fun kv=>decide (kv.1=k))=vs.any fun kv=>decide (kv.1=k):=by
 unfold KV at r
 induction r with
 | nil=>rfl
 | cons h t ih=>rw [List.any_cons,List.any_cons,ih,h.1]
theorem KV.repl {kvs:List (κ×V)}{vs:List (κ×Value)}(r:KV kvs vs)(k:κ){y:V}{u:Value}(ry:RelV y u) :
  KV (kvs.map fun kv=>if kv.1=k then (kv.1,y) else kv) (vs.map fun kv=>if kv.1=k then (kv.1,u) else kv):=by
 unfold KV at r ⊢
 induction r with
 | nil=>exact .nil
 | @cons p q ps qs h t ih =>
  rw [List.map_cons,List.map_cons]
  refine .cons ?_ ih
  obtain ⟨h1,h2⟩:=h
  by_cases e:p.1=k
  ·rw [if_pos e,if_pos (h1.symm.trans e)];exact ⟨h1,ry⟩
  ·rw [if_neg e,if_neg (fun z=>e (h1.trans z))];exact ⟨h1,h2⟩
theorem KV.put {kvs:List (κ×V)}{vs:List (κ×Value)}(r:KV kvs vs)(k:κ){y:V}{u:Value}(ry:RelV y u):KV (putK kvs k y) (stored vs k u):=by
 unfold putK stored
 rw [r.any k]
 by_cases e:(vs.any fun kv=>decide (kv.1=k))=true
 ·rw [if_pos e,if_pos e];exact r.repl k ry
 ·rw [if_neg e,if_neg e];exact Paired.snoc r ⟨rfl,ry⟩
theorem KV.length {kvs:List (κ×V)}{vs:List (κ×Value)}(r:KV kvs vs):kvs.length=vs.length:=Paired.length r
end
theorem kV_is {P:Program}{w:World}{k:Key}{u:Value}(r:RelV (kV k) u):(zJ P w).is k u=true:=by
 cases k with
 | inl i=>obtain ⟨t,e⟩:=(show ∃ t,u=Value.int i t from r);subst e;exact mixKind_int P w i t
 | inr x=>obtain ⟨t,e⟩:=(show ∃ t,u=Value.str x t from r);subst e;exact mixKind_str P w x t
theorem items_are {P:Program}{w:World}:∀ {ks:List Key} {us:List Value},Vals (ks.map kV) us->ItemsAre (zJ P w) ks us
 | [],_,r=>by rw [List.map_nil] at r;cases r;exact .nil
 | k::ks,_,r=>by
  rw [List.map_cons] at r
  cases r with
  | cons h t=>exact .cons (kV_is h) (items_are t)
noncomputable abbrev KT (H:Hp):List (List Key×V)->List (List Key×Addr×Value)->Prop:=Paired fun p q=>p.1=q.1/\H q.2.1=some (.tup (p.1.map kV))/\RelV p.2 q.2.2
theorem KT.val {H:Hp}{kvs:List (List Key×V)}{xs:List (List Key×Addr×Value)}(r:KT H kvs xs)(k:List Key):RelO (valV kvs k) ((atKey xs k).map (·.2)):=by
 induction r with
 | nil=>exact True.intro
 | @cons p q ps qs h t ih =>
  obtain ⟨h1,_,h2⟩:=h
  by_cases e:p.1=k
  ·have e':q.1=k:=h1.symm.trans e
   have b:atKey (q::qs) k=some q.2:=by simp [atKey,List.find?_cons,e']
   rw [valV_pos e,b];exact h2
  ·have e':¬ q.1=k:=fun z=>e (h1.trans z)
   have b:atKey (q::qs) k=atKey qs k:=by simp [atKey,List.find?_cons,e']
   rw [valV_neg e,b];exact ih
theorem KT.repl {H:Hp}{kvs:List (List Key×V)}{xs:List (List Key×Addr×Value)}(r:KT H kvs xs)(k:List Key){y:V}{u:Value}(ry:RelV y u) :
  KT H (kvs.map fun kv=>if kv.1=k then (kv.1,y) else kv) (xs.map (putAt k u)):=by
 induction r with
 | nil=>exact .nil
 | @cons p q ps qs h t ih =>
  rw [List.map_cons,List.map_cons]
  refine .cons ?_ ih
  obtain ⟨h1,h2,h3⟩:=h
  unfold putAt
  by_cases e:p.1=k
  ·rw [if_pos e,if_pos (h1.symm.trans e)];exact ⟨h1,h2,ry⟩
  ·rw [if_neg e,if_neg (fun z=>e (h1.trans z))];exact ⟨h1,h2,h3⟩
theorem KT.put {H:Hp}{kvs:List (List Key×V)}{xs:List (List Key×Addr×Value)}(r:KT H kvs xs)(k:List Key){b:Addr}{y:V}{u:Value}(hb:H b=some (.tup (k.map kV)))(ry:RelV y u) :
  KT H (putK kvs k y) (storedH xs k b u):=by
 have e:(kvs.any fun kv=>decide (kv.1=k))=(atKey xs k).isSome:=by
  rw [valV_any,(r.val k).isSome_eq,Option.isSome_map]
 unfold putK storedH
 rw [e]
 by_cases q:(atKey xs k).isSome=true
 ·rw [if_pos q,if_pos q];exact r.repl k ry
 ·rw [if_neg q,if_neg q];exact Paired.snoc r ⟨rfl,hb,ry⟩
theorem KT.keeps {H H':Hp}{kvs:List (List Key×V)}{xs:List (List Key×Addr×Value)}(r:KT H kvs xs)(ht:∀ b ys,H b=some (.tup ys)->H' b=some (.tup ys)):KT H' kvs xs :=
 Paired.mapP r fun _ _ z=>⟨z.1,ht _ _ z.2.1,z.2.2⟩
section
variable {P:Program} {w:World} {H:Hp} {h:Heap} {a:Addr}
theorem rd_of {u:HO}(ok:HOk P w H h)(e:Rd H a u):ObjOk P w H h a u:=e.ok ok
theorem dk_rd {kvs:List (Key×V)}(ok:HOk P w H h)(e:Rd H a (.dK kvs)):kvs.length<=sizeLine/\(a==sysModules)=false/\∃ vs,KV kvs vs/\h.DictOf (zJ P w) a vs :=
 show ObjOk P w H h a (.dK kvs) from rd_of ok e
theorem dk_of {kvs:List (Key×V)}(ok:HOk P w H h)(e:H a=some (.dK kvs)):kvs.length<=sizeLine/\(a==sysModules)=false/\∃ vs,KV kvs vs/\h.DictOf (zJ P w) a vs:=dk_rd ok (.inl e)
theorem key_of {ks:List Key}(ok:HOk P w H h)(e:H a=some (.tup (ks.map kV))):(tupleKind (zJ P w)).is h ks a:=by
 obtain ⟨_,its,r,o,h1,h2,n,h3⟩:=(show ObjOk P w H h a (.tup (ks.map kV)) from ok a _ e)
 exact ⟨o,its.toArray,n,h1,h2,h3,by simpa using items_are r⟩
theorem dt_rd {kvs:List (List Key×V)}(ok:HOk P w H h)(e:Rd H a (.dT kvs)):kvs.length<=sizeLine/\(a==sysModules)=false /\
  ∃ xs,KT H kvs xs/\h.DictOfH (tupleKind (zJ P w)) a xs:=by
 obtain ⟨z,y,xs,r,o,es,ep,h1,h2,h3,h4,h5⟩:=(show ObjOk P w H h a (.dT kvs) from rd_of ok e)
 refine ⟨z,y,xs,r,o,es,ep,h1,h2,h3,h4,fun x hx=>?_,h5⟩
 have all:∀ {l:List (List Key×V)} {m:List (List Key×Addr×Value)},KT H l m->∀ x∈m,(tupleKind (zJ P w)).is h x.1 x.2.1:=by
  intro l m q
  induction q with
  | nil=>intro x hx;exact nomatch hx
  | @cons p q ps qs hq t ih =>
   intro x hx
   rcases List.mem_cons.mp hx with e | hx
   ·subst e
    exact key_of ok (by rw [<-hq.1];exact hq.2.1)
   ·exact ih x hx
 exact all r x hx
theorem dt_of {kvs:List (List Key×V)}(ok:HOk P w H h)(e:H a=some (.dT kvs)):kvs.length<=sizeLine/\(a==sysModules)=false /\
  ∃ xs,KT H kvs xs/\h.DictOfH (tupleKind (zJ P w)) a xs:=dt_rd ok (.inl e)
end
noncomputable def DGet (H:Hp)(a:Addr)(y:V)(r:Option V):Prop :=
 (∃ kvs k,Rd H a (.dK kvs)/\y=kV k/\r=valV kvs k)\/∃ kvs k b,Rd H a (.dT kvs)/\y=.ref b/\H b=some (.tup (k.map kV))/\r=valV kvs k
noncomputable def DPut (H:Hp)(a:Addr)(y v:V)(H':Hp):Prop :=
 (∃ kvs k,H a=some (.dK kvs)/\y=kV k/\kvs.length<sizeLine/\H'=upd H a (.dK (putK kvs k v))) \/
 ∃ kvs k b,H a=some (.dT kvs)/\y=.ref b/\H b=some (.tup (k.map kV))/\kvs.length<sizeLine/\H'=upd H a (.dT (putK kvs k v))
theorem DGet.k {H:Hp}{a:Addr}{kvs:List (Key×V)}{k:Key}(e:H a=some (.dK kvs)):DGet H a (kV k) (valV kvs k):=.inl ⟨kvs,k,.inl e,rfl,rfl⟩
theorem DPut.k {H:Hp}{a:Addr}{kvs:List (Key×V)}{k:Key}{v:V}(e:H a=some (.dK kvs))(hl:kvs.length<sizeLine):DPut H a (kV k) v (upd H a (.dK (putK kvs k v))):=.inl ⟨kvs,k,e,rfl,hl,rfl⟩
section
variable {X:Cx} {pins:List (Addr×Obj)} {σ:St} {H:Hp} {s:Shared} {a:Addr} {y v:V} {u r:Value} {o:Option V} {A:Around} {E:Value->Shared->Prop}
theorem Inv.big (I:Inv X pins σ H s):sysModules<s.heap.objs.size:=by
 have h:mainGlobals<s.heap.objs.size:=(I.mod.glob.keeps I.bk).lt
 exact Nat.lt_trans (by decide) h
theorem d_getItem {Q:Value->Shared->Prop}(hu:A.units+1<cLine)(I:Inv X pins σ H s)(g:DGet H a y (some v))(ry:RelV y u)(h:∀ w' s',Inv X pins σ H s'->RelV v w'->Q w' s') :
  wpAny (model X.prog X.w) A (getItem (.ref a) u) Q E s:=by
 rcases g with ⟨kvs,k,e,ey,l⟩ | ⟨kvs,k,b,e,ey,eb,l⟩
 ·subst ey
  obtain ⟨z,hd,vs,rel,dd⟩:=dk_rd I.hok e
  obtain ⟨w',hw,rw'⟩:=RelO.some_of (v:=v) (o:=valueAt vs k) (by rw [l];exact rel.val k)
  exact wpAny_getItem_of (kV_is ry) dd.mapOf hw (h w' _ (I.tok _) rw')
 ·subst ey
  cases (show u=Value.ref b from ry)
  obtain ⟨z,hd,xs,rel,dd⟩:=dt_rd I.hok e
  obtain ⟨w',hw,rw'⟩:=RelO.some_of (v:=v) (o:=(atKey xs k).map (·.2)) (by rw [l];exact rel.val k)
  obtain ⟨p,hp,hp2⟩:=Option.map_eq_some_iff.mp hw
  refine wpAny_getItem_heap (tupleKind_room_in1 hu) (key_of I.hok eb) dd hp ?_
  rw [hp2]
  exact h w' _ (I.tok _) rw'
theorem d_in {Q:Value->Shared->Prop}(hu:A.units+1<cLine)(I:Inv X pins σ H s)(g:DGet H a y o)(ry:RelV y u)(h:∀ s',Inv X pins σ H s'->Q (.bool o.isSome) s') :
  wpAny (model X.prog X.w) A (compareOp .In u (.ref a)) Q E s:=by
 rcases g with ⟨kvs,k,e,ey,l⟩ | ⟨kvs,k,b,e,ey,eb,l⟩
 ·subst ey
  obtain ⟨z,hd,vs,rel,dd⟩:=dk_rd I.hok e
  refine wpAny_in_of (kV_is ry) hd dd.mapOf ?_
  rw [<-(rel.val k).isSome_eq,<-l]
  exact h _ (I.tok _)
 ·subst ey
  cases (show u=Value.ref b from ry)
  obtain ⟨z,hd,xs,rel,dd⟩:=dt_rd I.hok e
  refine wpAny_in_heap (tupleKind_room_in1 hu) (key_of I.hok eb) hd dd ?_
  have q:=(rel.val k).isSome_eq
  rw [Option.isSome_map] at q
  rw [<-q,<-l]
  exact h _ (I.tok _)
theorem d_notIn {Q:Value->Shared->Prop}(hu:A.units+1<cLine)(I:Inv X pins σ H s)(g:DGet H a y o)(ry:RelV y u)(h:∀ s',Inv X pins σ H s'->Q (.bool (!o.isSome)) s') :
  wpAny (model X.prog X.w) A (compareOp .NotIn u (.ref a)) Q E s:=by
 rcases g with ⟨kvs,k,e,ey,l⟩ | ⟨kvs,k,b,e,ey,eb,l⟩
 ·subst ey
  obtain ⟨z,hd,vs,rel,dd⟩:=dk_rd I.hok e
  refine wpAny_notIn_of (kV_is ry) hd dd.mapOf ?_
  rw [<-(rel.val k).isSome_eq,<-l]
  exact h _ (I.tok _)
 ·subst ey
  cases (show u=Value.ref b from ry)
  obtain ⟨z,hd,xs,rel,dd⟩:=dt_rd I.hok e
  refine wpAny_notIn_heap (tupleKind_room_in1 hu) (key_of I.hok eb) hd dd ?_
  have q:=(rel.val k).isSome_eq
  rw [Option.isSome_map] at q
  rw [<-q,<-l]
  exact h _ (I.tok _)
theorem d_write {h':Heap}{t':Nat}{ob:HO}(I:Inv X pins σ H s)(mu:Mut (H a))(hs:Heap.SameBut a s.heap h')(he:∃ q,h'.get? a=some q)(new:ObjOk X.prog X.w (upd H a ob) h' a ob) :
  Inv X pins σ (upd H a ob) { s with heap:=h',toks:=t' } :=
 I.write (x:=a) (e:=a) mu (.inl rfl) (fun b q hb z=>(hs.2 b hb).trans z) he new
theorem dk_new {P:Program}{w:World}{H':Hp}{h':Heap}{kvs:List (Key×V)}{vs:List (Key×Value)}(z:kvs.length<=sizeLine)(hd:(a==sysModules)=false)(rel:KV kvs vs)(dd:h'.DictOf (zJ P w) a vs) :
  ObjOk P w H' h' a (.dK kvs):=⟨z,hd,vs,rel,dd⟩
theorem d_setItem {H':Hp}{Q:Unit->Shared->Prop}(hu:A.units+1<cLine)(I:Inv X pins σ H s)(g:DPut H a y v H')(ry:RelV y u)(rv:RelV v r)(h:∀ s',Inv X pins σ H' s'->Q () s') :
  wpAny (model X.prog X.w) A (setItem (.ref a) u r) Q E s:=by
 rcases g with ⟨kvs,k,e,ey,l,eH⟩ | ⟨kvs,k,b,e,ey,eb,l,eH⟩
 ·subst ey eH
  obtain ⟨z,hd,vs,rel,dd⟩:=dk_of I.hok e
  have hz:vs.length<=sizeLine:=by rw [<-rel.length];exact z
  have hl:(putK kvs k v).length<=sizeLine:=by have:=qF kvs k v;omega
  refine wpAny_setItem_pairs (hsz:=hz) (kV_is ry) dd fun h' dd' hs=>h _ ?_
  have he:∃ q,h'.get? a=some q:=let ⟨q,_,_,hq,_⟩:=dd';⟨q,hq⟩
  exact d_write I (by rw [e];exact True.intro) hs he (dk_new hl hd (rel.put k rv) dd')
 ·subst ey eH
  cases (show u=Value.ref b from ry)
  obtain ⟨z,hd,xs,rel,dd⟩:=dt_of I.hok e
  have hz:xs.length<=sizeLine:=by rw [<-Paired.length rel];exact z
  have hl:(putK kvs k v).length<=sizeLine:=by have:=qF kvs k v;omega
  refine wpAny_setItem_heap (hsz:=hz) (tupleKind_room_in1 hu) (key_of I.hok eb) dd fun h' dd' hs=>h _ ?_
  obtain ⟨q,es,ep,hq,h2,h3,h4,_,h5⟩:=dd'
  refine d_write I (by rw [e];exact True.intro) hs ⟨q,hq⟩ ⟨hl,hd,_,(rel.put k eb rv).keeps fun c ys ec=>?_,q,es,ep,hq,h2,h3,h4,h5⟩
  rw [za (ne_of ec e (fun z=>nomatch z))]
  exact ec
end
section
variable {X:Cx} {pins:List (Addr×Obj)} {σ:St} {H:Hp} {s:Shared} {a:Addr} {kvs:List (Key×V)} {k:Key} {u:Value} {A:Around} {E:Value->Shared->Prop}
end
theorem dict_typeIs {X:Cx}{pins:List (Addr×Obj)}{σ:St}{H:Hp}{s:Shared}{a:Addr}{y:V}{o:Option V}(I:Inv X pins σ H s)(g:DGet H a y o):s.TypeIs (.ref a) "dict":=by
 rcases g with ⟨kvs,k,e,_,_⟩ | ⟨kvs,k,b,e,_,_,_⟩
 ·obtain ⟨_,_,vs,_,dd⟩:=dk_rd I.hok e
  exact dd.typeIs
 ·obtain ⟨_,_,xs,_,dd⟩:=dt_rd I.hok e
  exact dd.typeIs
section
variable {X:Cx} {o i e value:Expr} {pos pos' tpos:Pos} {td ty tv:TE}
end
theorem dk_empty {P:Program}{w:World}{H:Hp}(h:Heap)(hb:sysModules<h.objs.size):ObjOk P w H (h.push { cls:=.type "dict",data:=.dict #[] }) h.objs.size (.dK []) :=
 ⟨Nat.zero_le _,beq_eq_false_iff_ne.mpr (Ne.symm (Nat.ne_of_lt hb)),[],.nil,Heap.DictOf.new h⟩
noncomputable def tDNewK:TE:=fun _ H Q=>∀ p,H p=none->Q (.ref p) (upd H p (.dK []))
section
variable {X:Cx} {pos:Pos}
theorem pe_dnewK:PE X (.Dict [] [] pos) tDNewK:=fun pins s σ H Q I h =>
 wpAny_Dict_empty ⟨.ref s.heap.objs.size,_,I.laid (a:=s.heap.objs.size) (o:=.dK []) (t':=s.toks) (fun _ _ q=>Heap.get?_push_of_some _ q) (Nat.le_refl _) (dk_empty s.heap I.big),rfl,h _ (I.hok.fresh (Nat.le_refl _))⟩
end
noncomputable def tPairs:List (TE×TE)->St->Hp->(List (V×V)->Hp->Prop)->Prop
 | [],_,H,Q=>Q [] H
 | (tk,tv)::r,σ,H,Q=>tk σ H fun x H1=>tv σ H1 fun y H2=>tPairs r σ H2 fun ps H3=>Q ((x,y)::ps) H3
noncomputable abbrev VV:List (V×V)->List (Value×Value)->Prop:=Paired fun p q=>RelV p.1 q.1/\RelV p.2 q.2
noncomputable def PPs (X:Cx)(pos:Pos)(keys:List (Option Expr))(values:List Expr)(trs:List (TE×TE)):Prop :=
 ∀ (pins:List (Addr×Obj)) (s:Shared) (σ:St) (H:Hp) (Q:List (V×V)->Hp->Prop),Inv X pins σ H s->tPairs trs σ H Q ->
  wpAny (model X.prog X.w) X.A (evalPairs (pairTrees keys values X.env pos)) (fun vs s'=>∃ ps H',Inv X pins σ H' s'/\VV ps vs/\Q ps H') X.xe s
theorem pps_nil {X:Cx}{pos:Pos}:PPs X pos [] [] []:=fun pins s σ H Q I h=>pairTrees_nil_walk ⟨[],H,I,.nil,h⟩
theorem pps_cons {X:Cx}{pos:Pos}{k v:Expr}{ks:List (Option Expr)}{vs:List Expr}{tk tv:TE}{trs:List (TE×TE)}(hk:PE X k tk)(hv:PE X v tv)(hr:PPs X pos ks vs trs) :
  PPs X pos (some k::ks) (v::vs) ((tk,tv)::trs):=fun pins s σ H Q I h =>
 pairTrees_cons_walk (thn (hk pins s σ H _ I h) fun u s1 ⟨x,H1,I1,rx,q1⟩=>thn (hv pins s1 σ H1 _ I1 q1) fun w2 s2 ⟨y,H2,I2,ry,q2⟩ =>
  thn (hr pins s2 σ H2 _ I2 q2) fun ws s3 ⟨ps,H3,I3,rel,q3⟩=>⟨(x,y)::ps,H3,I3,.cons ⟨rx,ry⟩ rel,q3⟩)
noncomputable def mergeK (kvs more:List (Key×V)):List (Key×V):=more.foldl (fun acc kv=>putK acc kv.1 kv.2) kvs
theorem KV.merge:∀ {more:List (Key×V)} {rs:List (Key×Value)} {kvs:List (Key×V)} {vs:List (Key×Value)},KV more rs->KV kvs vs->KV (mergeK kvs more) (merged vs rs):=by
 intro more rs kvs vs r
 unfold KV at r
 induction r generalizing kvs vs with
 | nil=>intro q;exact q
 | @cons p q ps qs h t ih =>
  intro r0
  have e:KV (putK kvs p.1 p.2) (stored vs q.1 q.2):=by
   have:=r0.put p.1 h.2
   rw [<-h.1];exact this
  exact ih e
theorem length_mergeK:∀ (more kvs:List (Key×V)),(mergeK kvs more).length<=kvs.length+more.length
 | [],kvs=>by show kvs.length<=kvs.length+0;omega
 | p::r,kvs=>by
  have h1:=length_mergeK r (putK kvs p.1 p.2)
  have h2:=qF kvs p.1 p.2
  show (mergeK (putK kvs p.1 p.2) r).length<=_
  rw [List.length_cons];omega
theorem carries_of {P:Program}{w:World}:∀ {kvs:List (Key×V)} {ws:List (Value×Value)},VV (kvs.map fun kv=>(kV kv.1,kv.2)) ws->∃ rs,Carries (zJ P w) ws rs/\KV kvs rs
 | [],_,r=>by rw [List.map_nil] at r;cases r;exact ⟨[],True.intro,.nil⟩
 | p::kvs,_,r=>by
  rw [List.map_cons] at r
  cases r with
  | @cons a b as bs h t =>
   obtain ⟨rs,c,q⟩:=carries_of (P:=P) (w:=w) t
   obtain ⟨b1,b2⟩:=b
   exact ⟨(p.1,b2)::rs,⟨kV_is h.1,rfl,c⟩,.cons ⟨rfl,h.2⟩ q⟩
noncomputable def tDisp (trs:List (TE×TE)):TE:=fun σ H Q=>∀ p,H p=none->tPairs trs σ (upd H p (.dK [])) fun ps H2=>H2 p=some (.dK [])/\∃ kvs:List (Key×V),ps=kvs.map (fun kv=>(kV kv.1,kv.2))/\kvs.length<=15/\Q (.ref p) (upd H2 p (.dK (mergeK [] kvs)))
theorem pe_disp {X:Cx}{pos:Pos}{keys:List (Option Expr)}{values:List Expr}{trs:List (TE×TE)}(h:PPs X pos keys values trs)(hall:keys.all (·.isSome)=true)(hl:keys.length=values.length)(h0:keys≠[])
  (h15:keys.length<=15):PE X (.Dict keys values pos) (tDisp trs):=by
 intro pins s σ H Q I q
 have hn:=I.hok.fresh (Nat.le_refl s.heap.objs.size)
 have I1:=I.laid (a:=s.heap.objs.size) (o:=.dK []) (h':=s.heap.push { cls:=.type "dict",data:=.dict #[] }) (t':=s.toks) (fun _ _ q=>Heap.get?_push_of_some _ q) (Nat.le_refl _) (dk_empty s.heap I.big)
 refine wpAny_Dict_walk (knd:=zJ X.prog X.w) hall hl h0 h15 (thn (h pins _ σ _ _ I1 (q _ hn)) fun ws s2 ⟨ps,H2,I2,rel,e,kvs,ep,lk,q2⟩=>?_)
 subst ep
 obtain ⟨rs,c,rk⟩:=carries_of (P:=X.prog) (w:=X.w) rel
 obtain ⟨z,hd,vs0,r0,dd⟩:=dk_of I2.hok e
 cases r0
 refine ⟨rs,c,dd,fun h' dd' hs=>⟨.ref s.heap.objs.size,_,?_,rfl,q2⟩⟩
 have hz:(mergeK [] kvs).length<=sizeLine:=by
  have h1:=length_mergeK kvs []
  rw [List.length_nil] at h1
  rw [sizeLine_eq];omega
 have he:∃ q,h'.get? s.heap.objs.size=some q:=let ⟨q,_,_,hq,_⟩:=dd';⟨q,hq⟩
 exact d_write I2 (by rw [e];exact True.intro) hs he (dk_new hz hd (rk.merge .nil) dd')
section
variable {X:Cx} {pins:List (Addr×Obj)} {σ:St} {H:Hp} {s:Shared} {a:Addr} {y d:V} {u r:Value} {o:Option V} {A:Around} {E:Value->Shared->Prop}
end
section
variable {X:Cx} {o e f:Expr} {apos cpos:Pos} {td ty tx:TE}
end
end L2
end
noncomputable section
namespace DV
inductive D where
 | non | bl (b:Bool) | int (i:Int) | str (x:List Nat) | tup (l:List D) | ref (n:Nat) | fn (f:String) | clo (f:String) (cs:List D)
mutual
noncomputable def D.beq:D->D->Bool
 | .non,.non=>true
 | .bl a,.bl b=>a==b
 | .int a,.int b=>a==b
 | .str a,.str b=>a==b
 | .tup a,.tup b=>D.beqL a b
 | .ref a,.ref b=>a==b
 | .fn a,.fn b=>a==b
 | .clo a l,.clo b m=>a==b&&D.beqL l m
 | _,_=>false
noncomputable def D.beqL:List D->List D->Bool
 | [],[]=>true
 | a::l,b::m=>D.beq a b&&D.beqL l m
 | _,_=>false
end
mutual
theorem D.beq_eq:∀ a b:D,D.beq a b=true->a=b
 | .non,b,h=>by cases b<;>first | rfl | (unfold D.beq at h;cases h)
 | .bl x,b,h=>by cases b<;>first | (unfold D.beq at h;rw [beq_iff_eq.mp h]) | (unfold D.beq at h;cases h)
 | .int x,b,h=>by cases b<;>first | (unfold D.beq at h;rw [beq_iff_eq.mp h]) | (unfold D.beq at h;cases h)
 | .str x,b,h=>by cases b<;>first | (unfold D.beq at h;rw [beq_iff_eq.mp h]) | (unfold D.beq at h;cases h)
 | .tup x,b,h=>by cases b<;>first | (unfold D.beq at h;rw [D.beqL_eq _ _ h]) | (unfold D.beq at h;cases h)
 | .ref x,b,h=>by cases b<;>first | (unfold D.beq at h;rw [beq_iff_eq.mp h]) | (unfold D.beq at h;cases h)
 | .fn x,b,h=>by cases b<;>first | (unfold D.beq at h;rw [beq_iff_eq.mp h]) | (unfold D.beq at h;cases h)
 | .clo x l,b,h=>by cases b<;>first | (unfold D.beq at h;rw [Bool.and_eq_true] at h;rw [beq_iff_eq.mp h.1,D.beqL_eq _ _ h.2]) | (unfold D.beq at h;cases h)
theorem D.beqL_eq:∀ a b:List D,D.beqL a b=true->a=b
 | [],b,h=>by cases b<;>first | rfl | (unfold D.beqL at h;cases h)
 | x::l,b,h=>by
  cases b with
  | nil=>unfold D.beqL at h;cases h
  | cons y m=>unfold D.beqL at h;rw [Bool.and_eq_true] at h;rw [D.beq_eq _ _ h.1,D.beqL_eq _ _ h.2]
end
mutual
theorem D.beq_refl:∀ a:D,D.beq a a=true
 | .non=>rfl
 | .bl _=>by unfold D.beq;exact beq_self_eq_true _
 | .int _=>by unfold D.beq;exact beq_self_eq_true _
 | .str _=>by unfold D.beq;exact beq_self_eq_true _
 | .tup l=>by unfold D.beq;exact D.beqL_refl l
 | .ref _=>by unfold D.beq;exact beq_self_eq_true _
 | .fn _=>by unfold D.beq;exact beq_self_eq_true _
 | .clo _ l=>by unfold D.beq;rw [beq_self_eq_true,D.beqL_refl l];rfl
theorem D.beqL_refl:∀ a:List D,D.beqL a a=true
 | []=>rfl
 | x::l=>by unfold D.beqL;rw [D.beq_refl x,D.beqL_refl l];rfl
end
noncomputable instance:DecidableEq D:=fun a b=>if h:D.beq a b=true then .isTrue (D.beq_eq a b h) else .isFalse fun e=>h (e▸D.beq_refl a)
inductive O where
 | lst (l:List D) | ro (l:List D) | dic (l:List (D×D)) | ins (c:String) (fs:List (String×D))
 deriving DecidableEq
noncomputable abbrev Sto:=List O
noncomputable def O.kd:O->Nat
 | .lst _=>0 | .ro _=>1 | .dic _=>2 | .ins _ _=>3
inductive R (α:Type) where
 | ok (a:α) (s:Sto) | exc (e:D) (s:Sto) | bad
noncomputable abbrev M (α:Type):=Sto->R α
noncomputable def R.bind {α β:Type}(r:R α)(f:α->Sto->R β):R β:=match r with
 | .ok a s=>f a s
 | .exc e s=>.exc e s
 | .bad=>.bad
@[simp] theorem R.bind_ok {α β:Type} (a:α) (s:Sto) (f:α->Sto->R β):(R.ok a s).bind f=f a s:=rfl
@[simp] theorem R.bind_bad {α β:Type} (f:α->Sto->R β):(R.bad:R α).bind f=.bad:=rfl
@[simp] theorem R.bind_exc {α β:Type} (e:D) (s:Sto) (f:α->Sto->R β):(R.exc e s:R α).bind f=.exc e s:=rfl
theorem R.bind_inv {α β:Type}{r:R α}{f:α->Sto->R β}{b:β}{t:Sto}(h:r.bind f=.ok b t):∃ a s,r=.ok a s/\f a s=.ok b t:=by
 cases r with
 | ok a s=>exact ⟨a,s,rfl,h⟩
 | exc e s=>cases h
 | bad=>cases h
@[simp] theorem R.bind_assoc {α β γ:Type} (r:R α) (f:α->Sto->R β) (g:β->Sto->R γ):(r.bind f).bind g=r.bind fun a s=>(f a s).bind g:=by cases r<;>rfl
mutual
noncomputable def D.bnd (n:Nat):D->Bool
 | .tup l=>D.bndL n l
 | .ref k=>decide (k<n)
 | .clo _ l=>D.bndL n l
 | _=>true
noncomputable def D.bndL (n:Nat):List D->Bool
 | []=>true
 | d::l=>D.bnd n d&&D.bndL n l
end
noncomputable def O.bnd (n:Nat):O->Bool
 | .lst l=>D.bndL n l
 | .ro l=>D.bndL n l
 | .dic l=>D.bndL n (l.map (·.1))&&D.bndL n (l.map (·.2))
 | .ins _ fs=>D.bndL n (fs.map (·.2))
mutual
noncomputable def D.plain:D->Bool
 | .non=>true | .int _=>true | .str _=>true
 | .tup l=>D.plainL l
 | _=>false
noncomputable def D.plainL:List D->Bool
 | []=>true
 | d::l=>D.plain d&&D.plainL l
end
mutual
noncomputable def D.ncl:D->Bool
 | .tup l=>D.nclL l
 | .clo _ _=>false
 | _=>true
noncomputable def D.nclL:List D->Bool
 | []=>true
 | d::l=>D.ncl d&&D.nclL l
end
noncomputable def O.ncl:O->Bool
 | .lst l=>D.nclL l
 | .ro l=>D.nclL l
 | .dic l=>D.nclL (l.map (·.2))
 | _=>false
noncomputable def D.key:D->Bool
 | .int _=>true | .str _=>true | _=>false
noncomputable def LIM:Nat:=1000000
@[irreducible] noncomputable def BIG:Nat:=2^60000
@[irreducible] noncomputable def DIVL:Nat:=2^4096
inductive BOp where
 | add | sub | mul | fdiv | mod | pow | shl | shr | band | bor
 deriving DecidableEq
inductive COp where
 | eq | ne | lt | le | gt | ge | isin | notin
 deriving DecidableEq
inductive Cn where
 | non | bl (b:Bool) | int (i:Int) | str (x:List Nat)
 deriving DecidableEq
noncomputable def Cn.d:Cn->D
 | .non=>.non | .bl b=>.bl b | .int i=>.int i | .str x=>.str x
inductive Bi where
 | len | abs | int | str | min2 | max2 | max3 | min3 | isInt | isBool | isStr | isTup | isList | ord
 deriving DecidableEq
inductive Mk where
 | tuple | list | all | any | sum | min | max | sorted | lenset
 deriving DecidableEq
inductive Mt where
 | append | pop | index | count | reverse | clear | bitlen | get1 | get2 | setdefault | update | split | partition
 deriving DecidableEq
inductive Tg where
 | one (i:Nat) | tup (is:List Nat)
 deriving DecidableEq
mutual
inductive E where
 | var (i:Nat) | cst (c:Cn) | glob (x:String)
 | bin (op:BOp) (a b:E) | neg (a:E) | not (a:E)
 | cmp (op:COp) (a b:E) | chain (o p:COp) (a b c:E)
 | isN (a:E) | notN (a:E) | isB (a:E) (b:Bool) | notB (a:E) (b:Bool)
 | and (a b:E) | or (a b:E) | ite (c a b:E)
 | tup (es:Es) | lst (es:Es) | dic (ks vs:Es)
 | ix (a b:E) | slL (a lo:E) | slU (a hi:E) | slLU (a lo hi:E) | rev (a:E)
 | call (f:String) (as:As) | callC (f:String) (as:As) | callV (i:Nat) (es:Es)
 | bi (b:Bi) (es:Es) | mk (k:Mk) (l:L) | mkD (k:Mk) (l:L) (d:E)
 | meth (m:Mt) (o:E) (es:Es) | ext (o:E) (l:L) | extS (o e:E) | join (o e:E) | mks (k:Mk) (e:E) | mkDs (k:Mk) (e d:E)
inductive Es where
 | nil | cons (e:E) (es:Es)
inductive As where
 | nil | ex (e:E) (as:As) | lam (id:String) (caps:List Nat) (as:As) | fn (f:String) (as:As)
inductive I where
 | seq (e:E) | rng1 (a:E) | rng2 (a b:E) | rng3 (a b:E) (c:Int) | enum (it:I) | zip (a b:I) | items (e:E)
inductive L where
 | comp (tg:Tg) (it:I) (e:E) (caps:List (Option Nat)) | compIf (tg:Tg) (it:I) (c e:E) (caps:List (Option Nat)) | disp (es:Es) | seq (e:E)
end
mutual
inductive S where
 | asg (tg:Tg) (e:E) | setIx (o i e:E) | aug (i:Nat) (e:E) | ex (e:E) | ret (e:E) | retN
 | ite (c:E) (a b:Ss) | whl (c:E) (b:Ss) | for_ (tg:Tg) (it:I) (b:Ss) | pass | cont | brk | raise | und (i:Nat)
inductive Ss where
 | nil | cons (s:S) (ss:Ss)
end
noncomputable abbrev Env:=List (Option D)
noncomputable def alloc (o:O):M D:=fun s=>.ok (.ref s.length) (s++[o])
noncomputable def pur (d:D):M D:=fun s=>.ok d s
noncomputable def bad {α:Type}:M α:=fun _=>.bad
noncomputable def mulOk (a b:Int):Bool:=decide (a.natAbs<2^64)||decide (b.natAbs<2^64)||(decide (a.natAbs<BIG)&&decide (b.natAbs<BIG))
noncomputable def rep:Nat->List Nat->List Nat
 | 0,_=>[]
 | n+1,a=>a++rep n a
noncomputable def repD:Nat->List D->List D
 | 0,_=>[]
 | n+1,a=>a++repD n a
noncomputable def binop:BOp->D->D->M D
 | .add,.int a,.int b=>pur (.int (a+b))
 | .add,.str a,.str b=>if a.length+b.length<=LIM then pur (.str (a++b)) else bad
 | .add,.tup a,.tup b=>if a.length+b.length<=LIM then pur (.tup (a++b)) else bad
 | .add,.ref a,.ref b=>fun s=>match s[a]?,s[b]? with
  | some (.lst l),some (.lst m)=>if l.length+m.length<=LIM then alloc (.lst (l++m)) s else .bad
  | _,_=>.bad
 | .sub,.int a,.int b=>pur (.int (a - b))
 | .mul,.int a,.int b=>if mulOk a b then pur (.int (a*b)) else bad
 | .mul,.str a,.int n=>if 0<=n/\n<=1000000/\a.length*n.toNat<=LIM then pur (.str (rep n.toNat a)) else bad
 | .mul,.tup a,.int n=>if 0<=n/\n<=1000000/\a.length*n.toNat<=LIM then pur (.tup (repD n.toNat a)) else bad
 | .mul,.ref a,.int n=>fun s=>match s[a]? with
  | some (.lst l)=>if 0<=n/\n<=1000000/\l.length*n.toNat<=LIM then alloc (.lst (repD n.toNat l)) s else .bad
  | _=>.bad
 | .fdiv,.int a,.int b=>if 0<b/\b<(DIVL:Int) then pur (.int (a / b)) else bad
 | .mod,.int a,.int b=>if 0<b then pur (.int (a % b)) else bad
 | .pow,.int a,.int b=>if 0<=b/\b<=1000000/\a.natAbs<2^64 then pur (.int (a^b.toNat)) else bad
 | .shl,.int a,.int b=>if 0<=b/\b<=1000000/\a.natAbs<2^64 then pur (.int (a*2^b.toNat)) else bad
 | .shr,.int a,.int b=>if 0<=b then pur (.int (a / 2^b.toNat)) else bad
 | _,_,_=>bad
noncomputable def kd (s:Sto):D->Nat
 | .non=>0 | .bl _=>1 | .int _=>1 | .str _=>2 | .tup _=>3
 | .ref r=>match s[r]? with | some (.lst _)=>4 | _=>9
 | _=>9
noncomputable def kdBad (a b:Nat):Bool:=a==9||b==9||a==b
noncomputable def b2i (b:Bool):Int:=if b then 1 else 0
noncomputable def eqLit:D->D->Option Bool
 | .non,.non=>some true
 | .bl a,.bl b=>some (a==b)
 | .int a,.int b=>some (a==b)
 | .bl a,.int b=>some (b2i a==b)
 | .int a,.bl b=>some (a==b2i b)
 | .str a,.str b=>some (a==b)
 | _,_=>none
noncomputable def eqAtom (s:Sto)(a b:D):Option Bool:=match eqLit a b with
 | some z=>some z
 | none=>if kdBad (kd s a) (kd s b) then none else some false
noncomputable def eqL (f:D->D->Option Bool):List D->List D->Option Bool
 | [],[]=>some true
 | [],_::_=>some false
 | _::_,[]=>some false
 | a::l,b::m=>match f a b,eqL f l m with
  | some x,some y=>some (x&&y)
  | _,_=>none
noncomputable def eqv (s:Sto):Nat->D->D->Option Bool
 | 0,a,b=>eqAtom s a b
 | n+1,a,b=>match a,b with
  | .tup l,.tup m=>eqL (eqv s n) l m
  | .ref x,.ref y=>match s[x]?,s[y]? with
   | some (.lst l),some (.lst m)=>if l.length=m.length then eqL (eqv s n) l m else some false
   | _,_=>none
  | a,b=>eqAtom s a b
noncomputable def DEEP:Nat:=30
noncomputable def eqM (a b:D):M D:=fun s=>match eqv s DEEP a b with
 | some r=>.ok (.bl r) s
 | none=>.bad
noncomputable def inL (s:Sto)(x:D):List D->Option Bool
 | []=>some false
 | y::l=>match eqv s DEEP y x,inL s x l with
  | some a,some b=>some (a||b)
  | _,_=>none
noncomputable def look (k:D):List (D×D)->Option D
 | []=>none
 | (a,v)::l=>if a=k then some v else look k l
noncomputable def inM (a b:D):M Bool:=fun s=>match b with
 | .tup l=>match inL s a l with | some r=>.ok r s | none=>.bad
 | .ref r=>match s[r]? with
  | some (.lst l)=>match inL s a l with | some r=>.ok r s | none=>.bad
  | some (.dic l)=>if a.key then .ok (look a l).isSome s else .bad
  | _=>.bad
 | .str y=>match a with | .str [c]=>.ok (decide (c∈y)) s | _=>.bad
 | _=>.bad
noncomputable def qi:COp->D->D->M D
 | .eq,a,b=>eqM a b
 | .ne,a,b=>fun s=>match eqv s DEEP a b with | some r=>.ok (.bl (!r)) s | none=>.bad
 | .lt,.int a,.int b=>pur (.bl (decide (a<b)))
 | .le,.int a,.int b=>pur (.bl (decide (a<=b)))
 | .gt,.int a,.int b=>pur (.bl (decide (b<a)))
 | .ge,.int a,.int b=>pur (.bl (decide (b<=a)))
 | .isin,a,b=>fun s=>(inM a b s).bind fun r s=>.ok (.bl r) s
 | .notin,a,b=>fun s=>(inM a b s).bind fun r s=>.ok (.bl (!r)) s
 | _,_,_=>bad
noncomputable def ixn (n:Nat)(i:Int):Option Nat:=if 0<=i then (if i<n then some i.toNat else none) else if -(n:Int)<=i then some (i+n).toNat else none
noncomputable def sbd (n:Nat)(i:Int):Nat:=if 0<=i then min i.toNat n else (i+n).toNat
noncomputable def loB (n:Nat):Option Int->Nat
 | none=>0
 | some i=>sbd n i
noncomputable def hiB (n:Nat):Option Int->Nat
 | none=>n
 | some i=>sbd n i
noncomputable def cutL {α:Type}(l:List α)(lo hi:Option Int):List α:=(l.drop (loB l.length lo)).take (hiB l.length hi - loB l.length lo)
noncomputable def ixM (a b:D):M D:=fun s=>match a,b with
 | .tup l,.int i=>match (ixn l.length i).bind fun j=>l[j]? with | some d=>.ok d s | none=>.bad
 | .str l,.int i=>match (ixn l.length i).bind fun j=>l[j]? with | some c=>.ok (.str [c]) s | none=>.bad
 | .ref r,b=>match s[r]? with
  | some (.lst l)=>match b with
   | .int i=>match (ixn l.length i).bind fun j=>l[j]? with | some d=>.ok d s | none=>.bad
   | _=>.bad
  | some (.ro l)=>match b with
   | .int i=>match (ixn l.length i).bind fun j=>l[j]? with | some d=>.ok d s | none=>.bad
   | _=>.bad
  | some (.dic l)=>if b.key then match look b l with | some d=>.ok d s | none=>.bad else .bad
  | _=>.bad
 | _,_=>.bad
noncomputable def slM (a:D)(lo hi:Option Int):M D:=fun s=>match a with
 | .tup l=>.ok (.tup (cutL l lo hi)) s
 | .str l=>.ok (.str (cutL l lo hi)) s
 | .ref r=>match s[r]? with
  | some (.lst l)=>alloc (.lst (cutL l lo hi)) s
  | _=>.bad
 | _=>.bad
noncomputable def revM (a:D):M D:=fun s=>match a with
 | .str l=>.ok (.str l.reverse) s
 | _=>.bad
noncomputable def blsOf:List D->Option (List Bool)
 | []=>some []
 | .bl b::l=>(blsOf l).map (b::·)
 | _=>none
noncomputable def zY:List D->Option (List Int)
 | []=>some []
 | .int i::l=>(zY l).map (i::·)
 | _=>none
noncomputable def strsOf:List D->Option (List (List Nat))
 | []=>some []
 | .str i::l=>(strsOf l).map (i::·)
 | _=>none
noncomputable def lenM (d:D):M D:=fun s=>match d with
 | .tup l=>.ok (.int l.length) s
 | .str l=>.ok (.int l.length) s
 | .ref r=>match s[r]? with
  | some (.lst l)=>.ok (.int l.length) s
  | some (.ro l)=>.ok (.int l.length) s
  | _=>.bad
 | _=>.bad
noncomputable def isK (k:Nat)(d:D):M D:=fun s=>match d with
 | .non=>.ok (.bl false) s
 | .bl _=>.ok (.bl (k==1||k==2)) s
 | .int _=>.ok (.bl (k==1)) s
 | .str _=>.ok (.bl (k==3)) s
 | .tup _=>.ok (.bl (k==4)) s
 | .ref r=>match s[r]? with
  | some (.lst _)=>.ok (.bl (k==5)) s
  | _=>.bad
 | _=>.bad
noncomputable def bi1 (f:D->M D):List D->M D
 | [d]=>f d
 | _=>bad
noncomputable def bi:Bi->List D->M D
 | .len,l=>bi1 lenM l
 | .abs,l=>fun s=>match zY l with | some [i]=>.ok (.int (if i<0 then -i else i)) s | _=>.bad
 | .int,l=>fun s=>match blsOf l with | some [b]=>.ok (.int (if b then 1 else 0)) s | _=>.bad
 | .min2,l=>fun s=>match zY l with | some [a,b]=>.ok (.int (if b<a then b else a)) s | _=>.bad
 | .max2,l=>fun s=>match zY l with | some [a,b]=>.ok (.int (if b > a then b else a)) s | _=>.bad
 | .max3,l=>fun s=>match zY l with | some [a,b,c]=>.ok (.int (max (max a b) c)) s | _=>.bad
 | .isInt,l=>bi1 (isK 1) l
 | .isBool,l=>bi1 (isK 2) l
 | .isStr,l=>bi1 (isK 3) l
 | .isTup,l=>bi1 (isK 4) l
 | .isList,l=>bi1 (isK 5) l
 | _,_=>bad
noncomputable def minI:List Int->Option Int
 | []=>none
 | a::l=>some (l.foldl min a)
noncomputable def maxI:List Int->Option Int
 | []=>none
 | a::l=>some (l.foldl max a)
noncomputable def ins (a:Int):List Int->List Int
 | []=>[a]
 | b::l=>if a<=b then a::b::l else b::ins a l
noncomputable def sortI:List Int->List Int
 | []=>[]
 | a::l=>ins a (sortI l)
noncomputable def fitL (is:List Int):Bool:=is.all (fun i=>decide (-1000000000<=i/\i<=1000000000))&&decide (is.length<=1000000)
noncomputable def mk:Mk->List D->M D
 | .tuple,l=>fun s=>.ok (.tup l) s
 | .list,l=>alloc (.lst l)
 | .all,l=>fun s=>match blsOf l with | some bs=>.ok (.bl (bs.all id)) s | none=>.bad
 | .any,l=>fun s=>match blsOf l with | some bs=>.ok (.bl (bs.any id)) s | none=>.bad
 | .sum,l=>fun s=>match zY l with | some is=>if fitL is then .ok (.int is.sum) s else .bad | none=>.bad
 | .min,l=>fun s=>match (zY l).bind minI with | some m=>.ok (.int m) s | none=>.bad
 | .max,l=>fun s=>match (zY l).bind maxI with | some m=>.ok (.int m) s | none=>.bad
 | .sorted,l=>fun s=>match zY l with | some is=>alloc (.lst ((sortI is).map D.int)) s | none=>.bad
 | .lenset,l=>bad
noncomputable def mkD (k:Mk)(l:List D)(d:D):M D:=fun s=>match k with
 | .min=>match zY l with | some is=>(match minI is with | some m=>.ok (.int m) s | none=>.ok d s) | none=>.bad
 | .max=>match zY l with | some is=>(match maxI is with | some m=>.ok (.int m) s | none=>.ok d s) | none=>.bad
 | _=>.bad
noncomputable def putD (k v:D)(l:List (D×D)):List (D×D):=if (look k l).isSome then l.map (fun p=>if p.1=k then (p.1,v) else p) else l++[(k,v)]
noncomputable def setIx (o i v:D):Sto->R Unit:=fun s=>match o with
 | .ref r=>match s[r]? with
  | some (.lst l)=>match i with
   | .int i=>match ixn l.length i with | some j=>.ok () (s.set r (.lst (l.set j v))) | none=>.bad
   | _=>.bad
  | some (.dic l)=>if i.key&&decide (l.length<LIM) then .ok () (s.set r (.dic (putD i v l))) else .bad
  | _=>.bad
 | _=>.bad
noncomputable def idx (s:Sto)(x:D):Nat->List D->Option Nat
 | _,[]=>none
 | n,y::l=>match eqv s DEEP y x with
  | some true=>some n
  | some false=>idx s x (n+1) l
  | none=>none
noncomputable def meth:Mt->D->List D->M D
 | .append,.ref r,[d]=>fun s=>match s[r]? with
  | some (.lst l)=>if l.length<LIM then .ok .non (s.set r (.lst (l++[d]))) else .bad
  | _=>.bad
 | .pop,.ref r,[]=>fun s=>match s[r]? with
  | some (.lst l)=>match l.getLast? with | some d=>.ok d (s.set r (.lst l.dropLast)) | none=>.bad
  | _=>.bad
 | .reverse,.ref r,[]=>fun s=>match s[r]? with
  | some (.lst l)=>.ok .non (s.set r (.lst l.reverse))
  | _=>.bad
 | .clear,.ref r,[]=>fun s=>match s[r]? with
  | some (.lst l)=>.ok .non (s.set r (.lst []))
  | _=>.bad
 | .index,.ref r,[d]=>fun s=>match s[r]? with
  | some (.lst l)=>match inL s d l,idx s d 0 l with | some true,some n=>.ok (.int n) s | _,_=>.bad
  | _=>.bad
 | _,_,_=>bad
noncomputable def extM (o:D)(l:List D):M D:=fun s=>match o with
 | .ref r=>match s[r]? with
  | some (.lst m)=>if m.length+l.length<=LIM then .ok .non (s.set r (.lst (m++l))) else .bad
  | _=>.bad
 | _=>.bad
noncomputable def joinM (x y:D):M D:=fun s=>match x with
 | .str []=>match y with
  | .ref r=>match s[r]? with
   | some (.lst l)=>match strsOf l with
    | some ss=>if ss.flatten.length<=LIM then .ok (.str ss.flatten) s else .bad
    | none=>.bad
   | _=>.bad
  | _=>.bad
 | _=>.bad
noncomputable def extS (o d:D):M D:=fun s=>match d with
 | .ref k=>match s[k]? with
  | some (.lst l)=>extM o l s
  | _=>.bad
 | _=>.bad
structure Fns where
 call:String->List D->M D
 lam:String->List D->List D->M D
 con:String->Option D
noncomputable def getV (ρ:Env)(i:Nat):M D:=fun s=>match ρ[i]? with | some (some d)=>.ok d s | _=>.bad
noncomputable def getVs (ρ:Env):List Nat->Option (List D)
 | []=>some []
 | i::is=>match ρ[i]?,getVs ρ is with | some (some d),some l=>some (d::l) | _,_=>none
noncomputable def zx (ρ:Env)(caps:List (Option Nat)):Env:=caps.map fun o=>match o with | none=>none | some j=>(ρ[j]?).join
noncomputable def setV (ρ:Env)(i:Nat)(d:D):Option Env:=if i < ρ.length then some (ρ.set i (some d)) else none
noncomputable def unsetV (ρ:Env)(i:Nat):Option Env:=if i < ρ.length then some (ρ.set i none) else none
noncomputable def setVs (ρ:Env):List Nat->List D->Option Env
 | [],[]=>some ρ
 | i::is,d::l=>(setV ρ i d).bind fun ρ=>setVs ρ is l
 | _,_=>none
noncomputable def bindT (ρ:Env):Tg->D->Option Env
 | .one i,d=>setV ρ i d
 | .tup is,.tup l=>setVs ρ is l
 | _,_=>none
structure Sq where
 its:List D
 src:List Nat
noncomputable def seqM (d:D):M Sq:=fun s=>match d with
 | .tup l=>.ok ⟨l,[]⟩ s
 | .str l=>.ok ⟨l.map fun c=>.str [c],[]⟩ s
 | .ref r=>match s[r]? with
  | some (.lst l)=>.ok ⟨l,[r]⟩ s
  | some (.ro l)=>.ok ⟨l,[]⟩ s
  | _=>.bad
 | _=>.bad
noncomputable def drawM (d:D):M Sq:=fun s=>match d with
 | .tup l=>.ok ⟨l,[]⟩ s
 | .str l=>.ok ⟨l.map fun c=>.str [c],[]⟩ s
 | .ref r=>match s[r]? with
  | some (.lst l)=>.ok ⟨l,[r]⟩ s
  | some (.ro l)=>.ok ⟨l,[]⟩ s
  | _=>.bad
 | _=>.bad
noncomputable def enumM (d:D):M Sq:=fun s=>match d with
 | .tup l=>.ok ⟨l,[]⟩ s
 | .ref r=>match s[r]? with
  | some (.lst l)=>.ok ⟨l,[r]⟩ s
  | some (.ro l)=>.ok ⟨l,[]⟩ s
  | _=>.bad
 | _=>.bad
noncomputable def lstM (d:D):Sto->R (List D):=fun s=>match d with
 | .tup l=>.ok l s
 | .str l=>.ok (l.map fun c=>.str [c]) s
 | .ref r=>match s[r]? with
  | some (.lst l)=>.ok l s
  | some (.ro l)=>.ok l s
  | _=>.bad
 | _=>.bad
noncomputable def lstR (d:D):Sto->R (List D):=fun s=>match d with
 | .ref r=>match s[r]? with
  | some (.lst l)=>.ok l s
  | _=>.bad
 | _=>.bad
noncomputable def W62:Int:=4611686018427387904
noncomputable def qy (a b:Int):List D:=(List.range (b - a).toNat).map fun (k:Nat)=>.int (a+k)
noncomputable def rngC (a b c:Int):List D:=if 0<c then (List.range ((b - a+c - 1) / c).toNat).map fun (k:Nat)=>.int (a+c*k) else (List.range ((a - b+(-c) - 1) / (-c)).toNat).map fun (k:Nat)=>.int (a+c*k)
noncomputable def enumL (n:Nat):List D->List D
 | []=>[]
 | d::l=>.tup [.int n,d]::enumL (n+1) l
noncomputable def zipL:List D->List D->List D
 | a::l,b::m=>.tup [a,b]::zipL l m
 | _,_=>[]
noncomputable def chk (s0 s:Sto)(src:List Nat):Bool:=src.all fun r=>decide (s[r]?=s0[r]?)
noncomputable def tru {α:Type}(r:R D)(f:Bool->Sto->R α):R α:=r.bind fun d s=>match d with | .bl b=>f b s | _=>.bad
@[simp] theorem tru_bl {α:Type} (b:Bool) (s:Sto) (f:Bool->Sto->R α):tru (.ok (.bl b) s) f=f b s:=rfl
noncomputable def qt (ok:Sto->Bool)(g:D->Env->Sto->R (Option D×Env)):List D->Env->Sto->R (List D)
 | [],_,s=>if ok s then .ok [] s else .bad
 | d::l,ρ,s=>if ok s then (g d ρ s).bind fun p s=>(qt ok g l p.2 s).bind fun r s=>.ok (match p.1 with | some v=>v::r | none=>r) s else .bad
mutual
noncomputable def ev (F:Fns):E->Env->Sto->R D
 | .var i,ρ,s=>getV ρ i s
 | .cst c,_,s=>.ok c.d s
 | .glob x,_,s=>match F.con x with | some d=>.ok d s | none=>.bad
 | .bin op a b,ρ,s=>(ev F a ρ s).bind fun x s=>(ev F b ρ s).bind fun y s=>binop op x y s
 | .neg a,ρ,s=>(ev F a ρ s).bind fun x s=>match x with | .int i=>.ok (.int (-i)) s | _=>.bad
 | .not a,ρ,s=>tru (ev F a ρ s) fun b s=>.ok (.bl (!b)) s
 | .cmp op a b,ρ,s=>(ev F a ρ s).bind fun x s=>(ev F b ρ s).bind fun y s=>qi op x y s
 | .chain o p a b c,ρ,s=>(ev F a ρ s).bind fun x s=>(ev F b ρ s).bind fun y s=>tru (qi o x y s) fun k s=>if k then (ev F c ρ s).bind fun z s=>qi p y z s else .ok (.bl false) s
 | .isN a,ρ,s=>(ev F a ρ s).bind fun x s=>.ok (.bl (decide (x=.non))) s
 | .notN a,ρ,s=>(ev F a ρ s).bind fun x s=>.ok (.bl (!decide (x=.non))) s
 | .isB a b,ρ,s=>(ev F a ρ s).bind fun x s=>match x with | .bl c=>.ok (.bl (c==b)) s | _=>.bad
 | .notB a b,ρ,s=>(ev F a ρ s).bind fun x s=>match x with | .bl c=>.ok (.bl (!(c==b))) s | _=>.bad
 | .and a b,ρ,s=>tru (ev F a ρ s) fun c s=>if c then tru (ev F b ρ s) fun c s=>.ok (.bl c) s else .ok (.bl false) s
 | .or a b,ρ,s=>tru (ev F a ρ s) fun c s=>if c then .ok (.bl true) s else tru (ev F b ρ s) fun c s=>.ok (.bl c) s
 | .ite c a b,ρ,s=>tru (ev F c ρ s) fun k s=>if k then ev F a ρ s else ev F b ρ s
 | .tup es,ρ,s=>(evs F es ρ s).bind fun l s=>.ok (.tup l) s
 | .lst es,ρ,s=>(evs F es ρ s).bind fun l s=>alloc (.lst l) s
 | .dic .nil .nil,ρ,s=>alloc (.dic []) s
 | .dic (.cons k .nil) (.cons v .nil),ρ,s=>(ev F k ρ (s++[.dic []])).bind fun kd s1=>(ev F v ρ s1).bind fun vd s2=>if kd.key=true/\s2[s.length]?=some (.dic []) then .ok (.ref s.length) (s2.set s.length (.dic [(kd,vd)])) else .bad
 | .dic _ _,ρ,s=>.bad
 | .ix a b,ρ,s=>(ev F a ρ s).bind fun x s=>(ev F b ρ s).bind fun y s=>ixM x y s
 | .slL a lo,ρ,s=>(ev F a ρ s).bind fun x s=>(ev F lo ρ s).bind fun y s=>match y with | .int i=>slM x (some i) none s | _=>.bad
 | .slU a hi,ρ,s=>(ev F a ρ s).bind fun x s=>(ev F hi ρ s).bind fun y s=>match y with | .int i=>slM x none (some i) s | _=>.bad
 | .slLU a lo hi,ρ,s=>(ev F a ρ s).bind fun x s=>(ev F lo ρ s).bind fun y s=>match y with | .int i=>(ev F hi ρ s).bind (fun z s=>match z with | .int j=>slM x (some i) (some j) s | _=>.bad) | _=>.bad
 | .rev a,ρ,s=>(ev F a ρ s).bind fun x s=>revM x s
 | .call f as,ρ,s=>(evas F as ρ s).bind fun l s=>F.call f l s
 | .callC f as,ρ,s=>(evas F as ρ s).bind fun l s=>(F.call f l s).bind fun d s'=>if (d.ncl&&s'.all O.ncl)=true then .ok d s' else .bad
 | .callV i es,ρ,s=>(evs F es ρ s).bind fun l s=>match ρ[i]? with
  | some (some (.fn f))=>F.call f l s
  | some (some (.clo id cs))=>F.lam id cs l s
  | _=>.bad
 | .bi b es,ρ,s=>(evs F es ρ s).bind fun l s=>bi b l s
 | .mk k it,ρ,s=>(evL F it ρ s).bind fun q s=>mk k q s
 | .mkD k it d,ρ,s=>(evL F it ρ s).bind fun q s=>(ev F d ρ s).bind fun d s=>mkD k q d s
 | .meth m o es,ρ,s=>(ev F o ρ s).bind fun x s=>(evs F es ρ s).bind fun l s=>meth m x l s
 | .ext o it,ρ,s=>(ev F o ρ s).bind fun x s=>(evL F it ρ s).bind fun q s=>extM x q s
 | .extS o e,ρ,s=>(ev F o ρ s).bind fun x s=>(ev F e ρ s).bind fun y s=>extS x y s
 | .join o e,ρ,s=>(ev F o ρ s).bind fun x s=>(ev F e ρ s).bind fun y s=>joinM x y s
 | .mks k e,ρ,s=>(ev F e ρ s).bind fun x s=>(lstR x s).bind fun q s=>mk k q s
 | .mkDs k e d,ρ,s=>(ev F e ρ s).bind fun x s=>(ev F d ρ s).bind fun z s=>(lstR x s).bind fun q s=>mkD k q z s
noncomputable def evs (F:Fns):Es->Env->Sto->R (List D)
 | .nil,_,s=>.ok [] s
 | .cons e es,ρ,s=>(ev F e ρ s).bind fun d s=>(evs F es ρ s).bind fun l s=>.ok (d::l) s
noncomputable def evas (F:Fns):As->Env->Sto->R (List D)
 | .nil,_,s=>.ok [] s
 | .ex e as,ρ,s=>(ev F e ρ s).bind fun d s=>(evas F as ρ s).bind fun l s=>.ok (d::l) s
 | .lam id caps as,ρ,s=>match getVs ρ caps with
  | some cs=>(evas F as ρ s).bind fun l s=>.ok (.clo id cs::l) s
  | none=>.bad
 | .fn f as,ρ,s=>(evas F as ρ s).bind fun l s=>.ok (.fn f::l) s
noncomputable def evI (F:Fns):I->Env->Sto->R Sq
 | .seq e,ρ,s=>(ev F e ρ s).bind fun d s=>seqM d s
 | .rng1 a,ρ,s=>(ev F a ρ s).bind fun x s=>match x with | .int i=>if -W62<=i/\i<W62 then .ok ⟨qy 0 i,[]⟩ s else .bad | _=>.bad
 | .rng2 a b,ρ,s=>(ev F a ρ s).bind fun x s=>(ev F b ρ s).bind fun y s=>match x,y with | .int i,.int j=>if (-W62<=i/\i<W62)/\-W62<=j/\j<W62 then .ok ⟨qy i j,[]⟩ s else .bad | _,_=>.bad
 | .rng3 a b c,ρ,s=>(ev F a ρ s).bind fun x s=>(ev F b ρ s).bind fun y s=>match x,y with | .int i,.int j=>if c=2/\(0<=i/\i<1048576)/\0<=j/\j<1048576 then .ok ⟨rngC i j c,[]⟩ s else .bad | _,_=>.bad
 | .enum (.seq e),ρ,s=>(ev F e ρ s).bind fun d s=>(enumM d s).bind fun q s=>.ok ⟨enumL 0 q.its,q.src⟩ s
 | .zip (.seq a) (.seq b),ρ,s=>(ev F a ρ s).bind fun x s=>(ev F b ρ s).bind fun y s=>(drawM x s).bind fun p s=>(drawM y s).bind fun q s=>.ok ⟨zipL p.its q.its,p.src++q.src⟩ s
 | .enum _,_,_=>.bad
 | .zip _ _,_,_=>.bad
 | .items e,ρ,s=>.bad
noncomputable def evL (F:Fns):L->Env->Sto->R (List D)
 | .comp tg it e caps,ρ,s=>(evI F it ρ s).bind fun q s0=>if q.its.length<=LIM then qt (fun s=>chk s0 s q.src) (fun d ρ s=>match bindT ρ tg d with
   | some ρ=>(ev F e ρ s).bind fun v s=>.ok (some v,ρ) s
   | none=>.bad) q.its (zx ρ caps) s0 else .bad
 | .compIf tg it c e caps,ρ,s=>(evI F it ρ s).bind fun q s0=>if q.its.length<=LIM then qt (fun s=>chk s0 s q.src) (fun d ρ s=>match bindT ρ tg d with
   | some ρ=>tru (ev F c ρ s) fun k s=>if k then (ev F e ρ s).bind fun v s=>.ok (some v,ρ) s else .ok (none,ρ) s
   | none=>.bad) q.its (zx ρ caps) s0 else .bad
 | .disp es,ρ,s=>evs F es ρ s
 | .seq e,ρ,s=>(ev F e ρ s).bind fun d s=>lstM d s
end
inductive Ct where
 | next (ρ:Env) | ret (d:D) | cont (ρ:Env) | brk (ρ:Env)
noncomputable def forL (ok:Sto->Bool)(g:D->Env->Sto->R Ct):List D->Env->Sto->R Ct
 | [],ρ,s=>if ok s then .ok (.next ρ) s else .bad
 | d::l,ρ,s=>if ok s then (g d ρ s).bind fun c s=>match c with
   | .next ρ=>forL ok g l ρ s
   | .cont ρ=>forL ok g l ρ s
   | .brk ρ=>.ok (.next ρ) s
   | .ret d=>.ok (.ret d) s
  else .bad
noncomputable def whlN (c:Env->Sto->R D)(g:Env->Sto->R Ct):Nat->Env->Sto->R Ct
 | 0,_,_=>.bad
 | n+1,ρ,s=>tru (c ρ s) fun b s=>if b then (g ρ s).bind fun c' s=>match c' with
   | .next ρ=>whlN c g n ρ s
   | .cont ρ=>whlN c g n ρ s
   | .brk ρ=>.ok (.next ρ) s
   | .ret d=>.ok (.ret d) s
  else .ok (.next ρ) s
open Classical in
noncomputable def whl (c:Env->Sto->R D)(g:Env->Sto->R Ct)(ρ:Env)(s:Sto):R Ct :=
 if h:∃ n,whlN c g n ρ s≠.bad then whlN c g h.choose ρ s else .bad
mutual
noncomputable def ex (F:Fns):S->Env->Sto->R Ct
 | .asg tg e,ρ,s=>(ev F e ρ s).bind fun d s=>match bindT ρ tg d with | some ρ=>.ok (.next ρ) s | none=>.bad
 | .setIx o i e,ρ,s=>(ev F e ρ s).bind fun d s=>(ev F o ρ s).bind fun x s=>(ev F i ρ s).bind fun y s=>(setIx x y d s).bind fun _ s=>.ok (.next ρ) s
 | .aug i e,ρ,s=>(getV ρ i s).bind fun x s=>(ev F e ρ s).bind fun y s=>match x,y with
  | .int a,.int b=>match setV ρ i (.int (a+b)) with | some ρ=>.ok (.next ρ) s | none=>.bad
  | _,_=>.bad
 | .ex e,ρ,s=>(ev F e ρ s).bind fun _ s=>.ok (.next ρ) s
 | .ret e,ρ,s=>(ev F e ρ s).bind fun d s=>.ok (.ret d) s
 | .retN,_,s=>.ok (.ret .non) s
 | .ite c a b,ρ,s=>tru (ev F c ρ s) fun k s=>if k then exs F a ρ s else exs F b ρ s
 | .whl c b,ρ,s=>whl (ev F c) (exs F b) ρ s
 | .for_ tg it b,ρ,s=>(evI F it ρ s).bind fun q s0=>forL (fun s=>chk s0 s q.src) (fun d ρ s=>match bindT ρ tg d with
   | some ρ=>exs F b ρ s
   | none=>.bad) q.its ρ s0
 | .pass,ρ,s=>.ok (.next ρ) s
 | .cont,ρ,s=>.ok (.cont ρ) s
 | .brk,ρ,s=>.ok (.brk ρ) s
 | .raise,_,_=>.bad
 | .und i,ρ,s=>match unsetV ρ i with | some ρ=>.ok (.next ρ) s | none=>.bad
noncomputable def exs (F:Fns):Ss->Env->Sto->R Ct
 | .nil,ρ,s=>.ok (.next ρ) s
 | .cons st ss,ρ,s=>(ex F st ρ s).bind fun c s=>match c with | .next ρ=>exs F ss ρ s | c=>.ok c s
end
structure Df where
 name:String
 ps:Nat
 vs:Nat
 body:Ss
structure Lm where
 id:String
 ps:Nat
 cs:Nat
 body:E
structure Pr where
 df:String->Option Df
 lm:String->Option Lm
 con:String->Option D
noncomputable def okOld (st st':Sto):Bool:=(List.range st.length).all fun i=>decide (st'[i]?=st[i]?)||(match st'[i]? with | some o=>o.bnd st.length | none=>false)
noncomputable def zA (st:Sto)(d:D)(st':Sto):R D :=
 if okOld st st' then
  match d with
  | .ref r=>if r<st.length then .ok d (st'.take st.length) else match st'[r]? with
   | some o=>if o.bnd st.length then .ok (.ref st.length) (st'.take st.length++[o]) else .ok d st'
   | none=>.bad
  | d=>if d.bnd st.length then .ok d (st'.take st.length) else .ok d st'
 else .ok d st'
noncomputable def callN (P:Pr):Nat->Fns
 | 0=>⟨fun _ _ _=>.bad,fun _ _ _ _=>.bad,P.con⟩
 | n+1=>⟨fun f l s=>match P.df f with
   | some d=>if l.length=d.ps then (exs (callN P n) d.body (l.map some++List.replicate d.vs none) s).bind fun c s'=>match c with
     | .ret v=>zA s v s'
     | .next _=>zA s .non s'
     | _=>.bad else .bad
   | none=>.bad,
  fun id cs l s=>match P.lm id with
   | some d=>if l.length=d.ps/\cs.length=d.cs/\(D.nclL l&&D.nclL cs&&s.all O.ncl)=true then (ev (callN P n) d.body (l.map some++cs.map some) s).bind fun v s'=>zA s v s' else .bad
   | none=>.bad,P.con⟩
end DV
end
noncomputable section
namespace DV
noncomputable def KP (s s':Sto):Prop:=∀ (i:Nat) (o:O),s[i]?=some o->∃ o',s'[i]?=some o'/\o'.kd=o.kd
theorem KP.refl (s:Sto):KP s s:=fun i o h=>⟨o,h,rfl⟩
theorem KP.trans {a b c:Sto}(h:KP a b)(g:KP b c):KP a c:=fun i o e=>by
 obtain ⟨o1,e1,k1⟩:=h i o e
 obtain ⟨o2,e2,k2⟩:=g i o1 e1
 exact ⟨o2,e2,k2.trans k1⟩
theorem KP.app (s t:Sto):KP s (s++t):=fun i o e=>⟨o,by rw [List.getElem?_append_left (List.getElem?_eq_some_iff.mp e).1];exact e,rfl⟩
theorem KP.set {s:Sto}{r:Nat}{o o0:O}(h:s[r]?=some o0)(k:o.kd=o0.kd):KP s (s.set r o):=fun i u e=>by
 by_cases z:r=i
 ·subst z
  rw [h] at e;cases e
  exact ⟨o,List.getElem?_set_self (List.getElem?_eq_some_iff.mp h).1,k⟩
 ·exact ⟨u,by rw [List.getElem?_set_ne z];exact e,rfl⟩
noncomputable def KR {α:Type}(s:Sto)(r:R α):Prop:=∀ a s',r=.ok a s'->KP s s'
theorem KR.bad {α:Type}{s:Sto}:KR s (.bad:R α):=fun _ _ h=>by cases h
theorem KR.ok {α:Type}{s:Sto}{a:α}:KR s (.ok a s):=fun _ _ h=>by cases h;exact KP.refl _
theorem KR.bind {α β:Type}{s:Sto}{r:R α}{f:α->Sto->R β}(h:KR s r)(g:∀ a s1,KR s1 (f a s1)):KR s (r.bind f):=fun b s' e=>by
 obtain ⟨a,s1,e1,e2⟩:=R.bind_inv e
 exact (h a s1 e1).trans (g a s1 b s' e2)
theorem KR.tru {α:Type}{s:Sto}{r:R D}{f:Bool->Sto->R α}(h:KR s r)(g:∀ a s1,KR s1 (f a s1)):KR s (tru r f):=KR.bind h fun a s1=>by
 cases a with
 | bl b=>exact g b s1
 | _=>exact KR.bad
theorem KR.if {α:Type}{s:Sto}{c:Prop}[Decidable c]{a b:R α}(h:KR s a)(g:KR s b):KR s (if c then a else b):=by split;exact h;exact g
theorem KR.al {s:Sto}{o:O}:KR s (alloc o s):=fun _ _ h=>by cases h;exact KP.app _ _
theorem KR.pu {s:Sto}{d:D}:KR s (pur d s):=fun _ _ h=>by cases h;exact KP.refl _
theorem KR.bd {s:Sto}:KR s ((DV.bad:M D) s):=fun _ _ h=>by cases h
theorem KR.im {s:Sto}{c:Prop}{_:Decidable c}{d:D}:KR s ((if c then pur d else DV.bad:M D) s):=by split;exact KR.pu;exact KR.bd
theorem KR.ia {s:Sto}{c:Prop}{_:Decidable c}{o:O}:KR s (if c then alloc o s else .bad):=KR.if KR.al KR.bd
theorem binop_kr (op:BOp)(x y:D)(s:Sto):KR s (binop op x y s):=by
 cases op with
 | add=>cases x with
  | int a=>cases y with
   | int b=>exact KR.pu
   | _=>exact KR.bd
  | str a=>cases y with
   | str b=>exact KR.im
   | _=>exact KR.bd
  | tup a=>cases y with
   | tup b=>exact KR.im
   | _=>exact KR.bd
  | ref a=>cases y with
   | ref b =>
    show KR s (match s[a]?,s[b]? with | some (.lst l),some (.lst m)=>if l.length+m.length<=LIM then alloc (.lst (l++m)) s else .bad | _,_=>.bad)
    split
    ·exact KR.ia
    ·exact KR.bd
   | _=>exact KR.bd
  | _=>exact KR.bd
 | sub=>cases x with
  | int a=>cases y with
   | int b=>exact KR.pu
   | _=>exact KR.bd
  | _=>exact KR.bd
 | mul=>cases x with
  | int a=>cases y with
   | int b=>exact KR.im
   | _=>exact KR.bd
  | str a=>cases y with
   | int b=>exact KR.im
   | _=>exact KR.bd
  | tup a=>cases y with
   | int b=>exact KR.im
   | _=>exact KR.bd
  | ref a=>cases y with
   | int n =>
    show KR s (match s[a]? with | some (.lst l)=>if 0<=n/\n<=1000000/\l.length*n.toNat<=LIM then alloc (.lst (repD n.toNat l)) s else .bad | _=>.bad)
    split
    ·exact KR.ia
    ·exact KR.bd
   | _=>exact KR.bd
  | _=>exact KR.bd
 | fdiv=>cases x with
  | int a=>cases y with
   | int b=>exact KR.im
   | _=>exact KR.bd
  | _=>exact KR.bd
 | mod=>cases x with
  | int a=>cases y with
   | int b=>exact KR.im
   | _=>exact KR.bd
  | _=>exact KR.bd
 | pow=>cases x with
  | int a=>cases y with
   | int b=>exact KR.im
   | _=>exact KR.bd
  | _=>exact KR.bd
 | shl=>cases x with
  | int a=>cases y with
   | int b=>exact KR.im
   | _=>exact KR.bd
  | _=>exact KR.bd
 | shr=>cases x with
  | int a=>cases y with
   | int b=>exact KR.im
   | _=>exact KR.bd
  | _=>exact KR.bd
 | _=>exact KR.bd
theorem cmp_kr (op:COp)(x y:D)(s:Sto):KR s (qi op x y s):=by
 have hin:∀ a b:D,KR s (inM a b s):=fun a b=>by
  intro r s' h
  unfold inM at h
  split at h
  ·split at h<;>cases h;exact KP.refl _
  ·split at h
   ·split at h<;>cases h;exact KP.refl _
   ·split at h<;>cases h;exact KP.refl _
   ·cases h
  ·split at h<;>cases h;exact KP.refl _
  ·cases h
 cases op with
 | isin=>exact KR.bind (hin x y) fun _ _=>KR.ok
 | notin=>exact KR.bind (hin x y) fun _ _=>KR.ok
 | eq=>intro a s' h;change eqM x y s=_ at h;unfold eqM at h;split at h<;>cases h;exact KP.refl _
 | ne =>
  intro a s' h
  change (match eqv s DEEP x y with | some r=>R.ok (D.bl (!r)) s | none=>.bad)=_ at h
  split at h<;>cases h;exact KP.refl _
 | _ =>
  intro a s' h
  cases x with
  | int i=>(cases y with
   | int j=>cases h;exact KP.refl _
   | _=>cases h)
  | _=>cases h
theorem ix_kr (x y:D)(s:Sto):KR s (ixM x y s):=by
 intro a s' h
 unfold ixM at h
 repeat' split at h
 all_goals first | (cases h;exact KP.refl _;done) | (cases h;done)
theorem sl_kr (x:D)(lo hi:Option Int)(s:Sto):KR s (slM x lo hi s):=by
 intro a s' h
 unfold slM at h
 repeat' split at h
 all_goals first | (cases h;exact KP.refl _;done) | (cases h;exact KP.app _ _;done) | (cases h;done)
theorem lstM_kr (x:D)(s:Sto):KR s (lstM x s):=by
 intro a s' h
 unfold lstM at h
 repeat' split at h
 all_goals first | (cases h;exact KP.refl _;done) | (cases h;done)
theorem lstR_kr (x:D)(s:Sto):KR s (lstR x s):=by
 intro a s' h
 unfold lstR at h
 repeat' split at h
 all_goals first | (cases h;exact KP.refl _;done) | (cases h;done)
theorem seqM_kr (x:D)(s:Sto):KR s (seqM x s):=by
 intro a s' h
 unfold seqM at h
 repeat' split at h
 all_goals first | (cases h;exact KP.refl _;done) | (cases h;done)
theorem drawM_kr (x:D)(s:Sto):KR s (drawM x s):=by
 intro a s' h
 unfold drawM at h
 repeat' split at h
 all_goals first | (cases h;exact KP.refl _;done) | (cases h;done)
theorem enumM_kr (x:D)(s:Sto):KR s (enumM x s):=by
 intro a s' h
 unfold enumM at h
 repeat' split at h
 all_goals first | (cases h;exact KP.refl _;done) | (cases h;done)
theorem join_kr (x y:D)(s:Sto):KR s (joinM x y s):=by
 intro a s' h
 unfold joinM at h
 repeat' split at h
 all_goals first | (cases h;exact KP.refl _;done) | (cases h;done)
theorem bi_kr (b:Bi)(l:List D)(s:Sto):KR s (bi b l s):=by
 have k1:∀ f:D->M D,(∀ d,KR s (f d s))->KR s (bi1 f l s):=fun f hf=>by
  cases l with
  | nil=>exact KR.bad
  | cons d t=>(cases t with
   | nil=>exact hf d
   | cons _ _=>exact KR.bad)
 have k2:∀ k d,KR s (isK k d s):=fun k d=>by
  intro a s' h
  unfold isK at h
  repeat' split at h
  all_goals first | (cases h;exact KP.refl _;done) | (cases h;done)
 have k3:∀ d,KR s (lenM d s):=fun d=>by
  intro a s' h
  unfold lenM at h
  repeat' split at h
  all_goals first | (cases h;exact KP.refl _;done) | (cases h;done)
 cases b with
 | len=>exact k1 _ k3
 | isInt=>exact k1 _ (k2 1)
 | isBool=>exact k1 _ (k2 2)
 | isStr=>exact k1 _ (k2 3)
 | isTup=>exact k1 _ (k2 4)
 | isList=>exact k1 _ (k2 5)
 | _ =>
  intro a s' h
  unfold bi at h
  first | (cases h;done) | (simp only at h;split at h<;>first | (cases h;exact KP.refl _;done) | (cases h;done))
theorem mk_kr (k:Mk)(l:List D)(s:Sto):KR s (mk k l s):=by
 cases k with
 | tuple=>exact KR.ok
 | list=>exact KR.al
 | lenset=>exact KR.bad
 | _ =>
  intro a s' h
  unfold mk at h
  simp only at h
  repeat' split at h
  all_goals first | (cases h;exact KP.refl _;done) | (cases h;exact KP.app _ _;done) | (cases h;done)
theorem mkD_kr (k:Mk)(l:List D)(d:D)(s:Sto):KR s (mkD k l d s):=by
 intro a s' h
 unfold mkD at h
 repeat' split at h
 all_goals first | (cases h;exact KP.refl _;done) | (cases h;done)
theorem meth_kr (m:Mt)(o:D)(l:List D)(s:Sto):KR s (meth m o l s):=by
 intro a s' h
 unfold meth at h
 repeat' split at h
 all_goals first | (cases h;done) | (cases h;exact KP.refl _;done) | (rename_i e _;cases h;exact KP.set e rfl;done) | (rename_i e _ _ _;cases h;exact KP.set e rfl;done) | (rename_i e;cases h;exact KP.set e rfl;done) | (rename_i e _ _;cases h;exact KP.set e rfl;done)
theorem extM_kr (o:D)(l:List D)(s:Sto):KR s (extM o l s):=by
 intro a s' h
 unfold extM at h
 repeat' split at h
 all_goals first | (cases h;done) | (rename_i e _;cases h;exact KP.set e rfl;done)
theorem setIx_kr (o i v:D)(s:Sto):KR s (setIx o i v s):=by
 intro a s' h
 unfold setIx at h
 cases o with
 | ref r =>
  simp only at h
  cases e:s[r]? with
  | none=>rw [e] at h;cases h
  | some ob =>
   rw [e] at h
   cases ob with
   | lst l =>
    cases i with
    | int k=>simp only at h;split at h<;>cases h;exact KP.set e rfl
    | _=>cases h
   | dic l=>simp only at h;split at h<;>cases h;exact KP.set e rfl
   | _=>cases h
 | _=>cases h
structure FK (F:Fns):Prop where
 call:∀ f l s,KR s (F.call f l s)
 lam:∀ id cs l s,KR s (F.lam id cs l s)
theorem compL_kr {ok:Sto->Bool}{g:D->Env->Sto->R (Option D×Env)}(hg:∀ d ρ s,KR s (g d ρ s)):∀ (l:List D) (ρ:Env) (s:Sto),KR s (qt ok g l ρ s)
 | [],ρ,s=>KR.if KR.ok KR.bad
 | d::l,ρ,s=>KR.if (KR.bind (hg d ρ s) fun p s1=>KR.bind (compL_kr hg l p.2 s1) fun r s2=>KR.ok) KR.bad
section
variable {F:Fns} (hF:FK F)
theorem getV_kr (ρ:Env)(i:Nat)(s:Sto):KR s (getV ρ i s):=by
 intro a s' h
 unfold getV at h
 split at h<;>cases h;exact KP.refl _
include hF
mutual
theorem ze:∀ (e:E) (ρ:Env) (s:Sto),KR s (ev F e ρ s)
 | .var i,ρ,s=>getV_kr ρ i s
 | .cst c,ρ,s=>KR.ok
 | .glob x,ρ,s=>by
  intro a s' h
  change (match F.con x with | some d=>R.ok d s | none=>.bad)=_ at h
  split at h<;>cases h;exact KP.refl _
 | .bin op a b,ρ,s=>KR.bind (ze a ρ s) fun x s=>KR.bind (ze b ρ s) fun y s=>binop_kr op x y s
 | .neg a,ρ,s=>KR.bind (ze a ρ s) fun x s=>by
  cases x with
  | int i=>exact KR.ok
  | _=>exact KR.bad
 | .not a,ρ,s=>KR.tru (ze a ρ s) fun b s=>KR.ok
 | .cmp op a b,ρ,s=>KR.bind (ze a ρ s) fun x s=>KR.bind (ze b ρ s) fun y s=>cmp_kr op x y s
 | .chain o p a b c,ρ,s=>KR.bind (ze a ρ s) fun x s=>KR.bind (ze b ρ s) fun y s=>KR.tru (cmp_kr o x y s) fun k s=>KR.if (KR.bind (ze c ρ s) fun z s=>cmp_kr p y z s) KR.ok
 | .isN a,ρ,s=>KR.bind (ze a ρ s) fun x s=>KR.ok
 | .notN a,ρ,s=>KR.bind (ze a ρ s) fun x s=>KR.ok
 | .isB a b,ρ,s=>KR.bind (ze a ρ s) fun x s=>by
  cases x with
  | bl i=>exact KR.ok
  | _=>exact KR.bad
 | .notB a b,ρ,s=>KR.bind (ze a ρ s) fun x s=>by
  cases x with
  | bl i=>exact KR.ok
  | _=>exact KR.bad
 | .and a b,ρ,s=>KR.tru (ze a ρ s) fun c s=>KR.if (KR.tru (ze b ρ s) fun c s=>KR.ok) KR.ok
 | .or a b,ρ,s=>KR.tru (ze a ρ s) fun c s=>KR.if KR.ok (KR.tru (ze b ρ s) fun c s=>KR.ok)
 | .ite c a b,ρ,s=>KR.tru (ze c ρ s) fun k s=>KR.if (ze a ρ s) (ze b ρ s)
 | .tup es,ρ,s=>KR.bind (evs_kr es ρ s) fun l s=>KR.ok
 | .lst es,ρ,s=>KR.bind (evs_kr es ρ s) fun l s=>KR.al
 | .dic .nil .nil,ρ,s=>KR.al
 | .dic (.cons k .nil) (.cons v .nil),ρ,s=>by
  intro a s' h
  obtain ⟨kd,s1,e1,h⟩:=R.bind_inv (show (ev F k ρ (s++[.dic []])).bind _=_ from h)
  obtain ⟨vd,s2,e2,h⟩:=R.bind_inv h
  split at h
  case isFalse=>cases h
  rename_i hc
  cases h
  exact ((KP.app _ _).trans ((ze k ρ _ _ _ e1).trans (ze v ρ _ _ _ e2))).trans (KP.set hc.2 rfl)
 | .dic .nil (.cons _ _),ρ,s=>KR.bad
 | .dic (.cons _ .nil) .nil,ρ,s=>KR.bad
 | .dic (.cons _ .nil) (.cons _ (.cons _ _)),ρ,s=>KR.bad
 | .dic (.cons _ (.cons _ _)) _,ρ,s=>KR.bad
 | .ix a b,ρ,s=>KR.bind (ze a ρ s) fun x s=>KR.bind (ze b ρ s) fun y s=>ix_kr x y s
 | .slL a lo,ρ,s=>KR.bind (ze a ρ s) fun x s=>KR.bind (ze lo ρ s) fun y s=>by
  cases y with
  | int i=>exact sl_kr _ _ _ _
  | _=>exact KR.bad
 | .slU a hi,ρ,s=>KR.bind (ze a ρ s) fun x s=>KR.bind (ze hi ρ s) fun y s=>by
  cases y with
  | int i=>exact sl_kr _ _ _ _
  | _=>exact KR.bad
 | .slLU a lo hi,ρ,s=>KR.bind (ze a ρ s) fun x s=>KR.bind (ze lo ρ s) fun y s=>by
  cases y with
  | int i =>
   refine KR.bind (ze hi ρ s) fun z s=>?_
   cases z with
   | int j=>exact sl_kr _ _ _ _
   | _=>exact KR.bad
  | _=>exact KR.bad
 | .rev a,ρ,s=>KR.bind (ze a ρ s) fun x s=>by
  cases x with
  | str l=>exact KR.ok
  | _=>exact KR.bad
 | .call f as,ρ,s=>KR.bind (evas_kr as ρ s) fun l s=>hF.call f l s
 | .callC f as,ρ,s=>KR.bind (evas_kr as ρ s) fun l s=>KR.bind (hF.call f l s) fun d s'=>KR.if KR.ok KR.bad
 | .callV i es,ρ,s=>KR.bind (evs_kr es ρ s) fun l s=>by
  intro a s' h
  split at h
  ·exact hF.call _ _ _ _ _ h
  ·exact hF.lam _ _ _ _ _ _ h
  ·cases h
 | .bi b es,ρ,s=>KR.bind (evs_kr es ρ s) fun l s=>bi_kr b l s
 | .mk k it,ρ,s=>KR.bind (evL_kr it ρ s) fun q s=>mk_kr k q s
 | .mkD k it d,ρ,s=>KR.bind (evL_kr it ρ s) fun q s=>KR.bind (ze d ρ s) fun d s=>mkD_kr k q d s
 | .meth m o es,ρ,s=>KR.bind (ze o ρ s) fun x s=>KR.bind (evs_kr es ρ s) fun l s=>meth_kr m x l s
 | .ext o it,ρ,s=>KR.bind (ze o ρ s) fun x s=>KR.bind (evL_kr it ρ s) fun q s=>extM_kr x q s
 | .extS o e,ρ,s=>KR.bind (ze o ρ s) fun x s=>KR.bind (ze e ρ s) fun y s=>by
  intro a s' h
  unfold extS at h
  repeat' split at h
  all_goals first | (cases h;done) | exact extM_kr _ _ _ _ _ h
 | .join o e,ρ,s=>KR.bind (ze o ρ s) fun x s=>KR.bind (ze e ρ s) fun y s=>join_kr x y s
 | .mks k e,ρ,s=>KR.bind (ze e ρ s) fun x s=>KR.bind (lstR_kr x s) fun q s=>mk_kr k q s
 | .mkDs k e d,ρ,s=>KR.bind (ze e ρ s) fun x s=>KR.bind (ze d ρ s) fun z s=>KR.bind (lstR_kr x s) fun q s=>mkD_kr k q z s
theorem evs_kr:∀ (es:Es) (ρ:Env) (s:Sto),KR s (evs F es ρ s)
 | .nil,ρ,s=>KR.ok
 | .cons e es,ρ,s=>KR.bind (ze e ρ s) fun d s=>KR.bind (evs_kr es ρ s) fun l s=>KR.ok
theorem evas_kr:∀ (as:As) (ρ:Env) (s:Sto),KR s (evas F as ρ s)
 | .nil,ρ,s=>KR.ok
 | .ex e as,ρ,s=>KR.bind (ze e ρ s) fun d s=>KR.bind (evas_kr as ρ s) fun l s=>KR.ok
 | .lam id caps as,ρ,s=>by
  intro a s' h
  change (match getVs ρ caps with | some cs=>(evas F as ρ s).bind fun l s=>R.ok (D.clo id cs::l) s | none=>.bad)=_ at h
  split at h
  ·exact KR.bind (evas_kr as ρ s) (fun l s=>KR.ok) _ _ h
  ·cases h
 | .fn f as,ρ,s=>KR.bind (evas_kr as ρ s) fun l s=>KR.ok
theorem evI_kr:∀ (it:I) (ρ:Env) (s:Sto),KR s (evI F it ρ s)
 | .seq e,ρ,s=>KR.bind (ze e ρ s) fun d s=>seqM_kr d s
 | .rng1 a,ρ,s=>KR.bind (ze a ρ s) fun x s=>by
  cases x with
  | int i=>exact KR.if KR.ok KR.bad
  | _=>exact KR.bad
 | .rng2 a b,ρ,s=>KR.bind (ze a ρ s) fun x s=>KR.bind (ze b ρ s) fun y s=>by
  cases x with
  | int i=>(cases y with
   | int j=>exact KR.if KR.ok KR.bad
   | _=>exact KR.bad)
  | _=>exact KR.bad
 | .rng3 a b c,ρ,s=>KR.bind (ze a ρ s) fun x s=>KR.bind (ze b ρ s) fun y s=>by
  cases x with
  | int i=>(cases y with
   | int j=>exact KR.if KR.ok KR.bad
   | _=>exact KR.bad)
  | _=>exact KR.bad
 | .enum (.seq e),ρ,s=>KR.bind (ze e ρ s) fun d s=>KR.bind (enumM_kr d s) fun q s=>KR.ok
 | .zip (.seq a) (.seq b),ρ,s=>KR.bind (ze a ρ s) fun x s=>KR.bind (ze b ρ s) fun y s=>KR.bind (drawM_kr x s) fun p s=>KR.bind (drawM_kr y s) fun q s=>KR.ok
 | .enum (.rng1 _),ρ,s=>KR.bad
 | .enum (.rng2 _ _),ρ,s=>KR.bad
 | .enum (.rng3 _ _ _),ρ,s=>KR.bad
 | .enum (.enum _),ρ,s=>KR.bad
 | .enum (.zip _ _),ρ,s=>KR.bad
 | .enum (.items _),ρ,s=>KR.bad
 | .zip (.rng1 _) _,ρ,s=>KR.bad
 | .zip (.rng2 _ _) _,ρ,s=>KR.bad
 | .zip (.rng3 _ _ _) _,ρ,s=>KR.bad
 | .zip (.enum _) _,ρ,s=>KR.bad
 | .zip (.zip _ _) _,ρ,s=>KR.bad
 | .zip (.items _) _,ρ,s=>KR.bad
 | .zip (.seq _) (.rng1 _),ρ,s=>KR.bad
 | .zip (.seq _) (.rng2 _ _),ρ,s=>KR.bad
 | .zip (.seq _) (.rng3 _ _ _),ρ,s=>KR.bad
 | .zip (.seq _) (.enum _),ρ,s=>KR.bad
 | .zip (.seq _) (.zip _ _),ρ,s=>KR.bad
 | .zip (.seq _) (.items _),ρ,s=>KR.bad
 | .items e,ρ,s=>KR.bad
theorem evL_kr:∀ (it:L) (ρ:Env) (s:Sto),KR s (evL F it ρ s)
 | .comp tg it e caps,ρ,s=>KR.bind (evI_kr it ρ s) fun q s0=>KR.if (compL_kr (fun d ρ s=>by
   intro a s' h
   split at h
   ·exact KR.bind (ze e _ s) (fun v s=>KR.ok) _ _ h
   ·cases h) _ _ _) KR.bad
 | .compIf tg it c e caps,ρ,s=>KR.bind (evI_kr it ρ s) fun q s0=>KR.if (compL_kr (fun d ρ s=>by
   intro a s' h
   split at h
   ·exact KR.tru (ze c _ s) (fun k s=>KR.if (KR.bind (ze e _ s) fun v s=>KR.ok) KR.ok) _ _ h
   ·cases h) _ _ _) KR.bad
 | .disp es,ρ,s=>evs_kr es ρ s
 | .seq e,ρ,s=>KR.bind (ze e ρ s) fun d s=>lstM_kr d s
end
theorem forL_kr {ok:Sto->Bool}{g:D->Env->Sto->R Ct}(hg:∀ d ρ s,KR s (g d ρ s)):∀ (l:List D) (ρ:Env) (s:Sto),KR s (forL ok g l ρ s)
 | [],ρ,s=>KR.if KR.ok KR.bad
 | d::l,ρ,s=>KR.if (KR.bind (hg d ρ s) fun c s=>by
   cases c with
   | next ρ=>exact forL_kr hg l ρ s
   | cont ρ=>exact forL_kr hg l ρ s
   | brk ρ=>exact KR.ok
   | ret d=>exact KR.ok) KR.bad
theorem whlN_kr {c:Env->Sto->R D}{g:Env->Sto->R Ct}(hc:∀ ρ s,KR s (c ρ s))(hg:∀ ρ s,KR s (g ρ s)):∀ (n:Nat) (ρ:Env) (s:Sto),KR s (whlN c g n ρ s)
 | 0,ρ,s=>KR.bad
 | n+1,ρ,s=>KR.tru (hc ρ s) fun b s=>KR.if (KR.bind (hg ρ s) fun c' s=>by
   cases c' with
   | next ρ=>exact whlN_kr hc hg n ρ s
   | cont ρ=>exact whlN_kr hc hg n ρ s
   | brk ρ=>exact KR.ok
   | ret d=>exact KR.ok) KR.ok
mutual
theorem ex_kr:∀ (st:S) (ρ:Env) (s:Sto),KR s (ex F st ρ s)
 | .asg tg e,ρ,s=>KR.bind (ze hF e ρ s) fun d s=>by
  intro a s' h
  split at h<;>cases h;exact KP.refl _
 | .setIx o i e,ρ,s=>KR.bind (ze hF e ρ s) fun d s=>KR.bind (ze hF o ρ s) fun x s=>KR.bind (ze hF i ρ s) fun y s=>KR.bind (setIx_kr x y d s) fun _ s=>KR.ok
 | .aug i e,ρ,s=>KR.bind (getV_kr ρ i s) fun x s=>KR.bind (ze hF e ρ s) fun y s=>by
  intro a s' h
  repeat' split at h
  all_goals first | (cases h;exact KP.refl _;done) | (cases h;done)
 | .ex e,ρ,s=>KR.bind (ze hF e ρ s) fun d s=>KR.ok
 | .ret e,ρ,s=>KR.bind (ze hF e ρ s) fun d s=>KR.ok
 | .retN,ρ,s=>KR.ok
 | .ite c a b,ρ,s=>KR.tru (ze hF c ρ s) fun k s=>KR.if (exs_kr a ρ s) (exs_kr b ρ s)
 | .whl c b,ρ,s=>by
  intro r s' h
  change whl (ev F c) (exs F b) ρ s=_ at h
  unfold whl at h
  split at h
  ·exact whlN_kr hF (fun ρ s=>ze hF c ρ s) (fun ρ s=>exs_kr b ρ s) _ ρ s _ _ h
  ·cases h
 | .for_ tg it b,ρ,s=>KR.bind (evI_kr hF it ρ s) fun q s0=>forL_kr hF (fun d ρ s=>by
   intro a s' h
   split at h
   ·exact exs_kr b _ _ _ _ h
   ·cases h) _ _ _
 | .pass,ρ,s=>KR.ok
 | .cont,ρ,s=>KR.ok
 | .brk,ρ,s=>KR.ok
 | .raise,ρ,s=>KR.bad
 | .und i,ρ,s=>by
  intro a s' h
  change (match unsetV ρ i with | some ρ=>R.ok (Ct.next ρ) s | none=>.bad)=_ at h
  split at h<;>cases h;exact KP.refl _
theorem exs_kr:∀ (ss:Ss) (ρ:Env) (s:Sto),KR s (exs F ss ρ s)
 | .nil,ρ,s=>KR.ok
 | .cons st ss,ρ,s=>KR.bind (ex_kr st ρ s) fun c s=>by
  cases c with
  | next ρ=>exact exs_kr ss ρ s
  | _=>exact KR.ok
end
end
theorem canon_kr {s st:Sto}{d:D}(h:KP s st):KR s (zA s d st):=by
 have tk:∀ t,KP s (st.take s.length++t):=fun t i o e=>by
  obtain ⟨o',e',k⟩:=h i o e
  have hi:=(List.getElem?_eq_some_iff.mp e).1
  have hi':=(List.getElem?_eq_some_iff.mp e').1
  refine ⟨o',?_,k⟩
  rw [List.getElem?_append_left (by rw [List.length_take];omega),List.getElem?_take,if_pos hi];exact e'
 have tk0:KP s (st.take s.length):=by have:=tk [];rwa [List.append_nil] at this
 intro a s' e
 unfold zA at e
 repeat' split at e
 all_goals first | (cases e;exact tk0;done) | (cases e;exact tk _;done) | (cases e;exact h;done) | (cases e;done)
theorem callN_fk (P:Pr):∀ n,FK (callN P n)
 | 0=>⟨fun _ _ _=>KR.bad,fun _ _ _ _=>KR.bad⟩
 | n+1=>by
  refine ⟨fun f l s=>?_,fun id cs l s=>?_⟩
  ·intro a s' h
   unfold callN at h
   simp only at h
   split at h
   case h_2=>cases h
   split at h
   case isFalse=>cases h
   obtain ⟨c,s1,e1,h⟩:=R.bind_inv h
   have k1:=exs_kr (callN_fk P n) _ _ _ _ _ e1
   cases c with
   | ret v=>exact canon_kr k1 _ _ h
   | next ρ=>exact canon_kr k1 _ _ h
   | _=>cases h
  ·intro a s' h
   unfold callN at h
   simp only at h
   split at h
   case h_2=>cases h
   split at h
   case isFalse=>cases h
   obtain ⟨v,s1,e1,h⟩:=R.bind_inv h
   exact canon_kr (ze (callN_fk P n) _ _ _ _ _ e1) _ _ h
end DV
end
noncomputable section
namespace L2
open PySem PySem.Spec PyProof.Rows
structure LamI where
 qual:Str
 params:Arguments
 body:Expr
 scope:Scope
 ps:List Str
 fr:List Str
 nm:Option (Str×Pos)
noncomputable def CloAt (H:Hp)(f:Addr)(J:LamI)(cap:List V)(clos:List (Str×Addr)):Prop:=match J.nm with
 | none=>LamAt H f J.qual J.params J.body J.scope J.fr cap clos
 | some p=>DefIn H f p.1 J.qual J.params [.Return (some J.body) p.2] J.scope J.fr cap clos
noncomputable def CloRaw (H:Hp)(f:Addr)(J:LamI)(clos:List (Str×Addr)):Prop:=match J.nm with
 | none=>∃ pm c' ctv,H f=some (lamO f (PySem.W.kla_fn "<lambda>" J.qual J.params J.body J.scope clos pm (.ref c') ctv))/\H c'=some (qb c' J.qual)
 | some p=>∃ doc pm c' ctv,H f=some (lamO f (PySem.W.fnX p.1 J.qual J.params [.Return (some J.body) p.2] J.scope clos .none .none doc pm none (.ref c') ctv))/\H c'=some (qb c' J.qual)
structure Gm where
 K:PySem.W.Frag
 fa:String->Option Addr
 lg:String->LamI->Prop
 T:List (Addr×Str)
variable (Γ:Gm)
mutual
noncomputable def RV (φ:Nat->Addr)(H:Hp):DV.D->V->Prop
 | .non,v=>v=.non
 | .bl b,v=>v=.bl b
 | .int i,v=>v=.int i
 | .str x,v=>v=.str ⟨x.toArray⟩/\x.length<=DV.LIM
 | .tup l,v=>∃ a xs,v=.ref a/\SqT Γ.K H a xs/\RVL φ H l xs
 | .ref n,v=>v=.ref (φ n)
 | .fn f,v=>∃ a,Γ.fa f=some a/\v=.ref a
 | .clo id cs,v=>∃ f cap J clos,v=.ref f/\Γ.lg id J/\CloAt H f J cap clos/\cap.length=J.fr.length/\RVL φ H cs cap
noncomputable def RVL (φ:Nat->Addr)(H:Hp):List DV.D->List V->Prop
 | [],xs=>xs=[]
 | d::l,xs=>∃ x r,xs=x::r/\RV φ H d x/\RVL φ H l r
end
noncomputable def fixd:HO->Bool
 | .tup _=>true
 | .frz _ _=>true
 | .ext _=>true
 | _=>false
noncomputable def Kp (H H':Hp):Prop:=∀ b o,H b=some o->fixd o=true->H' b=some o
theorem Kp.refl (H:Hp):Kp H H:=fun _ _ h _=>h
theorem Kp.trans {H H1 H2:Hp}(a:Kp H H1)(b:Kp H1 H2):Kp H H2:=fun c o h f=>b c o (a c o h f) f
theorem Kp.new {H H1:Hp}{p:Addr}{o:HO}(a:Kp H H1)(h:H1 p=none):Kp H (upd H1 p o):=fun c u e f=>by
 have e1:=a c u e f
 rw [za (zq e1 h)];exact e1
theorem Kp.put {H H1:Hp}{p:Addr}{o u:HO}(a:Kp H H1)(h:H1 p=some u)(hu:fixd u=false):Kp H (upd H1 p o):=fun c v e f=>by
 have e1:=a c v e f
 rw [za (fun z=>by subst z;rw [h] at e1;cases e1;rw [hu] at f;cases f)];exact e1
theorem Kp.sqT {K:PySem.W.Frag}{H H':Hp}{a:Addr}{xs:List V}(e:Kp H H')(h:SqT K H a xs):SqT K H' a xs:=by
 rcases h with (h | ⟨o,h⟩) | h
 ·exact .inl (.inl (e _ _ h rfl))
 ·exact .inl (.inr ⟨o,e _ _ h rfl⟩)
 ·exact .inr h
theorem LamAt.kp {H H':Hp}{f:Addr}{qual:Str}{params:Arguments}{body:Expr}{scope:Scope}{fr:List Str}{cap:List V}{clos:List (Str×Addr)}(h:LamAt H f qual params body scope fr cap clos)(e:Kp H H'):LamAt H' f qual params body scope fr cap clos:=by
 obtain ⟨pm,c',ctv,h1,h2,h3,h4,h5,h6⟩:=h
 refine ⟨pm,c',ctv,e _ _ h1 rfl,e _ _ h2 rfl,fun x c q=>?_,h4,h5,fun i x v a b=>?_⟩
 ·obtain ⟨o,v,z,d⟩:=h3 x c q
  exact ⟨o,v,e _ _ z rfl,d⟩
 ·obtain ⟨c,o,u,z1,z2,z3⟩:=h6 i x v a b
  exact ⟨c,o,u,z1,e _ _ z2 rfl,z3⟩
theorem DefIn.kp {H H':Hp}{f:Addr}{name qual:Str}{params:Arguments}{body:List Stmt}{scope:Scope}{fr:List Str}{cap:List V}{clos:List (Str×Addr)}(h:DefIn H f name qual params body scope fr cap clos)(e:Kp H H'):DefIn H' f name qual params body scope fr cap clos:=by
 obtain ⟨doc,pm,c',ctv,h1,h2,h3,h4,h5,h6⟩:=h
 refine ⟨doc,pm,c',ctv,e _ _ h1 rfl,e _ _ h2 rfl,fun x c q=>?_,h4,h5,fun i x v a b=>?_⟩
 ·obtain ⟨o,v,z,d⟩:=h3 x c q
  exact ⟨o,v,e _ _ z rfl,d⟩
 ·obtain ⟨c,o,u,z1,z2,z3⟩:=h6 i x v a b
  exact ⟨c,o,u,z1,e _ _ z2 rfl,z3⟩
theorem CloAt.kp {H H':Hp}{f:Addr}{J:LamI}{cap:List V}{clos:List (Str×Addr)}(h:CloAt H f J cap clos)(e:Kp H H'):CloAt H' f J cap clos:=by
 unfold CloAt at h ⊢
 cases q:J.nm with
 | none=>rw [q] at h;exact LamAt.kp h e
 | some p=>rw [q] at h;exact DefIn.kp h e
theorem CloRaw.kp {H H':Hp}{f:Addr}{J:LamI}{clos:List (Str×Addr)}(h:CloRaw H f J clos)(e:Kp H H'):CloRaw H' f J clos:=by
 unfold CloRaw at h ⊢
 cases q:J.nm with
 | none =>
  rw [q] at h
  obtain ⟨pm,c',ctv,h1,h2⟩:=h
  exact ⟨pm,c',ctv,e _ _ h1 rfl,e _ _ h2 rfl⟩
 | some p =>
  rw [q] at h
  obtain ⟨doc,pm,c',ctv,h1,h2⟩:=h
  exact ⟨doc,pm,c',ctv,e _ _ h1 rfl,e _ _ h2 rfl⟩
theorem CloAt.fn {K:PySem.W.Frag}{H:Hp}{f:Addr}{J:LamI}{cap:List V}{clos:List (Str×Addr)}(h:CloAt H f J cap clos):FnIn K H f:=by
 unfold CloAt at h
 cases q:J.nm with
 | none=>rw [q] at h;obtain ⟨pm,c',ctv,h1,_⟩:=h;exact .inl ⟨_,h1⟩
 | some p=>rw [q] at h;exact DefIn.fn h
structure Gw (φ:Nat->Addr)(n:Nat)(H:Hp)(φ':Nat->Addr)(H':Hp):Prop where
 map:∀ i,i<n->φ' i=φ i
 kp:Kp H H'
variable {Γ:Gm}
mutual
theorem RV.monoW {φ φ':Nat->Addr}{n:Nat}{H H':Hp}(g:Gw φ n H φ' H'):∀ (d:DV.D) (v:V),d.bnd n=true->RV Γ φ H d v->RV Γ φ' H' d v
 | .non,_,_,h=>by unfold RV at h ⊢;exact h
 | .bl _,_,_,h=>by unfold RV at h ⊢;exact h
 | .int _,_,_,h=>by unfold RV at h ⊢;exact h
 | .str _,_,_,h=>by unfold RV at h ⊢;exact h
 | .tup l,_,b,h=>by
  unfold RV at h ⊢
  unfold DV.D.bnd at b
  obtain ⟨a,xs,e,q,r⟩:=h
  exact ⟨a,xs,e,g.kp.sqT q,RVL.monoW g l xs b r⟩
 | .ref k,_,b,h=>by
  unfold RV at h ⊢
  unfold DV.D.bnd at b
  rw [g.map k (of_decide_eq_true b)];exact h
 | .fn _,_,_,h=>by unfold RV at h ⊢;exact h
 | .clo id cs,_,b,h=>by
  unfold RV at h ⊢
  unfold DV.D.bnd at b
  obtain ⟨f,cap,J,clos,e,h1,h2,h3,h4⟩:=h
  exact ⟨f,cap,J,clos,e,h1,h2.kp g.kp,h3,RVL.monoW g cs cap b h4⟩
theorem RVL.monoW {φ φ':Nat->Addr}{n:Nat}{H H':Hp}(g:Gw φ n H φ' H'):∀ (l:List DV.D) (xs:List V),DV.D.bndL n l=true->RVL Γ φ H l xs->RVL Γ φ' H' l xs
 | [],_,_,h=>by unfold RVL at h ⊢;exact h
 | d::l,_,b,h=>by
  unfold RVL at h ⊢
  unfold DV.D.bndL at b
  rw [Bool.and_eq_true] at b
  obtain ⟨x,r,e,q,t⟩:=h
  exact ⟨x,r,e,RV.monoW g d x b.1 q,RVL.monoW g l r b.2 t⟩
end
mutual
theorem zn {n m:Nat}(h:n<=m):∀ d:DV.D,d.bnd n=true->d.bnd m=true
 | .non,_=>rfl
 | .bl _,_=>rfl
 | .int _,_=>rfl
 | .str _,_=>rfl
 | .tup l,b=>by unfold DV.D.bnd at b ⊢;exact D_bndL_mono h l b
 | .ref k,b=>by unfold DV.D.bnd at b ⊢;exact decide_eq_true (Nat.lt_of_lt_of_le (of_decide_eq_true b) h)
 | .fn _,_=>rfl
 | .clo _ l,b=>by unfold DV.D.bnd at b ⊢;exact D_bndL_mono h l b
theorem D_bndL_mono {n m:Nat}(h:n<=m):∀ l:List DV.D,DV.D.bndL n l=true->DV.D.bndL m l=true
 | [],_=>rfl
 | d::l,b=>by
  unfold DV.D.bndL at b ⊢
  rw [Bool.and_eq_true] at b ⊢
  exact ⟨zn h d b.1,D_bndL_mono h l b.2⟩
end
theorem bndL_iff {n:Nat}:∀ {l:List DV.D},DV.D.bndL n l=true↔∀ d∈l,d.bnd n=true
 | []=>by unfold DV.D.bndL;simp
 | d::l=>by
  unfold DV.D.bndL
  rw [Bool.and_eq_true,bndL_iff (l:=l)]
  simp
theorem zG {n:Nat}{l m:List DV.D}(h:DV.D.bndL n l=true)(h':DV.D.bndL n m=true):DV.D.bndL n (l++m)=true :=
 bndL_iff.mpr fun d hd=>(List.mem_append.mp hd).elim (bndL_iff.mp h d) (bndL_iff.mp h' d)
theorem bndL_sub {n:Nat}{l m:List DV.D}(h:DV.D.bndL n l=true)(s:∀ d∈m,d∈l):DV.D.bndL n m=true:=bndL_iff.mpr fun d hd=>bndL_iff.mp h d (s d hd)
theorem bndL_get {n:Nat}{l:List DV.D}{i:Nat}{d:DV.D}(h:DV.D.bndL n l=true)(e:l[i]?=some d):d.bnd n=true:=bndL_iff.mp h d (List.mem_of_getElem? e)
section
variable {φ:Nat->Addr} {H:Hp}
theorem RVL.nil:RVL Γ φ H [] []:=by unfold RVL;rfl
theorem RVL.cons {d:DV.D}{l:List DV.D}{x:V}{xs:List V}(a:RV Γ φ H d x)(b:RVL Γ φ H l xs):RVL Γ φ H (d::l) (x::xs):=by unfold RVL;exact ⟨x,xs,rfl,a,b⟩
theorem RVL.unnil {xs:List V}(h:RVL Γ φ H [] xs):xs=[]:=by unfold RVL at h;exact h
theorem RVL.uncons {d:DV.D}{l:List DV.D}{xs:List V}(h:RVL Γ φ H (d::l) xs):∃ x r,xs=x::r/\RV Γ φ H d x/\RVL Γ φ H l r:=by unfold RVL at h;exact h
theorem RVL.length:∀ {l:List DV.D} {xs:List V},RVL Γ φ H l xs->xs.length=l.length
 | [],_,h=>by rw [h.unnil];rfl
 | d::l,_,h=>by
  obtain ⟨x,r,rfl,_,t⟩:=h.uncons
  rw [List.length_cons,List.length_cons,RVL.length t]
theorem RVL.get:∀ {l:List DV.D} {xs:List V} {i:Nat} {d:DV.D},RVL Γ φ H l xs->l[i]?=some d->∃ x,xs[i]?=some x/\RV Γ φ H d x
 | [],_,_,_,_,e=>by simp at e
 | d::l,_,0,d',h,e=>by
  obtain ⟨x,r,rfl,q,t⟩:=h.uncons
  have e':d=d':=by simpa using e
  subst e'
  exact ⟨x,rfl,q⟩
 | d::l,_,i+1,_,h,e=>by
  obtain ⟨x,r,rfl,q,t⟩:=h.uncons
  obtain ⟨y,e1,e2⟩:=RVL.get (i:=i) t (by simpa using e)
  exact ⟨y,by simpa using e1,e2⟩
theorem RVL.append:∀ {l m:List DV.D} {xs ys:List V},RVL Γ φ H l xs->RVL Γ φ H m ys->RVL Γ φ H (l++m) (xs++ys)
 | [],_,_,_,h,h'=>by rw [h.unnil];exact h'
 | d::l,_,_,_,h,h'=>by
  obtain ⟨x,r,rfl,q,t⟩:=h.uncons
  exact .cons q (RVL.append t h')
theorem RVL.drop:∀ {l:List DV.D} {xs:List V} (n:Nat),RVL Γ φ H l xs->RVL Γ φ H (l.drop n) (xs.drop n)
 | _,_,0,h=>h
 | [],_,n+1,h=>by rw [h.unnil];exact .nil
 | d::l,_,n+1,h=>by
  obtain ⟨x,r,rfl,q,t⟩:=h.uncons
  exact RVL.drop n t
theorem RVL.take:∀ {l:List DV.D} {xs:List V} (n:Nat),RVL Γ φ H l xs->RVL Γ φ H (l.take n) (xs.take n)
 | _,_,0,h=>.nil
 | [],_,n+1,h=>by rw [h.unnil];exact .nil
 | d::l,_,n+1,h=>by
  obtain ⟨x,r,rfl,q,t⟩:=h.uncons
  exact .cons q (RVL.take n t)
theorem RVL.set:∀ {l:List DV.D} {xs:List V} {d:DV.D} {x:V} (i:Nat),RVL Γ φ H l xs->RV Γ φ H d x->RVL Γ φ H (l.set i d) (xs.set i x)
 | [],_,_,_,_,h,_=>by rw [h.unnil];exact .nil
 | d::l,_,_,_,0,h,q=>by
  obtain ⟨x,r,rfl,_,t⟩:=h.uncons
  exact .cons q t
 | d::l,_,_,_,i+1,h,q=>by
  obtain ⟨x,r,rfl,q',t⟩:=h.uncons
  exact .cons q' (RVL.set i t q)
theorem RVL.reverse:∀ {l:List DV.D} {xs:List V},RVL Γ φ H l xs->RVL Γ φ H l.reverse xs.reverse
 | [],_,h=>by rw [h.unnil];exact .nil
 | d::l,_,h=>by
  obtain ⟨x,r,rfl,q,t⟩:=h.uncons
  rw [List.reverse_cons,List.reverse_cons]
  exact (RVL.reverse t).append (.cons q .nil)
theorem RV.intE {i:Int}{v:V}(h:RV Γ φ H (.int i) v):v=.int i:=by unfold RV at h;exact h
theorem RV.blE {i:Bool}{v:V}(h:RV Γ φ H (.bl i) v):v=.bl i:=by unfold RV at h;exact h
theorem RV.nonE {v:V}(h:RV Γ φ H .non v):v=.non:=by unfold RV at h;exact h
theorem RV.strE {x:List Nat}{v:V}(h:RV Γ φ H (.str x) v):v=.str ⟨x.toArray⟩:=by unfold RV at h;exact h.1
theorem RV.strL {x:List Nat}{v:V}(h:RV Γ φ H (.str x) v):x.length<=DV.LIM:=by unfold RV at h;exact h.2
theorem RV.tupE {l:List DV.D}{v:V}(h:RV Γ φ H (.tup l) v):∃ a xs,v=.ref a/\SqT Γ.K H a xs/\RVL Γ φ H l xs:=by unfold RV at h;exact h
theorem RV.refE {n:Nat}{v:V}(h:RV Γ φ H (.ref n) v):v=.ref (φ n):=by unfold RV at h;exact h
theorem RV.intI {i:Int}:RV Γ φ H (.int i) (.int i):=by unfold RV;rfl
theorem RV.blI {i:Bool}:RV Γ φ H (.bl i) (.bl i):=by unfold RV;rfl
theorem RV.nonI:RV Γ φ H .non .non:=by unfold RV;rfl
theorem RV.strI {x:List Nat}(h:x.length<=DV.LIM):RV Γ φ H (.str x) (.str ⟨x.toArray⟩):=by unfold RV;exact ⟨rfl,h⟩
theorem RV.tupI {l:List DV.D}{a:Addr}{xs:List V}(h:SqT Γ.K H a xs)(q:RVL Γ φ H l xs):RV Γ φ H (.tup l) (.ref a):=by unfold RV;exact ⟨a,xs,rfl,h,q⟩
theorem RV.refI {n:Nat}:RV Γ φ H (.ref n) (.ref (φ n)):=by unfold RV;rfl
end
noncomputable def SqF (K:PySem.W.Frag)(H:Hp)(a:Addr)(xs:List V):Prop:=SqL K H a xs/\∀ H',Kp H H'->SqL K H' a xs
noncomputable def keyOf:DV.D->Option Key
 | .int i=>some (.inl i)
 | .str x=>some (.inr ⟨x.toArray⟩)
 | _=>none
noncomputable def RVD (Γ:Gm)(φ:Nat->Addr)(H:Hp):List (DV.D×DV.D)->List (Key×V)->Prop
 | [],kvs=>kvs=[]
 | (d,e)::l,kvs=>∃ k v r,kvs=(k,v)::r/\keyOf d=some k/\RV Γ φ H e v/\RVD Γ φ H l r
variable (Γ)
noncomputable def RO (φ:Nat->Addr)(H:Hp)(a:Addr):DV.O->Prop
 | .lst l=>∃ xs,H a=some (.lst xs)/\RVL Γ φ H l xs
 | .ro l=>∃ xs,SqF Γ.K H a xs/\RVL Γ φ H l xs
 | .dic l=>∃ kvs,H a=some (.dK kvs)/\RVD Γ φ H l kvs
 | .ins _ _=>False
noncomputable abbrev okd:DV.O->Nat:=DV.O.kd
noncomputable def isMut:DV.O->Bool
 | .ro _=>false
 | _=>true
structure Rp (φ:Nat->Addr)(H:Hp)(s:DV.Sto):Prop where
 inj:∀ (i j:Nat) (o o':DV.O),s[i]?=some o->s[j]?=some o'->isMut o=true->isMut o'=true->φ i=φ j->i=j
 obj:∀ (i:Nat) (o:DV.O),s[i]?=some o->RO Γ φ H (φ i) o
 wf:∀ (i:Nat) (o:DV.O),s[i]?=some o->o.bnd s.length=true
 tab:TabsH Γ.T H
structure RE (φ:Nat->Addr)(H:Hp)(n:Nat)(ρ:DV.Env)(σ:St):Prop where
 len:ρ.length=σ.length
 val:∀ (i:Nat) (d:DV.D),ρ[i]?=some (some d)->d.bnd n=true/\∃ v,σ[i]?=some (some v)/\RV Γ φ H d v
structure Gr (φ:Nat->Addr)(s:DV.Sto)(H:Hp)(φ':Nat->Addr)(s':DV.Sto)(H':Hp):Prop where
 w:Gw φ s.length H φ' H'
 le:s.length<=s'.length
 new:∀ i:Nat,s.length<=i->i<s'.length->H (φ' i)=none
 kd:∀ (i:Nat) (o o':DV.O),s[i]?=some o->s'[i]?=some o'->okd o'=okd o
 st:∀ b,H b≠none->H' b≠none
 fr:∀ b o,H b=some o->(∀ ps,o≠.tbl ps)->(∀ (i:Nat) (ob:DV.O),s[i]?=some ob->isMut ob=true->φ i≠b)->H' b=some o
variable {Γ}
theorem okd_mut {o o':DV.O}(h:okd o'=okd o)(m:isMut o'=true):isMut o=true:=by
 cases o with
 | ro _=>cases o' with
  | ro _=>cases m
  | _=>cases h
 | _=>rfl
theorem Gr.mu {φ φ':Nat->Addr}{s s':DV.Sto}{H H':Hp}(g:Gr φ s H φ' s' H')(i:Nat)(o o':DV.O)(e:s[i]?=some o)(e':s'[i]?=some o')(m:isMut o'=true):isMut o=true:=okd_mut (g.kd i o o' e e') m
theorem Gr.refl (φ:Nat->Addr)(s:DV.Sto)(H:Hp):Gr φ s H φ s H:=⟨⟨fun _ _=>rfl,Kp.refl H⟩,Nat.le_refl _,fun i h1 h2=>absurd h2 (by omega),fun i o o' e e'=>by rw [e] at e';cases e';rfl,fun _ h=>h,fun _ _ h _ _=>h⟩
theorem Gr.trans {φ φ1 φ2:Nat->Addr}{s s1 s2:DV.Sto}{H H1 H2:Hp}(a:Gr φ s H φ1 s1 H1)(b:Gr φ1 s1 H1 φ2 s2 H2)(_h:s.length<=s1.length):Gr φ s H φ2 s2 H2:=by
 refine ⟨⟨fun i hi=>(b.w.map i (Nat.lt_of_lt_of_le hi a.le)).trans (a.w.map i hi),a.w.kp.trans b.w.kp⟩,Nat.le_trans a.le b.le,fun i h1 h2=>?_,fun i o o' e e'=>?_,fun c h=>b.st c (a.st c h),fun c o h nt ne=>?_⟩
 ·by_cases hi:i<s1.length
  ·rw [b.w.map i hi];exact a.new i h1 hi
  ·have e:=b.new i (by omega) h2
   cases q:H (φ2 i) with
   | none=>rfl
   | some o=>exact absurd e (a.st _ (by rw [q];simp))
 ·have hl:i<s1.length:=Nat.lt_of_lt_of_le (List.getElem?_eq_some_iff.mp e).1 a.le
  obtain ⟨o1,e1⟩:∃ o1,s1[i]?=some o1:=⟨s1[i],List.getElem?_eq_getElem hl⟩
  exact (b.kd i o1 o' e1 e').trans (a.kd i o o1 e e1)
 ·refine b.fr c o (a.fr c o h nt ne) nt fun i ob e m z=>?_
  by_cases hi:i<s.length
  ·obtain ⟨o0,e0⟩:∃ o0,s[i]?=some o0:=⟨s[i],List.getElem?_eq_getElem hi⟩
   exact ne i o0 e0 (a.mu i o0 ob e0 e m) (by rw [<-a.w.map i hi];exact z)
  ·have:=a.new i (by omega) (List.getElem?_eq_some_iff.mp e).1
   rw [z,h] at this;cases this
theorem RV.mono {φ φ':Nat->Addr}{s s':DV.Sto}{H H':Hp}(g:Gr φ s H φ' s' H')(d:DV.D)(v:V)(b:d.bnd s.length=true)(h:RV Γ φ H d v):RV Γ φ' H' d v:=RV.monoW g.w d v b h
theorem RVL.mono {φ φ':Nat->Addr}{s s':DV.Sto}{H H':Hp}(g:Gr φ s H φ' s' H')(d:List DV.D)(v:List V)(b:DV.D.bndL s.length d=true)(h:RVL Γ φ H d v):RVL Γ φ' H' d v:=RVL.monoW g.w d v b h
theorem RE.mono {φ φ':Nat->Addr}{s s':DV.Sto}{H H':Hp}{ρ:DV.Env}{σ:St}(h:RE Γ φ H s.length ρ σ)(g:Gr φ s H φ' s' H')(hn:s.length<=s'.length):RE Γ φ' H' s'.length ρ σ :=
 ⟨h.len,fun i d e=>by
  obtain ⟨b,v,e1,e2⟩:=h.val i d e
  exact ⟨zn hn d b,v,e1,RV.mono g d v b e2⟩⟩
noncomputable def After (Γ:Gm)(φ:Nat->Addr)(s:DV.Sto)(H:Hp)(d:DV.D)(s':DV.Sto)(Q:VK):Prop :=
 ∀ v φ' H',Gr φ s H φ' s' H'->s.length<=s'.length->d.bnd s'.length=true->RV Γ φ' H' d v->Rp Γ φ' H' s'->Q v H'
theorem After.trans {φ φ1:Nat->Addr}{s s1 s':DV.Sto}{H H1:Hp}{d:DV.D}{Q:VK}(h:After Γ φ s H d s' Q)(g:Gr φ s H φ1 s1 H1)(l:s.length<=s1.length):After Γ φ1 s1 H1 d s' Q :=
 fun v φ' H' g' l' b r p=>h v φ' H' (g.trans g' l) (Nat.le_trans l l') b r p
theorem After.here {φ:Nat->Addr}{s:DV.Sto}{H:Hp}{d:DV.D}{Q:VK}{v:V}(h:After Γ φ s H d s Q)(p:Rp Γ φ H s)(b:d.bnd s.length=true)(r:RV Γ φ H d v):Q v H :=
 h v φ H (Gr.refl φ s H) (Nat.le_refl _) b r p
theorem RVD.monoW {φ φ':Nat->Addr}{n:Nat}{H H':Hp}(g:Gw φ n H φ' H'):∀ (l:List (DV.D×DV.D)) (kvs:List (Key×V)),DV.D.bndL n (l.map (·.2))=true->RVD Γ φ H l kvs->RVD Γ φ' H' l kvs
 | [],_,_,h=>h
 | (d,e)::l,_,b,h=>by
  obtain ⟨k,v,r,e1,e2,e3,e4⟩:=h
  rw [List.map_cons] at b
  unfold DV.D.bndL at b
  rw [Bool.and_eq_true] at b
  exact ⟨k,v,r,e1,e2,RV.monoW g e v b.1 e3,RVD.monoW g l r b.2 e4⟩
theorem RO.mono {φ φ':Nat->Addr}{n:Nat}{H H':Hp}{a:Addr}{o:DV.O}(h:RO Γ φ H a o)(g:Gw φ n H φ' H')(b:o.bnd n=true)(hl:isMut o=true->∀ u,H a=some u->H' a=some u):RO Γ φ' H' a o:=by
 cases o with
 | lst l =>
  unfold DV.O.bnd at b
  obtain ⟨xs,e,r⟩:=h
  exact ⟨xs,hl rfl _ e,RVL.monoW g l xs b r⟩
 | ro l =>
  unfold DV.O.bnd at b
  obtain ⟨xs,e,r⟩:=h
  exact ⟨xs,⟨e.2 _ g.kp,fun H2 k=>e.2 _ (g.kp.trans k)⟩,RVL.monoW g l xs b r⟩
 | dic l =>
  unfold DV.O.bnd at b
  rw [Bool.and_eq_true] at b
  obtain ⟨kvs,e,r⟩:=h
  exact ⟨kvs,hl rfl _ e,RVD.monoW g l kvs b.2 r⟩
 | ins _ _=>exact h.elim
theorem RO.there {φ:Nat->Addr}{H:Hp}{a:Addr}{o:DV.O}(h:RO Γ φ H a o)(m:isMut o=true):∃ u,H a=some u/\fixd u=false/\∀ ps,u≠.tbl ps:=by
 cases o with
 | lst l=>obtain ⟨xs,e,_⟩:=h;exact ⟨_,e,rfl,by nofun⟩
 | ro l=>cases m
 | dic l=>obtain ⟨xs,e,_⟩:=h;exact ⟨_,e,rfl,by nofun⟩
 | ins _ _=>exact h.elim
theorem Rp.addr {φ:Nat->Addr}{H:Hp}{s:DV.Sto}(p:Rp Γ φ H s){i:Nat}{l:List DV.D}(e:s[i]?=some (.lst l)):∃ xs,H (φ i)=some (.lst xs)/\RVL Γ φ H l xs:=p.obj i _ e
theorem z5 {n m:Nat}(h:n<=m)(o:DV.O)(b:o.bnd n=true):o.bnd m=true:=by
 cases o with
 | lst l=>unfold DV.O.bnd at b ⊢;exact D_bndL_mono h l b
 | ro l=>unfold DV.O.bnd at b ⊢;exact D_bndL_mono h l b
 | dic l =>
  unfold DV.O.bnd at b ⊢
  rw [Bool.and_eq_true] at b ⊢
  exact ⟨D_bndL_mono h _ b.1,D_bndL_mono h _ b.2⟩
 | ins c l=>unfold DV.O.bnd at b ⊢;exact D_bndL_mono h _ b
theorem TabsH.keepF {T:List (Addr×Str)}{H H':Hp}(h:TabsH T H)(k:∀ b o,(fixd o=true\/∃ ps,o=.tbl ps)->H b=some o->H' b=some o):TabsH T H':=fun y hy=>by
 obtain ⟨ps,e,t,c⟩:=h y hy
 refine ⟨ps,k _ _ (.inr ⟨_,rfl⟩) e,t,fun pos cv q=>?_⟩
 obtain ⟨c',e1,e2⟩:=c pos cv q
 exact ⟨c',e1,k _ _ (.inl rfl) e2⟩
theorem Rp.new {φ:Nat->Addr}{H:Hp}{s:DV.Sto}{p:Addr}{u:HO}{o:DV.O}(r:Rp Γ φ H s)(hp:H p=none)(hb:o.bnd s.length=true)
  (ho:∀ φ' H',Gw φ s.length H φ' H'->H' p=some u->RO Γ φ' H' p o):Gr φ s H (fun i=>if i=s.length then p else φ i) (s++[o]) (upd H p u)/\Rp Γ (fun i=>if i=s.length then p else φ i) (upd H p u) (s++[o]):=by
 have g:Gw φ s.length H (fun i=>if i=s.length then p else φ i) (upd H p u):=⟨fun i hi=>if_neg (Nat.ne_of_lt hi),(Kp.refl H).new hp⟩
 have key:∀ i o',(s++[o])[i]?=some o'->(i<s.length/\s[i]?=some o')\/(i=s.length/\o'=o):=fun i o' e=>by
  rcases Nat.lt_trichotomy i s.length with h | h | h
  ·rw [List.getElem?_append_left h] at e;exact .inl ⟨h,e⟩
  ·subst h;simp at e;exact .inr ⟨rfl,e.symm⟩
  ·rw [List.getElem?_eq_none (by simp;omega)] at e;cases e
 refine ⟨⟨g,by simp,fun i h1 h2=>?_,fun i o1 o2 e1 e2=>?_,fun b hb=>?_,fun b ob hb _ _=>by rw [za (zq hb hp)];exact hb⟩,fun i j oi oj ei ej mi mj e=>?_,fun i o' e=>?_,fun i o' e=>?_,r.tab.new hp⟩
 ·rw [List.length_append,List.length_singleton] at h2
  rw [if_pos (by omega)];exact hp
 ·rcases key i o2 e2 with ⟨_,e⟩ | ⟨hi,_⟩
  ·rw [e1] at e;cases e;rfl
  ·have:=(List.getElem?_eq_some_iff.mp e1).1;omega
 ·unfold upd;split
  ·simp
  ·exact hb
 ·rcases key i oi ei with ⟨hi,ei⟩ | ⟨hi,rfl⟩<;>rcases key j oj ej with ⟨hj,ej⟩ | ⟨hj,ej'⟩
  ·rw [if_neg (Nat.ne_of_lt hi),if_neg (Nat.ne_of_lt hj)] at e
   exact r.inj i j oi oj ei ej mi mj e
  ·rw [if_neg (Nat.ne_of_lt hi),if_pos hj] at e
   obtain ⟨u,hu,_,_⟩:=(r.obj i oi ei).there mi
   rw [e,hp] at hu;cases hu
  ·rw [if_neg (Nat.ne_of_lt hj),if_pos hi] at e
   obtain ⟨u,hu,_,_⟩:=(r.obj j oj ej).there mj
   rw [<-e,hp] at hu;cases hu
  ·rw [hi,hj]
 ·rcases key i o' e with ⟨hi,e⟩ | ⟨hi,rfl⟩
  ·show RO Γ _ _ (if i=s.length then p else φ i) o'
   rw [if_neg (Nat.ne_of_lt hi)]
   exact (r.obj i o' e).mono g (r.wf i o' e) fun _ v hv=>by rw [za (zq hv hp)];exact hv
  ·show RO Γ _ _ (if i=s.length then p else φ i) o'
   rw [if_pos hi]
   exact ho _ _ g zb
 ·rw [List.length_append,List.length_singleton]
  rcases key i o' e with ⟨hi,e⟩ | ⟨hi,rfl⟩
  ·exact z5 (Nat.le_succ _) _ (r.wf i o' e)
  ·exact z5 (Nat.le_succ _) _ hb
theorem Rp.set {φ:Nat->Addr}{H:Hp}{s:DV.Sto}{k:Nat}{u:HO}{o o0:DV.O}(r:Rp Γ φ H s)(hk:s[k]?=some o0)(m0:isMut o0=true)(hb:o.bnd s.length=true)
  (ho:∀ H',Gw φ s.length H φ H'->H' (φ k)=some u->RO Γ φ H' (φ k) o) (hkd:okd o=okd o0:=by rfl):Gr φ s H φ (s.set k o) (upd H (φ k) u)/\Rp Γ φ (upd H (φ k) u) (s.set k o):=by
 obtain ⟨v0,hv0,f0,nt0⟩:=(r.obj k o0 hk).there m0
 have hkl:k<s.length:=(List.getElem?_eq_some_iff.mp hk).1
 have g:Gw φ s.length H φ (upd H (φ k) u):=⟨fun _ _=>rfl,(Kp.refl H).put hv0 f0⟩
 have key:∀ i o',(s.set k o)[i]?=some o'->(i≠k/\s[i]?=some o')\/(i=k/\o'=o):=fun i o' e=>by
  by_cases h:i=k
  ·subst h;rw [List.getElem?_set_self hkl] at e;exact .inr ⟨rfl,(Option.some.inj e).symm⟩
  ·rw [List.getElem?_set_ne (Ne.symm h)] at e;exact .inl ⟨h,e⟩
 have mm:∀ i o',(s.set k o)[i]?=some o'->isMut o'=true->∃ o'',s[i]?=some o''/\isMut o''=true:=fun i o' e m=>by
  rcases key i o' e with ⟨_,e⟩ | ⟨h,_⟩
  ·exact ⟨o',e,m⟩
  ·exact ⟨o0,by rw [h];exact hk,m0⟩
 refine ⟨⟨g,by simp,fun i h1 h2=>by rw [List.length_set] at h2;omega,fun i o1 o2 e1 e2=>?_,fun b hb=>?_,fun b ob hb nt ne=>by rw [za (Ne.symm (ne k o0 hk m0))];exact hb⟩,fun i j oi oj ei ej mi mj e=>?_,fun i o' e=>?_,fun i o' e=>?_,r.tab.keepF fun b v hv q=>?_⟩
 ·rcases key i o2 e2 with ⟨_,e⟩ | ⟨h,rfl⟩
  ·rw [e1] at e;cases e;rfl
  ·subst h;rw [hk] at e1;cases e1;exact hkd
 ·unfold upd;split
  ·simp
  ·exact hb
 ·obtain ⟨o1,e1,m1⟩:=mm i oi ei mi
  obtain ⟨o2,e2,m2⟩:=mm j oj ej mj
  exact r.inj i j o1 o2 e1 e2 m1 m2 e
 ·rcases key i o' e with ⟨h,e⟩ | ⟨h,rfl⟩
  ·refine (r.obj i o' e).mono g (r.wf i o' e) fun m v hv=>?_
   rw [za fun z=>h (r.inj i k o' o0 e hk m m0 z)];exact hv
  ·subst h
   exact ho _ g zb
 ·rw [List.length_set]
  rcases key i o' e with ⟨_,e⟩ | ⟨_,rfl⟩
  ·exact r.wf i o' e
  ·exact hb
 ·rw [za fun z=>by
   subst z;rw [hv0] at q;cases q
   rcases hv with h | ⟨ps,h⟩
   ·rw [f0] at h;cases h
   ·exact nt0 _ h]
  exact q
theorem Rp.same {φ:Nat->Addr}{H H':Hp}{s:DV.Sto}(r:Rp Γ φ H s)(e:Same H H'):Gr φ s H φ s H'/\Rp Γ φ H' s:=by
 have g:Gw φ s.length H φ H':=⟨fun _ _=>rfl,fun b o h _=>e b o h⟩
 exact ⟨⟨g,Nat.le_refl _,fun i h1 h2=>absurd h2 (by omega),fun i o o' e e'=>by rw [e] at e';cases e';rfl,fun b hb=>by
  cases q:H b with
  | none=>exact absurd q hb
  | some o=>rw [e b o q];simp,fun b o h _ _=>e b o h⟩,r.inj,fun i o h=>(r.obj i o h).mono g (r.wf i o h) fun _ u hu=>e _ u hu,r.wf,r.tab.same e⟩
section
variable {φ:Nat->Addr} {H:Hp} {s:DV.Sto} {Q:VK}
theorem After.alloc {l:List DV.D}{xs:List V}(h:After Γ φ s H (.ref s.length) (s++[.lst l]) Q)(r:Rp Γ φ H s)(hl:RVL Γ φ H l xs)(hb:DV.D.bndL s.length l=true){p:Addr}(hp:H p=none):Q (.ref p) (upd H p (.lst xs)):=by
 obtain ⟨g,r'⟩:=r.new (o:=.lst l) (u:=.lst xs) hp hb fun φ' H' g e=>⟨xs,e,RVL.monoW g l xs hb hl⟩
 have:=h (.ref p) _ _ g (by simp) (by unfold DV.D.bnd;simp) (by unfold RV;simp) r'
 exact this
theorem After.tup {l:List DV.D}{xs:List V}(h:After Γ φ s H (.tup l) s Q)(r:Rp Γ φ H s)(hl:RVL Γ φ H l xs)(hb:DV.D.bndL s.length l=true){p:Addr}(hp:H p=none):Q (.ref p) (upd H p (.tup xs)):=by
 obtain ⟨g,r'⟩:=r.same (H':=upd H p (.tup xs)) ((Same.refl H).new hp)
 exact h _ _ _ g (Nat.le_refl _) (by unfold DV.D.bnd;exact hb) (RV.tupI (SqT.of zb) (RVL.mono g l xs hb hl)) r'
theorem After.put {k:Nat}{l l0:List DV.D}{xs:List V}{d:DV.D}{v:V}(h:After Γ φ s H d (s.set k (.lst l)) Q)(r:Rp Γ φ H s)(hk:s[k]?=some (.lst l0))(hl:RVL Γ φ H l xs)(hb:DV.D.bndL s.length l=true)
  (hd:d.bnd s.length=true) (hv:RV Γ φ H d v):Q v (upd H (φ k) (.lst xs)):=by
 obtain ⟨g,r'⟩:=r.set (o:=.lst l) (u:=.lst xs) hk rfl hb fun H' g e=>⟨xs,e,RVL.monoW g l xs hb hl⟩
 exact h _ _ _ g (by simp) (by rw [List.length_set];exact hd) (RV.mono g d v hd hv) r'
end
end L2
end
noncomputable section
namespace L2
open PySem PySem.Spec PyProof.Rows
variable {Γ:Gm}
theorem keyOf_inj {a b:DV.D}{k:Key}(ha:keyOf a=some k)(hb:keyOf b=some k):a=b:=by
 cases a with
 | int i =>
  cases ha
  cases b with
  | int j=>cases hb;rfl
  | str y=>cases hb
  | _=>cases hb
 | str x =>
  cases ha
  cases b with
  | int j=>cases hb
  | str y =>
   have h:=Option.some.inj hb
   injection h with h
   injection h with h
   have h2:y=x:=by simpa using h
   rw [h2]
  | _=>cases hb
 | _=>cases ha
theorem key_some {d:DV.D}(h:d.key=true):∃ k,keyOf d=some k:=by
 cases d with
 | int i=>exact ⟨_,rfl⟩
 | str x=>exact ⟨_,rfl⟩
 | _=>cases h
theorem key_kV {φ:Nat->Addr}{H:Hp}{d:DV.D}{k:Key}{v:V}(h:keyOf d=some k)(r:RV Γ φ H d v):v=kV k:=by
 cases d with
 | int i=>cases h;exact r.intE
 | str x=>cases h;exact r.strE
 | _=>cases h
theorem RVD.val {φ:Nat->Addr}{H:Hp}{d:DV.D}{k:Key}(hk:keyOf d=some k):∀ {l:List (DV.D×DV.D)} {kvs:List (Key×V)},RVD Γ φ H l kvs->(DV.look d l=none/\valV kvs k=none)\/∃ e v,DV.look d l=some e/\valV kvs k=some v/\RV Γ φ H e v/\e∈l.map (·.2)
 | [],kvs,h=>by
  have h:kvs=[]:=h
  subst h
  exact .inl ⟨rfl,rfl⟩
 | (a,e)::l,kvs,h=>by
  obtain ⟨k',v,r,rfl,e2,e3,e4⟩:=h
  by_cases z:a=d
  ·subst z
   rw [hk] at e2;cases e2
   exact .inr ⟨e,v,by unfold DV.look;rw [if_pos rfl],valV_pos rfl,e3,by simp⟩
  ·have zk:¬ k'=k:=fun q=>z (keyOf_inj e2 (by rw [q];exact hk))
   have e5:DV.look d ((a,e)::l)=DV.look d l:=by
    conv=>lhs;unfold DV.look
    rw [if_neg z]
   rw [e5,valV_neg (show ¬ (k',v).1=k from zk)]
   rcases RVD.val hk e4 with q | ⟨e',v',q1,q2,q3,q4⟩
   ·exact .inl q
   ·exact .inr ⟨e',v',q1,q2,q3,by simp at q4 ⊢;exact .inr q4⟩
theorem RVD.repl {φ:Nat->Addr}{H:Hp}{d e:DV.D}{k:Key}{v:V}(hk:keyOf d=some k)(hv:RV Γ φ H e v):∀ {l:List (DV.D×DV.D)} {kvs:List (Key×V)},RVD Γ φ H l kvs->RVD Γ φ H (l.map fun p=>if p.1=d then (p.1,e) else p) (kvs.map fun kv=>if kv.1=k then (kv.1,v) else kv)
 | [],kvs,h=>by
  have h:kvs=[]:=h
  subst h;exact (rfl:([]:List (Key×V))=[])
 | (a,e0)::l,kvs,h=>by
  obtain ⟨k',v0,r,rfl,e2,e3,e4⟩:=h
  rw [List.map_cons,List.map_cons]
  by_cases z:a=d
  ·subst z
   rw [hk] at e2;cases e2
   rw [if_pos rfl,if_pos rfl]
   exact ⟨k,v,_,rfl,hk,hv,RVD.repl hk hv e4⟩
  ·have zk:¬ k'=k:=fun q=>z (keyOf_inj e2 (by rw [q];exact hk))
   rw [if_neg z,if_neg zk]
   exact ⟨k',v0,_,rfl,e2,e3,RVD.repl hk hv e4⟩
theorem RVD.snoc {φ:Nat->Addr}{H:Hp}{d e:DV.D}{k:Key}{v:V}(hk:keyOf d=some k)(hv:RV Γ φ H e v):∀ {l:List (DV.D×DV.D)} {kvs:List (Key×V)},RVD Γ φ H l kvs->RVD Γ φ H (l++[(d,e)]) (kvs++[(k,v)])
 | [],kvs,h=>by
  have h:kvs=[]:=h
  subst h;exact ⟨k,v,[],rfl,hk,hv,rfl⟩
 | (a,e0)::l,kvs,h=>by
  obtain ⟨k',v0,r,rfl,e2,e3,e4⟩:=h
  exact ⟨k',v0,_,rfl,e2,e3,RVD.snoc hk hv e4⟩
theorem RVD.put {φ:Nat->Addr}{H:Hp}{d e:DV.D}{k:Key}{v:V}{l:List (DV.D×DV.D)}{kvs:List (Key×V)}(hk:keyOf d=some k)(hv:RV Γ φ H e v)(h:RVD Γ φ H l kvs):RVD Γ φ H (DV.putD d e l) (putK kvs k v):=by
 unfold DV.putD putK
 rw [valV_any]
 rcases h.val hk with ⟨q1,q2⟩ | ⟨e',v',q1,q2,_⟩
 ·rw [q1,q2];exact h.snoc hk hv
 ·rw [q1,q2];exact h.repl hk hv
theorem RVD.length {φ:Nat->Addr}{H:Hp}:∀ {l:List (DV.D×DV.D)} {kvs:List (Key×V)},RVD Γ φ H l kvs->kvs.length=l.length
 | [],kvs,h=>by
  have h:kvs=[]:=h
  subst h;rfl
 | (a,e)::l,kvs,h=>by
  obtain ⟨k',v,r,rfl,e2,e3,e4⟩:=h
  rw [List.length_cons,List.length_cons,RVD.length e4]
theorem putD_bnd {n:Nat}{d e:DV.D}{l:List (DV.D×DV.D)}(h:(DV.O.dic l).bnd n=true)(hd:d.bnd n=true)(he:e.bnd n=true):(DV.O.dic (DV.putD d e l)).bnd n=true:=by
 unfold DV.O.bnd at h ⊢
 rw [Bool.and_eq_true] at h ⊢
 obtain ⟨h1,h2⟩:=h
 have g1:=bndL_iff.mp h1
 have g2:=bndL_iff.mp h2
 unfold DV.putD
 refine ⟨bndL_iff.mpr fun x hx=>?_,bndL_iff.mpr fun x hx=>?_⟩
 ·obtain ⟨p,hp,rfl⟩:=List.mem_map.mp hx
  split at hp
  ·obtain ⟨q,hq,rfl⟩:=List.mem_map.mp hp
   split
   ·exact g1 _ (List.mem_map_of_mem (f:=(·.1)) hq)
   ·exact g1 _ (List.mem_map_of_mem (f:=(·.1)) hq)
  ·rcases List.mem_append.mp hp with q | q
   ·exact g1 _ (List.mem_map_of_mem (f:=(·.1)) q)
   ·rw [List.mem_singleton.mp q];exact hd
 ·obtain ⟨p,hp,rfl⟩:=List.mem_map.mp hx
  split at hp
  ·obtain ⟨q,hq,rfl⟩:=List.mem_map.mp hp
   split
   ·exact he
   ·exact g2 _ (List.mem_map_of_mem (f:=(·.2)) hq)
  ·rcases List.mem_append.mp hp with q | q
   ·exact g2 _ (List.mem_map_of_mem (f:=(·.2)) q)
   ·rw [List.mem_singleton.mp q];exact he
theorem eqL_cons {f:DV.D->DV.D->Option Bool}{a b:DV.D}{l m:List DV.D}{z:Bool}(h:DV.eqL f (a::l) (b::m)=some z):∃ x y,f a b=some x/\DV.eqL f l m=some y/\z=(x&&y):=by
 unfold DV.eqL at h
 cases e1:f a b with
 | none=>rw [e1] at h;cases h
 | some x =>
  cases e2:DV.eqL f l m with
  | none=>rw [e1,e2] at h;cases h
  | some y=>rw [e1,e2] at h;exact ⟨x,y,rfl,rfl,(Option.some.inj h).symm⟩
theorem eqL_at {f:DV.D->DV.D->Option Bool}:∀ {l m:List DV.D} {z:Bool},DV.eqL f l m=some z->∃ e:Nat->Bool,(∀ j d d',l[j]?=some d->m[j]?=some d'->f d d'=some (e j))/\((l.length==m.length)&&(List.range (min l.length m.length)).all e)=z
 | [],[],z,h=>by
  unfold DV.eqL at h
  cases h
  exact ⟨fun _=>true,fun j d d' h=>by simp at h,by simp⟩
 | [],b::m,z,h=>by
  unfold DV.eqL at h
  cases h
  exact ⟨fun _=>true,fun j d d' h=>by simp at h,by simp⟩
 | a::l,[],z,h=>by
  unfold DV.eqL at h
  cases h
  exact ⟨fun _=>true,fun j d d' h1 h2=>by simp at h2,by simp⟩
 | a::l,b::m,z,h=>by
  obtain ⟨x,y,e1,e2,ez⟩:=eqL_cons h
  obtain ⟨e,h1,h2⟩:=eqL_at e2
  refine ⟨fun j=>match j with | 0=>x | j+1=>e j,fun j d d' g1 g2=>?_,?_⟩
  ·cases j with
   | zero=>simp at g1 g2;subst g1;subst g2;exact e1
   | succ j=>exact h1 j d d' (by simpa using g1) (by simpa using g2)
  ·rw [List.length_cons,List.length_cons,show min (l.length+1) (m.length+1)=min l.length m.length+1 by omega,List.range_succ_eq_map,List.all_cons,List.all_map,ez,<-h2]
   have:((l.length+1==m.length+1)=(l.length==m.length)):=by
    by_cases q:l.length=m.length
    ·simp [q]
    ·have:¬ l.length+1=m.length+1:=by omega
     simp [q]
   rw [this]
   show ((l.length==m.length)&&(x&&(List.range _).all e))=_
   cases x<;>cases (l.length==m.length)<;>simp
section
variable {X:Cx} {pins:List (Addr×Obj)} {σ:St} {H:Hp} {sh:Shared} {φ:Nat->Addr} {s:DV.Sto}
theorem lst_not_tup (I:Inv X pins σ H sh){a:Addr}{xs ys:List V}(h:H a=some (.lst xs))(h':SqT X.K H a ys):False:=by
 rcases h' with (z | ⟨o,z⟩) | ⟨o,its,n,hk,_⟩
 ·rw [h] at z;cases z
 ·rw [h] at z;cases z
 ·have:=(I.bs a o (I.mod.kin a o hk)).2
  rw [h] at this;cases this
theorem rv_two (I:Inv X pins σ H sh)(hK:X.K=Γ.K)(R:Rp Γ φ H s){a b:DV.D}{x:V}(h1:RV Γ φ H a x)(h2:RV Γ φ H b x)(n1:DV.kd s a≠9)(n2:DV.kd s b≠9):a=b\/∃ l m p xs,a=.tup l/\b=.tup m/\x=.ref p/\RVL Γ φ H l xs/\RVL Γ φ H m xs:=by
 have ofR:∀ {r:Nat},DV.kd s (.ref r)≠9->∃ l,s[r]?=some (.lst l):=fun {r} h=>by
  have h:(match s[r]? with | some (DV.O.lst l)=>4 | _=>9:Nat)≠9:=h
  cases hs:s[r]? with
  | none=>rw [hs] at h;exact absurd rfl h
  | some o =>
   rw [hs] at h
   cases o with
   | lst l=>exact ⟨l,rfl⟩
   | _=>exact absurd rfl h
 cases a with
 | non=>have e:=h1.nonE;subst e;cases b with
  | non=>exact .inl rfl
  | bl _=>cases h2.blE
  | int _=>cases h2.intE
  | str _=>cases h2.strE
  | tup _=>obtain ⟨_,_,e,_⟩:=h2.tupE;cases e
  | ref _=>cases h2.refE
  | fn _=>exact absurd rfl n2
  | clo _ _=>exact absurd rfl n2
 | bl p=>have e:=h1.blE;subst e;cases b with
  | non=>cases h2.nonE
  | bl _=>cases h2.blE;exact .inl rfl
  | int _=>cases h2.intE
  | str _=>cases h2.strE
  | tup _=>obtain ⟨_,_,e,_⟩:=h2.tupE;cases e
  | ref _=>cases h2.refE
  | fn _=>exact absurd rfl n2
  | clo _ _=>exact absurd rfl n2
 | int p=>have e:=h1.intE;subst e;cases b with
  | non=>cases h2.nonE
  | bl _=>cases h2.blE
  | int _=>cases h2.intE;exact .inl rfl
  | str _=>cases h2.strE
  | tup _=>obtain ⟨_,_,e,_⟩:=h2.tupE;cases e
  | ref _=>cases h2.refE
  | fn _=>exact absurd rfl n2
  | clo _ _=>exact absurd rfl n2
 | str p=>have e:=h1.strE;subst e;cases b with
  | non=>cases h2.nonE
  | bl _=>cases h2.blE
  | int _=>cases h2.intE
  | str q =>
   have e':p.toArray=q.toArray:=Str.mk.inj (V.str.inj h2.strE)
   have e'':p=q:=by simpa using congrArg Array.toList e'
   subst e'';exact .inl rfl
  | tup _=>obtain ⟨_,_,e,_⟩:=h2.tupE;cases e
  | ref _=>cases h2.refE
  | fn _=>exact absurd rfl n2
  | clo _ _=>exact absurd rfl n2
 | tup l =>
  obtain ⟨p,xs,e,q1,d1⟩:=h1.tupE;subst e;cases b with
  | non=>cases h2.nonE
  | bl _=>cases h2.blE
  | int _=>cases h2.intE
  | str _=>cases h2.strE
  | tup m =>
   obtain ⟨p',ys,e,q2,d2⟩:=h2.tupE
   cases e
   rw [<-hK] at q1 q2
   rw [I.tuple_inj q2 q1] at d2
   exact .inr ⟨l,m,p,xs,rfl,rfl,rfl,d1,d2⟩
  | ref r =>
   cases h2.refE
   obtain ⟨m,hm⟩:=ofR n2
   obtain ⟨ys,hy,_⟩:=R.addr hm
   rw [<-hK] at q1
   exact (lst_not_tup I hy q1).elim
  | fn _=>exact absurd rfl n2
  | clo _ _=>exact absurd rfl n2
 | ref r =>
  have e:=h1.refE;subst e
  obtain ⟨l,hl⟩:=ofR n1
  obtain ⟨xs,hx,_⟩:=R.addr hl
  cases b with
  | non=>cases h2.nonE
  | bl _=>cases h2.blE
  | int _=>cases h2.intE
  | str _=>cases h2.strE
  | tup m =>
   obtain ⟨p',ys,e,q2,d2⟩:=h2.tupE
   cases e
   rw [<-hK] at q2
   exact (lst_not_tup I hx q2).elim
  | ref r' =>
   obtain ⟨m,hm⟩:=ofR n2
   have e:φ r=φ r':=V.ref.inj h2.refE
   rw [R.inj r r' _ _ hl hm rfl rfl e]
   exact .inl rfl
  | fn _=>exact absurd rfl n2
  | clo _ _=>exact absurd rfl n2
 | fn _=>exact absurd rfl n1
 | clo _ _=>exact absurd rfl n1
theorem qx {a b:DV.D}{z:Bool}(h:DV.eqAtom s a b=some z):DV.eqLit a b=some z\/(DV.eqLit a b=none/\DV.kdBad (DV.kd s a) (DV.kd s b)=false/\z=false):=by
 unfold DV.eqAtom at h
 cases e:DV.eqLit a b with
 | some w=>rw [e] at h;exact .inl h
 | none =>
  rw [e] at h
  cases q:DV.kdBad (DV.kd s a) (DV.kd s b) with
  | true=>rw [q] at h;cases h
  | false=>rw [q] at h;exact .inr ⟨rfl,rfl,(Option.some.inj h).symm⟩
theorem eqLit_kd {a b:DV.D}{z:Bool}(h:DV.eqLit a b=some z):DV.kd s a≠9/\DV.kd s b≠9:=by
 cases a<;>cases b<;>first | (cases h;done) | (constructor<;>(intro z;cases z))
theorem eqAtom_kd {a b:DV.D}{z:Bool}(h:DV.eqAtom s a b=some z):DV.kd s a≠9/\DV.kd s b≠9:=by
 rcases qx h with h | ⟨_,h,_⟩
 ·exact eqLit_kd h
 ·unfold DV.kdBad at h
  simp only [Bool.or_eq_false_iff,beq_eq_false_iff_ne] at h
  exact ⟨h.1.1,h.1.2⟩
theorem eqAtom_self {a:DV.D}{z:Bool}(h:DV.eqAtom s a a=some z):z=true:=by
 rcases qx h with h | ⟨_,h,_⟩
 ·cases a<;>cases h<;>first | rfl | exact beq_self_eq_true _
 ·unfold DV.kdBad at h;simp at h
theorem eqv_same (I:Inv X pins σ H sh)(hK:X.K=Γ.K)(R:Rp Γ φ H s):∀ (n:Nat) (a b:DV.D) (x:V) (z:Bool),DV.eqv s n a b=some z->RV Γ φ H a x->RV Γ φ H b x->z=true:=by
 have atom:∀ (a b:DV.D) (x:V) (z:Bool),DV.eqAtom s a b=some z->RV Γ φ H a x->RV Γ φ H b x->z=true:=by
  intro a b x z h h1 h2
  rcases rv_two I hK R h1 h2 (eqAtom_kd h).1 (eqAtom_kd h).2 with e | ⟨l,m,_,_,rfl,rfl,_⟩
  ·subst e;exact eqAtom_self h
  ·rcases qx h with h | ⟨_,h,_⟩
   ·cases h
   ·unfold DV.kdBad at h;simp [DV.kd] at h
 intro n
 induction n with
 | zero=>intro a b x z h;unfold DV.eqv at h;exact atom a b x z h
 | succ n ih =>
  have ihL:∀ (l m:List DV.D) (xs:List V) (z:Bool),DV.eqL (DV.eqv s n) l m=some z->RVL Γ φ H l xs->RVL Γ φ H m xs->z=true:=by
   intro l
   induction l with
   | nil =>
    intro m xs z h h1 h2
    cases m with
    | nil=>unfold DV.eqL at h;exact (Option.some.inj h).symm
    | cons b m=>obtain ⟨x,r,e,_⟩:=h2.uncons;rw [h1.unnil] at e;cases e
   | cons a l ihl =>
    intro m xs z h h1 h2
    cases m with
    | nil=>obtain ⟨x,r,e,_⟩:=h1.uncons;rw [h2.unnil] at e;cases e
    | cons b m =>
     obtain ⟨p,q,e1,e2,ez⟩:=eqL_cons h
     obtain ⟨v,r,rfl,g1,g2⟩:=h1.uncons
     obtain ⟨v',r',e,g3,g4⟩:=h2.uncons
     cases e
     rw [ez,ih a b v p e1 g1 g3,ihl m r q e2 g2 g4];rfl
  intro a b x z h h1 h2
  unfold DV.eqv at h
  split at h
  ·rename_i l m
   obtain ⟨a,xs,rfl,q1,d1⟩:=h1.tupE
   obtain ⟨b,ys,e,q2,d2⟩:=h2.tupE
   cases e
   rw [<-hK] at q1 q2
   rw [I.tuple_inj q2 q1] at d2
   exact ihL l m xs z h d1 d2
  ·rename_i p q
   split at h
   ·rename_i l m hl hm
    obtain ⟨xs,e1,d1⟩:=R.addr hl
    obtain ⟨ys,e2,d2⟩:=R.addr hm
    have e:=h1.refE.symm.trans h2.refE
    have e':φ p=φ q:=V.ref.inj e
    rw [e',e2] at e1
    have e3:ys=xs:=by injection (Option.some.inj e1)
    subst e3
    split at h
    ·exact ihL l m ys z h d1 d2
    ·rename_i hlen;exact absurd (d1.length.symm.trans d2.length) hlen
   ·cases h
  ·exact atom a b x z h h1 h2
end
end L2
end
noncomputable section
namespace L2
open PySem PySem.Spec PyProof.Rows
variable {Γ:Gm}
inductive Vw (sh:Shared):Nat->Value->Prop where
 | non:Vw sh 0 .none
 | bl (b:Bool):Vw sh 1 (.bool b)
 | int (i:Int) (t:Tok):Vw sh 1 (.int i t)
 | str (x:Str) (t:Tok):Vw sh 2 (.str x t)
 | tup {l:Addr} {items:Array Value} (h:sh.heap.IsTuple l items):Vw sh 3 (.ref l)
 | lst {l:Addr} {items:Array Value} (h:sh.heap.IsList l items):Vw sh 4 (.ref l)
theorem Vw.eq {A:Around}{sh:Shared}{k k':Nat}{u v:Value}(a:Vw sh k u)(b:Vw sh k' v)(hne:k≠k')(hu:A.units<cLine):SeqAt.EqAt A sh u v false:=by
 cases a with
 | non=>cases b with
  | non=>exact absurd rfl hne
  | bl b=>exact SeqAt.EqAt.none_bool b
  | int i t=>exact SeqAt.EqAt.none_int i t
  | str x t=>exact SeqAt.EqAt.none_str x t
  | tup h=>exact SeqAt.EqAt.none_tuple h hu
  | lst h=>exact SeqAt.EqAt.none_list h hu
 | bl a=>cases b with
  | non=>exact SeqAt.EqAt.bool_none a
  | bl b=>exact absurd rfl hne
  | int i t=>exact absurd rfl hne
  | str x t=>exact SeqAt.EqAt.bool_str a x t
  | tup h=>exact SeqAt.EqAt.bool_tuple a h hu
  | lst h=>exact SeqAt.EqAt.bool_list a h hu
 | int a q=>cases b with
  | non=>exact SeqAt.EqAt.int_none a q
  | bl b=>exact absurd rfl hne
  | int i t=>exact absurd rfl hne
  | str x t=>exact SeqAt.EqAt.int_str a q x t
  | tup h=>exact SeqAt.EqAt.int_tuple a q h hu
  | lst h=>exact SeqAt.EqAt.int_list a q h hu
 | str a q=>cases b with
  | non=>exact SeqAt.EqAt.str_none a q
  | bl b=>exact SeqAt.EqAt.str_bool a q b
  | int i t=>exact SeqAt.EqAt.str_int a q i t
  | str x t=>exact absurd rfl hne
  | tup h=>exact SeqAt.EqAt.str_tuple a q h hu
  | lst h=>exact SeqAt.EqAt.str_list a q h hu
 | tup g=>cases b with
  | non=>exact SeqAt.EqAt.tuple_none g hu
  | bl b=>exact SeqAt.EqAt.tuple_bool b g hu
  | int i t=>exact SeqAt.EqAt.tuple_int i t g hu
  | str x t=>exact SeqAt.EqAt.tuple_str x t g hu
  | tup h=>exact absurd rfl hne
  | lst h=>exact SeqAt.EqAt.tuple_list g h hu
 | lst g=>cases b with
  | non=>exact SeqAt.EqAt.list_none g hu
  | bl b=>exact SeqAt.EqAt.list_bool b g hu
  | int i t=>exact SeqAt.EqAt.list_int i t g hu
  | str x t=>exact SeqAt.EqAt.list_str x t g hu
  | tup h=>exact SeqAt.EqAt.list_tuple g h hu
  | lst h=>exact absurd rfl hne
theorem Vw.rc {A:Around}{sh:Shared}{k k':Nat}{u v:Value}(a:Vw sh k u)(b:Vw sh k' v)(hne:k≠k')(hu:A.units<cLine):SeqAt.RcAt A sh u v false:=by
 cases a with
 | non=>cases b with
  | non=>exact absurd rfl hne
  | bl b=>exact SeqAt.RcAt.none_bool b
  | int i t=>exact SeqAt.RcAt.none_int i t
  | str x t=>exact SeqAt.RcAt.none_str x t
  | tup h=>exact SeqAt.RcAt.none_tuple h hu
  | lst h=>exact SeqAt.RcAt.none_list h hu
 | bl a=>cases b with
  | non=>exact SeqAt.RcAt.bool_none a
  | bl b=>exact absurd rfl hne
  | int i t=>exact absurd rfl hne
  | str x t=>exact SeqAt.RcAt.bool_str a x t
  | tup h=>exact SeqAt.RcAt.bool_tuple a h hu
  | lst h=>exact SeqAt.RcAt.bool_list a h hu
 | int a q=>cases b with
  | non=>exact SeqAt.RcAt.int_none a q
  | bl b=>exact absurd rfl hne
  | int i t=>exact absurd rfl hne
  | str x t=>exact SeqAt.RcAt.int_str a q x t
  | tup h=>exact SeqAt.RcAt.int_tuple a q h hu
  | lst h=>exact SeqAt.RcAt.int_list a q h hu
 | str a q=>cases b with
  | non=>exact SeqAt.RcAt.str_none a q
  | bl b=>exact SeqAt.RcAt.str_bool a q b
  | int i t=>exact SeqAt.RcAt.str_int a q i t
  | str x t=>exact absurd rfl hne
  | tup h=>exact SeqAt.RcAt.str_tuple a q h hu
  | lst h=>exact SeqAt.RcAt.str_list a q h hu
 | tup g=>cases b with
  | non=>exact SeqAt.RcAt.tuple_none g hu
  | bl b=>exact SeqAt.RcAt.tuple_bool b g hu
  | int i t=>exact SeqAt.RcAt.tuple_int i t g hu
  | str x t=>exact SeqAt.RcAt.tuple_str x t g hu
  | tup h=>exact absurd rfl hne
  | lst h=>exact SeqAt.RcAt.tuple_list g h hu
 | lst g=>cases b with
  | non=>exact SeqAt.RcAt.list_none g hu
  | bl b=>exact SeqAt.RcAt.list_bool b g hu
  | int i t=>exact SeqAt.RcAt.list_int i t g hu
  | str x t=>exact SeqAt.RcAt.list_str x t g hu
  | tup h=>exact SeqAt.RcAt.list_tuple g h hu
  | lst h=>exact absurd rfl hne
theorem Vw.ne {A:Around}{sh:Shared}{k k':Nat}{u v:Value}(a:Vw sh k u)(b:Vw sh k' v)(hne:k≠k')(hu:A.units<cLine):SeqAt.RcNeAt A sh u v true:=by
 cases a with
 | non=>cases b with
  | non=>exact absurd rfl hne
  | bl b=>exact SeqAt.RcNeAt.none_bool b
  | int i t=>exact SeqAt.RcNeAt.none_int i t
  | str x t=>exact SeqAt.RcNeAt.none_str x t
  | tup h=>exact SeqAt.RcNeAt.none_tuple h hu
  | lst h=>exact SeqAt.RcNeAt.none_list h hu
 | bl a=>cases b with
  | non=>exact SeqAt.RcNeAt.bool_none a
  | bl b=>exact absurd rfl hne
  | int i t=>exact absurd rfl hne
  | str x t=>exact SeqAt.RcNeAt.bool_str a x t
  | tup h=>exact SeqAt.RcNeAt.bool_tuple a h hu
  | lst h=>exact SeqAt.RcNeAt.bool_list a h hu
 | int a q=>cases b with
  | non=>exact SeqAt.RcNeAt.int_none a q
  | bl b=>exact absurd rfl hne
  | int i t=>exact absurd rfl hne
  | str x t=>exact SeqAt.RcNeAt.int_str a q x t
  | tup h=>exact SeqAt.RcNeAt.int_tuple a q h hu
  | lst h=>exact SeqAt.RcNeAt.int_list a q h hu
 | str a q=>cases b with
  | non=>exact SeqAt.RcNeAt.str_none a q
  | bl b=>exact SeqAt.RcNeAt.str_bool a q b
  | int i t=>exact SeqAt.RcNeAt.str_int a q i t
  | str x t=>exact absurd rfl hne
  | tup h=>exact SeqAt.RcNeAt.str_tuple a q h hu
  | lst h=>exact SeqAt.RcNeAt.str_list a q h hu
 | tup g=>cases b with
  | non=>exact SeqAt.RcNeAt.tuple_none g hu
  | bl b=>exact SeqAt.RcNeAt.tuple_bool b g hu
  | int i t=>exact SeqAt.RcNeAt.tuple_int i t g hu
  | str x t=>exact SeqAt.RcNeAt.tuple_str x t g hu
  | tup h=>exact absurd rfl hne
  | lst h=>exact SeqAt.RcNeAt.tuple_list g h hu
 | lst g=>cases b with
  | non=>exact SeqAt.RcNeAt.list_none g hu
  | bl b=>exact SeqAt.RcNeAt.list_bool b g hu
  | int i t=>exact SeqAt.RcNeAt.list_int i t g hu
  | str x t=>exact SeqAt.RcNeAt.list_str x t g hu
  | tup h=>exact SeqAt.RcNeAt.list_tuple g h hu
  | lst h=>exact absurd rfl hne
theorem mk_beq (a b:List Nat):((⟨a.toArray⟩:Str)==⟨b.toArray⟩)=(a==b):=by
 by_cases e:a=b
 ·subst e;simp
 ·have:(⟨a.toArray⟩:Str)≠⟨b.toArray⟩:=fun q=>e (by simpa using congrArg (fun z=>z.cps.toList) q)
  rw [beq_eq_false_iff_ne.mpr this,beq_eq_false_iff_ne.mpr e]
structure Cmp (A:Around)(sh:Shared)(u v:Value)(z:Bool):Prop where
 rc:SeqAt.RcAt A sh u v z
 ne:SeqAt.RcNeAt A sh u v (!z)
section
variable {X:Cx} {pins:List (Addr×Obj)} {σ:St} {H:Hp} {sh:Shared} {φ:Nat->Addr} {s:DV.Sto}
theorem vw_of (I:Inv X pins σ H sh)(hK:X.K=Γ.K)(R:Rp Γ φ H s){d:DV.D}{x:V}{u:Value}(h:RV Γ φ H d x)(r:RelV x u)(hk:DV.kd s d≠9):Vw sh (DV.kd s d) u:=by
 cases d with
 | non=>have e:=h.nonE;subst e;cases r;exact .non
 | bl b=>have e:=h.blE;subst e;cases r;exact .bl b
 | int i=>have e:=h.intE;subst e;obtain ⟨t,rfl⟩:=r;exact .int i t
 | str y=>have e:=h.strE;subst e;obtain ⟨t,rfl⟩:=r;exact .str _ t
 | tup l =>
  obtain ⟨a,xs,e,q,_⟩:=h.tupE
  subst e;cases r
  rw [<-hK] at q
  obtain ⟨its,_,t,_⟩:=I.tuple q
  exact .tup t
 | ref n =>
  have e:=h.refE;subst e;cases r
  have hk:(match s[n]? with | some (DV.O.lst l)=>4 | _=>9:Nat)≠9:=hk
  show Vw sh (match s[n]? with | some (DV.O.lst l)=>4 | _=>9:Nat) _
  cases hs:s[n]? with
  | none=>rw [hs] at hk;exact absurd rfl hk
  | some o =>
   rw [hs] at hk
   cases o with
   | lst l =>
    obtain ⟨xs,e,_⟩:=R.addr hs
    obtain ⟨its,_,t,_⟩:=I.list (SqL.of e)
    exact .lst t.isList
   | _=>exact absurd rfl hk
 | fn _=>exact absurd rfl hk
 | clo _ _=>exact absurd rfl hk
theorem eqAtom_ok (I:Inv X pins σ H sh)(hK:X.K=Γ.K)(R:Rp Γ φ H s){a b:DV.D}{x y:V}{u v:Value}{A:Around}{z:Bool}(h:DV.eqAtom s a b=some z)(h1:RV Γ φ H a x)(h2:RV Γ φ H b y)(r1:RelV x u)(r2:RelV y v)(hu:A.units<cLine) :
  SeqAt.EqAt A sh u v z/\Cmp A sh u v z:=by
 rcases qx h with h | ⟨_,hn,hz⟩
 ·cases a<;>cases b<;>try cases h
  ·cases h1.nonE;cases h2.nonE;cases r1;cases r2
   exact ⟨SeqAt.EqAt.same _,SeqAt.RcAt.none_none,SeqAt.RcNeAt.none_none⟩
  ·cases h1.blE;cases h2.blE;cases r1;cases r2
   exact ⟨SeqAt.EqAt.bool_bool _ _,SeqAt.RcAt.bool_bool _ _,SeqAt.RcNeAt.bool_bool _ _⟩
  ·cases h1.blE;cases h2.intE;cases r1;obtain ⟨t',rfl⟩:=r2
   exact ⟨SeqAt.EqAt.bool_int _ _ _,SeqAt.RcAt.bool_int _ _ _,SeqAt.RcNeAt.bool_int _ _ _⟩
  ·cases h1.intE;cases h2.blE;obtain ⟨t,rfl⟩:=r1;cases r2
   exact ⟨SeqAt.EqAt.int_bool _ _ _,SeqAt.RcAt.int_bool _ _ _,SeqAt.RcNeAt.int_bool _ _ _⟩
  ·cases h1.intE;cases h2.intE;obtain ⟨t,rfl⟩:=r1;obtain ⟨t',rfl⟩:=r2
   exact ⟨SeqAt.EqAt.int_int _ _ _ _,SeqAt.RcAt.int_int _ _ _ _,SeqAt.RcNeAt.int_int _ _ _ _⟩
  ·cases h1.strE;cases h2.strE;obtain ⟨t,rfl⟩:=r1;obtain ⟨t',rfl⟩:=r2
   rw [<-mk_beq]
   exact ⟨SeqAt.EqAt.str_str _ _ _ _,SeqAt.RcAt.str_str _ _ _ _,SeqAt.RcNeAt.str_str _ _ _ _⟩
 ·subst hz
  unfold DV.kdBad at hn
  simp only [Bool.or_eq_false_iff,beq_eq_false_iff_ne] at hn
  have w1:=vw_of I hK R h1 r1 hn.1.1
  have w2:=vw_of I hK R h2 r2 hn.1.2
  exact ⟨w1.eq w2 hn.2 hu,w1.rc w2 hn.2 hu,w1.ne w2 hn.2 hu⟩
theorem eqv_ok (I:Inv X pins σ H sh)(hK:X.K=Γ.K)(R:Rp Γ φ H s):∀ (n:Nat) (a b:DV.D) (x y:V) (u v:Value) (A:Around) (z:Bool),DV.eqv s n a b=some z->RV Γ φ H a x->RV Γ φ H b y->RelV x u->RelV y v->Room n A ->
  SeqAt.EqAt A sh u v z/\Cmp A sh u v z:=by
 intro n
 induction n with
 | zero=>intro a b x y u v A z h h1 h2 r1 r2 hr;unfold DV.eqv at h;exact eqAtom_ok I hK R h h1 h2 r1 r2 hr.units0
 | succ n ih =>
  have items:∀ {l m:List DV.D} {xs ys:List V} {its its':List Value} {A:Around} {e:Nat->Bool},RVL Γ φ H l xs->RVL Γ φ H m ys->Vals xs its->Vals ys its'->Room n A->(∀ j d d',l[j]?=some d->m[j]?=some d'->DV.eqv s n d d'=some (e j)) ->
    ∀ j (h1:j<its.toArray.size) (h2:j<its'.toArray.size),SeqAt.EqAt A sh its.toArray[j] its'.toArray[j] (e j):=by
   intro l m xs ys its its' A e d1 d2 v1 v2 hr he j h1 h2
   have l1:=v1.length
   have l2:=v2.length
   have e1:=d1.length
   have e2:=d2.length
   have h1':j<its.length:=by simpa using h1
   have h2':j<its'.length:=by simpa using h2
   have hj:j<l.length:=by omega
   have hj':j<m.length:=by omega
   obtain ⟨x,ex,dx⟩:=d1.get (List.getElem?_eq_getElem hj)
   obtain ⟨y,ey,dy⟩:=d2.get (List.getElem?_eq_getElem hj')
   obtain ⟨u,eu,ru⟩:=v1.get ex
   obtain ⟨w,ew,rw'⟩:=v2.get ey
   have g1:its.toArray[j]=u:=by
    have:=List.getElem?_eq_getElem h1'
    rw [eu] at this
    simpa using (Option.some.inj this).symm
   have g2:its'.toArray[j]=w:=by
    have:=List.getElem?_eq_getElem h2'
    rw [ew] at this
    simpa using (Option.some.inj this).symm
   rw [g1,g2]
   exact (ih _ _ x y u w A (e j) (he j _ _ (List.getElem?_eq_getElem hj) (List.getElem?_eq_getElem hj')) dx dy ru rw' hr).1
  intro a b x y u v A z h h1 h2 r1 r2 hr
  have hz:=h
  unfold DV.eqv at h
  split at h
  ·rename_i l m
   obtain ⟨p,xs,ex,q1,d1⟩:=id h1.tupE
   obtain ⟨q,ys,ey,q2,d2⟩:=id h2.tupE
   subst ex;subst ey
   cases r1;cases r2
   rw [<-hK] at q1 q2
   obtain ⟨its,v1,t1,_⟩:=I.tuple q1
   obtain ⟨its',v2,t2,_⟩:=I.tuple q2
   obtain ⟨e,he,hall⟩:=eqL_at h
   have l1:=v1.length
   have l2:=v2.length
   have e1:=d1.length
   have e2:=d2.length
   have sz:((List.range (min its.toArray.size its'.toArray.size)).all e&&its.toArray.size==its'.toArray.size)=z:=by
    rw [<-hall,Bool.and_comm,show its.toArray.size=l.length by simp;omega,show its'.toArray.size=m.length by simp;omega]
   have key:=SeqAt.RcAt.tuples (A:=A) (s:=sh) (e:=e) t1 t2 hr.units0 (items d1 d2 v1 v2 hr.in1 he)
   have kne:=SeqAt.RcNeAt.tuples (A:=A) (s:=sh) (e:=e) t1 t2 hr.units0 (items d1 d2 v1 v2 hr.in1 he)
   rw [sz] at key kne
   refine ⟨?_,key,kne⟩
   by_cases hab:p=q
   ·subst hab
    rw [eqv_same I hK R _ _ _ _ _ hz h1 h2]
    exact SeqAt.EqAt.same _
   ·exact SeqAt.EqAt.of_refs hab key
  ·rename_i p q
   split at h
   ·rename_i l m hl hm
    obtain ⟨xs,e1,d1⟩:=R.addr hl
    obtain ⟨ys,e2,d2⟩:=R.addr hm
    have ex:=h1.refE
    have ey:=h2.refE
    subst ex;subst ey
    cases r1;cases r2
    obtain ⟨its,v1,t1,_⟩:=I.list (SqL.of e1)
    obtain ⟨its',v2,t2,_⟩:=I.list (SqL.of e2)
    have l1:=v1.length
    have l2:=v2.length
    have c1:=d1.length
    have c2:=d2.length
    have fin:Cmp A sh (.ref (φ p)) (.ref (φ q)) z:=by
     split at h
     ·rename_i hlen
      obtain ⟨e,he,hall⟩:=eqL_at h
      have sz:(List.range its.toArray.size).all e=z:=by
       rw [<-hall,show its.toArray.size=l.length by simp;omega,hlen]
       simp
      have key:=SeqAt.RcAt.lists (A:=A) (s:=sh) (e:=e) t1.isList t2.isList (by simp;omega) hr.units0 (items d1 d2 v1 v2 hr.in1 he)
      have kne:=SeqAt.RcNeAt.lists (A:=A) (s:=sh) (e:=e) t1.isList t2.isList (by simp;omega) hr.units0 (items d1 d2 v1 v2 hr.in1 he)
      rw [sz] at key kne
      exact ⟨key,kne⟩
     ·rename_i hlen
      cases h
      have hs:(its.toArray.size != its'.toArray.size)=true:=by simp;omega
      exact ⟨SeqAt.RcAt.lists_lengths t1.isList t2.isList hs hr.units0,SeqAt.RcNeAt.lists_lengths t1.isList t2.isList hs hr.units0⟩
    refine ⟨?_,fin⟩
    by_cases hab:φ p=φ q
    ·rw [eqv_same I hK R _ _ _ _ _ hz RV.refI (by rw [hab];exact RV.refI),hab]
     exact SeqAt.EqAt.same _
    ·exact SeqAt.EqAt.of_refs hab fin.rc
   ·cases h
  ·exact eqAtom_ok I hK R h h1 h2 r1 r2 hr.units0
end
end L2
end
noncomputable section
namespace L2
open PySem PySem.Spec PyProof.Rows
variable {Γ:Gm} {X:Cx}
noncomputable def opOf:DV.BOp->Operator
 | .add=>.Add | .sub=>.Sub | .mul=>.Mult | .fdiv=>.FloorDiv | .mod=>.Mod | .pow=>.Pow | .shl=>.LShift | .shr=>.RShift | .band=>.BitAnd | .bor=>.BitOr
noncomputable def copOf:DV.COp->CmpOp
 | .eq=>.Eq | .ne=>.NotEq | .lt=>.Lt | .le=>.LtE | .gt=>.Gt | .ge=>.GtE | .isin=>.In | .notin=>.NotIn
noncomputable def rOp (Γ:Gm)(f:DV.D->DV.D->DV.Sto->DV.R DV.D):R2:=fun x y H Q=>∃ φ s a b d s',Rp Γ φ H s/\RV Γ φ H a x/\RV Γ φ H b y/\a.bnd s.length=true/\b.bnd s.length=true/\f a b s=.ok d s'/\After Γ φ s H d s' Q
theorem zX {d e:DV.D}{s t:DV.Sto}(h:DV.pur d s=.ok e t):d=e/\s=t:=by
 unfold DV.pur at h
 cases h
 exact ⟨rfl,rfl⟩
theorem qa {o:DV.O}{e:DV.D}{s t:DV.Sto}(h:DV.alloc o s=.ok e t):e=.ref s.length/\t=s++[o]:=by
 unfold DV.alloc at h
 cases h
 exact ⟨rfl,rfl⟩
theorem str_app (a b:List Nat):(⟨a.toArray⟩:Str)++⟨b.toArray⟩=⟨(a++b).toArray⟩:=by
 show Str.append _ _=_
 unfold Str.append
 simp
theorem qe:DV.LIM<=sizeLine:=by rw [sizeLine_eq];decide
theorem op_mulB:OpR X (binaryOp .Mult) (rI (fun i j=>DV.mulOk i j=true) fun i j=>.int (i*j)):=opI fun i j _ _ _ _ _ hc q=>mul_int q (by
 unfold DV.mulOk at hc
 simp only [Bool.or_eq_true,Bool.and_eq_true,decide_eq_true_eq] at hc
 rcases hc with (h | h) | ⟨h1,h2⟩
 ·exact CMul.ok (.inl (by omega))
 ·exact CMul.ok (.inr (by omega))
 ·unfold DV.BIG at h1 h2
  exact IntMulOk.of_le (m:=60000) (n:=60000) (intBits_le_iff.mpr h1) (intBits_le_iff.mpr h2) (by decide))
theorem rep_fold (l:List Nat):∀ (n:Nat) (acc:Array Nat),(List.replicate n l.toArray).foldl (·++·) acc=acc++(DV.rep n l).toArray
 | 0,acc=>by simp [DV.rep]
 | n+1,acc=>by
  rw [List.replicate_succ,List.foldl_cons,rep_fold l n]
  simp [DV.rep,Array.append_assoc]
theorem rep_one (l:List Nat):DV.rep 1 l=l:=by simp [DV.rep]
theorem rep_nil:∀ n,DV.rep n []=[]
 | 0=>rfl
 | n+1=>by simp [DV.rep,rep_nil n]
theorem rep_len (l:List Nat):∀ n,(DV.rep n l).length=l.length*n
 | 0=>by simp [DV.rep]
 | n+1=>by simp [DV.rep,rep_len l n,Nat.mul_add];omega
theorem op_mulS:OpR X (binaryOp .Mult) (fun x y H Q=>∃ (l:List Nat) (n:Int),x=.str ⟨l.toArray⟩/\y=.int n/\(0<=n/\n<=1000000/\l.length*n.toNat<=DV.LIM)/\Q (.str ⟨(DV.rep n.toNat l).toArray⟩) H):=by
 intro pins s σ H x y v u Q I rx ry h
 obtain ⟨l,n,rfl,rfl,⟨h0,h1,h2⟩,q⟩:=h
 obtain ⟨t,rfl⟩:=rx
 obtain ⟨t',rfl⟩:=ry
 have hlen:(⟨l.toArray⟩:Str).length=l.length:=by show l.toArray.size=_;simp
 have hL:=qe
 have h64:=line63
 refine SB.mul ⟨?_,fun hn _=>?_,fun hn _=>?_⟩ fun t2 k=>?_
 ·rw [decide_eq_false (by omega),decide_eq_false (by omega)];rfl
 ·rw [hlen]
  have hn1:1<=n:=by omega
  intro hgt
  have h3:(l.length:Int)*n<=1000000:=by
   have:((l.length*n.toNat:Nat):Int)<=(DV.LIM:Nat):=Int.ofNat_le.mpr h2
   rw [Int.natCast_mul,Int.toNat_of_nonneg h0] at this
   have e:((DV.LIM:Nat):Int)=1000000:=by unfold DV.LIM;rfl
   omega
  have h4:(l.length:Int)<=1000000:=by
   have:(l.length:Int)*1<=(l.length:Int)*n:=Int.mul_le_mul_of_nonneg_left hn1 (by omega)
   omega
  have h5:(1000000:Int)<=(2^63 - 1) / n:=by
   rw [Int.le_ediv_iff_mul_le (by omega)]
   have:(1000000:Int)*n<=1000000*1000000:=Int.mul_le_mul_of_nonneg_left h1 (by omega)
   omega
  omega
 ·rw [hlen]
  unfold PySem.Builtin.Str.tooLong
  exact decide_eq_false (by omega)
 ·have e:Txt.mul ⟨l.toArray⟩ n=⟨(DV.rep n.toNat l).toArray⟩:=by
   unfold Txt.mul
   split
   ·have:n.toNat=0:=by omega
    rw [this];rfl
   ·split
    ·rename_i hc
     rw [Bool.or_eq_true] at hc
     rcases hc with hc | hc
     ·have:n=1:=by simpa using hc
      subst this
      show (⟨l.toArray⟩:Str)=⟨(DV.rep 1 l).toArray⟩
      rw [rep_one]
     ·have:l=[]:=by
       have:=eq_of_beq hc
       rw [hlen] at this
       exact List.length_eq_zero_iff.mp this
      subst this
      rw [rep_nil]
    ·show (⟨(List.replicate n.toNat l.toArray).foldl (·++·) #[]⟩:Str)=_
     rw [rep_fold];simp
  rw [e]
  exact ⟨.str _,H,I.tok _,⟨_,rfl⟩,q⟩
theorem bndL_repD {n:Nat}{l:List DV.D}(h:DV.D.bndL n l=true):∀ k,DV.D.bndL n (DV.repD k l)=true
 | 0=>rfl
 | k+1=>zG h (bndL_repD h k)
theorem RVL.repD {φ:Nat->Addr}{H:Hp}{l:List DV.D}{xs:List V}(h:RVL Γ φ H l xs):∀ k,RVL Γ φ H (DV.repD k l) (repT k xs)
 | 0=>RVL.nil
 | k+1=>h.append (RVL.repD h k)
theorem repT_flat {α:Type}(xs:List α):∀ k,repT k xs=(List.replicate k xs).flatten
 | 0=>rfl
 | k+1=>by rw [List.replicate_succ,List.flatten_cons,<-repT_flat xs k];rfl
theorem op_bin (hK:X.K=Γ.K)(op:DV.BOp):OpR X (binaryOp (opOf op)) (rOp Γ (DV.binop op)):=by
 intro pins s σ H x y v u Q I rx ry h
 obtain ⟨φ,st,a,b,d,st',R,ha,hb,na,nb,hf,q⟩:=h
 cases op with
 | add =>
  cases a with
  | int a =>
   cases b with
   | int b =>
    change (DV.pur _) st=_ at hf
    obtain ⟨rfl,rfl⟩:=zX hf
    have ex:=ha.intE;have ey:=hb.intE;subst ex;subst ey
    exact op_add pins s σ H _ _ v u Q I rx ry ⟨_,_,rfl,rfl,q.here R rfl RV.intI⟩
   | _=>cases hf
  | str a =>
   cases b with
   | str b =>
    change (if _ then _ else _:DV.M DV.D) st=_ at hf
    split at hf
    ·rename_i hl
     obtain ⟨rfl,rfl⟩:=zX hf
     have ex:=ha.strE;have ey:=hb.strE;subst ex;subst ey
     refine op_add_str pins s σ H _ _ v u Q I rx ry ⟨_,_,rfl,rfl,?_,?_⟩
     ·show a.toArray.size+b.toArray.size<=_
      simp only [List.size_toArray]
      exact Nat.le_trans hl qe
     ·rw [str_app];exact q.here R rfl (RV.strI (by rw [List.length_append];exact hl))
    ·cases hf
   | _=>cases hf
  | tup a =>
   cases b with
   | tup b =>
    change (if _ then _ else _:DV.M DV.D) st=_ at hf
    split at hf
    ·rename_i hl
     obtain ⟨rfl,rfl⟩:=zX hf
     obtain ⟨p,xs,rfl,h1,d1⟩:=ha.tupE
     obtain ⟨p',ys,rfl,h2,d2⟩:=hb.tupE
     refine op_catK hK pins s σ H _ _ v u Q I rx ry ⟨p,p',xs,ys,rfl,rfl,h1,h2,?_,fun t H' e ht=>?_⟩
     ·rw [d1.length,d2.length];exact Nat.le_trans hl qe
     ·obtain ⟨g,r'⟩:=R.same e
      unfold DV.D.bnd at na nb
      exact q _ _ _ g (Nat.le_refl _) (by unfold DV.D.bnd;exact zG na nb) (RV.tupI ht ((RVL.mono g _ _ na d1).append (RVL.mono g _ _ nb d2))) r'
    ·cases hf
   | _=>cases hf
  | ref a =>
   cases b with
   | ref b =>
    change (match st[a]?,st[b]? with | some (DV.O.lst l),some (DV.O.lst m)=>if l.length+m.length<=DV.LIM then DV.alloc (.lst (l++m)) st else .bad | _,_=>.bad:DV.R DV.D)=_ at hf
    split at hf
    ·rename_i l m h1 h2
     split at hf
     ·rename_i hl
      obtain ⟨rfl,rfl⟩:=qa hf
      obtain ⟨xs,e1,d1⟩:=R.addr h1
      obtain ⟨ys,e2,d2⟩:=R.addr h2
      have ex:=ha.refE;have ey:=hb.refE;subst ex;subst ey
      have b1:=R.wf _ _ h1
      have b2:=R.wf _ _ h2
      unfold DV.O.bnd at b1 b2
      refine op_cat pins s σ H _ _ v u Q I rx ry ⟨φ a,φ b,xs,ys,rfl,rfl,e1,e2,?_,fun p hp=>?_⟩
      ·rw [d1.length,d2.length];exact Nat.le_trans hl qe
      ·exact q.alloc R (d1.append d2) (zG b1 b2) hp
     ·cases hf
    ·cases hf
   | _=>cases hf
  | _=>cases hf
 | sub =>
  cases a with
  | int a =>
   cases b with
   | int b =>
    change (DV.pur _) st=_ at hf
    obtain ⟨rfl,rfl⟩:=zX hf
    have ex:=ha.intE;have ey:=hb.intE;subst ex;subst ey
    exact op_sub pins s σ H _ _ v u Q I rx ry ⟨_,_,rfl,rfl,q.here R rfl RV.intI⟩
   | _=>cases hf
  | _=>cases hf
 | mul =>
  cases a with
  | int a =>
   cases b with
   | int b =>
    change (if _ then _ else _:DV.M DV.D) st=_ at hf
    split at hf
    ·rename_i hc
     obtain ⟨rfl,rfl⟩:=zX hf
     have ex:=ha.intE;have ey:=hb.intE;subst ex;subst ey
     exact op_mulB pins s σ H _ _ v u Q I rx ry ⟨_,_,rfl,rfl,hc,q.here R rfl RV.intI⟩
    ·cases hf
   | _=>cases hf
  | str a =>
   cases b with
   | int b =>
    change (if _ then _ else _:DV.M DV.D) st=_ at hf
    split at hf
    ·rename_i hc
     obtain ⟨rfl,rfl⟩:=zX hf
     have ex:=ha.strE;have ey:=hb.intE;subst ex;subst ey
     exact op_mulS pins s σ H _ _ v u Q I rx ry ⟨_,_,rfl,rfl,hc,q.here R rfl (RV.strI (by rw [rep_len];exact hc.2.2))⟩
    ·cases hf
   | _=>cases hf
  | tup a =>
   cases b with
   | int b =>
    change (if _ then _ else _:DV.M DV.D) st=_ at hf
    split at hf
    ·rename_i hc
     obtain ⟨rfl,rfl⟩:=zX hf
     obtain ⟨p,xs,rfl,h1,d1⟩:=ha.tupE
     have ey:=hb.intE;subst ey
     refine op_mulT hK pins s σ H _ _ v u Q I rx ry ⟨p,xs,_,rfl,rfl,h1,⟨hc.1,hc.2.1,by rw [d1.length];exact hc.2.2⟩,fun t H' e ht=>?_⟩
     obtain ⟨g,r'⟩:=R.same e
     unfold DV.D.bnd at na
     exact q _ _ _ g (Nat.le_refl _) (by unfold DV.D.bnd;exact bndL_repD na _) (RV.tupI ht (RVL.repD (RVL.mono g _ _ na d1) _)) r'
    ·cases hf
   | _=>cases hf
  | ref a =>
   cases b with
   | int b =>
    change (match st[a]? with | some (DV.O.lst l)=>if 0<=b/\b<=1000000/\l.length*b.toNat<=DV.LIM then DV.alloc (.lst (DV.repD b.toNat l)) st else .bad | _=>.bad:DV.R DV.D)=_ at hf
    split at hf
    ·rename_i l h1
     split at hf
     ·rename_i hc
      obtain ⟨rfl,rfl⟩:=qa hf
      obtain ⟨xs,e1,d1⟩:=R.addr h1
      have ex:=ha.refE;have ey:=hb.intE;subst ex;subst ey
      have b1:=R.wf _ _ h1
      unfold DV.O.bnd at b1
      refine op_rep pins s σ H _ _ v u Q I rx ry ⟨φ a,b,xs,rfl,rfl,e1,by omega,by omega,?_,fun p hp=>?_⟩
      ·rw [d1.length];exact Nat.le_trans hc.2.2 qe
      ·rw [<-repT_flat];exact q.alloc R (RVL.repD d1 _) (bndL_repD b1 _) hp
     ·cases hf
    ·cases hf
   | _=>cases hf
  | _=>cases hf
 | fdiv =>
  cases a with
  | int a =>
   cases b with
   | int b =>
    change (if _ then _ else _:DV.M DV.D) st=_ at hf
    split at hf
    ·rename_i hc
     obtain ⟨rfl,rfl⟩:=zX hf
     have ex:=ha.intE;have ey:=hb.intE;subst ex;subst ey
     refine op_fdivL pins s σ H _ _ v u Q I rx ry ⟨_,_,rfl,rfl,⟨hc.1,?_⟩,q.here R rfl RV.intI⟩
     have:=hc.2
     unfold DV.DIVL at this
     simpa using this
    ·cases hf
   | _=>cases hf
  | _=>cases hf
 | mod =>
  cases a with
  | int a =>
   cases b with
   | int b =>
    change (if _ then _ else _:DV.M DV.D) st=_ at hf
    split at hf
    ·rename_i hc
     obtain ⟨rfl,rfl⟩:=zX hf
     have ex:=ha.intE;have ey:=hb.intE;subst ex;subst ey
     exact op_mod pins s σ H _ _ v u Q I rx ry ⟨_,_,rfl,rfl,hc,q.here R rfl RV.intI⟩
    ·cases hf
   | _=>cases hf
  | _=>cases hf
 | pow =>
  cases a with
  | int a =>
   cases b with
   | int b =>
    change (if _ then _ else _:DV.M DV.D) st=_ at hf
    split at hf
    ·rename_i hc
     obtain ⟨rfl,rfl⟩:=zX hf
     have ex:=ha.intE;have ey:=hb.intE;subst ex;subst ey
     exact op_pow pins s σ H _ _ v u Q I rx ry ⟨_,_,rfl,rfl,hc,q.here R rfl RV.intI⟩
    ·cases hf
   | _=>cases hf
  | _=>cases hf
 | shl =>
  cases a with
  | int a =>
   cases b with
   | int b =>
    change (if _ then _ else _:DV.M DV.D) st=_ at hf
    split at hf
    ·rename_i hc
     obtain ⟨rfl,rfl⟩:=zX hf
     have ex:=ha.intE;have ey:=hb.intE;subst ex;subst ey
     exact op_shl pins s σ H _ _ v u Q I rx ry ⟨_,_,rfl,rfl,hc,q.here R rfl RV.intI⟩
    ·cases hf
   | _=>cases hf
  | _=>cases hf
 | shr =>
  cases a with
  | int a =>
   cases b with
   | int b =>
    change (if _ then _ else _:DV.M DV.D) st=_ at hf
    split at hf
    ·rename_i hc
     obtain ⟨rfl,rfl⟩:=zX hf
     have ex:=ha.intE;have ey:=hb.intE;subst ex;subst ey
     exact op_shr pins s σ H _ _ v u Q I rx ry ⟨_,_,rfl,rfl,hc,q.here R rfl RV.intI⟩
    ·cases hf
   | _=>cases hf
  | _=>cases hf
 | band=>cases hf
 | bor=>cases hf
end L2
end
noncomputable section
namespace L2
open PySem PySem.Spec PyProof.Rows
variable {Γ:Gm} {X:Cx} {pins:List (Addr×Obj)} {σ:St} {H:Hp} {sh:Shared} {φ:Nat->Addr} {s:DV.Sto}
theorem eqv_kd {n:Nat}{a b:DV.D}{z:Bool}(h:DV.eqv s n a b=some z):DV.kd s a≠9:=by
 cases n with
 | zero=>unfold DV.eqv at h;exact (eqAtom_kd h).1
 | succ n =>
  unfold DV.eqv at h
  split at h
  ·simp [DV.kd]
  ·split at h
   ·rename_i h1 _;simp [DV.kd,h1]
   ·cases h
  ·exact (eqAtom_kd h).1
theorem eqv_congr (I:Inv X pins σ H sh)(hK:X.K=Γ.K)(R:Rp Γ φ H s):∀ (n:Nat) (a b c:DV.D) (x:V) (p q:Bool),RV Γ φ H a x->RV Γ φ H b x->DV.eqv s n a c=some p->DV.eqv s n b c=some q->p=q:=by
 intro n
 induction n with
 | zero =>
  intro a b c x p q h1 h2 e1 e2
  rcases rv_two I hK R h1 h2 (eqv_kd e1) (eqv_kd e2) with e | ⟨l,m,_,_,rfl,rfl,_⟩
  ·subst e;rw [e1] at e2;exact Option.some.inj e2
  ·unfold DV.eqv at e1 e2
   have:DV.eqAtom s (.tup l) c=DV.eqAtom s (.tup m) c:=by unfold DV.eqAtom;cases c<;>rfl
   rw [this,e2] at e1;exact (Option.some.inj e1).symm
 | succ n ih =>
  have ihL:∀ (l m k:List DV.D) (xs:List V) (p q:Bool),RVL Γ φ H l xs->RVL Γ φ H m xs->DV.eqL (DV.eqv s n) l k=some p->DV.eqL (DV.eqv s n) m k=some q->p=q:=by
   intro l
   induction l with
   | nil =>
    intro m k xs p q h1 h2 e1 e2
    have:=h1.unnil;subst this
    have hm:m=[]:=by have:=h2.length;exact List.length_eq_zero_iff.mp this.symm
    subst hm
    rw [e1] at e2;exact Option.some.inj e2
   | cons a l ihl =>
    intro m k xs p q h1 h2 e1 e2
    obtain ⟨x,r,rfl,g1,g2⟩:=h1.uncons
    cases m with
    | nil=>have:=h2.unnil;cases this
    | cons b m =>
     obtain ⟨x',r',e,g3,g4⟩:=h2.uncons
     cases e
     cases k with
     | nil=>unfold DV.eqL at e1 e2;rw [<-Option.some.inj e1,<-Option.some.inj e2]
     | cons c k =>
      obtain ⟨p1,p2,a1,a2,a3⟩:=eqL_cons e1
      obtain ⟨q1,q2,b1,b2,b3⟩:=eqL_cons e2
      rw [a3,b3,ih a b c x p1 q1 g1 g3 a1 b1,ihl m k r p2 q2 g2 g4 a2 b2]
  intro a b c x p q h1 h2 e1 e2
  rcases rv_two I hK R h1 h2 (eqv_kd e1) (eqv_kd e2) with e | ⟨l,m,_,xs,rfl,rfl,_,d1,d2⟩
  ·subst e;rw [e1] at e2;exact Option.some.inj e2
  ·cases c with
   | tup k=>unfold DV.eqv at e1 e2;exact ihL l m k xs p q d1 d2 e1 e2
   | _ =>
    unfold DV.eqv at e1 e2
    simp only at e1 e2
    have e3:DV.eqAtom s (.tup l)=DV.eqAtom s (.tup m):=by funext c;unfold DV.eqAtom;cases c<;>rfl
    rw [e3] at e1
    exact Option.some.inj (e1.symm.trans e2)
theorem inL_at {x:DV.D}:∀ {l:List DV.D} {z:Bool},DV.inL s x l=some z->∃ e:Nat->Bool,(∀ j d,l[j]?=some d->DV.eqv s DV.DEEP d x=some (e j))/\(z=true↔∃ j,j<l.length/\e j=true)
 | [],z,h=>by
  unfold DV.inL at h
  cases h
  exact ⟨fun _=>true,fun j d h=>by simp at h,by simp⟩
 | y::l,z,h=>by
  unfold DV.inL at h
  cases e1:DV.eqv s DV.DEEP y x with
  | none=>rw [e1] at h;cases h
  | some a =>
   cases e2:DV.inL s x l with
   | none=>rw [e1,e2] at h;cases h
   | some b =>
    rw [e1,e2] at h
    obtain ⟨e,h1,h2⟩:=inL_at e2
    refine ⟨fun j=>match j with | 0=>a | j+1=>e j,fun j d g=>?_,?_⟩
    ·cases j with
     | zero=>simp at g;subst g;exact e1
     | succ j=>exact h1 j d (by simpa using g)
    ·have hz:(a||b)=z:=Option.some.inj h
     rw [<-hz,Bool.or_eq_true,h2]
     constructor
     ·rintro (q | ⟨j,hj,q⟩)
      ·exact ⟨0,by simp,q⟩
      ·exact ⟨j+1,by simpa using hj,q⟩
     ·rintro ⟨j,hj,q⟩
      cases j with
      | zero=>exact .inl q
      | succ j=>exact .inr ⟨j,by simpa using hj,q⟩
theorem in_fun (I:Inv X pins σ H sh)(hK:X.K=Γ.K)(R:Rp Γ φ H s){x:DV.D}{xv:V}{xu:Value}(hx:RV Γ φ H x xv)(rx:RelV xv xu){l:List DV.D}{ys:List V}{its:List Value}(hl:RVL Γ φ H l ys)(hv:Vals ys its){z:Bool}(h:DV.inL s x l=some z){A:Around}(hr:Room DV.DEEP A) :
  ∃ e:Value->Bool,(∀ y,y∈its.toArray->SeqAt.EqAt A sh y xu (e y))/\its.toArray.any e=z:=by
 obtain ⟨e,h1,h2⟩:=inL_at h
 have len:its.length=l.length:=by rw [<-hv.length];exact hl.length
 have at':∀ j u,its[j]?=some u->∃ d y,l[j]?=some d/\ys[j]?=some y/\RV Γ φ H d y/\RelV y u:=fun j u g=>by
  have hj:j<l.length:=by rw [<-len];exact (List.getElem?_eq_some_iff.mp g).1
  obtain ⟨y,g1,g2⟩:=hl.get (List.getElem?_eq_getElem hj)
  obtain ⟨u',g3,g4⟩:=hv.get g1
  rw [g] at g3;cases g3
  exact ⟨_,y,List.getElem?_eq_getElem hj,g1,g2,g4⟩
 classical
 let f:Value->Bool:=fun u=>decide (∃ j,its[j]?=some u/\e j=true)
 have hf:∀ j u,its[j]?=some u->f u=e j:=fun j u g=>by
  obtain ⟨d,y,g1,g2,g3,g4⟩:=at' j u g
  cases q:e j with
  | true=>exact decide_eq_true ⟨j,g,q⟩
  | false =>
   refine decide_eq_false fun ⟨k,g',q'⟩=>?_
   obtain ⟨d',y',k1,k2,k3,k4⟩:=at' k u g'
   have ey:y'=y:=k4.inj g4
   subst ey
   have:=eqv_congr I hK R _ d d' x _ _ _ g3 k3 (h1 j d g1) (h1 k d' k1)
   rw [q,q'] at this;cases this
 refine ⟨f,fun u hu=>?_,?_⟩
 ·obtain ⟨j,hj,g⟩:=List.mem_iff_getElem.mp (by simpa using hu:u∈its)
  have g':its[j]?=some u:=by rw [List.getElem?_eq_getElem hj,g]
  obtain ⟨d,y,g1,g2,g3,g4⟩:=at' j u g'
  rw [hf j u g']
  exact (eqv_ok I hK R _ d x y xv u xu A _ (h1 j d g1) g3 hx g4 rx hr).1
 ·have e1:its.toArray.any f=true↔z=true:=by
   rw [h2,List.any_toArray,List.any_eq_true]
   constructor
   ·rintro ⟨u,hu,q⟩
    obtain ⟨j,hj,g⟩:=List.mem_iff_getElem.mp hu
    have g':its[j]?=some u:=by rw [List.getElem?_eq_getElem hj,g]
    exact ⟨j,by omega,by rw [<-hf j u g'];exact q⟩
   ·rintro ⟨j,hj,q⟩
    have hj':j<its.length:=by omega
    exact ⟨its[j],List.getElem_mem hj',by rw [hf j _ (List.getElem?_eq_getElem hj')];exact q⟩
  cases z<;>cases q:its.toArray.any f
  ·rfl
  ·have:=e1.mp q;cases this
  ·rw [q] at e1;have:=e1.mpr rfl;cases this
  ·rfl
end L2
end
noncomputable section
namespace L2
open PySem PySem.Spec PyProof.Rows
variable {Γ:Gm} {X:Cx}
theorem bind_inv {α β:Type}{r:DV.R α}{f:α->DV.Sto->DV.R β}{b:β}{t:DV.Sto}(h:r.bind f=.ok b t):∃ a s,r=.ok a s/\f a s=.ok b t:=DV.R.bind_inv h
theorem inM_ok (hK:X.K=Γ.K)(hr:Room (DV.DEEP+1) X.A)(neg:Bool){pins:List (Addr×Obj)}{sh:Shared}{σ:St}{H:Hp}{x y:V}{v u:Value}{φ:Nat->Addr}{st st':DV.Sto}{a b:DV.D}{z:Bool}
  (I:Inv X pins σ H sh) (rx:RelV x v) (ry:RelV y u) (R:Rp Γ φ H st) (ha:RV Γ φ H a x) (hb:RV Γ φ H b y) (hf:DV.inM a b st=.ok z st') :
  st'=st/\∀ Q:Value->Shared->Prop,(∀ sh',Inv X pins σ H sh'->Q (.bool (if neg then !z else z)) sh')->wpAny (model X.prog X.w) X.A (compareOp (if neg then .NotIn else .In) v u) Q X.xe sh:=by
 unfold DV.inM at hf
 cases b with
 | tup l =>
  simp only at hf
  cases e:DV.inL st a l with
  | none=>rw [e] at hf;cases hf
  | some w =>
   rw [e] at hf
   cases hf
   obtain ⟨p,ys,rfl,q,d⟩:=hb.tupE
   cases ry
   rw [<-hK] at q
   obtain ⟨its,rv,t,_⟩:=I.tuple q
   obtain ⟨f,h1,h2⟩:=in_fun I hK R ha rx d rv e (A:=X.A.in1) hr.in1
   refine ⟨rfl,fun Q hq=>?_⟩
   cases neg with
   | false=>exact SeqAt.in_tupleAt f t h1 (by rw [h2];exact hq _ I)
   | true=>exact SeqAt.notIn_tupleAt f t h1 (by rw [h2];exact hq _ I)
 | str y0 =>
  simp only at hf
  split at hf
  case h_2=>cases hf
  rename_i c
  cases hf
  refine ⟨rfl,fun Q hq=>?_⟩
  have e1:=ha.strE
  have e2:=hb.strE
  subst e1 e2
  obtain ⟨t1,rfl⟩:=rx
  obtain ⟨t2,rfl⟩:=ry
  have hf1:=PySem.StrLaws.found_one (⟨y0.toArray⟩:Str) c
  cases neg with
  | false=>exact in_str (by rw [show (⟨[c].toArray⟩:Str)=⟨#[c]⟩ from rfl,hf1];simpa using hq _ I)
  | true=>exact notIn_str (by rw [show (⟨[c].toArray⟩:Str)=⟨#[c]⟩ from rfl,hf1];simpa using hq _ I)
 | ref r =>
  simp only at hf
  cases hs:st[r]? with
  | none=>rw [hs] at hf;cases hf
  | some o =>
   rw [hs] at hf
   cases o with
   | lst l =>
    simp only at hf
    cases e:DV.inL st a l with
    | none=>rw [e] at hf;cases hf
    | some w =>
     rw [e] at hf
     cases hf
     obtain ⟨ys,e1,d⟩:=R.addr hs
     have ey:=hb.refE;subst ey
     cases ry
     obtain ⟨its,rv,t,_⟩:=I.list (SqL.of e1)
     obtain ⟨f,h1,h2⟩:=in_fun I hK R ha rx d rv e (A:=X.A.in1) hr.in1
     refine ⟨rfl,fun Q hq=>?_⟩
     cases neg with
     | false=>exact SeqAt.in_listAt f t.isList h1 (by rw [h2];exact hq _ I)
     | true=>exact SeqAt.notIn_listAt f t.isList h1 (by rw [h2];exact hq _ I)
   | dic l =>
    simp only at hf
    split at hf
    case isFalse=>cases hf
    rename_i hkey
    cases hf
    obtain ⟨k,hk⟩:=key_some hkey
    obtain ⟨kvs,e1,d⟩:=R.obj r _ hs
    have ey:=hb.refE;subst ey
    cases ry
    have ex:=key_kV hk ha;subst ex
    have ez:(DV.look a l).isSome=(valV kvs k).isSome:=by
     rcases d.val hk with ⟨q1,q2⟩ | ⟨_,_,q1,q2,_⟩<;>rw [q1,q2]<;>rfl
    refine ⟨rfl,fun Q hq=>?_⟩
    rw [ez] at hq
    cases neg with
    | false=>exact d_in (hu_of hr) I (DGet.k e1) rx hq
    | true=>exact d_notIn (hu_of hr) I (DGet.k e1) rx hq
   | ro l=>cases hf
   | ins c l=>cases hf
 | _=>cases hf
theorem ord_inv {op:DV.COp}{a b d:DV.D}{st st':DV.Sto}(ho:op=.lt\/op=.le\/op=.gt\/op=.ge)(h:DV.qi op a b st=.ok d st'):∃ i j,a=.int i/\b=.int j:=by
 rcases ho with rfl | rfl | rfl | rfl <;>
 (cases a with
 | int i =>
  (cases b with
  | int j=>exact ⟨i,j,rfl,rfl⟩
  | _=>cases h)
 | _=>cases h)
theorem op_cmp (hK:X.K=Γ.K)(hr:Room (DV.DEEP+1) X.A)(op:DV.COp):OpR X (compareOp (copOf op)) (rOp Γ (DV.qi op)):=by
 intro pins s σ H x y v u Q I rx ry h
 obtain ⟨φ,st,a,b,d,st',R,ha,hb,na,nb,hf,q⟩:=h
 cases op with
 | eq =>
  have hf:DV.eqM a b st=.ok d st':=hf
  unfold DV.eqM at hf
  cases e:DV.eqv st DV.DEEP a b with
  | none=>rw [e] at hf;cases hf
  | some z =>
   rw [e] at hf;cases hf
   exact (eqv_ok I hK R _ a b x y v u X.A z e ha hb rx ry (hr.mono (by omega))).2.rc X.prog X.w X.xe _ ⟨.bl z,H,I,rfl,q.here R rfl RV.blI⟩
 | ne =>
  have hf:(match DV.eqv st DV.DEEP a b with | some r=>.ok (.bl (!r)) st | none=>.bad:DV.R DV.D)=.ok d st':=hf
  cases e:DV.eqv st DV.DEEP a b with
  | none=>rw [e] at hf;cases hf
  | some z =>
   rw [e] at hf;cases hf
   exact (eqv_ok I hK R _ a b x y v u X.A z e ha hb rx ry (hr.mono (by omega))).2.ne X.prog X.w X.xe _ ⟨.bl (!z),H,I,rfl,q.here R rfl RV.blI⟩
 | lt =>
  obtain ⟨i,j,rfl,rfl⟩:=ord_inv (.inl rfl) hf
  cases hf
  have ex:=ha.intE;have ey:=hb.intE;subst ex;subst ey
  exact op_lt pins s σ H _ _ v u Q I rx ry ⟨_,_,rfl,rfl,q.here R rfl RV.blI⟩
 | le =>
  obtain ⟨i,j,rfl,rfl⟩:=ord_inv (.inr (.inl rfl)) hf
  cases hf
  have ex:=ha.intE;have ey:=hb.intE;subst ex;subst ey
  exact op_le pins s σ H _ _ v u Q I rx ry ⟨_,_,rfl,rfl,q.here R rfl RV.blI⟩
 | gt =>
  obtain ⟨i,j,rfl,rfl⟩:=ord_inv (.inr (.inr (.inl rfl))) hf
  cases hf
  have ex:=ha.intE;have ey:=hb.intE;subst ex;subst ey
  exact op_gt pins s σ H _ _ v u Q I rx ry ⟨_,_,rfl,rfl,q.here R rfl RV.blI⟩
 | ge =>
  obtain ⟨i,j,rfl,rfl⟩:=ord_inv (.inr (.inr (.inr rfl))) hf
  cases hf
  have ex:=ha.intE;have ey:=hb.intE;subst ex;subst ey
  exact op_ge pins s σ H _ _ v u Q I rx ry ⟨_,_,rfl,rfl,q.here R rfl RV.blI⟩
 | isin =>
  have hf:(DV.inM a b st).bind (fun r s=>.ok (.bl r) s)=.ok d st':=hf
  obtain ⟨z,s1,e1,e2⟩:=bind_inv hf
  obtain ⟨rfl,w⟩:=inM_ok hK hr false I rx ry R ha hb e1
  cases e2
  exact w _ fun s' I'=>⟨.bl z,H,I',rfl,q.here R rfl RV.blI⟩
 | notin =>
  have hf:(DV.inM a b st).bind (fun r s=>.ok (.bl (!r)) s)=.ok d st':=hf
  obtain ⟨z,s1,e1,e2⟩:=bind_inv hf
  obtain ⟨rfl,w⟩:=inM_ok hK hr true I rx ry R ha hb e1
  cases e2
  exact w _ fun s' I'=>⟨.bl (!z),H,I',rfl,q.here R rfl RV.blI⟩
theorem atI_of {φ:Nat->Addr}{H:Hp}{l:List DV.D}{xs:List V}{i:Int}{d:DV.D}(h:RVL Γ φ H l xs)(e:((DV.ixn l.length i).bind fun j=>l[j]?)=some d):∃ v,atI xs i=some v/\RV Γ φ H d v:=by
 cases hj:DV.ixn l.length i with
 | none=>rw [hj] at e;cases e
 | some j =>
  rw [hj] at e
  obtain ⟨v,e1,e2⟩:=h.get (show l[j]?=some d from e)
  refine ⟨v,?_,e2⟩
  unfold atI
  have:ixN xs.length i=some j:=by rw [h.length];exact hj
  rw [this];exact e1
theorem ixn_mem {l:List DV.D}{i:Int}{d:DV.D}(e:((DV.ixn l.length i).bind fun j=>l[j]?)=some d):d∈l:=by
 cases hj:DV.ixn l.length i with
 | none=>rw [hj] at e;cases e
 | some j=>rw [hj] at e;exact List.mem_of_getElem? (show l[j]?=some d from e)
theorem ix_ok (hK:X.K=Γ.K)(hu:X.A.units+1<cLine):IxR X (rOp Γ DV.ixM):=by
 intro value slice pins s σ H x y v u Q I rx ry h hs
 obtain ⟨φ,st,a,b,d,st',R,ha,hb,na,nb,hf,q⟩:=h
 unfold DV.ixM at hf
 cases a with
 | tup l =>
  cases b with
  | int i =>
   simp only at hf
   split at hf
   ·rename_i d' e
    cases hf
    obtain ⟨p,xs,rfl,h1,d1⟩:=ha.tupE
    have ey:=hb.intE;subst ey
    obtain ⟨w,e1,e2⟩:=atI_of d1 e
    unfold DV.D.bnd at na
    exact ix_tupK hK value slice pins s σ H _ _ v u Q I rx ry ⟨p,xs,i,w,rfl,rfl,h1,e1,q.here R (bndL_iff.mp na _ (ixn_mem e)) e2⟩ hs
   ·cases hf
  | _=>cases hf
 | str l =>
  cases b with
  | int i =>
   simp only at hf
   split at hf
   ·rename_i c e
    cases hf
    have hl:=ha.strL
    have ex:=ha.strE;have ey:=hb.intE;subst ex;subst ey
    exact ix_str value slice pins s σ H _ _ v u Q I rx ry ⟨⟨l.toArray⟩,i,c,rfl,rfl,by show l.toArray.size<=_;rw [List.size_toArray];exact Nat.le_trans hl qe,e,q.here R rfl (RV.strI (by simp;decide))⟩ hs
   ·cases hf
  | _=>cases hf
 | ref r =>
  have ex:=ha.refE;subst ex
  simp only at hf
  cases hsr:st[r]? with
  | none=>rw [hsr] at hf;cases hf
  | some o =>
   rw [hsr] at hf
   cases o with
   | lst l =>
    cases b with
    | int i =>
     simp only at hf
     split at hf
     ·rename_i d' e
      cases hf
      have ey:=hb.intE;subst ey
      obtain ⟨xs,e1,d1⟩:=R.addr hsr
      obtain ⟨w,e2,e3⟩:=atI_of d1 e
      have wf:=R.wf _ _ hsr
      unfold DV.O.bnd at wf
      exact ix_listK hK value slice pins s σ H _ _ v u Q I rx ry ⟨φ r,xs,i,w,rfl,rfl,SqL.of e1,e2,q.here R (bndL_iff.mp wf _ (ixn_mem e)) e3⟩ hs
     ·cases hf
    | _=>cases hf
   | ro l =>
    cases b with
    | int i =>
     simp only at hf
     split at hf
     ·rename_i d' e
      cases hf
      have ey:=hb.intE;subst ey
      obtain ⟨xs,e1,d1⟩:=R.obj _ _ hsr
      obtain ⟨w,e2,e3⟩:=atI_of d1 e
      have wf:=R.wf _ _ hsr
      unfold DV.O.bnd at wf
      exact ix_listK hK value slice pins s σ H _ _ v u Q I rx ry ⟨φ r,xs,i,w,rfl,rfl,e1.1,e2,q.here R (bndL_iff.mp wf _ (ixn_mem e)) e3⟩ hs
     ·cases hf
    | _=>cases hf
   | dic l =>
    simp only at hf
    split at hf
    case isFalse=>cases hf
    rename_i hkey
    obtain ⟨k,hk⟩:=key_some hkey
    obtain ⟨kvs,e1,d1⟩:=R.obj r _ hsr
    have ey:=key_kV hk hb;subst ey
    cases rx
    rcases d1.val hk with ⟨q1,_⟩ | ⟨e,v',q1,q2,q3,q4⟩
    ·rw [q1] at hf;cases hf
    ·rw [q1] at hf
     cases hf
     have wf:=R.wf _ _ hsr
     unfold DV.O.bnd at wf
     rw [Bool.and_eq_true] at wf
     have g:DGet H (φ r) (kV k) (some v'):=by rw [<-q2];exact DGet.k e1
     exact tail_any (dict_typeIs I g) PySem.F.slot_dict_getitem.lookup (d_getItem hu I g ry fun w' s' I' rw'=>⟨v',H,I',rw',q.here R (bndL_iff.mp wf.2 _ q4) q3⟩) hs
   | ins c l=>cases b<;>cases hf
 | _=>cases b<;>cases hf
theorem sbd_sIx (n d:Nat)(i:Int):HT.sIx n d (some i)=DV.sbd n i:=by
 show (if i<0 then (i+(n:Int)).toNat else min i.toNat n)=_
 unfold DV.sbd
 by_cases h:i<0
 ·rw [if_pos h,if_neg (by omega)]
 ·rw [if_neg h,if_pos (by omega)]
theorem cutV_L {φ:Nat->Addr}{H:Hp}{l:List DV.D}{xs:List V}(h:RVL Γ φ H l xs)(lo hi:Option Int):RVL Γ φ H (DV.cutL l lo hi) (cutV xs lo hi):=by
 unfold DV.cutL cutV
 have e1:HT.sIx xs.length 0 lo=DV.loB l.length lo:=by
  cases lo with
  | none=>rfl
  | some i=>rw [sbd_sIx,h.length];rfl
 have e2:HT.sIx xs.length xs.length hi=DV.hiB l.length hi:=by
  cases hi with
  | none=>exact h.length
  | some i=>rw [sbd_sIx,h.length];rfl
 rw [e1,e2]
 exact (h.drop _).take _
theorem cutL_sub {α:Type}{l:List α}{lo hi:Option Int}:∀ d∈DV.cutL l lo hi,d∈l:=fun d hd=>List.mem_of_mem_drop (List.mem_of_mem_take hd)
theorem cutL_len {α:Type}(l:List α)(lo hi:Option Int):(DV.cutL l lo hi).length<=l.length:=by
 unfold DV.cutL
 rw [List.length_take,List.length_drop]
 omega
theorem slIdx (lo hi:Option Int)(n:Nat):Builtin.Str.strSliceIndices lo hi 1 n=(List.range (DV.hiB n hi - DV.loB n lo)).map (DV.loB n lo+·):=by
 rw [<-sliceRange_one]
 unfold Builtin.Str.strSliceIndices
 have cl:∀ i:Int,max 0 (min (if i<0 then i+(n:Int) else i) (n:Int))=((DV.sbd n i:Nat):Int):=fun i=>by
  unfold DV.sbd
  by_cases h:i<0
  ·rw [if_pos h,if_neg (by omega)];omega
  ·rw [if_neg h,if_pos (by omega)];omega
 simp only [show ((1:Int) > 0)=True by simp,if_true]
 cases lo<;>cases hi<;>simp only [cl,DV.loB,DV.hiB]<;>rfl
theorem fm_range {l:List Nat}:∀ (a k:Nat),a+k<=l.length->((List.range k).map (a+·)).filterMap (fun x=>l.toArray[x]?)=(l.drop a).take k
 | a,0,_=>by simp
 | a,k+1,h=>by
  rw [List.range_succ,List.map_append,List.filterMap_append,fm_range a k (by omega)]
  have hk:a+k<l.length:=by omega
  rw [List.take_add_one,List.getElem?_drop]
  simp [hk]
theorem slice_cut (l:List Nat)(lo hi:Option Int):PySem.Txt.slice ⟨l.toArray⟩ lo hi=⟨(DV.cutL l lo hi).toArray⟩:=by
 unfold PySem.Txt.slice
 have hn:(⟨l.toArray⟩:Str).length=l.length:=by show l.toArray.size=_;simp
 rw [hn,slIdx]
 have hb:DV.hiB l.length hi<=l.length:=by
  cases hi with
  | none=>exact Nat.le_refl _
  | some i=>show DV.sbd l.length i<=_;unfold DV.sbd;split<;>omega
 have ha:DV.loB l.length lo<=l.length:=by
  cases lo with
  | none=>exact Nat.zero_le _
  | some i=>show DV.sbd l.length i<=_;unfold DV.sbd;split<;>omega
 unfold DV.cutL
 generalize DV.hiB l.length hi=b at *
 generalize DV.loB l.length lo=a at *
 by_cases hc:((1:Int)==1&&((List.range (b - a)).map (a+·)).length==l.length)=true
 ·rw [if_pos hc]
  have:b - a=l.length:=by simpa using hc
  have h0:a=0\/l.length=0:=by omega
  rcases h0 with h0 | h0
  ·subst h0
   rw [this];simp
  ·have:l=[]:=List.length_eq_zero_iff.mp h0
   subst this;simp
 ·rw [if_neg hc]
  by_cases hab:a<=b
  ·have e:=fm_range (l:=l) a (b - a) (by omega)
   show (⟨(List.filterMap (fun x=>l.toArray[x]?) _).toArray⟩:Str)=_
   rw [e]
  ·rw [show b - a=0 by omega];simp
noncomputable def rSl (Γ:Gm):V->Option Int->Option Int->Hp->VK->Prop:=fun x lo hi H Q=>∃ φ s a d s',Rp Γ φ H s/\RV Γ φ H a x/\a.bnd s.length=true/\DV.slM a lo hi s=.ok d s'/\After Γ φ s H d s' Q
theorem sl_ok (hK:X.K=Γ.K):SlR X (rSl Γ):=by
 intro pins s σ H x v vl vu lo hi sl Q I rx hs pl pu h
 obtain ⟨φ,st,a,d,st',R,ha,na,hf,q⟩:=h
 unfold DV.slM at hf
 cases a with
 | tup l =>
  cases hf
  obtain ⟨p,xs,rfl,h1,d1⟩:=ha.tupE
  unfold DV.D.bnd at na
  refine sl_tupK hK pins s σ H _ v vl vu lo hi sl Q I rx hs pl pu ⟨p,xs,rfl,h1,fun t H' e ht=>?_⟩
  obtain ⟨g,r'⟩:=R.same e
  exact q _ _ _ g (Nat.le_refl _) (by unfold DV.D.bnd;exact bndL_sub na cutL_sub) (RV.tupI ht (cutV_L (RVL.mono g _ _ na d1) lo hi)) r'
 | str l =>
  cases hf
  have hl:=ha.strL
  have ex:=ha.strE;subst ex
  refine sl_str pins s σ H _ v vl vu lo hi sl Q I rx hs pl pu ⟨_,rfl,by show l.toArray.size<=_;rw [List.size_toArray];exact Nat.le_trans hl qe,?_⟩
  rw [slice_cut]
  exact q.here R rfl (RV.strI (Nat.le_trans (cutL_len l lo hi) hl))
 | ref r =>
  have ex:=ha.refE;subst ex
  simp only at hf
  cases hsr:st[r]? with
  | none=>rw [hsr] at hf;cases hf
  | some o =>
   rw [hsr] at hf
   cases o with
   | lst l =>
    obtain ⟨rfl,rfl⟩:=qa hf
    obtain ⟨xs,e1,d1⟩:=R.addr hsr
    have wf:=R.wf _ _ hsr
    unfold DV.O.bnd at wf
    exact sl_listK hK pins s σ H _ v vl vu lo hi sl Q I rx hs pl pu ⟨φ r,xs,rfl,SqL.of e1,fun p hp=>q.alloc R (cutV_L d1 lo hi) (bndL_sub wf cutL_sub) hp⟩
   | _=>cases hf
 | _=>cases hf
end L2
end
noncomputable section
namespace L2
open PySem PySem.Spec PyProof.Rows
variable {Γ:Gm} {X:Cx}
noncomputable def rCl (Γ:Gm)(f:List DV.D->DV.Sto->DV.R DV.D):List V->Hp->VK->Prop:=fun xs H Q=>∃ φ s l d s',Rp Γ φ H s/\RVL Γ φ H l xs/\DV.D.bndL s.length l=true/\f l s=.ok d s'/\After Γ φ s H d s' Q
theorem RVL.one {φ:Nat->Addr}{H:Hp}{d:DV.D}{xs:List V}(h:RVL Γ φ H [d] xs):∃ x,xs=[x]/\RV Γ φ H d x:=by
 obtain ⟨x,r,rfl,h1,h2⟩:=h.uncons
 rw [h2.unnil];exact ⟨x,rfl,h1⟩
noncomputable def biN:DV.Bi->Option (String×Nat)
 | .len=>some ("len",1) | .abs=>some ("abs",1) | .min2=>some ("min",2) | .max2=>some ("max",2) | _=>none
theorem zR:∀ {l:List DV.D} {is:List Int},DV.zY l=some is->l=is.map DV.D.int
 | [],is,h=>by unfold DV.zY at h;cases h;rfl
 | d::l,is,h=>by
  cases d with
  | int i =>
   have h:(DV.zY l).map (i::·)=some is:=h
   cases e:DV.zY l with
   | none=>rw [e] at h;cases h
   | some m=>rw [e] at h;cases h;rw [zR e];rfl
  | _=>cases h
theorem blsOf_inv:∀ {l:List DV.D} {is:List Bool},DV.blsOf l=some is->l=is.map DV.D.bl
 | [],is,h=>by unfold DV.blsOf at h;cases h;rfl
 | d::l,is,h=>by
  cases d with
  | bl i =>
   have h:(DV.blsOf l).map (i::·)=some is:=h
   cases e:DV.blsOf l with
   | none=>rw [e] at h;cases h
   | some m=>rw [e] at h;cases h;rw [blsOf_inv e];rfl
  | _=>cases h
theorem RVL.ints {φ:Nat->Addr}{H:Hp}:∀ {is:List Int} {xs:List V},RVL Γ φ H (is.map DV.D.int) xs->xs=is.map V.int
 | [],_,h=>h.unnil
 | i::is,_,h=>by
  obtain ⟨x,r,rfl,h1,h2⟩:=RVL.uncons h
  rw [h1.intE,RVL.ints h2];rfl
theorem RVL.bls {φ:Nat->Addr}{H:Hp}:∀ {is:List Bool} {xs:List V},RVL Γ φ H (is.map DV.D.bl) xs->xs=is.map V.bl
 | [],_,h=>h.unnil
 | i::is,_,h=>by
  obtain ⟨x,r,rfl,h1,h2⟩:=RVL.uncons h
  rw [h1.blE,RVL.bls h2];rfl
theorem bi1_inv {f:DV.D->DV.M DV.D}{l:List DV.D}{s s':DV.Sto}{d:DV.D}(h:DV.bi1 f l s=.ok d s'):∃ a,l=[a]/\f a s=.ok d s':=by
 match l,h with
 | [a],h=>exact ⟨a,rfl,h⟩
 | [],h=>cases h
 | _::_::_,h=>cases h
theorem bi_ok (hK:X.K=Γ.K)(hc:X.calm=true){b:DV.Bi}{nm:String}{k:Nat}(hn:biN b=some (nm,k)):CallR X (.builtin nm) (rCl Γ (DV.bi b)):=by
 intro pins s σ H xs us Q I r h
 obtain ⟨φ,st,l,d,st',R,hl,nl,hf,q⟩:=h
 cases b with
 | len =>
  cases hn
  have hf:DV.bi1 DV.lenM l st=.ok d st':=hf
  obtain ⟨a,rfl,hg⟩:=bi1_inv hf
  clear hf
  obtain ⟨x,rfl,hx⟩:=hl.one
  unfold DV.lenM at hg
  cases a with
  | tup l =>
   cases hg
   obtain ⟨p,ys,rfl,h1,d1⟩:=hx.tupE
   refine call_lenK hK pins s σ H _ us Q I r ⟨p,ys,rfl,.inr h1,?_⟩
   rw [d1.length];exact q.here R rfl RV.intI
  | str l =>
   cases hg
   have hL:=hx.strL
   have e:=hx.strE;subst e
   refine call_len_str pins s σ H _ us Q I r ⟨_,rfl,by show l.toArray.size<=_;rw [List.size_toArray];exact Nat.le_trans hL qe,?_⟩
   show Q (.int ((l.toArray.size:Nat):Int)) H
   rw [List.size_toArray]
   exact q.here R rfl RV.intI
  | ref n =>
   have e:=hx.refE;subst e
   simp only at hg
   cases hs:st[n]? with
   | none=>rw [hs] at hg;cases hg
   | some o =>
    rw [hs] at hg
    cases o with
    | lst l =>
     cases hg
     obtain ⟨ys,e1,d1⟩:=R.addr hs
     refine call_lenK hK pins s σ H _ us Q I r ⟨φ n,ys,rfl,.inl (SqL.of e1),?_⟩
     rw [d1.length];exact q.here R rfl RV.intI
    | ro l =>
     cases hg
     obtain ⟨ys,e1,d1⟩:=R.obj _ _ hs
     refine call_lenK hK pins s σ H _ us Q I r ⟨φ n,ys,rfl,.inl e1.1,?_⟩
     rw [d1.length];exact q.here R rfl RV.intI
    | dic l=>cases hg
    | ins c l=>cases hg
  | _=>cases hg
 | abs =>
  cases hn
  have hf:(match DV.zY l with | some [i]=>.ok (.int (if i<0 then -i else i)) st | _=>.bad:DV.R DV.D)=.ok d st':=hf
  split at hf
  ·rename_i i e
   cases hf
   have:=zR e;subst this
   have:=RVL.ints hl;subst this
   exact call_abs pins s σ H _ us Q I r ⟨i,rfl,q.here R rfl RV.intI⟩
  ·cases hf
 | min2 =>
  cases hn
  have hf:(match DV.zY l with | some [a,b]=>.ok (.int (if b<a then b else a)) st | _=>.bad:DV.R DV.D)=.ok d st':=hf
  split at hf
  ·rename_i a b e
   cases hf
   have:=zR e;subst this
   have:=RVL.ints hl;subst this
   exact call_min2 hc pins s σ H _ us Q I r ⟨_,_,rfl,q.here R rfl RV.intI⟩
  ·cases hf
 | max2 =>
  cases hn
  have hf:(match DV.zY l with | some [a,b]=>.ok (.int (if b > a then b else a)) st | _=>.bad:DV.R DV.D)=.ok d st':=hf
  split at hf
  ·rename_i a b e
   cases hf
   have:=zR e;subst this
   have:=RVL.ints hl;subst this
   exact call_max2 hc pins s σ H _ us Q I r ⟨_,_,rfl,q.here R rfl RV.intI⟩
  ·cases hf
 | _=>cases hn
theorem int_ok:CallR X (.type "int") (rCl Γ (DV.bi .int)):=by
 intro pins s σ H xs us Q I r h
 obtain ⟨φ,st,l,d,st',R,hl,nl,hf,q⟩:=h
 have hf:(match DV.blsOf l with | some [b]=>.ok (.int (if b then 1 else 0)) st | _=>.bad:DV.R DV.D)=.ok d st':=hf
 split at hf
 ·rename_i b e
  cases hf
  have:=blsOf_inv e;subst this
  have:=RVL.bls hl;subst this
  exact call_int1 pins s σ H _ us Q I r (.inr ⟨b,rfl,q.here R rfl RV.intI⟩)
 ·cases hf
noncomputable def kName:Nat->String
 | 1 => "int" | 2 => "bool" | 3 => "str" | 4 => "tuple" | _ => "list"
theorem kit_all {K:PySem.W.Frag}(k:Nat)(hk:1<=k/\k<=5):PySem.W.kitOne K (.type "NoneType") (.type (kName k))=some false/\PySem.W.kitOne K (.type "bool") (.type (kName k))=some (k==1||k==2) /\
  PySem.W.kitOne K (.type "int") (.type (kName k))=some (k==1)/\PySem.W.kitOne K (.type "str") (.type (kName k))=some (k==3)/\PySem.W.kitOne K (.type "tuple") (.type (kName k))=some (k==4)/\PySem.W.kitOne K (.type "list") (.type (kName k))=some (k==5):=by
 obtain ⟨h1,h5⟩:=hk
 rcases (by omega:k=1\/k=2\/k=3\/k=4\/k=5) with h | h | h | h | h<;>subst h<;>refine ⟨?_,?_,?_,?_,?_,?_⟩<;>with_unfolding_all rfl
theorem isinst_tup {pins:List (Addr×Obj)}{σ:St}{H:Hp}{s:Shared}{A:Around}{E:Value->Shared->Prop}{Q:Value->Shared->Prop}{c:Value}{b:Bool}{a:Addr}{xs:List V}(I:Inv X pins σ H s)(h1:SqT X.K H a xs)(e:PySem.W.kitOne X.K (.type "tuple") c=some b)
  (h:∀ tk,Q (.bool b) { s with toks:=tk }):wpAny (model X.prog X.w) A (call (.builtin "isinstance") [.ref a,c]) Q E s:=by
 obtain ⟨its,_,⟨o,g1,g2,_⟩,_⟩:=I.tuple h1
 exact PySem.W.kia_one PySem.W.kitx_tuple I.kIn ⟨o,g1,g2⟩ e (fun z=>nomatch z) h
theorem isK_ok (hK:X.K=Γ.K){k:Nat}(hk:1<=k/\k<=5):CallR X (.builtin "isinstance") (fun xs H Q=>∃ x,xs=[x,.ty (kName k)]/\rCl Γ (DV.bi1 (DV.isK k)) [x] H Q):=by
 intro pins s σ H xs us Q I r h
 obtain ⟨x,rfl,φ,st,l,d,st',R,hl,nl,hf,q⟩:=h
 obtain ⟨a,rfl,hg⟩:=bi1_inv hf
 clear hf
 obtain ⟨u,w',rfl,r1,r2⟩:=vals2 r
 cases r2
 obtain ⟨x',e',hx⟩:=hl.one
 cases e'
 obtain ⟨k0,k1,k2,k3,k4,k5⟩:=kit_all (K:=X.K) k hk
 unfold DV.isK at hg
 cases a with
 | non=>cases hg;have e:=hx.nonE;subst e;exact qw I r1 .non k0 fun tk=>⟨.bl _,H,I.tok _,rfl,q.here R rfl RV.blI⟩
 | bl b=>cases hg;have e:=hx.blE;subst e;exact qw I r1 (.bl b) k1 fun tk=>⟨.bl _,H,I.tok _,rfl,q.here R rfl RV.blI⟩
 | int b=>cases hg;have e:=hx.intE;subst e;exact qw I r1 (.int b) k2 fun tk=>⟨.bl _,H,I.tok _,rfl,q.here R rfl RV.blI⟩
 | str b=>cases hg;have e:=hx.strE;subst e;exact qw I r1 (.str _) k3 fun tk=>⟨.bl _,H,I.tok _,rfl,q.here R rfl RV.blI⟩
 | tup l =>
  cases hg
  obtain ⟨p,ys,rfl,h1,d1⟩:=hx.tupE
  cases r1
  rw [<-hK] at h1
  exact isinst_tup I h1 k4 fun tk=>⟨.bl _,H,I.tok _,rfl,q.here R rfl RV.blI⟩
 | ref n =>
  have e:=hx.refE;subst e
  have hg:(match st[n]? with | some (.lst _)=>.ok (.bl (k==5)) st | _=>.bad:DV.R DV.D)=.ok d st':=hg
  cases hs:st[n]? with
  | none=>rw [hs] at hg;cases hg
  | some o =>
   rw [hs] at hg
   cases o with
   | lst l =>
    cases hg
    obtain ⟨ys,e1,d1⟩:=R.addr hs
    exact qw I r1 (.lst e1) k5 fun tk=>⟨.bl _,H,I.tok _,rfl,q.here R rfl RV.blI⟩
   | _=>cases hg
 | _=>cases hg
end L2
end
noncomputable section
namespace L2
open PySem PySem.Spec PyProof.Rows
variable {X:Cx}
theorem vals_bl {bs:List Bool}{its:List Value}(r:Vals (bs.map V.bl) its){i:Nat}{v:Value}(h:its[i]?=some v):∃ z,bs[i]?=some z/\v=Value.bool z:=by
 induction bs generalizing its i with
 | nil=>rw [List.map_nil] at r;cases r;simp at h
 | cons b bs ih =>
  rw [List.map_cons] at r
  cases r with
  | cons r1 r2 =>
   cases i with
   | zero =>
    cases r1
    have:_=v:=Option.some.inj h
    exact ⟨b,rfl,this.symm⟩
   | succ i=>exact ih r2 h
theorem range_all {bs:List Bool}:(List.range bs.length).all (fun i=>bs.getD i false)=bs.all id:=by
 rw [Bool.eq_iff_iff,List.all_eq_true,List.all_eq_true]
 constructor
 ·intro h b hb
  obtain ⟨i,hi,e⟩:=List.mem_iff_getElem.mp hb
  have:=h i (List.mem_range.mpr hi)
  rw [List.getD_eq_getElem?_getD,List.getElem?_eq_getElem hi] at this
  rw [<-e];exact this
 ·intro h i hi
  have hi:=List.mem_range.mp hi
  rw [List.getD_eq_getElem?_getD,List.getElem?_eq_getElem hi]
  exact h _ (List.getElem_mem hi)
theorem call_allL {K:PySem.W.Frag}(hc:X.calm=true)(hK:X.K=K):CallR X (.builtin "all") (fun xs H Q=>∃ (a:Addr) (bs:List Bool),xs=[.ref a]/\SqL K H a (bs.map V.bl)/\Q (.bl (bs.all id)) H):=by
 subst hK
 intro pins s σ H xs us Q I r h
 obtain ⟨a,bs,rfl,hS,q⟩:=h
 obtain ⟨u,rfl,ru⟩:=vals1 r
 cases ru
 obtain ⟨its,rv,pl,hz⟩:=I.list hS
 have hl:=rv.length
 rw [List.length_map] at hl
 refine call_all_walk (wpAny_pyIter_list pl.isList ?_)
 have hal:a<s.heap.objs.size:=by obtain ⟨o,_,e,_⟩:=pl;exact Heap.lt_size e
 have W:=Walks.list (prog:=X.prog) (w:=X.w) (A:=X.A.in1) (I.ok.hd hc) s.heap.objs.size a (Nat.ne_of_lt hal) its.toArray
 refine ⟨_,_,_,_,_,_,fun i=>bs.getD i false,rfl,W,⟨⟨_,Heap.get?_push_size _ rfl,rfl,rfl⟩,?_⟩,fun i v s' Q' E' hP hQ=>?_,fun h' tk k=>?_⟩
 ·obtain ⟨o,e,r⟩:=pl.isList
  exact ⟨o,Heap.get?_push_of_some _ e,r⟩
 ·obtain ⟨z,e1,e2⟩:=vals_bl rv (i:=i) (v:=v) (by have hP:its.toArray[i]?=some v:=hP;rw [List.getElem?_toArray] at hP;exact hP)
  subst e2
  refine wpAny_truthy_bool ?_
  have:bs.getD i false=z:=by rw [List.getD_eq_getElem?_getD,e1];rfl
  rw [<-this];exact hQ
 ·have es:its.toArray.size=bs.length:=by rw [List.size_toArray];omega
  rw [es,range_all]
  refine ⟨.bl (bs.all id),H,I.kept (h':=h') (t':=tk) fun b o q=>k b o ?_ (Heap.get?_push_of_some _ q),rfl,q⟩
  intro z
  have z':b=s.heap.objs.size:=by simpa using z
  exact absurd (Heap.lt_size q) (by rw [z'];exact Nat.lt_irrefl _)
noncomputable def sgV (x:List Nat):List V:=x.map fun c=>.str ⟨#[c]⟩
theorem vals_of {vs:List V}{acc:List Value}(hl:vs.length=acc.length)(h:∀ (i:Nat) (x:V) (u:Value),vs[i]?=some x->acc[i]?=some u->RelV x u):Vals vs acc:=by
 induction vs generalizing acc with
 | nil=>cases acc with
  | nil=>exact .nil
  | cons _ _=>cases hl
 | cons v vs ih=>cases acc with
  | nil=>cases hl
  | cons a acc=>exact .cons (h 0 v a rfl rfl) (ih (by simpa using hl) fun i x u e1 e2=>h (i+1) x u e1 e2)
theorem vals_signs {x:List Nat}{acc:Array Value}(h:ItemsOf (SignAt ⟨x.toArray⟩) acc x.length):Vals (sgV x) acc.toList:=by
 have hl:(sgV x).length=acc.toList.length:=by unfold sgV;rw [List.length_map];simpa using h.1.symm
 refine vals_of hl fun i v u e1 e2=>?_
 obtain ⟨c,t,h1,h2⟩:=h.2 i u (by rw [<-Array.getElem?_toList];exact e2)
 unfold sgV at e1
 rw [List.getElem?_map] at e1
 have h1:x[i]?=some c:=by simpa using h1
 rw [h1] at e1
 cases e1
 exact ⟨t,h2⟩
theorem call_tupleS (hc:X.calm=true):CallR X (.type "tuple") (fun xs H Q=>∃ x:List Nat,xs=[.str ⟨x.toArray⟩]/\x.length<=DV.LIM/\∀ l,H l=none->Q (.ref l) (upd H l (.tup (sgV x)))):=by
 intro pins s σ H xs us Q I r h
 obtain ⟨x,rfl,hl,q⟩:=h
 obtain ⟨u,rfl,rx⟩:=vals1 r
 obtain ⟨t,rfl⟩:=rx
 have hz:(sgV x).length<=sizeLine:=by unfold sgV;rw [List.length_map];exact Nat.le_trans hl qe
 refine call_tuple_str (I.ok.hd hc) _ t (fun h' tk acc kp hi=>?_) (by show x.toArray.size<=_;rw [List.size_toArray];exact Nat.le_trans hl qe)
 have hi:ItemsOf (SignAt ⟨x.toArray⟩) acc x.length:=by simpa using hi
 have rv:=vals_signs hi
 have I1:Inv X pins σ H { s with heap:=h',toks:=tk }:=I.kept (t':=tk) kp
 have I2:Inv X pins σ (upd H h'.objs.size (.tup (sgV x))) { s with heap:=h'.push { cls:=.type "tuple",data:=.seq acc },toks:=tk } :=
  I1.laid (t':=tk) (fun b o e=>Heap.get?_push_of_some _ e) (Nat.le_refl _) (show ObjOk X.prog X.w _ _ _ (.tup (sgV x)) from ⟨hz,acc.toList,rv,IsTup.new _ _⟩)
 exact ⟨.ref h'.objs.size,_,I2,rfl,q _ (I1.hok.fresh (Nat.le_refl _))⟩
theorem call_listS (hc:X.calm=true):CallR X (.type "list") (fun xs H Q=>∃ x:List Nat,xs=[.str ⟨x.toArray⟩]/\x.length<=DV.LIM/\∀ l,H l=none->Q (.ref l) (upd H l (.lst (sgV x)))):=by
 intro pins s σ H xs us Q I r h
 obtain ⟨x,rfl,hl,q⟩:=h
 obtain ⟨u,rfl,rx⟩:=vals1 r
 obtain ⟨t,rfl⟩:=rx
 have hz:(sgV x).length<=sizeLine:=by unfold sgV;rw [List.length_map];exact Nat.le_trans hl qe
 refine call_list_str (I.ok.hd hc) _ t (fun h' tk acc c' kp e hi=>?_) (by show x.toArray.size<=_;rw [List.size_toArray];exact Nat.le_trans hl qe)
 have hi:ItemsOf (SignAt ⟨x.toArray⟩) acc x.length:=by simpa using hi
 have rv:=vals_signs hi
 exact ⟨.ref s.heap.objs.size,_,I.laid (t':=tk) kp (Nat.le_refl _) (show ObjOk X.prog X.w _ h' _ (.lst (sgV x)) from ⟨hz,acc.toList,c',rv,e⟩),rfl,q _ (I.hok.fresh (Nat.le_refl _))⟩
end L2
end
noncomputable section
namespace L2
open PySem PySem.Spec PyProof.Rows
section
variable {Γ:Gm} {φ φ':Nat->Addr} {H H' H1 H2 H3:Hp} {clos:List (Str×Addr)} {s s':DV.Sto}
theorem z4 (hc:Cells clos H){a:Addr}{u:HO}(e:H a=some u)(hu:∀ o,u≠.frz o (.own a)):isC clos a≠true:=fun z=>by
 obtain ⟨o,v,q,_⟩:=hc.at z
 rw [e] at q;cases q;exact hu o rfl
theorem SqT.dropC {K:PySem.W.Frag}{a:Addr}{xs:List V}(hc:Cells clos H)(h:SqT K H a xs):SqT K (Drop clos H) a xs:=by
 rcases h with (h | ⟨o,h⟩) | h
 ·exact .inl (.inl (by rw [Drop.ne (z4 hc h (fun _ z=>by cases z))];exact h))
 ·exact .inl (.inr ⟨o,by rw [Drop.ne (z4 hc h (fun _ z=>by cases z))];exact h⟩)
 ·exact .inr h
theorem SqL.dropC {K:PySem.W.Frag}{a:Addr}{xs:List V}(hc:Cells clos H)(h:SqL K H a xs):SqL K (Drop clos H) a xs:=by
 rcases h with (h | ⟨o,h⟩) | h
 ·exact .inl (.inl (by rw [Drop.ne (z4 hc h (fun _ z=>by cases z))];exact h))
 ·exact .inl (.inr ⟨o,by rw [Drop.ne (z4 hc h (fun _ z=>by cases z))];exact h⟩)
 ·exact .inr h
theorem SqF.dropC {K:PySem.W.Frag}{a:Addr}{xs:List V}(hc:Cells clos H)(h:SqF K H a xs):SqF K (Drop clos H) a xs:=by
 refine ⟨SqL.dropC hc h.1,fun H2 k=>?_⟩
 have hk:Kp H (fun b=>if isC clos b=true then H b else H2 b):=fun b o e f=>by
  by_cases z:isC clos b=true
  ·show (if isC clos b=true then H b else H2 b)=_;rw [if_pos z];exact e
  ·show (if isC clos b=true then H b else H2 b)=_
   rw [if_neg z]
   exact k b o (by rw [Drop.ne z];exact e) f
 have q:=h.2 _ hk
 have at_:∀ u,(if isC clos a=true then H a else H2 a)=some u->(∀ o,u≠.frz o (.own a))->H2 a=some u:=fun u e hu=>by
  by_cases z:isC clos a=true
  ·rw [if_pos z] at e
   exact absurd z (z4 hc e hu)
  ·rw [if_neg z] at e;exact e
 rcases q with (q | ⟨o,q⟩) | q
 ·exact .inl (.inl (at_ _ q (fun _ z=>by cases z)))
 ·exact .inl (.inr ⟨o,at_ _ q (fun _ z=>by cases z)⟩)
 ·exact .inr q
mutual
theorem RV.dropC (hc:Cells clos H):∀ (d:DV.D) (v:V),d.ncl=true->RV Γ φ H d v->RV Γ φ (Drop clos H) d v
 | .non,_,_,h=>by unfold RV at h ⊢;exact h
 | .bl _,_,_,h=>by unfold RV at h ⊢;exact h
 | .int _,_,_,h=>by unfold RV at h ⊢;exact h
 | .str _,_,_,h=>by unfold RV at h ⊢;exact h
 | .tup l,_,n,h=>by
  unfold RV at h ⊢
  unfold DV.D.ncl at n
  obtain ⟨a,xs,e,q,r⟩:=h
  exact ⟨a,xs,e,SqT.dropC hc q,RVL.dropC hc l xs n r⟩
 | .ref k,_,_,h=>by unfold RV at h ⊢;exact h
 | .fn _,_,_,h=>by unfold RV at h ⊢;exact h
 | .clo id cs,_,n,h=>by unfold DV.D.ncl at n;cases n
theorem RVL.dropC (hc:Cells clos H):∀ (l:List DV.D) (xs:List V),DV.D.nclL l=true->RVL Γ φ H l xs->RVL Γ φ (Drop clos H) l xs
 | [],_,_,h=>by unfold RVL at h ⊢;exact h
 | d::l,_,n,h=>by
  unfold DV.D.nclL at n
  rw [Bool.and_eq_true] at n
  obtain ⟨x,r,e,h1,h2⟩:=h.uncons
  subst e
  exact .cons (RV.dropC hc d x n.1 h1) (RVL.dropC hc l r n.2 h2)
end
theorem RVD.dropC (hc:Cells clos H):∀ (l:List (DV.D×DV.D)) (kvs:List (Key×V)),DV.D.nclL (l.map (·.2))=true->RVD Γ φ H l kvs->RVD Γ φ (Drop clos H) l kvs
 | [],_,_,h=>h
 | (d,e)::l,_,n,h=>by
  obtain ⟨k,v,r,e1,e2,e3,e4⟩:=h
  rw [List.map_cons] at n
  unfold DV.D.nclL at n
  rw [Bool.and_eq_true] at n
  exact ⟨k,v,r,e1,e2,RV.dropC hc e v n.1 e3,RVD.dropC hc l r n.2 e4⟩
theorem RO.dropC {a:Addr}{o:DV.O}(hc:Cells clos H)(h:RO Γ φ H a o)(n:o.ncl=true):RO Γ φ (Drop clos H) a o:=by
 cases o with
 | lst l =>
  obtain ⟨xs,e,r⟩:=h
  exact ⟨xs,by rw [Drop.ne (z4 hc e (fun _ z=>by cases z))];exact e,RVL.dropC hc l xs n r⟩
 | ro l =>
  obtain ⟨xs,e,r⟩:=h
  exact ⟨xs,SqF.dropC hc e,RVL.dropC hc l xs n r⟩
 | dic l =>
  obtain ⟨xs,e,r⟩:=h
  exact ⟨xs,by rw [Drop.ne (z4 hc e (fun _ z=>by cases z))];exact e,RVD.dropC hc l xs n r⟩
 | ins _ _=>exact h.elim
theorem TabsH.dropC {T:List (Addr×Str)}(hc:Cells clos H)(h:TabsH T H):TabsH T (Drop clos H):=fun y hy=>by
 obtain ⟨ps,e,t,c⟩:=h y hy
 refine ⟨ps,by rw [Drop.ne (z4 hc e (fun _ z=>by cases z))];exact e,t,fun pos cv q=>?_⟩
 obtain ⟨c',e1,e2⟩:=c pos cv q
 exact ⟨c',e1,by rw [Drop.ne (z4 hc e2 (fun _ z=>by unfold qb at z;cases z))];exact e2⟩
theorem Rp.dropC (hc:Cells clos H)(r:Rp Γ φ H s)(n:s.all DV.O.ncl=true):Rp Γ φ (Drop clos H) s :=
 ⟨r.inj,fun i o e=>RO.dropC hc (r.obj i o e) (List.all_eq_true.mp n o (List.mem_of_getElem? e)),r.wf,TabsH.dropC hc r.tab⟩
theorem Gr.caught {N:List Str}{kd:Str->Option NameKind}{σ:St}(ca:Caught clos N kd σ H1 H2)(g:Gr φ s H2 φ' s' H3):Gr φ s H1 φ' s' (Drop clos H3):=by
 have nc:∀ b o,H1 b=some o->isC clos b≠true:=fun b o e z=>by rw [ca.free b z] at e;cases e
 have up:∀ b o,H1 b=some o->H2 b=some o:=fun b o e=>by rw [ca.ne b (nc b o e)];exact e
 refine ⟨⟨g.w.map,fun b o e f=>?_⟩,g.le,fun i h1 h2=>?_,g.kd,fun b e=>?_,fun b o e nt no=>?_⟩
 ·rw [Drop.ne (nc b o e)];exact g.w.kp b o (up b o e) f
 ·have:=g.new i h1 h2
  by_cases z:isC clos (φ' i)=true
  ·exact ca.free _ z
  ·rw [<-ca.ne _ z];exact this
 ·cases q:H1 b with
  | none=>exact absurd q e
  | some o =>
   rw [Drop.ne (nc b o q)]
   exact g.st b (by rw [up b o q];simp)
 ·rw [Drop.ne (nc b o e)];exact g.fr b o (up b o e) nt no
theorem putC_same (gone:∀ b,isC clos b=true->H' b=none):Same H' (Put clos H H'):=fun b o e=>by
 rw [Put.ne (fun z=>by rw [gone b z] at e;cases e)];exact e
theorem Gr.put (hc:Cells clos H)(gone:∀ b,isC clos b=true->H' b=none)(hK:∀ b o,Γ.K.lookup b=some o->H b=none)(R':Rp Γ φ' H' s')(g:Gr φ s (Drop clos H) φ' s' H'):Gr φ s H φ' s' (Put clos H H'):=by
 refine ⟨⟨g.w.map,fun b o e f=>?_⟩,g.le,fun i h1 h2=>?_,g.kd,fun b e=>?_,fun b o e nt no=>?_⟩
 ·by_cases z:isC clos b=true
  ·rw [Put.cell z];exact e
  ·rw [Put.ne z];exact g.w.kp b o (by rw [Drop.ne z];exact e) f
 ·have hd:=g.new i h1 h2
  by_cases z:isC clos (φ' i)=true
  ·have hg:=gone _ z
   obtain ⟨o,eo⟩:∃ o,s'[i]?=some o:=⟨s'[i],List.getElem?_eq_getElem h2⟩
   have hob:=R'.obj i o eo
   cases o with
   | lst l=>obtain ⟨xs,e,_⟩:=hob;rw [hg] at e;cases e
   | ro l =>
    obtain ⟨xs,e,_⟩:=hob
    rcases e.1 with (e | ⟨_,e⟩) | ⟨ob,its,n,e,_⟩
    ·rw [hg] at e;cases e
    ·rw [hg] at e;cases e
    ·exact hK _ _ e
   | dic l=>obtain ⟨xs,e,_⟩:=hob;rw [hg] at e;cases e
   | ins _ _=>exact hob.elim
  ·rw [Drop.ne z] at hd;exact hd
 ·by_cases z:isC clos b=true
  ·rw [Put.cell z];exact e
  ·rw [Put.ne z];exact g.st b (by rw [Drop.ne z];exact e)
 ·by_cases z:isC clos b=true
  ·rw [Put.cell z];exact e
  ·rw [Put.ne z];exact g.fr b o (by rw [Drop.ne z];exact e) nt no
theorem tLam_of2 {T:List (Addr×Str)}{cells:List (Str×Addr)}{P:Addr}{q:Str}{params:Arguments}{body:Expr}{scope:Scope}{pos:Pos}{σ:St}{H:Hp}{Q:VK}(hT:TabsH T H)(nd:(T.map (·.1)).Nodup)(hm:(P,q)∈T)
  (go:∀ (f:Addr) (H':Hp),SameT H H'->(∀ b,H b≠none->H' b≠none)->TabsH T H'->H f=none->(∃ pm c' ctv,H' f=some (lamO f (PySem.W.kla_fn "<lambda>" q params body scope (clOf cells scope.names []) pm (.ref c') ctv))/\H' c'=some (qb c' q))->Q (.ref f) H') :
  tLam cells P q params body scope pos σ H Q:=by
 obtain ⟨ps,hP,ht,hc⟩:=hT _ hm
 refine ⟨ps,hP,ht,fun hn c' f pm ctv n1 n2 ne=>?_,fun cv e=>?_⟩
 ·have cP:c'≠P:=fun z=>by rw [z,hP] at n1;cases n1
  have fP:f≠P:=fun z=>by rw [z,hP] at n2;cases n2
  have at':∀ b,b≠P->H b≠none->∀ o1 o2 o3,upd (upd (upd H P o1) c' o2) f o3 b=H b:=fun b z1 z2 o1 o2 o3=>by
   rw [za fun z=>by subst z;exact z2 n2,za fun z=>by subst z;exact z2 n1,za z1]
  refine go f _ (fun b o d e=>?_) (fun b hb=>?_) (fun y hy=>?_) n2 ⟨pm,c',ctv,zb,by rw [za ne,zb]⟩
  ·rw [at' b (fun z=>by subst z;rw [hP] at e;cases e;exact d _ rfl) (by rw [e];simp)];exact e
  ·by_cases z:b=P
   ·subst z;rw [za (Ne.symm fP),za (Ne.symm cP),zb];simp
   ·rw [at' b z hb];exact hb
  ·by_cases z:y.1=P
   ·have ey:y=(P,q):=by
     have:∀ (l:List (Addr×Str)),(l.map (·.1)).Nodup->y∈l->(P,q)∈l->y=(P,q):=by
      intro l
      induction l with
      | nil=>intro _ h;simp at h
      | cons a l ih =>
       intro hn h1 h2
       rw [List.map_cons,List.nodup_cons] at hn
       rcases List.mem_cons.mp h1 with e1 | h1<;>rcases List.mem_cons.mp h2 with e2 | h2
       ·rw [e1,e2]
       ·exact absurd (by rw [<-e1,z];exact List.mem_map_of_mem (f:=(·.1)) h2) hn.1
       ·exact absurd (by rw [<-e2,<-z];exact List.mem_map_of_mem (f:=(·.1)) h1) hn.1
       ·exact ih hn.2 h1 h2
     exact this T nd hy hm
    subst ey
    refine ⟨_,by rw [za (Ne.symm fP),za (Ne.symm cP),zb],?_,fun pos2 cv e=>?_⟩
    ·rw [Array.toList_append];exact TriplesOk_snoc _ _ _ _ ht
    ·rw [Array.toList_append] at e
     rcases codeAmong_add _ ht e with e' | e'
     ·obtain ⟨c2,e1,e2⟩:=hc pos2 cv e'
      exact ⟨c2,e1,by rw [at' c2 (fun z=>by subst z;rw [hP] at e2;unfold qb at e2;cases e2) (by rw [e2];simp)];exact e2⟩
     ·exact ⟨c',e',by rw [za ne,zb]⟩
   ·obtain ⟨qs,e1,e2,e3⟩:=hT y hy
    refine ⟨qs,by rw [at' y.1 z (by rw [e1];simp)];exact e1,e2,fun pos2 cv e=>?_⟩
    obtain ⟨c2,e4,e5⟩:=e3 pos2 cv e
    exact ⟨c2,e4,by rw [at' c2 (fun z=>by subst z;rw [hP] at e5;unfold qb at e5;cases e5) (by rw [e5];simp)];exact e5⟩
 ·obtain ⟨c',e1,e2⟩:=hc pos cv e
  refine ⟨c',e1,fun f pm ctv n=>go f _ (.of ((Same.refl H).new n)) (fun b hb=>by
   by_cases z:b=f
   ·subst z;rw [zb];simp
   ·rw [za z];exact hb) (hT.new n) n ⟨pm,c',ctv,zb,?_⟩⟩
  rw [za (zq e2 n)];exact e2
theorem def_ok2 {P:Program}{w:World}{K:PySem.W.Frag}{mg:Str->Option Value}{base:Heap}{k:Nat}{f:Addr}{N ps fr:List Str}{name qual:Str}{params:Arguments}{body:List Stmt}{scope:Scope}{clos:List (Str×Addr)}{cap:List V}{sp:Sp}
  (S:LamScope N ps fr scope) (len:∀ vs H Q E,sp vs H Q E->vs.length=ps.length) (hlc:cap.length=fr.length)
  (hbind:∀ (doc pm:Value) (c':Addr) (ctv:Value) (us:List Value),us.length=ps.length->bindArgs (PySem.W.fnX name qual params body scope clos .none .none doc pm none (.ref c') ctv) ⟨us,[]⟩=pure (ps.zip us))
  (hbody:∀ (A:Around) (outer:List Env) (s:Shared) (H:Hp) (cd:Value) (vs:List V) (Q:VK),Room k (A.deeper (PySem.W.envX qual scope s.heap.objs.size f cd (cellsFrom (s.heap.objs.size+1) scope.names clos)))->DefIn H f name qual params body scope fr cap clos->(∀ b o,K.lookup b=some o->H b=none)->sp vs H Q E0 ->
   ∃ t,PSs (cxLam P w K mg base N qual scope f cd clos A outer s H) body t/\t { nx:=fun _ H'=>(∀ b,isC clos b=true->H' b=none)->Q .non (Put clos H H'),rt:=fun v H'=>(∀ b,isC clos b=true->H' b=none)->Q v (Put clos H H') } (vs.map some++cap.map some) (Drop clos H)) :
  ClOk P w K mg base (k+1) (fun H=>DefIn H f name qual params body scope fr cap clos) f sp:=by
 refine ⟨fun A outer s H us vs Q hr e0 hR r hsp=>?_⟩
 have hl:=len _ _ _ _ hsp
 obtain ⟨doc,pm,c',ctv,h1,h2,h3,h4,h5,h6⟩:=id hR
 have lim:s.heap.NoLimit:=e0.mod.nolimit.keeps fun b o e=>(e0.bs b o e).1
 refine codeAny_call_function hr.depth (lamO_get e0.hok h1) rfl S.co S.gen rfl (codeO_get e0.hok h2) ?_
 rw [hbind doc pm c' ctv us (by rw [<-r.length];exact hl)]
 refine wpAny_pure (enter_clos S.kind (fun y hy=>?_) fun env he s1 x=>?_)
 ·rcases S.par y.1 (List.of_mem_zip (show (y.1,y.2)∈ps.zip us from hy)).1 with q | q
  ·exact .inl q
  ·exact .inr ⟨q,zS q⟩
 ·subst he
  refine ⟨lim.keeps x.toInCall.keep,codeAny_func ?_⟩
  obtain ⟨t,ht,hq⟩:=hbody A outer s H (.ref c') vs Q (hr.deeper _) hR (fun b o e=>(e0.bs b o (e0.mod.kin b o e)).2) hsp
  have I:=inv_lam S hr.hd e0 hl hlc r h3 h4 h5 h6 x
  refine wpAny_mono (ht [] s1 _ _ _ I hq) (fun fl s' hs=>?_) fun e s' hs=>hs.elim
  have fin:∀ {σ':St} {H':Hp} {v:V} {u:Value},Inv (cxLam P w K mg base N qual scope f (.ref c') clos A outer s H) [] σ' H' s'->RelV v u->((∀ b,isC clos b=true->H' b=none)->Q v (Put clos H H'))->CE outer P w H s Q u s':=fun {σ' H' v u} J rv q=>by
   obtain ⟨un,ok'⟩:=lam_end e0.hok h3 e0.frf J.base J.hok
   have gone:∀ b,isC clos b=true->H' b=none:=fun b y=>by
    obtain ⟨o,v,z,_⟩:=h3.at y
    exact (show Un (frs outer) [] (Drop clos H) H' s.heap s'.heap from J.base).free b o (e0.hok b _ z).1 (Drop.cell y) (by simp)
   exact ⟨v,_,J.os,J.bare,un,ok',rv,q gone⟩
  cases fl with
  | ret u =>
   obtain ⟨v,σ',H',J,rv,q⟩:=hs
   exact fin J rv q
  | next =>
   obtain ⟨σ',H',J,q⟩:=hs
   exact fin (v:=V.non) (u:=Value.none) J rfl q
  | brk =>
   obtain ⟨_,_,_,q⟩:=hs
   exact False.elim q
  | cont =>
   obtain ⟨_,_,_,q⟩:=hs
   exact False.elim q
theorem lam_ok2 {P:Program}{w:World}{K:PySem.W.Frag}{mg:Str->Option Value}{base:Heap}{k:Nat}{f:Addr}{N ps fr:List Str}{qual:Str}{params:Arguments}{body:Expr}{scope:Scope}{clos:List (Str×Addr)}{cap:List V}{sp:Sp}
  (S:LamScope N ps fr scope) (len:∀ vs H Q E,sp vs H Q E->vs.length=ps.length) (hlc:cap.length=fr.length)
  (hbind:∀ (pm:Value) (c':Addr) (ctv:Value) (us:List Value),us.length=ps.length->bindArgs (PySem.W.kla_fn "<lambda>" qual params body scope clos pm (.ref c') ctv) ⟨us,[]⟩=pure (ps.zip us))
  (hbody:∀ (A:Around) (outer:List Env) (s:Shared) (H:Hp) (cd:Value) (vs:List V) (Q:VK),Room k (A.deeper (PySem.W.envX qual scope s.heap.objs.size f cd (cellsFrom (s.heap.objs.size+1) scope.names clos)))->LamAt H f qual params body scope fr cap clos->(∀ b o,K.lookup b=some o->H b=none)->sp vs H Q E0 ->
   ∃ t,PE (cxLam P w K mg base N qual scope f cd clos A outer s H) body t/\t (vs.map some++cap.map some) (Drop clos H) fun v H'=>(∀ b,isC clos b=true->H' b=none)->Q v (Put clos H H')) :
  ClOk P w K mg base (k+1) (fun H=>LamAt H f qual params body scope fr cap clos) f sp:=by
 refine ⟨fun A outer s H us vs Q hr e0 hR r hsp=>?_⟩
 have hl:=len _ _ _ _ hsp
 obtain ⟨pm,c',ctv,h1,h2,h3,h4,h5,h6⟩:=id hR
 have lim:s.heap.NoLimit:=e0.mod.nolimit.keeps fun b o e=>(e0.bs b o e).1
 refine PySem.W.kla_callFunE hr.depth (lamO_get e0.hok h1) rfl S.co S.gen rfl (codeO_get e0.hok h2) ?_
 rw [hbind pm c' ctv us (by rw [<-r.length];exact hl)]
 refine wpAny_pure (enter_clos S.kind (fun y hy=>?_) fun env he s1 x=>?_)
 ·rcases S.par y.1 (List.of_mem_zip (show (y.1,y.2)∈ps.zip us from hy)).1 with q | q
  ·exact .inl q
  ·exact .inr ⟨q,zS q⟩
 ·subst he
  refine ⟨lim.keeps x.toInCall.keep,PySem.W.kla_codeExpr ?_⟩
  obtain ⟨t,ht,hq⟩:=hbody A outer s H (.ref c') vs Q (hr.deeper _) hR (fun b o e=>(e0.bs b o (e0.mod.kin b o e)).2) hsp
  have I:=inv_lam S hr.hd e0 hl hlc r h3 h4 h5 h6 x
  refine wpAny_mono (ht [] s1 _ _ _ I hq) (fun u s' hs=>?_) fun e s' hs=>hs.elim
  obtain ⟨v,H',J,rv,q⟩:=hs
  obtain ⟨un,ok'⟩:=lam_end e0.hok h3 e0.frf J.base J.hok
  have gone:∀ b,isC clos b=true->H' b=none:=fun b y=>by
   obtain ⟨o,v,z,_⟩:=h3.at y
   exact (show Un (frs outer) [] (Drop clos H) H' s.heap s'.heap from J.base).free b o (e0.hok b _ z).1 (Drop.cell y) (by simp)
  exact ⟨v,_,J.os,J.bare,un,ok',rv,q gone⟩
theorem Rp.sameT {φ:Nat->Addr}{H H':Hp}{s:DV.Sto}(r:Rp Γ φ H s)(e:SameT H H')(st:∀ b,H b≠none->H' b≠none)(tb:TabsH Γ.T H'):Gr φ s H φ s H'/\Rp Γ φ H' s:=by
 have kp:Kp H H':=fun b o h f=>e b o (fun ps z=>by subst z;cases f) h
 have gw:Gw φ s.length H φ H':=⟨fun _ _=>rfl,kp⟩
 refine ⟨⟨gw,Nat.le_refl _,fun i h1 h2=>absurd h2 (by omega),fun i o o' e e'=>by rw [e] at e';cases e';rfl,st,fun b o h nt _=>e b o nt h⟩,r.inj,fun i o eo=>?_,r.wf,tb⟩
 exact (r.obj i o eo).mono gw (r.wf i o eo) fun m u hu=>by
  obtain ⟨u',hu',_,nt⟩:=(r.obj i o eo).there m
  rw [hu] at hu';cases hu'
  exact e _ _ nt hu
theorem Cells.kp {H H':Hp}(h:Cells clos H)(k:Kp H H'):Cells clos H':=fun x c e=>by
 obtain ⟨o,v,q,d⟩:=h x c e
 exact ⟨o,v,k _ _ q rfl,d⟩
noncomputable def PVp (Γ : Gm) (cells : List (Str × Addr)) (N : List Str) (σ : St) (φ : Nat -> Addr) (H : Hp) (d : DV.D) (v : V) : Prop := RV Γ φ H d v \/ ∃ id cs, d = .clo id cs /\ ∃ f J, v = .ref f /\ Γ.lg id J /\ CloRaw H f J (clOf cells J.scope.names []) /\
      cs.length = J.fr.length /\ (∀ x, J.scope.names.lookup x = some .free -> ∃ c, cells.lookup x = some c) /\
      ∃ cap, RVL Γ φ H cs cap /\ ∀ (i : Nat) (x : Str) (v : V), J.fr[i]? = some x -> cap[i]? = some v -> J.scope.names.lookup x = some .free /\ ∃ j : Nat, N[j]? = some x /\ σ[j]? = some (some v)
inductive PVL (Γ:Gm)(cells:List (Str×Addr))(N:List Str)(σ:St)(φ:Nat->Addr)(H:Hp):List DV.D->List V->Prop where
 | nil:PVL Γ cells N σ φ H [] []
 | cons {d v l vs} (a:PVp Γ cells N σ φ H d v) (b:PVL Γ cells N σ φ H l vs):PVL Γ cells N σ φ H (d::l) (v::vs)
theorem PVp.mono {cells:List (Str×Addr)}{N:List Str}{σ:St}{φ φ':Nat->Addr}{s s':DV.Sto}{H H':Hp}(g:Gr φ s H φ' s' H'){d:DV.D}{v:V}(b:d.bnd s.length=true)(h:PVp Γ cells N σ φ H d v):PVp Γ cells N σ φ' H' d v:=by
 rcases h with h | ⟨id,cs,rfl,h⟩
 ·exact .inl (RV.mono g _ _ b h)
 ·obtain ⟨f,J,e,h1,h2,h4,h5,cap,h6,h7⟩:=h
  unfold DV.D.bnd at b
  exact .inr ⟨id,cs,rfl,f,J,e,h1,h2.kp g.w.kp,h4,h5,cap,RVL.mono g cs cap b h6,h7⟩
theorem PVp.caught {cells:List (Str×Addr)}{N:List Str}{kd:Str->Option NameKind}{σ:St}{φ:Nat->Addr}{n:Nat}{H1 H2:Hp}(ca:Caught cells N kd σ H1 H2)(hkd:∀ x c,cells.lookup x=some c->kd x=some .cell\/kd x=some .free){d:DV.D}{v:V}(b:d.bnd n=true)(h:PVp Γ cells N σ φ H1 d v):RV Γ φ H2 d v:=by
 have gw:Gw φ n H1 φ H2:=⟨fun _ _=>rfl,fun b o e _=>ca.same b o e⟩
 rcases h with h | ⟨id,cs,rfl,h⟩
 ·exact RV.monoW gw _ _ b h
 ·obtain ⟨f,J,e,h1,h2,h4,h5,cap,h6,h7⟩:=h
  unfold DV.D.bnd at b
  unfold RV
  have hcap:∀ (i:Nat) (x:Str) (v:V),J.fr[i]?=some x->cap[i]?=some v->J.scope.names.lookup x=some .free/\(kd x=some .cell\/kd x=some .free)/\∃ j:Nat,N[j]?=some x/\σ[j]?=some (some v):=fun i x v e1 e2=>by
   obtain ⟨q1,q2⟩:=h7 i x v e1 e2
   obtain ⟨c,q3⟩:=h5 x q1
   exact ⟨q1,hkd x c q3,q2⟩
  have hat:CloAt H2 f J cap (clOf cells J.scope.names []):=by
   unfold CloAt
   unfold CloRaw at h2
   cases q:J.nm with
   | none=>rw [q] at h2;exact lamAt_of ca h2 h5 hcap
   | some p=>rw [q] at h2;exact defIn_of ca h2 h5 hcap
  exact ⟨f,cap,J,_,e,h1,hat,by rw [h6.length,h4],RVL.monoW gw cs cap b h6⟩
theorem PVL.caught {cells:List (Str×Addr)}{N:List Str}{kd:Str->Option NameKind}{σ:St}{φ:Nat->Addr}{n:Nat}{H1 H2:Hp}(ca:Caught cells N kd σ H1 H2)(hkd:∀ x c,cells.lookup x=some c->kd x=some .cell\/kd x=some .free){l:List DV.D}{vs:List V}(h:PVL Γ cells N σ φ H1 l vs)(b:DV.D.bndL n l=true):RVL Γ φ H2 l vs:=by
 induction h with
 | nil=>exact .nil
 | cons a _ ih =>
  unfold DV.D.bndL at b
  rw [Bool.and_eq_true] at b
  exact .cons (a.caught ca hkd b.1) (ih b.2)
end
end L2
end
noncomputable section
namespace L2
open PySem PySem.Spec PyProof.Rows
variable {Γ:Gm} {X:Cx}
noncomputable def TEv (Γ:Gm)(m:DV.Env->DV.Sto->DV.R DV.D):TE:=fun σ H Q=>∃ φ ρ s d s',RE Γ φ H s.length ρ σ/\Rp Γ φ H s/\m ρ s=.ok d s'/\After Γ φ s H d s' Q
noncomputable def AfterL (Γ:Gm)(φ:Nat->Addr)(s:DV.Sto)(H:Hp)(l:List DV.D)(s':DV.Sto)(Q:List V->Hp->Prop):Prop :=
 ∀ vs φ' H',Gr φ s H φ' s' H'->s.length<=s'.length->DV.D.bndL s'.length l=true->RVL Γ φ' H' l vs->Rp Γ φ' H' s'->Q vs H'
noncomputable def TAv (Γ:Gm)(m:DV.Env->DV.Sto->DV.R (List DV.D)):TA:=fun σ H Q=>∃ φ ρ s l s',RE Γ φ H s.length ρ σ/\Rp Γ φ H s/\m ρ s=.ok l s'/\AfterL Γ φ s H l s' Q
noncomputable def AfterB (Γ:Gm)(φ:Nat->Addr)(s:DV.Sto)(H:Hp)(b:Bool)(s':DV.Sto)(Q:Bool->Hp->Prop):Prop :=
 ∀ φ' H',Gr φ s H φ' s' H'->s.length<=s'.length->Rp Γ φ' H' s'->Q b H'
noncomputable def TTv (Γ:Gm)(m:DV.Env->DV.Sto->DV.R DV.D):TT:=fun σ H Q=>∃ φ ρ s b s',RE Γ φ H s.length ρ σ/\Rp Γ φ H s/\m ρ s=.ok (.bl b) s'/\AfterB Γ φ s H b s' Q
theorem PE.imp {e:Expr}{t t':TE}(h:PE X e t)(i:∀ σ H Q,t' σ H Q->t σ H Q):PE X e t':=fun pins s σ H Q I q=>h pins s σ H Q I (i σ H Q q)
theorem PT.imp {e:Expr}{t t':TT}(h:PT X e t)(i:∀ σ H Q,t' σ H Q->t σ H Q):PT X e t':=fun pins s σ H Q I q=>h pins s σ H Q I (i σ H Q q)
theorem PA.imp {e:List Expr}{t t':TA}(h:PA X e t)(i:∀ σ H Q,t' σ H Q->t σ H Q):PA X e t':=fun pos pins s σ H Q I q=>h pos pins s σ H Q I (i σ H Q q)
theorem AfterB.trans {φ φ1:Nat->Addr}{s s1 s':DV.Sto}{H H1:Hp}{b:Bool}{Q:Bool->Hp->Prop}(h:AfterB Γ φ s H b s' Q)(g:Gr φ s H φ1 s1 H1)(l:s.length<=s1.length):AfterB Γ φ1 s1 H1 b s' Q :=
 fun φ' H' g' l' p=>h φ' H' (g.trans g' l) (Nat.le_trans l l') p
theorem tv_var (i:Nat){σ:St}{H:Hp}{Q:VK}(h:TEv Γ (fun ρ s=>DV.getV ρ i s) σ H Q):tVar i σ H Q:=by
 obtain ⟨φ,ρ,s,d,s',E,R,hm,q⟩:=h
 simp only [DV.getV] at hm
 split at hm
 ·rename_i d' e
  cases hm
  obtain ⟨b,v,e1,e2⟩:=E.val i _ e
  exact ⟨v,e1,q.here R b e2⟩
 ·cases hm
theorem tv_cst {c:DV.D}{v:V}(hb:∀ n,c.bnd n=true)(hv:∀ φ H,RV Γ φ H c v){σ:St}{H:Hp}{Q:VK}(h:TEv Γ (fun ρ s=>.ok c s) σ H Q):tC v σ H Q:=by
 obtain ⟨φ,ρ,s,d,s',E,R,hm,q⟩:=h
 cases hm
 exact q.here R (hb _) (hv _ _)
theorem tv_op {m1 m2:DV.Env->DV.Sto->DV.R DV.D}{f:DV.D->DV.D->DV.Sto->DV.R DV.D}{σ:St}{H:Hp}{Q:VK}(h:TEv Γ (fun ρ s=>(m1 ρ s).bind fun x s=>(m2 ρ s).bind fun y s=>f x y s) σ H Q):tOp (rOp Γ f) (TEv Γ m1) (TEv Γ m2) σ H Q:=by
 obtain ⟨φ,ρ,s,d,s',E,R,hm,q⟩:=h
 obtain ⟨x,s1,e1,hm⟩:=bind_inv hm
 obtain ⟨y,s2,e2,hm⟩:=bind_inv hm
 refine ⟨φ,ρ,s,x,s1,E,R,e1,fun v1 φ1 H1 g1 l1 b1 r1 R1=>?_⟩
 refine ⟨φ1,ρ,s1,y,s2,E.mono g1 l1,R1,e2,fun v2 φ2 H2 g2 l2 b2 r2 R2=>?_⟩
 exact ⟨φ2,s2,x,y,d,s',R2,RV.mono g2 x v1 b1 r1,r2,zn l2 x b1,b2,hm,q.trans (g1.trans g2 l1) (Nat.le_trans l1 l2)⟩
theorem zM {α:Type}{r:DV.R DV.D}{f:Bool->DV.Sto->DV.R α}{a:α}{t:DV.Sto}(h:DV.tru r f=.ok a t):∃ b s,r=.ok (.bl b) s/\f b s=.ok a t:=by
 unfold DV.tru at h
 obtain ⟨d,s,e,h⟩:=bind_inv h
 cases d with
 | bl b=>exact ⟨b,s,e,h⟩
 | _=>cases h
theorem tt_val {m:DV.Env->DV.Sto->DV.R DV.D}{σ:St}{H:Hp}{Q:Bool->Hp->Prop}(h:TTv Γ m σ H Q):tB (TEv Γ m) σ H Q:=by
 obtain ⟨φ,ρ,s,b,s',E,R,hm,q⟩:=h
 refine ⟨φ,ρ,s,.bl b,s',E,R,hm,fun v φ' H' g l bb r R'=>?_⟩
 exact ⟨b,r.blE,q φ' H' g l R'⟩
theorem tt_test {m:DV.Env->DV.Sto->DV.R DV.D}{σ:St}{H:Hp}{Q:Bool->Hp->Prop}(h:TTv Γ m σ H Q):tTest (TEv Γ m) σ H Q:=tt_val h
theorem tt_not {m:DV.Env->DV.Sto->DV.R DV.D}{σ:St}{H:Hp}{Q:Bool->Hp->Prop}(h:TTv Γ (fun ρ s=>DV.tru (m ρ s) fun b s=>.ok (.bl (!b)) s) σ H Q):tNot (TTv Γ m) σ H Q:=by
 obtain ⟨φ,ρ,s,b,s',E,R,hm,q⟩:=h
 obtain ⟨c,s1,e1,hm⟩:=zM hm
 cases hm
 exact ⟨φ,ρ,s,c,_,E,R,e1,q⟩
theorem tt_and {m1 m2:DV.Env->DV.Sto->DV.R DV.D}{σ:St}{H:Hp}{Q:Bool->Hp->Prop}(h:TTv Γ (fun ρ s=>DV.tru (m1 ρ s) fun c s=>if c then DV.tru (m2 ρ s) fun c s=>.ok (.bl c) s else .ok (.bl false) s) σ H Q):tAnd (TTv Γ m1) (TTv Γ m2) σ H Q:=by
 obtain ⟨φ,ρ,s,b,s',E,R,hm,q⟩:=h
 obtain ⟨c,s1,e1,hm⟩:=zM hm
 refine ⟨φ,ρ,s,c,s1,E,R,e1,fun φ1 H1 g1 l1 R1=>?_⟩
 cases c with
 | true =>
  rw [if_pos rfl] at hm ⊢
  obtain ⟨c',s2,e2,hm⟩:=zM hm
  cases hm
  exact ⟨φ1,ρ,s1,_,_,E.mono g1 l1,R1,e2,q.trans g1 l1⟩
 | false =>
  rw [if_neg Bool.false_ne_true] at hm ⊢
  cases hm
  exact q φ1 H1 g1 l1 R1
theorem tt_or {m1 m2:DV.Env->DV.Sto->DV.R DV.D}{σ:St}{H:Hp}{Q:Bool->Hp->Prop}(h:TTv Γ (fun ρ s=>DV.tru (m1 ρ s) fun c s=>if c then .ok (.bl true) s else DV.tru (m2 ρ s) fun c s=>.ok (.bl c) s) σ H Q):tOr (TTv Γ m1) (TTv Γ m2) σ H Q:=by
 obtain ⟨φ,ρ,s,b,s',E,R,hm,q⟩:=h
 obtain ⟨c,s1,e1,hm⟩:=zM hm
 refine ⟨φ,ρ,s,c,s1,E,R,e1,fun φ1 H1 g1 l1 R1=>?_⟩
 cases c with
 | true =>
  rw [if_pos rfl] at hm ⊢
  cases hm
  exact q φ1 H1 g1 l1 R1
 | false =>
  rw [if_neg Bool.false_ne_true] at hm ⊢
  obtain ⟨c',s2,e2,hm⟩:=zM hm
  cases hm
  exact ⟨φ1,ρ,s1,_,_,E.mono g1 l1,R1,e2,q.trans g1 l1⟩
theorem tv_not {m:DV.Env->DV.Sto->DV.R DV.D}{σ:St}{H:Hp}{Q:VK}(h:TEv Γ (fun ρ s=>DV.tru (m ρ s) fun b s=>.ok (.bl (!b)) s) σ H Q):tNotV (TEv Γ m) σ H Q:=by
 obtain ⟨φ,ρ,s,d,s',E,R,hm,q⟩:=h
 obtain ⟨c,s1,e1,hm⟩:=zM hm
 cases hm
 exact ⟨φ,ρ,s,.bl c,_,E,R,e1,fun v φ1 H1 g l b r R1=>⟨c,r.blE,q _ φ1 H1 g l rfl RV.blI R1⟩⟩
theorem tv_and {m1 m2:DV.Env->DV.Sto->DV.R DV.D}{σ:St}{H:Hp}{Q:VK}(h:TEv Γ (fun ρ s=>DV.tru (m1 ρ s) fun c s=>if c then DV.tru (m2 ρ s) fun c s=>.ok (.bl c) s else .ok (.bl false) s) σ H Q):tAndV (TEv Γ m1) (TEv Γ m2) σ H Q:=by
 obtain ⟨φ,ρ,s,d,s',E,R,hm,q⟩:=h
 obtain ⟨c,s1,e1,hm⟩:=zM hm
 refine ⟨φ,ρ,s,.bl c,s1,E,R,e1,fun v φ1 H1 g1 l1 b1 r1 R1=>⟨c,r1.blE,?_⟩⟩
 cases c with
 | true =>
  rw [if_pos rfl] at hm ⊢
  obtain ⟨c,s2,e2,hm⟩:=zM hm
  cases hm
  exact ⟨φ1,ρ,s1,.bl c,_,E.mono g1 l1,R1,e2,q.trans g1 l1⟩
 | false =>
  rw [if_neg Bool.false_ne_true] at hm ⊢
  cases hm
  exact q _ φ1 H1 g1 l1 rfl RV.blI R1
theorem tv_or {m1 m2:DV.Env->DV.Sto->DV.R DV.D}{σ:St}{H:Hp}{Q:VK}(h:TEv Γ (fun ρ s=>DV.tru (m1 ρ s) fun c s=>if c then .ok (.bl true) s else DV.tru (m2 ρ s) fun c s=>.ok (.bl c) s) σ H Q):tOrV (TEv Γ m1) (TEv Γ m2) σ H Q:=by
 obtain ⟨φ,ρ,s,d,s',E,R,hm,q⟩:=h
 obtain ⟨c,s1,e1,hm⟩:=zM hm
 refine ⟨φ,ρ,s,.bl c,s1,E,R,e1,fun v φ1 H1 g1 l1 b1 r1 R1=>⟨c,r1.blE,?_⟩⟩
 cases c with
 | true =>
  rw [if_pos rfl] at hm ⊢
  cases hm
  exact q _ φ1 H1 g1 l1 rfl RV.blI R1
 | false =>
  rw [if_neg Bool.false_ne_true] at hm ⊢
  obtain ⟨c,s2,e2,hm⟩:=zM hm
  cases hm
  exact ⟨φ1,ρ,s1,.bl c,_,E.mono g1 l1,R1,e2,q.trans g1 l1⟩
theorem tv_ite {mc m1 m2:DV.Env->DV.Sto->DV.R DV.D}{σ:St}{H:Hp}{Q:VK}(h:TEv Γ (fun ρ s=>DV.tru (mc ρ s) fun k s=>if k then m1 ρ s else m2 ρ s) σ H Q):tIf (TTv Γ mc) (TEv Γ m1) (TEv Γ m2) σ H Q:=by
 obtain ⟨φ,ρ,s,d,s',E,R,hm,q⟩:=h
 obtain ⟨c,s1,e1,hm⟩:=zM hm
 refine ⟨φ,ρ,s,c,s1,E,R,e1,fun φ1 H1 g1 l1 R1=>?_⟩
 cases c with
 | true =>
  rw [if_pos rfl] at hm ⊢
  exact ⟨φ1,ρ,s1,d,s',E.mono g1 l1,R1,hm,q.trans g1 l1⟩
 | false =>
  rw [if_neg Bool.false_ne_true] at hm ⊢
  exact ⟨φ1,ρ,s1,d,s',E.mono g1 l1,R1,hm,q.trans g1 l1⟩
theorem ta_nil {σ:St}{H:Hp}{Q:List V->Hp->Prop}(h:TAv Γ (fun ρ s=>.ok [] s) σ H Q):tNil σ H Q:=by
 obtain ⟨φ,ρ,s,d,s',E,R,hm,q⟩:=h
 cases hm
 exact q [] φ H (Gr.refl _ _ _) (Nat.le_refl _) rfl .nil R
theorem ta_cons {m:DV.Env->DV.Sto->DV.R DV.D}{ms:DV.Env->DV.Sto->DV.R (List DV.D)}{σ:St}{H:Hp}{Q:List V->Hp->Prop}(h:TAv Γ (fun ρ s=>(m ρ s).bind fun d s=>(ms ρ s).bind fun l s=>.ok (d::l) s) σ H Q):tCons (TEv Γ m) (TAv Γ ms) σ H Q:=by
 obtain ⟨φ,ρ,s,l,s',E,R,hm,q⟩:=h
 obtain ⟨x,s1,e1,hm⟩:=bind_inv hm
 obtain ⟨y,s2,e2,hm⟩:=bind_inv hm
 cases hm
 refine ⟨φ,ρ,s,x,s1,E,R,e1,fun v1 φ1 H1 g1 l1 b1 r1 R1=>?_⟩
 refine ⟨φ1,ρ,s1,y,_,E.mono g1 l1,R1,e2,fun v2 φ2 H2 g2 l2 b2 r2 R2=>?_⟩
 refine q (v1::v2) φ2 H2 (g1.trans g2 l1) (Nat.le_trans l1 l2) ?_ (.cons (RV.mono g2 x v1 b1 r1) r2) R2
 unfold DV.D.bndL
 rw [zn l2 x b1,b2];rfl
theorem tv_call {ms:DV.Env->DV.Sto->DV.R (List DV.D)}{f:List DV.D->DV.Sto->DV.R DV.D}{σ:St}{H:Hp}{Q:VK}(h:TEv Γ (fun ρ s=>(ms ρ s).bind fun l s=>f l s) σ H Q):tCB (rCl Γ f) (TAv Γ ms) σ H Q:=by
 obtain ⟨φ,ρ,s,d,s',E,R,hm,q⟩:=h
 obtain ⟨l,s1,e1,hm⟩:=bind_inv hm
 exact ⟨φ,ρ,s,l,s1,E,R,e1,fun vs φ1 H1 g1 l1 b1 r1 R1=>⟨φ1,s1,l,d,s',R1,r1,b1,hm,q.trans g1 l1⟩⟩
theorem tv_sl {m:DV.Env->DV.Sto->DV.R DV.D}{ml mh:DV.Env->DV.Sto->DV.R DV.D}{σ:St}{H:Hp}{Q:VK} :
  (TEv Γ (fun ρ s=>(m ρ s).bind fun x s=>(ml ρ s).bind fun y s=>match y with | .int i=>DV.slM x (some i) none s | _=>.bad) σ H Q->tSl (rSl Γ) (TEv Γ m) (tPart (TEv Γ ml)) tNoPart σ H Q) /\
  (TEv Γ (fun ρ s=>(m ρ s).bind fun x s=>(mh ρ s).bind fun y s=>match y with | .int i=>DV.slM x none (some i) s | _=>.bad) σ H Q->tSl (rSl Γ) (TEv Γ m) tNoPart (tPart (TEv Γ mh)) σ H Q) /\
  (TEv Γ (fun ρ s=>(m ρ s).bind fun x s=>(ml ρ s).bind fun y s=>match y with | .int i=>(mh ρ s).bind (fun z s=>match z with | .int j=>DV.slM x (some i) (some j) s | _=>.bad) | _=>.bad) σ H Q->tSl (rSl Γ) (TEv Γ m) (tPart (TEv Γ ml)) (tPart (TEv Γ mh)) σ H Q):=by
 refine ⟨fun h=>?_,fun h=>?_,fun h=>?_⟩
 ·obtain ⟨φ,ρ,s,d,s',E,R,hm,q⟩:=h
  obtain ⟨x,s1,e1,hm⟩:=bind_inv hm
  obtain ⟨y,s2,e2,hm⟩:=bind_inv hm
  refine ⟨φ,ρ,s,x,s1,E,R,e1,fun v1 φ1 H1 g1 l1 b1 r1 R1=>?_⟩
  refine ⟨φ1,ρ,s1,y,s2,E.mono g1 l1,R1,e2,fun v2 φ2 H2 g2 l2 b2 r2 R2=>?_⟩
  cases y with
  | int i=>exact ⟨i,r2.intE,φ2,s2,x,d,s',R2,RV.mono g2 x v1 b1 r1,zn l2 x b1,hm,q.trans (g1.trans g2 l1) (Nat.le_trans l1 l2)⟩
  | _=>cases hm
 ·obtain ⟨φ,ρ,s,d,s',E,R,hm,q⟩:=h
  obtain ⟨x,s1,e1,hm⟩:=bind_inv hm
  obtain ⟨y,s2,e2,hm⟩:=bind_inv hm
  refine ⟨φ,ρ,s,x,s1,E,R,e1,fun v1 φ1 H1 g1 l1 b1 r1 R1=>?_⟩
  refine ⟨φ1,ρ,s1,y,s2,E.mono g1 l1,R1,e2,fun v2 φ2 H2 g2 l2 b2 r2 R2=>?_⟩
  cases y with
  | int i=>exact ⟨i,r2.intE,φ2,s2,x,d,s',R2,RV.mono g2 x v1 b1 r1,zn l2 x b1,hm,q.trans (g1.trans g2 l1) (Nat.le_trans l1 l2)⟩
  | _=>cases hm
 ·obtain ⟨φ,ρ,s,d,s',E,R,hm,q⟩:=h
  obtain ⟨x,s1,e1,hm⟩:=bind_inv hm
  obtain ⟨y,s2,e2,hm⟩:=bind_inv hm
  refine ⟨φ,ρ,s,x,s1,E,R,e1,fun v1 φ1 H1 g1 l1 b1 r1 R1=>?_⟩
  refine ⟨φ1,ρ,s1,y,s2,E.mono g1 l1,R1,e2,fun v2 φ2 H2 g2 l2 b2 r2 R2=>?_⟩
  cases y with
  | int i =>
   obtain ⟨z,s3,e3,hm⟩:=bind_inv hm
   refine ⟨i,r2.intE,φ2,ρ,s2,z,s3,E.mono (g1.trans g2 l1) (Nat.le_trans l1 l2),R2,e3,fun v3 φ3 H3 g3 l3 b3 r3 R3=>?_⟩
   cases z with
   | int j=>exact ⟨j,r3.intE,φ3,s3,x,d,s',R3,RV.mono (g2.trans g3 l2) x v1 b1 r1,zn (Nat.le_trans l2 l3) x b1,hm,q.trans ((g1.trans g2 l1).trans g3 (Nat.le_trans l1 l2)) (Nat.le_trans (Nat.le_trans l1 l2) l3)⟩
   | _=>cases hm
  | _=>cases hm
end L2
end
noncomputable section
namespace L2
open PySem PySem.Spec PyProof.Rows
variable {Γ:Gm} {X:Cx}
noncomputable def WalkOk (Γ:Gm)(J:It)(φ0:Nat->Addr)(H0:Hp)(s0:DV.Sto)(q:DV.Sq):Prop :=
 ∀ φ H s,Gr φ0 s0 H0 φ s H->s0.length<=s.length->Rp Γ φ H s->DV.chk s0 s q.src=true->∀ i:Nat,
  (i<q.its.length->J.go i H/\∀ x H',J.yld i H x H'->Same H H'/\∀ d,q.its[i]?=some d->RV Γ φ H' d x)/\(q.its.length<=i->J.stop i H)
noncomputable def TIv (Γ:Gm)(m:DV.Env->DV.Sto->DV.R DV.Sq):TI:=fun σ H R=>∃ φ ρ s q s',RE Γ φ H s.length ρ σ/\Rp Γ φ H s/\m ρ s=.ok q s' /\
 ∀ J φ' H',Gr φ s H φ' s' H'->s.length<=s'.length->DV.D.bndL s'.length q.its=true->Rp Γ φ' H' s'->WalkOk Γ J φ' H' s' q->R J H'
theorem PI.imp {tg e:Expr}{t t':TI}(h:PI X tg e t)(i:∀ σ H R,t' σ H R->t σ H R):PI X tg e t':=fun pins s σ H R I q=>h pins s σ H R I (i σ H R q)
theorem PI.or {tg e:Expr}{t t':TI}(h:PI X tg e t)(h':PI X tg e t'):PI X tg e (fun σ H R=>t σ H R\/t' σ H R):=fun pins s σ H R I q=>q.elim (h pins s σ H R I) (h' pins s σ H R I)
theorem walk_tup {φ0:Nat->Addr}{H0:Hp}{s0:DV.Sto}{a:Addr}{xs:List V}{l:List DV.D}(h:SqT Γ.K H0 a xs)(hl:RVL Γ φ0 H0 l xs)(hb:DV.D.bndL s0.length l=true):WalkOk Γ (Itt Γ.K a) φ0 H0 s0 ⟨l,[]⟩:=by
 intro φ H s g _ R _ i
 have h':=g.w.kp.sqT h
 have hl':=RVL.mono g l xs hb hl
 refine ⟨fun hlt=>⟨⟨xs,xs[i]'(by rw [hl'.length];exact hlt),h',List.getElem?_eq_getElem _⟩,fun x H' y=>?_⟩,fun hle=>⟨xs,h',by rw [hl'.length];exact hle⟩⟩
 obtain ⟨e,y⟩:=y
 subst e
 refine ⟨Same.refl _,fun d hd=>?_⟩
 obtain ⟨v,e1,e2⟩:=hl'.get hd
 rw [y xs h'] at e1;cases e1
 exact e2
theorem walk_ro {φ0:Nat->Addr}{H0:Hp}{s0:DV.Sto}{a:Addr}{xs:List V}{l:List DV.D}(h:SqF Γ.K H0 a xs)(hl:RVL Γ φ0 H0 l xs)(hb:DV.D.bndL s0.length l=true):WalkOk Γ (Itl Γ.K a) φ0 H0 s0 ⟨l,[]⟩:=by
 intro φ H s g _ R _ i
 have h':=h.2 _ g.w.kp
 have hl':=RVL.mono g l xs hb hl
 refine ⟨fun hlt=>⟨⟨xs,xs[i]'(by rw [hl'.length];exact hlt),h',List.getElem?_eq_getElem _⟩,fun x H' y=>?_⟩,fun hle=>⟨xs,h',by rw [hl'.length];exact hle⟩⟩
 obtain ⟨e,y⟩:=y
 subst e
 refine ⟨Same.refl _,fun d hd=>?_⟩
 obtain ⟨v,e1,e2⟩:=hl'.get hd
 rw [y xs h'] at e1;cases e1
 exact e2
theorem walk_lst {φ0:Nat->Addr}{H0:Hp}{s0:DV.Sto}{r:Nat}{l:List DV.D}(hr:s0[r]?=some (.lst l)):WalkOk Γ (Itl Γ.K (φ0 r)) φ0 H0 s0 ⟨l,[r]⟩:=by
 intro φ H s g _ R ck i
 have hlt0:r<s0.length:=(List.getElem?_eq_some_iff.mp hr).1
 have hs:s[r]?=some (.lst l):=by
  unfold DV.chk at ck
  simp only [List.all_cons,List.all_nil,Bool.and_true,decide_eq_true_eq] at ck
  rw [ck];exact hr
 obtain ⟨xs,e,hl'⟩:=R.addr hs
 rw [g.w.map r hlt0] at e
 have h':SqL Γ.K H (φ0 r) xs:=SqL.of e
 refine ⟨fun hlt=>⟨⟨xs,xs[i]'(by rw [hl'.length];exact hlt),h',List.getElem?_eq_getElem _⟩,fun x H' y=>?_⟩,fun hle=>⟨xs,h',by rw [hl'.length];exact hle⟩⟩
 obtain ⟨e,y⟩:=y
 subst e
 refine ⟨Same.refl _,fun d hd=>?_⟩
 obtain ⟨v,e1,e2⟩:=hl'.get hd
 rw [y xs h'] at e1;cases e1
 exact e2
theorem walk_str {φ0:Nat->Addr}{H0:Hp}{s0:DV.Sto}{l:List Nat}:WalkOk Γ (Its ⟨l.toArray⟩) φ0 H0 s0 ⟨l.map fun c=>.str [c],[]⟩:=by
 intro φ H s g _ R _ i
 have hsz:(⟨l.toArray⟩:Str).cps.size=l.length:=by simp
 refine ⟨fun hlt=>?_,fun hle=>?_⟩
 ·simp only [List.length_map] at hlt
  refine ⟨show i<(⟨l.toArray⟩:Str).cps.size by rw [hsz];exact hlt,fun x H' y=>?_⟩
  obtain ⟨e,c,hc,rfl⟩:=y
  subst e
  refine ⟨Same.refl _,fun d hd=>?_⟩
  have hc':l[i]?=some c:=by simpa using hc
  rw [List.getElem?_map,hc'] at hd
  cases hd
  exact RV.strI (by simp;decide)
 ·simp only [List.length_map] at hle
  show (⟨l.toArray⟩:Str).cps.size<=i
  rw [hsz];exact hle
theorem walk_rng {φ0:Nat->Addr}{H0:Hp}{s0:DV.Sto}{a b:Int}:WalkOk Γ (Itr a (b - a).toNat) φ0 H0 s0 ⟨DV.qy a b,[]⟩:=by
 intro φ H s g _ R _ i
 have hn:(DV.qy a b).length=(b - a).toNat:=by simp [DV.qy]
 refine ⟨fun hlt=>⟨show i<(b - a).toNat by rw [<-hn];exact hlt,fun x H' y=>?_⟩,fun hle=>show (b - a).toNat<=i by rw [<-hn];exact hle⟩
 obtain ⟨e,rfl⟩:=y
 subst e
 refine ⟨Same.refl _,fun d hd=>?_⟩
 simp only [DV.qy] at hd hlt
 rw [List.getElem?_map,List.getElem?_range (by simpa using hlt)] at hd
 cases hd
 exact RV.intI
theorem ti_rng1 {m:DV.Env->DV.Sto->DV.R DV.D}{σ:St}{H:Hp}{R:It->Hp->Prop}(h:TIv Γ (fun ρ s=>(m ρ s).bind fun x s=>match x with | .int i=>if -DV.W62<=i/\i<DV.W62 then .ok ⟨DV.qy 0 i,[]⟩ s else .bad | _=>.bad) σ H R) :
  iRng1 (tCons (TEv Γ m) tNil) σ H R:=by
 obtain ⟨φ,ρ,s,q,s',E,P,hm,k⟩:=h
 obtain ⟨x,s1,e1,hm⟩:=bind_inv hm
 refine ⟨φ,ρ,s,x,s1,E,P,e1,fun v φ1 H1 g l b r P1=>?_⟩
 cases x with
 | int i =>
  simp only at hm
  split at hm
  ·rename_i hi
   cases hm
   have hw:DV.W62=2^62:=by decide
   rw [hw] at hi
   refine ⟨i,by rw [r.intE],hi.1,hi.2,k _ φ1 H1 g l ?_ P1 ?_⟩
   ·refine bndL_iff.mpr fun d hd=>?_
    simp only [DV.qy,List.mem_map] at hd
    obtain ⟨_,_,rfl⟩:=hd
    rfl
   ·have:=walk_rng (Γ:=Γ) (φ0:=φ1) (H0:=H1) (s0:=s') (a:=0) (b:=i)
    rwa [Int.sub_zero] at this
  ·cases hm
 | _=>cases hm
theorem ti_seq {m:DV.Env->DV.Sto->DV.R DV.D}{σ:St}{H:Hp}{R:It->Hp->Prop}(h:TIv Γ (fun ρ s=>(m ρ s).bind fun d s=>DV.seqM d s) σ H R) :
  iTup Γ.K (TEv Γ m) σ H R\/iList Γ.K (TEv Γ m) σ H R\/iStr (TEv Γ m) σ H R:=by
 obtain ⟨φ,ρ,s,q,s',E,P,hm,k⟩:=h
 obtain ⟨x,s1,e1,hm⟩:=bind_inv hm
 unfold DV.seqM at hm
 cases x with
 | tup l =>
  cases hm
  refine .inl ⟨φ,ρ,s,_,_,E,P,e1,fun v φ1 H1 g l b r P1=>?_⟩
  obtain ⟨a,xs,rfl,h1,d1⟩:=r.tupE
  unfold DV.D.bnd at b
  exact ⟨a,rfl,⟨xs,h1⟩,k _ φ1 H1 g l b P1 (walk_tup h1 d1 b)⟩
 | str l =>
  cases hm
  refine .inr (.inr ⟨φ,ρ,s,_,_,E,P,e1,fun v φ1 H1 g ll b r P1=>?_⟩)
  refine ⟨_,r.strE,k _ φ1 H1 g ll ?_ P1 walk_str⟩
  refine bndL_iff.mpr fun d hd=>?_
  simp only [List.mem_map] at hd
  obtain ⟨_,_,rfl⟩:=hd
  rfl
 | ref r =>
  simp only at hm
  cases hs:s1[r]? with
  | none=>rw [hs] at hm;cases hm
  | some o =>
   rw [hs] at hm
   cases o with
   | lst l =>
    cases hm
    refine .inr (.inl ⟨φ,ρ,s,_,_,E,P,e1,fun v φ1 H1 g ll b rr P1=>?_⟩)
    have e:=rr.refE;subst e
    obtain ⟨xs,e2,d1⟩:=P1.addr hs
    have wf:=P1.wf _ _ hs
    unfold DV.O.bnd at wf
    exact ⟨φ1 r,rfl,⟨xs,SqL.of e2⟩,k _ φ1 H1 g ll wf P1 (walk_lst hs)⟩
   | ro l =>
    cases hm
    refine .inr (.inl ⟨φ,ρ,s,_,_,E,P,e1,fun v φ1 H1 g ll b rr P1=>?_⟩)
    have e:=rr.refE;subst e
    obtain ⟨xs,e2,d1⟩:=P1.obj _ _ hs
    have wf:=P1.wf _ _ hs
    unfold DV.O.bnd at wf
    exact ⟨φ1 r,rfl,⟨xs,e2.1⟩,k _ φ1 H1 g ll wf P1 (walk_ro e2 d1 wf)⟩
   | dic l=>cases hm
   | ins c l=>cases hm
 | _=>cases hm
end L2
end
noncomputable section
namespace L2
open PySem PySem.Spec PyProof.Rows
variable {Γ:Gm} {X:Cx}
noncomputable def gsOf:List Nat->TGs
 | []=>gNil
 | i::is=>gCons (gName i) (gsOf is)
noncomputable def gOf (K:PySem.W.Frag):DV.Tg->TG
 | .one i=>gName i
 | .tup is=>gTup K is.length (gsOf is)
theorem re_set {φ:Nat->Addr}{H:Hp}{n:Nat}{ρ ρ':DV.Env}{σ:St}{i:Nat}{d:DV.D}{v:V}(E:RE Γ φ H n ρ σ)(r:RV Γ φ H d v)(b:d.bnd n=true)(h:DV.setV ρ i d=some ρ'):RE Γ φ H n ρ' (σ.set i (some v)):=by
 unfold DV.setV at h
 split at h
 ·rename_i hi
  cases h
  refine ⟨by rw [List.length_set,List.length_set];exact E.len,fun j e hj=>?_⟩
  by_cases hij:j=i
  ·subst hij
   rw [List.getElem?_set_self hi] at hj
   cases hj
   exact ⟨b,v,by rw [List.getElem?_set_self (by rw [<-E.len];exact hi)],r⟩
  ·rw [List.getElem?_set_ne (Ne.symm hij)] at hj
   obtain ⟨h1,w,h2,h3⟩:=E.val j e hj
   exact ⟨h1,w,by rw [List.getElem?_set_ne (Ne.symm hij)];exact h2,h3⟩
 ·cases h
theorem gs_ok {φ:Nat->Addr}{H:Hp}{n:Nat}{Q:St->Hp->Prop}:∀ (is:List Nat) (l:List DV.D) (xs:List V) (ρ ρ':DV.Env) (σ:St),RE Γ φ H n ρ σ->RVL Γ φ H l xs->DV.D.bndL n l=true->DV.setVs ρ is l=some ρ'->(∀ σ',RE Γ φ H n ρ' σ'->Q σ' H)->gsOf is xs σ H Q
 | [],[],xs,ρ,ρ',σ,E,r,_,h,k=>by
  cases h
  exact ⟨r.unnil,k σ E⟩
 | [],d::l,_,_,_,_,_,_,_,h,_=>by cases h
 | i::is,[],_,_,_,_,_,_,_,h,_=>by cases h
 | i::is,d::l,xs,ρ,ρ',σ,E,r,b,h,k=>by
  have h:(DV.setV ρ i d).bind (fun ρ=>DV.setVs ρ is l)=some ρ':=h
  obtain ⟨x,r',rfl,h1,h2⟩:=r.uncons
  unfold DV.D.bndL at b
  rw [Bool.and_eq_true] at b
  cases e:DV.setV ρ i d with
  | none=>rw [e] at h;cases h
  | some ρ1 =>
   rw [e] at h
   exact ⟨x,r',rfl,gs_ok is l r' ρ1 ρ' _ (re_set E h1 b.1 e) h2 b.2 h k⟩
theorem setVs_len {l:List DV.D}:∀ {is:List Nat} {ρ ρ':DV.Env},DV.setVs ρ is l=some ρ'->is.length=l.length:=by
 induction l with
 | nil=>intro is ρ ρ' h;cases is with
  | nil=>rfl
  | cons i is=>cases h
 | cons d l ih=>intro is ρ ρ' h;cases is with
  | nil=>cases h
  | cons i is =>
   have h:(DV.setV ρ i d).bind (fun ρ=>DV.setVs ρ is l)=some ρ':=h
   cases e:DV.setV ρ i d with
   | none=>rw [e] at h;cases h
   | some ρ1=>rw [e] at h;rw [List.length_cons,List.length_cons,ih h]
theorem tg_ok {φ:Nat->Addr}{H:Hp}{n:Nat}{Q:St->Hp->Prop}{tg:DV.Tg}{d:DV.D}{v:V}{ρ ρ':DV.Env}{σ:St}(E:RE Γ φ H n ρ σ)(r:RV Γ φ H d v)(b:d.bnd n=true)(h:DV.bindT ρ tg d=some ρ')(k:∀ σ',RE Γ φ H n ρ' σ'->Q σ' H):gOf Γ.K tg v σ H Q:=by
 cases tg with
 | one i=>exact k _ (re_set E r b h)
 | tup is =>
  cases d with
  | tup l =>
   have h:DV.setVs ρ is l=some ρ':=h
   obtain ⟨a,xs,rfl,h1,d1⟩:=r.tupE
   unfold DV.D.bnd at b
   exact ⟨a,xs,rfl,h1,by rw [d1.length,setVs_len h],gs_ok is l xs ρ ρ' σ E d1 b h k⟩
  | _=>cases h
noncomputable def Off (φ:Nat->Addr)(s:DV.Sto)(b:Addr):Prop:=∀ (i:Nat) (ob:DV.O),s[i]?=some ob->isMut ob=true->φ i≠b
theorem Off.mono {φ φ':Nat->Addr}{s s':DV.Sto}{H H':Hp}{b:Addr}{o:HO}(h:Off φ s b)(g:Gr φ s H φ' s' H')(hb:H b=some o):Off φ' s' b:=fun i ob e m z=>by
 by_cases hi:i<s.length
 ·obtain ⟨o0,e0⟩:∃ o0,s[i]?=some o0:=⟨s[i],List.getElem?_eq_getElem hi⟩
  exact h i o0 e0 (g.mu i o0 ob e0 e m) (by rw [<-g.w.map i hi];exact z)
 ·have:=g.new i (by omega) (List.getElem?_eq_some_iff.mp e).1
  rw [z,hb] at this;cases this
theorem Off.new {φ:Nat->Addr}{s:DV.Sto}{H:Hp}{b:Addr}(r:Rp Γ φ H s)(h:H b=none):Off φ s b:=fun i ob e m z=>by
 obtain ⟨u,hu,_⟩:=(r.obj i ob e).there m
 rw [z,h] at hu;cases hu
theorem Rp.foreign {φ:Nat->Addr}{s:DV.Sto}{H:Hp}{b:Addr}{ys zs:List V}(r:Rp Γ φ H s)(hb:H b=some (.lst ys))(ho:Off φ s b):Rp Γ φ (upd H b (.lst zs)) s:=by
 have g:Gw φ s.length H φ (upd H b (.lst zs)):=⟨fun _ _=>rfl,(Kp.refl H).put hb rfl⟩
 exact ⟨r.inj,fun i o e=>(r.obj i o e).mono g (r.wf i o e) fun m u hu=>by rw [za (ho i o e m)];exact hu,r.wf,r.tab.put hb⟩
theorem Gr.foreign {φ φ':Nat->Addr}{s s':DV.Sto}{H H':Hp}{b:Addr}{ys zs:List V}(g:Gr φ s H φ' s' H')(h0:H b=none)(hb:H' b=some (.lst ys)):Gr φ s H φ' s' (upd H' b (.lst zs)):=by
 have ne:∀ c o,H c=some o->c≠b:=fun c o e=>zq e h0
 refine ⟨⟨g.w.map,fun c o e f=>?_⟩,g.le,g.new,g.kd,fun c hc=>?_,fun c o e nt no=>?_⟩
 ·rw [za (ne c o e)];exact g.w.kp c o e f
 ·unfold upd;split
  ·simp
  ·exact g.st c hc
 ·rw [za (ne c o e)];exact g.fr c o e nt no
noncomputable def AfterF (Γ:Gm)(φ:Nat->Addr)(s:DV.Sto)(H:Hp)(l:List DV.D)(s':DV.Sto)(Q:VK):Prop :=
 ∀ p ys φ' H',Gr φ s H φ' s' H'->s.length<=s'.length->DV.D.bndL s'.length l=true->H' p=some (.lst ys)->H p=none->Off φ' s' p->RVL Γ φ' H' l ys->Rp Γ φ' H' s'->Q (.ref p) H'
noncomputable def TFv (Γ:Gm)(m:DV.Env->DV.Sto->DV.R (List DV.D)):TE:=fun σ H Q=>∃ φ ρ s l s',RE Γ φ H s.length ρ σ/\Rp Γ φ H s/\m ρ s=.ok l s'/\AfterF Γ φ s H l s' Q
theorem tf_list {m:DV.Env->DV.Sto->DV.R (List DV.D)}{σ:St}{H:Hp}{Q:VK}(h:TEv Γ (fun ρ s=>(m ρ s).bind fun l s=>DV.alloc (.lst l) s) σ H Q):TFv Γ m σ H Q:=by
 obtain ⟨φ,ρ,s,d,s',E,R,hm,q⟩:=h
 obtain ⟨l,s1,e1,hm⟩:=bind_inv hm
 obtain ⟨rfl,rfl⟩:=qa hm
 refine ⟨φ,ρ,s,l,s1,E,R,e1,fun p ys φ' H' g hl hb hp h0 ho r R'=>?_⟩
 have gw:Gw φ' s1.length H' (fun i=>if i=s1.length then p else φ' i) H':=⟨fun i hi=>if_neg (Nat.ne_of_lt hi),Kp.refl _⟩
 have key:∀ (i:Nat) (o':DV.O),(s1++[DV.O.lst l])[i]?=some o'->(i<s1.length/\s1[i]?=some o')\/(i=s1.length/\o'=.lst l):=fun i o' e=>by
  rcases Nat.lt_trichotomy i s1.length with h | h | h
  ·rw [List.getElem?_append_left h] at e;exact .inl ⟨h,e⟩
  ·subst h;simp at e;exact .inr ⟨rfl,e.symm⟩
  ·rw [List.getElem?_eq_none (by simp;omega)] at e;cases e
 have G:Gr φ s H (fun i=>if i=s1.length then p else φ' i) (s1++[.lst l]) H':=by
  refine ⟨⟨fun i hi=>by show (if i=s1.length then p else φ' i)=_;rw [if_neg (by omega)];exact g.w.map i hi,g.w.kp⟩,by simp;omega,fun i h1 h2=>?_,fun i o o' e e'=>?_,g.st,g.fr⟩
  ·by_cases hi:i=s1.length
   ·show H (if i=s1.length then p else φ' i)=none
    rw [if_pos hi];exact h0
   ·show H (if i=s1.length then p else φ' i)=none
    rw [if_neg hi];exact g.new i h1 (by simp at h2;omega)
  ·rcases key i o' e' with ⟨_,e2⟩ | ⟨hi,_⟩
   ·exact g.kd i o o' e e2
   ·have:=(List.getElem?_eq_some_iff.mp e).1;omega
 have P:Rp Γ (fun i=>if i=s1.length then p else φ' i) H' (s1++[.lst l]):=by
  refine ⟨fun i j oi oj ei ej mi mj e=>?_,fun i o e=>?_,fun i o e=>?_,R'.tab⟩
  ·rcases key i oi ei with ⟨hi,ei⟩ | ⟨hi,_⟩<;>rcases key j oj ej with ⟨hj,ej⟩ | ⟨hj,_⟩
   ·rw [if_neg (Nat.ne_of_lt hi),if_neg (Nat.ne_of_lt hj)] at e
    exact R'.inj i j oi oj ei ej mi mj e
   ·rw [if_neg (Nat.ne_of_lt hi),if_pos hj] at e
    exact absurd e (ho i oi ei mi)
   ·rw [if_neg (Nat.ne_of_lt hj),if_pos hi] at e
    exact absurd e.symm (ho j oj ej mj)
   ·rw [hi,hj]
  ·rcases key i o e with ⟨hi,e⟩ | ⟨hi,rfl⟩
   ·show RO Γ _ _ (if i=s1.length then p else φ' i) o
    rw [if_neg (Nat.ne_of_lt hi)]
    exact (R'.obj i o e).mono gw (R'.wf i o e) fun _ u hu=>hu
   ·show RO Γ _ _ (if i=s1.length then p else φ' i) _
    rw [if_pos hi]
    exact ⟨ys,hp,RVL.monoW gw l ys hb r⟩
  ·rw [List.length_append,List.length_singleton]
   rcases key i o e with ⟨_,e⟩ | ⟨_,rfl⟩
   ·exact z5 (Nat.le_succ _) _ (R'.wf i o e)
   ·exact z5 (Nat.le_succ _) _ (by unfold DV.O.bnd;exact hb)
 exact q (.ref p) _ H' G (by simp;omega) (by unfold DV.D.bnd;simp) (by unfold RV;simp) P
theorem re_cap {φ:Nat->Addr}{H:Hp}{n:Nat}{ρ:DV.Env}{σ:St}(E:RE Γ φ H n ρ σ)(caps:List (Option Nat)):RE Γ φ H n (DV.zx ρ caps) (srcSt caps σ):=by
 refine ⟨by unfold DV.zx srcSt;simp,fun i d e=>?_⟩
 unfold DV.zx at e
 rw [List.getElem?_map] at e
 cases q:caps[i]? with
 | none=>rw [q] at e;cases e
 | some o =>
  rw [q] at e
  cases o with
  | none=>cases e
  | some j =>
   have e':(ρ[j]?).join=some d:=Option.some.inj e
   have ej:ρ[j]?=some (some d):=by
    cases q2:ρ[j]? with
    | none=>rw [q2] at e';cases e'
    | some o2=>rw [q2] at e';exact congrArg some e'
   obtain ⟨b,v,h1,h2⟩:=E.val j d ej
   refine ⟨b,v,?_,h2⟩
   unfold srcSt
   rw [List.getElem?_map,q]
   show some ((σ[j]?).join)=_
   rw [h1];rfl
theorem tf_comp {mI:DV.Env->DV.Sto->DV.R DV.Sq}{mc me:DV.Env->DV.Sto->DV.R DV.D}{tg:DV.Tg}{caps:List (Option Nat)}{σ:St}{H:Hp}{Q:VK}
  (h:TFv Γ (fun ρ s=>(mI ρ s).bind fun q s0=>if q.its.length<=DV.LIM then DV.qt (fun s=>DV.chk s0 s q.src) (fun d ρ s=>match DV.bindT ρ tg d with
   | some ρ=>DV.tru (mc ρ s) fun k s=>if k then (me ρ s).bind fun v s=>.ok (some v,ρ) s else .ok (none,ρ) s
   | none=>.bad) q.its (DV.zx ρ caps) s0 else .bad) σ H Q):tComp caps (TIv Γ mI) (gOf Γ.K tg) (TTv Γ mc) (TEv Γ me) σ H Q:=by
 obtain ⟨φ,ρ,s,l,s',E,R,hm,k⟩:=h
 obtain ⟨q,s0,e1,hm⟩:=bind_inv hm
 split at hm
 case isFalse=>cases hm
 rename_i hlim
 refine ⟨φ,ρ,s,q,s0,E,R,e1,fun J φ1 H1 g1 l1 b1 R1 wk D hD=>?_⟩
 have h0:H D=none:=by
  cases e:H D with
  | none=>rfl
  | some o=>exact absurd hD (g1.st D (by rw [e];simp))
 refine ⟨fun i m σ' H'=>∃ φ' ρ' t acc ys rest,Gr φ1 s0 H1 φ' t H'/\Rp Γ φ' H' t/\RE Γ φ' H' t.length ρ' σ'/\H' D=some (.lst ys)/\Off φ' t D/\RVL Γ φ' H' acc ys/\DV.D.bndL t.length acc=true/\acc.length<=i/\i<=q.its.length/\m=q.its.length - i /\
  DV.qt (fun s=>DV.chk s0 s q.src) (fun d ρ s=>match DV.bindT ρ tg d with
   | some ρ=>DV.tru (mc ρ s) fun k s=>if k then (me ρ s).bind fun v s=>.ok (some v,ρ) s else .ok (none,ρ) s
   | none=>.bad) (q.its.drop i) ρ' t=.ok rest s'/\l=acc++rest,⟨q.its.length,?_⟩,?_⟩
 ·obtain ⟨g2,R2⟩:=R1.same (H':=upd H1 D (.lst [])) ((Same.refl H1).new hD)
  exact ⟨φ1,DV.zx ρ caps,s0,[],[],l,g2,R2,re_cap ((E.mono g1 l1).mono g2 (Nat.le_refl _)) caps,zb,Off.new R1 hD,.nil,rfl,Nat.le_refl _,Nat.zero_le _,by simp,by rw [List.drop_zero];exact hm,rfl⟩
 ·rintro i m σ' H' ⟨φ',ρ',t,acc,ys,rest,g,R',E',hy,off,ra,ba,hai,hil,rfl,hc,hl⟩
  have hle:=g.le
  rcases Nat.lt_or_ge i q.its.length with hlt | hge
  ·have hd:q.its[i]?=some q.its[i]:=List.getElem?_eq_getElem hlt
   rw [List.drop_eq_getElem_cons hlt] at hc
   unfold DV.qt at hc
   split at hc
   case isFalse=>cases hc
   rename_i hck
   obtain ⟨hgo,hy2⟩:=(wk φ' H' t g hle R' hck i).1 hlt
   refine .inr ⟨hgo,_,fun σ2 H2 n=>⟨q.its.length - (i+1),by omega,n⟩,fun x H2 hyl=>?_⟩
   obtain ⟨sm,rv⟩:=hy2 x H2 hyl
   obtain ⟨g2,R2⟩:=R'.same sm
   have rd:=rv _ hd
   have bd:(q.its[i]).bnd t.length=true:=zn hle _ (bndL_get b1 hd)
   obtain ⟨p,t3,hs,hc⟩:=bind_inv hc
   obtain ⟨r2,t4,hr2,hc⟩:=bind_inv hc
   cases hb:DV.bindT ρ' tg q.its[i] with
   | none=>rw [hb] at hs;cases hs
   | some ρ3 =>
    rw [hb] at hs
    refine tg_ok (E'.mono g2 (Nat.le_refl _)) rd bd hb fun σ3 E3=>?_
    obtain ⟨c,t1,ec,hs⟩:=zM hs
    refine ⟨φ',ρ3,t,c,t1,E3,R2,ec,fun φ2 H4 g4 l4 R4=>?_⟩
    have hy4:H2 D=some (.lst ys):=sm _ _ hy
    have hD4:H4 D=some (.lst ys):=g4.fr D _ hy4 (by nofun) off
    have off4:Off φ2 t1 D:=off.mono g4 hy4
    have G4:=(g.trans g2 hle).trans g4 hle
    cases c with
    | true =>
     rw [if_pos rfl] at hs
     refine iteT ?_
     obtain ⟨v,t2,ev,hs⟩:=bind_inv hs
     cases hs
     refine ⟨φ2,ρ3,t1,v,t3,E3.mono g4 l4,R4,ev,fun w φ3 H5 g5 l5 b5 r5 R5=>?_⟩
     have hD5:H5 D=some (.lst ys):=g5.fr D _ hD4 (by nofun) off4
     have off5:Off φ3 t3 D:=off4.mono g5 hD4
     refine ⟨ys,hD5,?_,?_⟩
     ·rw [ra.length]
      have:=qe
      omega
     ·have gw:Gw φ3 t3.length H5 φ3 (upd H5 D (.lst (ys++[w]))):=⟨fun _ _=>rfl,(Kp.refl H5).put hD5 rfl⟩
      have G5:=G4.trans g5 (Nat.le_trans hle l4)
      have GG:=g2.trans (g4.trans g5 l4) (Nat.le_refl _)
      have ra5:RVL Γ φ3 H5 acc ys:=RVL.mono GG _ _ ba ra
      have bb:DV.D.bndL t3.length (acc++[v])=true:=zG (D_bndL_mono GG.le _ ba) (by unfold DV.D.bndL;rw [b5];rfl)
      refine ⟨φ3,ρ3,t3,acc++[v],ys++[w],r2,G5.foreign hD hD5,R5.foreign hD5 off5,?_,zb,off5,RVL.monoW gw _ _ bb (ra5.append (.cons r5 .nil)),bb,by simp;omega,hlt,rfl,?_,?_⟩
      ·have E5:=(E3.mono g4 l4).mono g5 l5
       exact ⟨E5.len,fun j e hj=>by
        obtain ⟨h1,z,h2,h3⟩:=E5.val j e hj
        exact ⟨h1,z,h2,RV.monoW gw _ _ h1 h3⟩⟩
      ·cases hc;exact hr2
      ·cases hc;rw [hl];simp
    | false =>
     rw [if_neg Bool.false_ne_true] at hs
     refine iteF ?_
     cases hs
     have GG:=g2.trans g4 (Nat.le_refl _)
     exact ⟨φ2,ρ3,t3,acc,ys,r2,G4,R4,E3.mono g4 l4,hD4,off4,RVL.mono GG _ _ ba ra,D_bndL_mono l4 _ ba,by omega,hlt,rfl,by cases hc;exact hr2,by cases hc;exact hl⟩
  ·have hi:i=q.its.length:=by omega
   rw [List.drop_eq_nil_of_le hge] at hc
   unfold DV.qt at hc
   split at hc
   case isFalse=>cases hc
   rename_i hck
   cases hc
   refine .inl ⟨(wk φ' H' s' g hle R' hck i).2 hge,?_⟩
   rw [List.append_nil] at hl
   subst hl
   exact k D ys φ' H' (g1.trans g l1) (Nat.le_trans l1 hle) ba hy h0 off ra R'
end L2
end
noncomputable section
namespace L2
open PySem PySem.Spec PyProof.Rows
variable {Γ:Gm} {X:Cx}
noncomputable def EndC (Γ:Gm)(φ:Nat->Addr)(H:Hp)(n:Nat)(D:Ends):DV.Ct->Prop
 | .next ρ=>∀ σ,RE Γ φ H n ρ σ->D.nx σ H
 | .ret d=>∀ v,d.bnd n=true->RV Γ φ H d v->D.rt v H
 | .cont ρ=>∀ σ,RE Γ φ H n ρ σ->D.ct σ H
 | .brk ρ=>∀ σ,RE Γ φ H n ρ σ->D.bk σ H
noncomputable def AfterC (Γ:Gm)(φ:Nat->Addr)(s:DV.Sto)(H:Hp)(c:DV.Ct)(s':DV.Sto)(D:Ends):Prop :=
 ∀ φ' H',Gr φ s H φ' s' H'->s.length<=s'.length->Rp Γ φ' H' s'->EndC Γ φ' H' s'.length D c
noncomputable def TSv (Γ:Gm)(m:DV.Env->DV.Sto->DV.R DV.Ct):TS:=fun D σ H=>∃ φ ρ s c s',RE Γ φ H s.length ρ σ/\Rp Γ φ H s/\m ρ s=.ok c s'/\AfterC Γ φ s H c s' D
theorem PS.imp {e:Stmt}{t t':TS}(h:PS X e t)(i:∀ D σ H,t' D σ H->t D σ H):PS X e t':=fun pins s σ H Q I q=>h pins s σ H Q I (i Q σ H q)
theorem PSs.imp {e:List Stmt}{t t':TS}(h:PSs X e t)(i:∀ D σ H,t' D σ H->t D σ H):PSs X e t':=fun pins s σ H Q I q=>h pins s σ H Q I (i Q σ H q)
theorem AfterC.trans {φ φ1:Nat->Addr}{s s1 s':DV.Sto}{H H1:Hp}{c:DV.Ct}{D:Ends}(h:AfterC Γ φ s H c s' D)(g:Gr φ s H φ1 s1 H1)(l:s.length<=s1.length):AfterC Γ φ1 s1 H1 c s' D :=
 fun φ' H' g' l' p=>h φ' H' (g.trans g' l) (Nat.le_trans l l') p
theorem AfterC.here {φ:Nat->Addr}{s:DV.Sto}{H:Hp}{c:DV.Ct}{D:Ends}(h:AfterC Γ φ s H c s D)(p:Rp Γ φ H s):EndC Γ φ H s.length D c:=h φ H (Gr.refl φ s H) (Nat.le_refl _) p
variable {D:Ends} {σ:St} {H:Hp}
theorem ts_next {m:DV.Env->DV.Sto->DV.R DV.Ct}(hm:∀ ρ s,m ρ s=.ok (.next ρ) s)(h:TSv Γ m D σ H):tNext D σ H:=by
 obtain ⟨φ,ρ,s,c,s',E,R,e,q⟩:=h
 rw [hm] at e;cases e
 exact q.here R σ E
theorem ts_ret {m:DV.Env->DV.Sto->DV.R DV.D}(h:TSv Γ (fun ρ s=>(m ρ s).bind fun d s=>.ok (.ret d) s) D σ H):tRet (TEv Γ m) D σ H:=by
 obtain ⟨φ,ρ,s,c,s',E,R,e,q⟩:=h
 obtain ⟨x,s1,e1,e⟩:=bind_inv e
 cases e
 exact ⟨φ,ρ,s,x,_,E,R,e1,fun v φ1 H1 g1 l1 b1 r1 R1=>q φ1 H1 g1 l1 R1 v b1 r1⟩
theorem ts_drop {m:DV.Env->DV.Sto->DV.R DV.D}(h:TSv Γ (fun ρ s=>(m ρ s).bind fun _ s=>.ok (.next ρ) s) D σ H):tDrop (TEv Γ m) D σ H:=by
 obtain ⟨φ,ρ,s,c,s',E,R,e,q⟩:=h
 obtain ⟨x,s1,e1,e⟩:=bind_inv e
 cases e
 exact ⟨φ,ρ,s,x,_,E,R,e1,fun v φ1 H1 g1 l1 b1 r1 R1=>q φ1 H1 g1 l1 R1 σ (E.mono g1 l1)⟩
theorem ts_asg {m:DV.Env->DV.Sto->DV.R DV.D}{tg:DV.Tg}(h:TSv Γ (fun ρ s=>(m ρ s).bind fun d s=>match DV.bindT ρ tg d with | some ρ=>.ok (.next ρ) s | none=>.bad) D σ H):tAsg (TEv Γ m) (gOf Γ.K tg) D σ H:=by
 obtain ⟨φ,ρ,s,c,s',E,R,e,q⟩:=h
 obtain ⟨x,s1,e1,e⟩:=bind_inv e
 refine ⟨φ,ρ,s,x,s1,E,R,e1,fun v φ1 H1 g1 l1 b1 r1 R1=>?_⟩
 cases hb:DV.bindT ρ tg x with
 | none=>rw [hb] at e;cases e
 | some ρ1 =>
  rw [hb] at e
  cases e
  exact tg_ok (E.mono g1 l1) r1 b1 hb fun σ' E'=>q φ1 H1 g1 l1 R1 σ' E'
theorem tf_list1 {m:DV.Env->DV.Sto->DV.R (List DV.D)}(h:TSv Γ (fun ρ s=>((m ρ s).bind fun l s=>DV.alloc (.lst l) s).bind fun d s=>match DV.bindT ρ tg d with | some ρ=>.ok (.next ρ) s | none=>.bad) D σ H):tAsg (TFv Γ m) (gOf Γ.K tg) D σ H :=
 tf_list (ts_asg h)
noncomputable def rSetV (Γ:Gm):TSet:=fun o i v H Q=>∃ φ s x y d s',Rp Γ φ H s/\RV Γ φ H x o/\RV Γ φ H y i/\RV Γ φ H d v/\x.bnd s.length=true/\y.bnd s.length=true/\d.bnd s.length=true/\DV.setIx x y d s=.ok () s' /\
 ∀ φ' H',Gr φ s H φ' s' H'->s.length<=s'.length->Rp Γ φ' H' s'->Q H'
theorem ts_setIx {me mo mi:DV.Env->DV.Sto->DV.R DV.D}(h:TSv Γ (fun ρ s=>(me ρ s).bind fun d s=>(mo ρ s).bind fun x s=>(mi ρ s).bind fun y s=>(DV.setIx x y d s).bind fun _ s=>.ok (.next ρ) s) D σ H) :
  tAsg (TEv Γ me) (gSub (TEv Γ mo) (TEv Γ mi) (rSetV Γ)) D σ H:=by
 obtain ⟨φ,ρ,s,c,s',E,R,e,q⟩:=h
 obtain ⟨d,s1,e1,e⟩:=bind_inv e
 obtain ⟨x,s2,e2,e⟩:=bind_inv e
 obtain ⟨y,s3,e3,e⟩:=bind_inv e
 obtain ⟨u,s4,e4,e⟩:=bind_inv e
 cases e
 refine ⟨φ,ρ,s,d,s1,E,R,e1,fun v1 φ1 H1 g1 l1 b1 r1 R1=>?_⟩
 refine ⟨φ1,ρ,s1,x,s2,E.mono g1 l1,R1,e2,fun v2 φ2 H2 g2 l2 b2 r2 R2=>?_⟩
 have G2:=g1.trans g2 l1
 have L2:=Nat.le_trans l1 l2
 refine ⟨φ2,ρ,s2,y,s3,E.mono G2 L2,R2,e3,fun v3 φ3 H3 g3 l3 b3 r3 R3=>?_⟩
 refine ⟨φ3,s3,x,y,d,_,R3,RV.mono g3 x v2 b2 r2,r3,RV.mono (g2.trans g3 l2) d v1 b1 r1,zn l3 x b2,b3,zn (Nat.le_trans l2 l3) d b1,e4,fun φ4 H4 g4 l4 R4=>?_⟩
 have G3:=G2.trans g3 L2
 have L3:=Nat.le_trans L2 l3
 exact q φ4 H4 (G3.trans g4 L3) (Nat.le_trans L3 l4) R4 σ (E.mono (G3.trans g4 L3) (Nat.le_trans L3 l4))
theorem set_ok (hu:X.A.units+1<cLine):PSet X (rSetV Γ):=by
 intro pins sh σ H o i v ov iv u Q I ro ri rv h
 obtain ⟨φ,s,x,y,d,s',R,rx,ry,rd,bx,by',bd,hm,q⟩:=h
 cases x with
 | ref r =>
  have hm:(match s[r]? with
   | some (.lst l)=>(match y with
    | .int i=>(match DV.ixn l.length i with | some j=>DV.R.ok () (s.set r (.lst (l.set j d))) | none=>.bad)
    | _=>.bad)
   | some (.dic l)=>if y.key&&decide (l.length<DV.LIM) then .ok () (s.set r (.dic (DV.putD y d l))) else .bad
   | _=>.bad)=.ok () s':=hm
  cases e:s[r]? with
  | none=>rw [e] at hm;cases hm
  | some ob =>
   rw [e] at hm
   cases ob with
   | lst l =>
    cases y with
    | int k =>
     have hm:(match DV.ixn l.length k with | some j=>DV.R.ok () (s.set r (.lst (l.set j d))) | none=>.bad)=.ok () s':=hm
     cases ej:DV.ixn l.length k with
     | none=>rw [ej] at hm;cases hm
     | some j =>
      rw [ej] at hm
      cases hm
      obtain ⟨xs,h1,h2⟩:=R.addr e
      have hb:DV.D.bndL s.length (l.set j d)=true:=bndL_iff.mpr fun z hz=>by
       rcases List.mem_or_eq_of_mem_set hz with h | h
       ·exact bndL_iff.mp (by have:=R.wf r _ e;unfold DV.O.bnd at this;exact this) z h
       ·subst h;exact bd
      refine set_list pins sh σ H o i v ov iv u Q I ro ri rv ⟨φ r,xs,k,j,rx.refE,ry.intE,h1,?_,?_⟩
      ·rw [h2.length];exact ej
      ·obtain ⟨g,R'⟩:=R.set (o:=.lst (l.set j d)) (u:=.lst (xs.set j v)) e rfl hb fun H' g e=>⟨_,e,RVL.monoW g _ _ hb (h2.set j rd)⟩
       exact q _ _ g (by simp) R'
    | _=>cases hm
   | dic l =>
    have hm:(if y.key&&decide (l.length<DV.LIM) then DV.R.ok () (s.set r (.dic (DV.putD y d l))) else .bad)=.ok () s':=hm
    split at hm
    case isFalse=>cases hm
    rename_i hc
    cases hm
    rw [Bool.and_eq_true] at hc
    obtain ⟨k,hk⟩:=key_some hc.1
    have hlt:=of_decide_eq_true hc.2
    obtain ⟨kvs,h1,h2⟩:=R.obj r _ e
    have ex:=rx.refE;subst ex
    cases ro
    have ey:=key_kV hk ry;subst ey
    have hb:(DV.O.dic (DV.putD y d l)).bnd s.length=true:=putD_bnd (R.wf r _ e) by' bd
    have hb2:DV.D.bndL s.length ((DV.putD y d l).map (·.2))=true:=by
     unfold DV.O.bnd at hb
     rw [Bool.and_eq_true] at hb
     exact hb.2
    obtain ⟨g,R'⟩:=R.set (o:=.dic (DV.putD y d l)) (u:=.dK (putK kvs k v)) e rfl hb fun H' g e=>⟨_,e,RVD.monoW g _ _ hb2 (h2.put hk rd)⟩
    exact d_setItem hu I (DPut.k h1 (by rw [h2.length];exact Nat.lt_of_lt_of_le hlt qe)) ri rv fun s4 I4=>⟨_,I4,q _ _ g (by simp) R'⟩
   | _=>cases hm
 | _=>cases hm
theorem ts_if {mc:DV.Env->DV.Sto->DV.R DV.D}{m1 m2:DV.Env->DV.Sto->DV.R DV.Ct}(h:TSv Γ (fun ρ s=>DV.tru (mc ρ s) fun k s=>if k then m1 ρ s else m2 ρ s) D σ H):tIfS (TTv Γ mc) (TSv Γ m1) (TSv Γ m2) D σ H:=by
 obtain ⟨φ,ρ,s,d,s',E,R,hm,q⟩:=h
 obtain ⟨c,s1,e1,hm⟩:=zM hm
 refine ⟨φ,ρ,s,c,s1,E,R,e1,fun φ1 H1 g1 l1 R1=>?_⟩
 cases c with
 | true =>
  rw [if_pos rfl] at hm ⊢
  exact ⟨φ1,ρ,s1,d,s',E.mono g1 l1,R1,hm,q.trans g1 l1⟩
 | false =>
  rw [if_neg Bool.false_ne_true] at hm ⊢
  exact ⟨φ1,ρ,s1,d,s',E.mono g1 l1,R1,hm,q.trans g1 l1⟩
theorem ts_seq {m1 m2:DV.Env->DV.Sto->DV.R DV.Ct}(h:TSv Γ (fun ρ s=>(m1 ρ s).bind fun c s=>match c with | .next ρ=>m2 ρ s | c=>.ok c s) D σ H):tSeq (TSv Γ m1) (TSv Γ m2) D σ H:=by
 obtain ⟨φ,ρ,s,c,s',E,R,hm,q⟩:=h
 obtain ⟨c1,s1,e1,hm⟩:=bind_inv hm
 refine ⟨φ,ρ,s,c1,s1,E,R,e1,fun φ1 H1 g1 l1 R1=>?_⟩
 cases c1 with
 | next ρ1=>exact fun σ1 E1=>⟨φ1,ρ1,s1,c,s',E1,R1,hm,q.trans g1 l1⟩
 | ret d=>cases hm;exact q φ1 H1 g1 l1 R1
 | cont ρ=>cases hm;exact q φ1 H1 g1 l1 R1
 | brk ρ=>cases hm;exact q φ1 H1 g1 l1 R1
theorem ts_for {mI : DV.Env -> DV.Sto -> DV.R DV.Sq} {mb : DV.Env -> DV.Sto -> DV.R DV.Ct} {tg : DV.Tg} (h : TSv Γ (fun ρ s => (mI ρ s).bind fun q s0 => DV.forL (fun s => DV.chk s0 s q.src) (fun d ρ s => match DV.bindT ρ tg d with
      | some ρ => mb ρ s
      | none => .bad) q.its ρ s0) D σ H) : tFor (TIv Γ mI) (gOf Γ.K tg) (TSv Γ mb) D σ H := by
  obtain ⟨φ, ρ, s, c, s', E, R, hm, k⟩ := h
  obtain ⟨q, s0, e1, hm⟩ := bind_inv hm
  refine ⟨φ, ρ, s, q, s0, E, R, e1, fun J φ1 H1 g1 l1 b1 R1 wk => ?_⟩
  refine ⟨fun i m σ' H' => ∃ φ' ρ' t, Gr φ1 s0 H1 φ' t H' /\ Rp Γ φ' H' t /\ RE Γ φ' H' t.length ρ' σ' /\ i <= q.its.length /\ m = q.its.length - i /\
    DV.forL (fun s => DV.chk s0 s q.src) (fun d ρ s => match DV.bindT ρ tg d with
      | some ρ => mb ρ s
      | none => .bad) (q.its.drop i) ρ' t = .ok c s', ⟨q.its.length, ?_⟩, ?_⟩
  · exact ⟨φ1, ρ, s0, Gr.refl _ _ _, R1, E.mono g1 l1, Nat.zero_le _, by simp, by rw [List.drop_zero]; exact hm⟩
  · rintro i m σ' H' ⟨φ', ρ', t, g, R', E', hil, rfl, hc⟩
    have hle := g.le
    rcases Nat.lt_or_ge i q.its.length with hlt | hge
    · have hd : q.its[i]? = some q.its[i] := List.getElem?_eq_getElem hlt
      rw [List.drop_eq_getElem_cons hlt] at hc
      unfold DV.forL at hc
      split at hc
      case isFalse => cases hc
      rename_i hck
      obtain ⟨hgo, hy2⟩ := (wk φ' H' t g hle R' hck i).1 hlt
      refine .inr ⟨hgo, _, fun σ2 H2 n => ⟨q.its.length - (i + 1), by omega, n⟩, fun x H2 hyl => ?_⟩
      obtain ⟨sm, rv⟩ := hy2 x H2 hyl
      obtain ⟨g2, R2⟩ := R'.same sm
      have rd := rv _ hd
      have bd : (q.its[i]).bnd t.length = true := zn hle _ (bndL_get b1 hd)
      obtain ⟨c1, t3, hs, hc⟩ := bind_inv hc
      cases hb : DV.bindT ρ' tg q.its[i] with
      | none => rw [hb] at hs; cases hs
      | some ρ3 =>
        rw [hb] at hs
        refine tg_ok (E'.mono g2 (Nat.le_refl _)) rd bd hb fun σ3 E3 => ?_
        refine ⟨φ', ρ3, t, c1, t3, E3, R2, hs, fun φ2 H4 g4 l4 R4 => ?_⟩
        have G4 := (g.trans g2 hle).trans g4 hle
        have L4 := Nat.le_trans hle l4
        have GG := g1.trans G4 l1
        cases c1 with
        | next ρ1 => exact fun σ1 E1 => ⟨φ2, ρ1, t3, G4, R4, E1, hlt, rfl, hc⟩
        | cont ρ1 => exact fun σ1 E1 => ⟨φ2, ρ1, t3, G4, R4, E1, hlt, rfl, hc⟩
        | ret d => cases hc; exact k φ2 H4 GG (Nat.le_trans l1 L4) R4
        | brk ρ => cases hc; exact k φ2 H4 GG (Nat.le_trans l1 L4) R4
    · rw [List.drop_eq_nil_of_le hge] at hc
      unfold DV.forL at hc
      split at hc
      case isFalse => cases hc
      rename_i hck
      cases hc
      exact .inl ⟨(wk φ' H' s' g hle R' hck i).2 hge, k φ' H' (g1.trans g l1) (Nat.le_trans l1 hle) R' σ' E'⟩
end L2
end
noncomputable section
namespace L2
open PySem PySem.Spec PyProof.Rows
structure Ck where
 N:List Str
 sc:Scope
 lk:String->List Nat->Expr->Bool
noncomputable abbrev ck0 (N:List Str)(sc:Scope):Ck:=⟨N,sc,fun _ _ _=>false⟩
noncomputable def Ck.vis (c:Ck)(x:Str):Bool:=match c.sc.names.lookup x with | some .local=>true | some .cell=>true | some .free=>true | _=>false
noncomputable def Ck.loc (c:Ck)(x:Str):Bool:=match c.sc.names.lookup x with | some .local=>true | some .cell=>true | _=>false
noncomputable def Ck.gl (c:Ck)(x:Str):Bool:=(match c.sc.names.lookup x with | some .globalImplicit=>true | _=>false)&&!(x==("__debug__":Str))&&!decide (x=("__name__":Str))
noncomputable def Ck.var (c:Ck)(i:Nat)(x:Str):Bool:=decide (c.N[i]?=some x)&&c.vis x&&!(x==("__debug__":Str))&&!(x==("__classdict__":Str))
noncomputable def shp:Expr->Bool
 | .Starred ..=>false
 | .Set ..=>false
 | .SetComp ..=>false
 | .DictComp ..=>false
 | .GeneratorExp ..=>false
 | .Slice ..=>false
 | .NamedExpr ..=>false
 | _=>true
noncomputable def noComp:Expr->Bool
 | .ListComp ..=>false
 | .SetComp ..=>false
 | .DictComp ..=>false
 | _=>true
noncomputable def noTup:Expr->Bool
 | .Tuple ..=>false
 | _=>true
noncomputable def abOk:Expr->Bool
 | .Call _ [] [] _=>false
 | _=>true
noncomputable def mC:DV.Cn->Const->Bool
 | .non,.none=>true
 | .bl b,.bool c=>b==c
 | .int i,.int j=>decide (i=j)
 | .str x,.str y=>decide (y=⟨x.toArray⟩)&&decide (x.length<=1000)
 | _,_=>false
noncomputable def mTgs (ck:Ck):List Nat->List Expr->Bool
 | [],[]=>true
 | i::is,.Name x _::es=>decide (ck.N[i]?=some x)&&ck.loc x&&mTgs ck is es
 | _,_=>false
noncomputable def mTg (ck:Ck):DV.Tg->Expr->Bool
 | .one i,.Name x _=>decide (ck.N[i]?=some x)&&ck.loc x
 | .tup is,.Tuple es _ _=>mTgs ck is es
 | _,_=>false
noncomputable def tgN:Expr->List Str
 | .Name x _=>[x]
 | .Tuple es _ _=>es.filterMap fun e=>match e with | .Name x _=>some x | _=>none
 | _=>[]
noncomputable def ckC (ck:Ck)(tgt:Expr)(caps:List (Option Nat))(scope:Scope):Ck:=⟨tgN tgt++(caps.filterMap id).map fun j=>ck.N.getD j "",scope,fun _ _ _=>false⟩
noncomputable def mComp (ck:Ck)(tg:DV.Tg)(tgt iter:Expr)(caps:List (Option Nat))(scope:Scope):Bool :=
 zU (ckC ck tgt caps scope).N caps scope ck.N ck.sc&&decide ((ckC ck tgt caps scope).N.Nodup)&&mTg (ckC ck tgt caps scope) tg tgt&&shp iter
noncomputable def biT:DV.Bi->Option Str
 | .len=>some "len" | .abs=>some "abs" | .min2=>some "min" | .max2=>some "max" | .int=>some "int" | _=>none
noncomputable def biK:DV.Bi->Option (Nat×Str)
 | .isInt=>some (1, "int") | .isBool=>some (2, "bool") | .isStr=>some (3, "str") | .isTup=>some (4, "tuple") | .isList=>some (5, "list") | _=>none
noncomputable def mkT:DV.Mk->Option Str
 | .tuple=>some "tuple" | .list=>some "list" | _=>none
noncomputable def mkF:DV.Mk->Option Str
 | .all=>some "all" | .min=>some "min" | _=>none
noncomputable def mtT:DV.Mt->Option (Str×Nat)
 | .append=>some ("append",1) | _=>none
noncomputable def asLam:DV.As->Bool
 | .nil=>false
 | .ex _ as=>asLam as
 | .lam _ _ _=>true
 | .fn _ as=>asLam as
mutual
noncomputable def mE (ck:Ck):DV.E->Expr->Bool
 | .var i,E=>match E with | .Name x _=>ck.var i x | _=>false
 | .cst c,E=>match E with | .Constant v _ _=>mC c v | _=>false
 | .glob g,E=>match E with | .Name x _=>decide (x=(g:Str))&&ck.gl x | _=>false
 | .bin op a b,E=>match E with | .BinOp l o r _=>decide (o=opOf op)&&mE ck a l&&mE ck b r | _=>false
 | .neg _,_=>false
 | .not a,E=>match E with | .UnaryOp .Not l _=>mE ck a l | _=>false
 | .cmp op a b,E=>match E with | .Compare l [o] [r] _=>decide (o=copOf op)&&mE ck a l&&mE ck b r | _=>false
 | .chain _ _ _ _ _,_=>false
 | .isN a,E=>match E with | .Compare l [.Is] [.Constant .none _ _] _=>mE ck a l | _=>false
 | .notN a,E=>match E with | .Compare l [.IsNot] [.Constant .none _ _] _=>mE ck a l | _=>false
 | .isB _ _,_=>false
 | .notB _ _,_=>false
 | .and a b,E=>match E with
  | .BoolOp .And [l,r] _=>mE ck a l&&mE ck b r
  | .BoolOp .And (l::m::r::es) p=>mE ck a l&&mE ck b (.BoolOp .And (m::r::es) p)
  | _=>false
 | .or a b,E=>match E with
  | .BoolOp .Or [l,r] _=>mE ck a l&&mE ck b r
  | .BoolOp .Or (l::m::r::es) p=>mE ck a l&&mE ck b (.BoolOp .Or (m::r::es) p)
  | _=>false
 | .ite c a b,E=>match E with | .IfExp t l r _=>mE ck c t&&mE ck a l&&mE ck b r | _=>false
 | .tup es,E=>match E with | .Tuple xs _ _=>mEs ck es xs&&decide (xs.length<=1000) | _=>false
 | .lst es,E=>match E with | .List xs _=>mEs ck es xs&&decide (xs.length<=1000) | _=>false
 | .dic .nil .nil,E=>match E with | .Dict [] [] _=>true | _=>false
 | .dic (.cons k .nil) (.cons v .nil),E=>match E with | .Dict [some x] [y] _=>mE ck k x&&mE ck v y | _=>false
 | .dic _ _,_=>false
 | .slL a lo,E=>match E with | .Subscript o (.Slice (some l) none none _) _=>mE ck a o&&mE ck lo l | _=>false
 | .slU a hi,E=>match E with | .Subscript o (.Slice none (some h) none _) _=>mE ck a o&&mE ck hi h | _=>false
 | .slLU _ _ _,_=>false
 | .rev _,_=>false
 | .ix a b,E=>match E with | .Subscript o i _=>mE ck a o&&mE ck b i | _=>false
 | .call f as,E=>match E with | .Call (.Name x _) xs [] _=>decide (x=(f:Str))&&ck.gl x&&mAs ck as xs | _=>false
 | .callC f as,E=>match E with | .Call (.Name x _) (y::ys) [] _=>decide (x=(f:Str))&&ck.gl x&&asLam as&&mAsC ck as (y::ys) | _=>false
 | .callV i es,E=>match E with | .Call (.Name x _) (y::ys) [] _=>ck.var i x&&mEs ck es (y::ys) | _=>false
 | .bi b es,E=>match E with
  | .Call (.Name x _) xs [] _=>(match biK b with
   | some (_,t)=>(match xs with
    | [a,.Name y _]=>decide (x=("isinstance":Str))&&ck.gl x&&decide (y=t)&&ck.gl y&&mEs ck es [a]
    | _=>false)
   | none=>(match xs with
    | a::xs=>decide (biT b=some x)&&ck.gl x&&mEs ck es (a::xs)
    | []=>false))
  | _=>false
 | .mk k l,E=>match E with
  | .Call (.Name x _) [a] [] _=>ck.gl x&&shp a&&((decide (mkT k=some x)&&mL ck l a)||(decide (mkF k=some x)&&mLf ck l a))
  | .ListComp e gs sc p=>decide (k=.list)&&mLc ck l (.ListComp e gs sc p)
  | _=>false
 | .mkD k l d,E=>match E with
  | .Call (.Name x _) [a] [⟨some y,de,_⟩] _=>decide (k=.min)&&decide (x=("min":Str))&&decide (y=("default":Str))&&ck.gl x&&shp a&&mLf ck l a&&mE ck d de
  | _=>false
 | .meth m o es,E=>match E with
  | .Call (.Attribute ob x ap) xs [] cp=>decide (mtT m=some (x,xs.length))&&abOk ob&&(ap.endLine==cp.line)&&mE ck o ob&&mEs ck es xs
  | _=>false
 | .ext o l,E=>match E with
  | .Call (.Attribute ob x ap) [a] [] cp=>decide (x=("extend":Str))&&abOk ob&&(ap.endLine==cp.line)&&mE ck o ob&&mLf ck l a&&shp a
  | _=>false
 | .extS _ _,_=>false
 | .mks _ _,_=>false
 | .mkDs k e d,E=>match E with
  | .Call (.Name x _) [a] [⟨some y,de,_⟩] _=>decide (k=.min)&&decide (x=("min":Str))&&decide (y=("default":Str))&&ck.gl "min"&&shp a&&mE ck e a&&mE ck d de
  | _=>false
 | .join _ _,_=>false
noncomputable def mEs (ck:Ck):DV.Es->List Expr->Bool
 | .nil,xs=>match xs with | []=>true | _=>false
 | .cons e es,xs=>match xs with | x::xs=>mE ck e x&&shp x&&mEs ck es xs | _=>false
noncomputable def mAs (ck:Ck):DV.As->List Expr->Bool
 | .nil,xs=>match xs with | []=>true | _=>false
 | .ex e es,xs=>match xs with | x::xs=>mE ck e x&&shp x&&mAs ck es xs | _=>false
 | .lam _ _ _,_=>false
 | .fn _ _,_=>false
noncomputable def mAsC (ck:Ck):DV.As->List Expr->Bool
 | .nil,xs=>match xs with | []=>true | _=>false
 | .ex e es,xs=>match xs with | x::xs=>mE ck e x&&shp x&&mAsC ck es xs | _=>false
 | .lam id caps es,xs=>match xs with | x::xs=>ck.lk id caps x&&shp x&&mAsC ck es xs | _=>false
 | .fn _ _,_=>false
noncomputable def mI (ck:Ck)(tgt:Expr):DV.I->Expr->Bool
 | .rng1 a,E=>match E with | .Call (.Name x _) [l] [] _=>decide (x=("range":Str))&&ck.gl x&&mE ck a l&&shp l | _=>false
 | .rng2 _ _,_=>false
 | .seq e,x=>mE ck e x&&shp x
 | .rng3 _ _ _,_=>false
 | .enum (.seq _),_=>false
 | .zip (.seq _) (.seq _),_=>false
 | .enum _,_=>false
 | .zip _ _,_=>false
 | .items _,_=>false
noncomputable def mLc (ck:Ck):DV.L->Expr->Bool
 | .comp tg it e caps,E=>match E with | .ListComp elt [⟨tgt,iter,[],0⟩] scope _=>mComp ck tg tgt iter caps scope&&mI ck tgt it iter&&mE (ckC ck tgt caps scope) e elt | _=>false
 | .compIf tg it c e caps,E=>match E with | .ListComp elt [⟨tgt,iter,[i],0⟩] scope _=>mComp ck tg tgt iter caps scope&&mI ck tgt it iter&&mE (ckC ck tgt caps scope) c i&&mE (ckC ck tgt caps scope) e elt | _=>false
 | .disp _,_=>false
 | .seq _,_=>false
noncomputable def mLf (ck:Ck):DV.L->Expr->Bool
 | .comp tg it e caps,E=>match E with | .ListComp elt [⟨tgt,iter,[],0⟩] scope _=>mComp ck tg tgt iter caps scope&&mI ck tgt it iter&&mE (ckC ck tgt caps scope) e elt | _=>false
 | .compIf tg it c e caps,E=>match E with | .ListComp elt [⟨tgt,iter,[i],0⟩] scope _=>mComp ck tg tgt iter caps scope&&mI ck tgt it iter&&mE (ckC ck tgt caps scope) c i&&mE (ckC ck tgt caps scope) e elt | _=>false
 | .disp es,E=>match E with | .List xs _=>mEs ck es xs&&decide (xs.length<=1000) | _=>false
 | .seq _,_=>false
noncomputable def mL (ck:Ck):DV.L->Expr->Bool
 | .comp tg it e caps,E=>match E with | .ListComp elt [⟨tgt,iter,[],0⟩] scope _=>mComp ck tg tgt iter caps scope&&mI ck tgt it iter&&mE (ckC ck tgt caps scope) e elt | _=>false
 | .compIf tg it c e caps,E=>match E with | .ListComp elt [⟨tgt,iter,[i],0⟩] scope _=>mComp ck tg tgt iter caps scope&&mI ck tgt it iter&&mE (ckC ck tgt caps scope) c i&&mE (ckC ck tgt caps scope) e elt | _=>false
 | .disp es,E=>match E with | .List xs _=>mEs ck es xs&&decide (xs.length<=1000) | _=>false
 | .seq e,x=>mE ck e x
end
noncomputable def noAnn:Arguments->Bool
 | ⟨[], args, none, [], [], none, []⟩ => args.all fun y => y.annotation.isNone
 | _=>false
noncomputable def mNest (ck:Ck):DV.S->DV.Ss->Stmt->List Stmt->Bool
 | .und i,.cons (.ret (.callC g (.ex e (.lam id caps .nil)))) .nil,S,xs=>match S,xs with
  | .FunctionDef nm params [.Return (some b) rp] [] none [] scope none nm' pos,[.Return (some (.Call (.Name g' _) [a,.Name x _] [] _)) _] =>
   decide (ck.N[i]?=some nm)&&ck.loc nm&&decide (nm'=nm)&&decide (x=nm)&&ck.var i nm&&ck.lk id caps (.NamedExpr (.Name nm rp) (.Lambda params b scope pos) pos)&&decide (g'=(g:Str))&&ck.gl g'&&mE ck e a&&shp a&&noAnn params
  | _,_=>false
 | _,_,_,_=>false
mutual
noncomputable def mS (ck:Ck):DV.S->Stmt->Bool
 | .asg tg e,S=>match S with
  | .Assign [t] v _=>mTg ck tg t&&mE ck e v&&(match tg with | .one _=>true | .tup _=>noTup v&&noComp v)
  | _=>false
 | .setIx o i e,S=>match S with | .Assign [.Subscript ob ix _] v _=>mE ck o ob&&mE ck i ix&&mE ck e v&&noComp v&&noTup v | _=>false
 | .aug _ _,_=>false
 | .ex e,S=>match S with | .Expr v _=>mE ck e v&&noComp v | _=>false
 | .ret e,S=>match S with | .Return (some v) _=>mE ck e v | _=>false
 | .retN,_=>false
 | .ite c a b,S=>match S with | .If t l r _=>mE ck c t&&mSs ck a l&&mSs ck b r | _=>false
 | .whl _ _,_=>false
 | .for_ tg it b,S=>match S with | .For tgt iter l [] _=>mTg ck tg tgt&&mI ck tgt it iter&&mSs ck b l | _=>false
 | .pass,_=>false
 | .cont,_=>false
 | .brk,_=>false
 | .raise,_=>true
 | .und _,_=>false
noncomputable def mSs (ck:Ck):DV.Ss->List Stmt->Bool
 | .nil,xs=>match xs with | []=>true | _=>false
 | .cons s ss,xs=>match xs with | x::xs=>mNest ck s ss x xs||(mS ck s x&&mSs ck ss xs) | _=>false
end
theorem mE_dic {ck:Ck}{ks vs:DV.Es}{E:Expr}(h:mE ck (.dic ks vs) E=true):∃ a b p,E=.Dict a b p:=by
 cases ks with
 | nil=>cases vs with
  | nil=>unfold mE at h;split at h<;>first | exact ⟨_,_,_,rfl⟩ | cases h
  | cons _ _=>unfold mE at h;cases h
 | cons k ks=>cases ks with
  | nil=>cases vs with
   | nil=>unfold mE at h;cases h
   | cons v vs=>cases vs with
    | nil=>unfold mE at h;split at h<;>first | exact ⟨_,_,_,rfl⟩ | cases h
    | cons _ _=>unfold mE at h;cases h
  | cons _ _=>unfold mE at h;cases h
theorem mE_shp {ck:Ck}{e:DV.E}{E:Expr}(h:mE ck e E=true):shp E=true:=by
 cases e
 case dic ks vs=>obtain ⟨_,_,_,rfl⟩:=mE_dic h;rfl
 all_goals (unfold mE at h;first | (split at h<;>first | rfl | cases h) | cases h)
theorem mI_shp {ck:Ck}{tgt:Expr}{e:DV.I}{E:Expr}(h:mI ck tgt e E=true):shp E=true:=by
 cases e with
 | seq e=>unfold mI at h;rw [Bool.and_eq_true] at h;exact h.2
 | rng1 a=>unfold mI at h;split at h<;>first | rfl | cases h
 | rng2 a b=>unfold mI at h;cases h
 | rng3 a b c=>unfold mI at h;cases h
 | items a=>unfold mI at h;cases h
 | enum a=>cases a<;>(unfold mI at h;first | (split at h<;>first | rfl | cases h) | cases h)
 | zip a b=>cases a<;>cases b<;>(unfold mI at h;first | (split at h<;>first | rfl | cases h) | cases h)
end L2
end
noncomputable section
namespace L2
open PySem PySem.Spec PyProof.Rows
theorem zd {e:Expr}{es:List Expr}{env:Env}(h:shp e=true):starEach (e::es) env=(false,eval e env)::starEach es env:=by
 cases e<;>first | rfl | cases h
theorem zw {env:Env}{pos:Pos}:∀ {es:List Expr},(∀ e∈es,shp e=true)->(backTo pos (starEach es env)).any (·.1)=false/\(backTo pos (starEach es env)).all (fun x=>!x.1)=true
 | [],_=>⟨rfl,rfl⟩
 | e::es,h=>by
  have h1:=zd (es:=es) (env:=env) (h e (List.mem_cons_self ..))
  obtain ⟨h2,h3⟩:=zw (env:=env) (pos:=pos) (es:=es) fun x hx=>h x (List.mem_cons_of_mem _ hx)
  rw [h1]
  unfold backTo at h2 h3 ⊢
  simp only [List.map_cons,List.any_cons,List.all_cons,h2,h3]
  exact ⟨rfl,rfl⟩
theorem fold_ok {e:Expr}{env:Env}(h:shp e=true)(x:Value):foldedSetIterable e env x=pure x:=by
 cases e<;>first | rfl | cases h
theorem behind_ok {e:Expr}{op:CmpOp}(h:shp e=true):behindInMarks op e=false:=by
 cases e<;>first | rfl | cases h
theorem swap_ok {e:Expr}{t:Option Expr}{l:Nat}{env:Env}(h:noComp e=true):swapsWith e t l env=pure false:=by
 cases e<;>first | rfl | cases h
theorem base_ok {e:Expr}{f:Str}{env:Env}(h:abOk e=true):attributeBase e f env (eval e env)=eval e env:=by
 cases e with
 | Call g a k p =>
  cases g with
  | Name x p' =>
   cases a with
   | nil=>cases k with
    | nil=>cases h
    | cons _ _=>rfl
   | cons _ _=>rfl
  | _=>rfl
 | _=>rfl
theorem stores_ok {tg e:Expr}{env:Env}(h:noTup e=true):swappedStores [tg] e env=pure none:=by
 cases e with
 | Tuple _ _ _=>cases h
 | _=>cases tg<;>rfl
theorem plainIx_ok {e:Expr}(h:shp e=true):PlainIx e:=by
 intro o i
 cases e<;>first | rfl | cases h
noncomputable def spV (Γ:Gm)(c:List DV.D->DV.Sto->DV.R DV.D):Sp:=fun vs H Q _=>rCl Γ c vs H Q
noncomputable def bNames:List Str:=["len", "abs", "min", "max", "int", "isinstance", "bool", "str", "tuple", "list", "range", "sum", "all", "any", "sorted", "zip", "enumerate", "ord"]
noncomputable def spL (Γ:Gm)(c:List DV.D->List DV.D->DV.Sto->DV.R DV.D)(cap:List V):Sp:=fun vs H Q _=>∃ φ s cs l d s',Rp Γ φ H s/\RVL Γ φ H l vs/\RVL Γ φ H cs cap/\DV.D.bndL s.length l=true/\DV.D.bndL s.length cs=true/\c cs l s=.ok d s'/\After Γ φ s H d s' Q
noncomputable def LamI.own (J:LamI):Str:=match J.nm with | none => "<lambda>" | some p=>p.1
noncomputable def lamText (J:LamI)(params:Arguments)(body:Expr)(scope:Scope)(pos:Pos):Expr:=match J.nm with
 | none=>.Lambda params body scope pos
 | some p=>.NamedExpr (.Name p.1 p.2) (.Lambda params body scope pos) pos
structure LamHere (Γ:Gm)(X:Cx)(N:List Str)(id:String)(caps:List Nat)(params:Arguments)(body:Expr)(scope:Scope)(c P:Addr)(J:LamI):Prop where
 code:X.env.code=.ref c
 hd:PySem.W.CodeHd X.base c P
 bm:BM X.mg X.base
 ck:lamCheck scope X.env.scope=true
 df:defaultsOf params X.env=([],[])
 lg:Γ.lg id J
 q:J.qual=X.env.qual++J.own
 p:J.params=params
 b:J.body=body
 s:J.scope=scope
 len:J.fr.length=caps.length
 at_:∀ (i j:Nat) (x:Str),caps[i]?=some j->J.fr[i]?=some x->N[j]?=some x
 fr:∀ x∈J.fr,scope.names.lookup x=some .free
 cl:∀ x,scope.names.lookup x=some .free->∃ c,X.env.cells.lookup x=some c
 tab:(P,J.qual)∈Γ.T
 nd:(Γ.T.map (·.1)).Nodup
 fn:∀ x,X.fn x=true
 kd:∀ x c,X.env.cells.lookup x=some c->X.env.kindOf x=some .cell\/X.env.kindOf x=some .free
structure CG (Γ:Gm)(F:DV.Fns)(n:Nat)(X:Cx)(ck:Ck):Prop where
 K:X.K=Γ.K
 N:X.N=ck.N
 nd:ck.N.Nodup
 xe:X.xe=fun _ _=>False
 calm:X.calm=true
 deep:DV.DEEP+1<=n
 room:Room n X.A
 sc:∀ x k,ck.sc.names.lookup x=some k->X.env.scope.names.lookup x=some k\/(k=.free/\X.env.scope.names.lookup x=some .cell)
 fn:∀ x,ck.sc.names.lookup x=some .cell->X.fn x=true
 bi:∀ x∈bNames,X.mg x=none
 call:∀ f:String,(∀ l s,F.call f l s=.bad)\/∃ a fd ps,FnOk X.prog X.w X.K X.mg X.base CX0 n a fd ps (spV Γ (F.call f))/\X.mg (f:Str)=some (.ref a)/\PySem.W.keepIn X.K (.ref a)=true/\Binds X.K fd ps []
 con:∀ x d,F.con x=some d->∃ v u,X.mg (x:Str)=some u/\RelV v u/\(∀ m,d.bnd m=true)/\∀ φ H,RV Γ φ H d v
 lam:∀ id caps E,ck.lk id caps E=true->∃ c P params body scope pos J,E=lamText J params body scope pos/\LamHere Γ X ck.N id caps params body scope c P J
 cl:∀ (id:String) (J:LamI) (f:Addr) (cap:List V) (clos:List (Str×Addr)),Γ.lg id J->cap.length=J.fr.length->ClOk X.prog X.w X.K X.mg X.base n (fun H=>CloAt H f J cap clos) f (spL Γ (F.lam id) cap)
 fa:∀ (f:String) (a:Addr),Γ.fa f=some a->X.mg (f:Str)=some (.ref a)/\∃ oc od fd sl,X.K.lookup a=some ⟨oc,od,.func fd,sl⟩
 fk:DV.FK F
section
variable {Γ:Gm} {F:DV.Fns} {n:Nat} {X:Cx} {ck:Ck}
theorem CG.vis (G:CG Γ F n X ck){x:Str}(h:ck.vis x=true):Vis X.env.scope x:=by
 unfold Ck.vis at h
 split at h
 ·rename_i e;rcases G.sc _ _ e with z | ⟨z,_⟩
  ·exact .inl z
  ·cases z
 ·rename_i e;rcases G.sc _ _ e with z | ⟨z,_⟩
  ·exact .inr (.inl z)
  ·cases z
 ·rename_i e;rcases G.sc _ _ e with z | ⟨_,z⟩
  ·exact .inr (.inr z)
  ·exact .inr (.inl z)
 ·cases h
theorem CG.loc (G:CG Γ F n X ck){x:Str}(h:ck.loc x=true):Loc X.env.scope x/\(X.fn x=true\/X.env.scope.names.lookup x=some .local):=by
 unfold Ck.loc at h
 split at h
 ·rename_i e;rcases G.sc _ _ e with z | ⟨z,_⟩
  ·exact ⟨.inl z,.inr z⟩
  ·cases z
 ·rename_i e;rcases G.sc _ _ e with z | ⟨z,_⟩
  ·exact ⟨.inr z,.inl (G.fn _ e)⟩
  ·cases z
 ·cases h
theorem CG.gl (G:CG Γ F n X ck){x:Str}(h:ck.gl x=true):Gl X x/\(x==("__debug__":Str))=false/\x ≠ "__name__":=by
 unfold Ck.gl at h
 simp only [Bool.and_eq_true,Bool.not_eq_true'] at h
 obtain ⟨⟨h1,h2⟩,h3⟩:=h
 refine ⟨?_,h2,of_decide_eq_false h3⟩
 split at h1
 ·rename_i e;rcases G.sc _ _ e with z | ⟨z,_⟩
  ·exact z
  ·cases z
 ·cases h1
theorem cg_tgs (G:CG Γ F n X ck):∀ {is:List Nat} {es:List Expr},mTgs ck is es=true->PGs X es (gsOf is)/\(assignEach es X.env).length=is.length/\(assignEach es X.env).findIdx? (·.1)=none
 | [],[],_=>⟨pgs_nil,rfl,rfl⟩
 | [],_::_,h=>by cases h
 | i::is,[],h=>by cases h
 | i::is,e::es,h=>by
  cases e with
  | Name x p =>
   unfold mTgs at h
   simp only [Bool.and_eq_true,decide_eq_true_eq] at h
   obtain ⟨⟨h1,h2⟩,h3⟩:=h
   obtain ⟨l1,l2⟩:=G.loc h2
   obtain ⟨a,b,c⟩:=cg_tgs G h3
   have hs:assignEach (.Name x p::es) X.env=(false,assign (.Name x p) X.env)::assignEach es X.env:=rfl
   refine ⟨pgs_cons (pg_name (by rw [G.N];exact G.nd) (by rw [G.N];exact h1) l1 l2) a (by rw [hs];rfl),by rw [hs,List.length_cons,List.length_cons,b],?_⟩
   rw [hs,List.findIdx?_cons]
   simp [c]
  | _=>cases h
theorem cg_tg (G:CG Γ F n X ck){tg:DV.Tg}{e:Expr}(h:mTg ck tg e=true):PG X e (gOf Γ.K tg):=by
 unfold mTg at h
 split at h
 ·simp only [Bool.and_eq_true,decide_eq_true_eq] at h
  obtain ⟨l1,l2⟩:=G.loc h.2
  exact pg_name (by rw [G.N];exact G.nd) (by rw [G.N];exact h.1) l1 l2
 ·obtain ⟨a,b,c⟩:=cg_tgs G h
  exact pg_tupK G.K G.calm a b c
 ·cases h
theorem CG.comp (G:CG Γ F n X ck){tg:DV.Tg}{tgt iter:Expr}{caps:List (Option Nat)}{scope:Scope}(h:mComp ck tg tgt iter caps scope=true) :
  zU (ckC ck tgt caps scope).N caps scope X.N X.env.scope=true/\shp iter=true /\
  ∀ (C:Addr) (cells:List (Str×Addr)) (s:Shared) (H:Hp) (ex:List Addr),CG Γ F n (zE X (ckC ck tgt caps scope).N scope C cells s H ex) (ckC ck tgt caps scope)/\PG (zE X (ckC ck tgt caps scope).N scope C cells s H ex) tgt (gOf Γ.K tg):=by
 unfold mComp at h
 simp only [Bool.and_eq_true,decide_eq_true_eq] at h
 obtain ⟨⟨⟨h1,h2⟩,h3⟩,h4⟩:=h
 refine ⟨?_,h4,fun C cells s H ex=>?_⟩
 ·rw [G.N]
  unfold zU at h1 ⊢
  simp only [Bool.and_eq_true] at h1 ⊢
  obtain ⟨⟨⟨⟨⟨a1,a2⟩,a3⟩,a4⟩,a5⟩,a6⟩:=h1
  refine ⟨⟨⟨⟨⟨a1,?_⟩,a3⟩,a4⟩,a5⟩,a6⟩
  rw [List.all_eq_true] at a2 ⊢
  intro y hy
  have:=a2 y hy
  rw [Bool.or_eq_true] at this ⊢
  rcases this with q | q
  ·exact .inl q
  ·right
   rw [Bool.or_eq_true] at q ⊢
   rcases q with q | q
   ·rcases G.sc _ _ (eq_of_beq q) with z | ⟨z,_⟩
    ·left;rw [z];exact beq_self_eq_true _
    ·cases z
   ·rcases G.sc _ _ (eq_of_beq q) with z | ⟨_,z⟩
    ·right;rw [z];exact beq_self_eq_true _
    ·left;rw [z];exact beq_self_eq_true _
 ·have G':CG Γ F n (zE X (ckC ck tgt caps scope).N scope C cells s H ex) (ckC ck tgt caps scope):=by
   refine ⟨G.K,rfl,h2,rfl,G.calm,G.deep,G.room,fun x k e=>?_,fun x e=>?_,G.bi,G.call,G.con,fun _ _ _ h=>(by cases h),G.cl,G.fa,G.fk⟩
   ·have q:=qf (env:=X.env) e
    have q':(relabel scope X.env).names.lookup x=some (if (k==NameKind.free&&X.env.scope.kind==.function&&X.env.kindOf x==some .cell) then NameKind.cell else k):=q
    show (relabel scope X.env).names.lookup x=some k\/_
    rw [q']
    split
    ·rename_i hc
     simp only [Bool.and_eq_true] at hc
     exact .inr ⟨eq_of_beq hc.1.1,rfl⟩
    ·exact .inl rfl
   ·show (scope.names.lookup x==some .cell)=true
    rw [show scope.names.lookup x=some .cell from e];rfl
  exact ⟨G',cg_tg G' h3⟩
end
end L2
end
noncomputable section
namespace L2
open PySem PySem.Spec PyProof.Rows
section
variable {Γ:Gm} {F:DV.Fns} {n:Nat} {X:Cx} {ck:Ck} {σ:St} {H:Hp} {Q:VK}
theorem TEv.eq {m m':DV.Env->DV.Sto->DV.R DV.D}(e:∀ ρ s,m ρ s=m' ρ s)(q:TEv Γ m σ H Q):TEv Γ m' σ H Q:=by
 have:m=m':=funext fun ρ=>funext fun s=>e ρ s
 subst this;exact q
theorem TTv.eq {m m':DV.Env->DV.Sto->DV.R DV.D}{Q:Bool->Hp->Prop}(e:∀ ρ s,m ρ s=m' ρ s)(q:TTv Γ m σ H Q):TTv Γ m' σ H Q:=by
 have:m=m':=funext fun ρ=>funext fun s=>e ρ s
 subst this;exact q
theorem TAv.eq {m m':DV.Env->DV.Sto->DV.R (List DV.D)}{Q:List V->Hp->Prop}(e:∀ ρ s,m ρ s=m' ρ s)(q:TAv Γ m σ H Q):TAv Γ m' σ H Q:=by
 have:m=m':=funext fun ρ=>funext fun s=>e ρ s
 subst this;exact q
theorem TFv.eq {m m':DV.Env->DV.Sto->DV.R (List DV.D)}(e:∀ ρ s,m ρ s=m' ρ s)(q:TFv Γ m σ H Q):TFv Γ m' σ H Q:=by
 have:m=m':=funext fun ρ=>funext fun s=>e ρ s
 subst this;exact q
theorem TIv.eq {m m':DV.Env->DV.Sto->DV.R DV.Sq}{R:It->Hp->Prop}(e:∀ ρ s,m ρ s=m' ρ s)(q:TIv Γ m σ H R):TIv Γ m' σ H R:=by
 have:m=m':=funext fun ρ=>funext fun s=>e ρ s
 subst this;exact q
theorem TSv.eq {m m':DV.Env->DV.Sto->DV.R DV.Ct}{D:Ends}(e:∀ ρ s,m ρ s=m' ρ s)(q:TSv Γ m D σ H):TSv Γ m' D σ H:=by
 have:m=m':=funext fun ρ=>funext fun s=>e ρ s
 subst this;exact q
noncomputable def EvT (Γ:Gm)(X:Cx)(E:Expr)(m:DV.Env->DV.Sto->DV.R DV.D):Prop:=PE X E (TEv Γ m)/\PT X E (TTv Γ m)
theorem EvT.val {E:Expr}{m:DV.Env->DV.Sto->DV.R DV.D}(h:PE X E (TEv Γ m))(he:∀ whole,isTrue E X.env whole=(do let v <- whole;standAt E.pos;holding [v] (truthy v)):=by intro _;rfl):EvT Γ X E m :=
 ⟨h,(pt_val h he).imp fun σ H Q q=>tt_val q⟩
theorem pt_ifExp {c a b:Expr}{pos:Pos}{tA tb tc:TT}(hc:PT X c tA)(ha:PT X a tb)(hb:PT X b tc):PT X (.IfExp c a b pos) (fun σ H Q=>tA σ H fun k H1=>if k=true then tb σ H1 Q else tc σ H1 Q):=by
 intro pins s σ H Q I h
 have e:isTrue (.IfExp c a b pos) X.env (eval (.IfExp c a b pos) X.env)=(do if <- isTrue c X.env (eval c X.env) then isTrue a X.env (eval a X.env) else isTrue b X.env (eval b X.env)):=by rw [PySem.isTrue]
 rw [e]
 refine wpAny_bind (thn (hc pins s σ H _ I h) fun k s1 ⟨H1,I1,q1⟩=>?_)
 cases k with
 | true=>exact ha pins s1 σ H1 Q I1 q1
 | false=>exact hb pins s1 σ H1 Q I1 q1
theorem tt_ite {mc m1 m2:DV.Env->DV.Sto->DV.R DV.D}{Q:Bool->Hp->Prop}(h:TTv Γ (fun ρ s=>DV.tru (mc ρ s) fun k s=>if k then m1 ρ s else m2 ρ s) σ H Q):TTv Γ mc σ H fun k H1=>if k=true then TTv Γ m1 σ H1 Q else TTv Γ m2 σ H1 Q:=by
 obtain ⟨φ,ρ,s,d,s',E,R,hm,q⟩:=h
 obtain ⟨c,s1,e1,hm⟩:=zM hm
 refine ⟨φ,ρ,s,c,s1,E,R,e1,fun φ1 H1 g1 l1 R1=>?_⟩
 cases c with
 | true =>
  rw [if_pos rfl] at hm ⊢
  exact ⟨φ1,ρ,s1,d,s',E.mono g1 l1,R1,hm,q.trans g1 l1⟩
 | false =>
  rw [if_neg Bool.false_ne_true] at hm ⊢
  exact ⟨φ1,ρ,s1,d,s',E.mono g1 l1,R1,hm,q.trans g1 l1⟩
section
variable {a b c:DV.E} {l r t:Expr} {pos:Pos}
theorem ev_bin' (G:CG Γ F n X ck)(op:DV.BOp)(ha:EvT Γ X l (DV.ev F a))(hb:EvT Γ X r (DV.ev F b)):EvT Γ X (.BinOp l (opOf op) r pos) (DV.ev F (.bin op a b)) :=
 .val ((pe_op (op_bin G.K op) ha.1 hb.1).imp fun σ H Q q=>tv_op (TEv.eq (fun ρ s=>rfl) q))
theorem ev_not' (ha:EvT Γ X l (DV.ev F a)):EvT Γ X (.UnaryOp .Not l pos) (DV.ev F (.not a)) :=
 ⟨(pe_not ha.1).imp fun σ H Q q=>tv_not (TEv.eq (fun ρ s=>rfl) q),(pt_not ha.2).imp fun σ H Q q=>tt_not (TTv.eq (fun ρ s=>rfl) q)⟩
theorem ev_cmp' (G:CG Γ F n X ck)(op:DV.COp)(hs:shp r=true)(ha:EvT Γ X l (DV.ev F a))(hb:EvT Γ X r (DV.ev F b)):EvT Γ X (.Compare l [copOf op] [r] pos) (DV.ev F (.cmp op a b)):=by
 have ho:=op_cmp (Γ:=Γ) G.K (G.room.mono G.deep) op
 refine ⟨(pe_cmpR ho ha.1 hb.1 (behind_ok hs)).imp fun σ H Q q=>tv_op (TEv.eq (fun ρ s=>rfl) q),(pt_cmpR ho ha.1 hb.1 (behind_ok hs)).imp fun σ H Q q=>?_⟩
 have q:=tt_test q
 exact tv_op (TEv.eq (fun ρ s=>rfl) q)
theorem RV.nonIff {φ:Nat->Addr}{x:DV.D}{v:V}(r:RV Γ φ H x v):decide (v=.non)=decide (x=.non):=by
 cases x with
 | non=>rw [r.nonE];rfl
 | bl b=>rw [r.blE];rfl
 | int i=>rw [r.intE];rfl
 | str z=>rw [r.strE];rfl
 | tup l=>obtain ⟨a,xs,rfl,_⟩:=r.tupE;rfl
 | ref k=>rw [r.refE];rfl
 | fn f=>unfold RV at r;obtain ⟨a,_,rfl⟩:=r;rfl
 | clo f cs=>unfold RV at r;obtain ⟨f,_,_,_,rfl,_⟩:=r;rfl
theorem ev_isN' {j pos'}(ha:EvT Γ X l (DV.ev F a)):EvT Γ X (.Compare l [.Is] [.Constant .none j pos'] pos) (DV.ev F (.isN a)):=by
 have key:∀ σ H Q,TEv Γ (DV.ev F (.isN a)) σ H Q->tIsN (TEv Γ (DV.ev F a)) σ H Q:=fun σ H Q q=>by
  obtain ⟨φ,ρ,s,d,s',E,R,hm,k⟩:=q
  obtain ⟨x,s1,e1,hm⟩:=bind_inv hm
  cases hm
  refine ⟨φ,ρ,s,x,_,E,R,e1,fun v φ1 H1 g1 l1 b1 r1 R1=>?_⟩
  show Q (.bl (decide (v=.non))) H1
  rw [r1.nonIff]
  exact k _ φ1 H1 g1 l1 rfl RV.blI R1
 exact ⟨(pe_cmp (pc_isN ha.1)).imp key,(pt_cmp (pc_isN ha.1)).imp fun σ H Q q=>key _ _ _ (tt_val q)⟩
theorem ev_notN' {j pos'}(ha:EvT Γ X l (DV.ev F a)):EvT Γ X (.Compare l [.IsNot] [.Constant .none j pos'] pos) (DV.ev F (.notN a)):=by
 have key:∀ σ H Q,TEv Γ (DV.ev F (.notN a)) σ H Q->tNotN (TEv Γ (DV.ev F a)) σ H Q:=fun σ H Q q=>by
  obtain ⟨φ,ρ,s,d,s',E,R,hm,k⟩:=q
  obtain ⟨x,s1,e1,hm⟩:=bind_inv hm
  cases hm
  refine ⟨φ,ρ,s,x,_,E,R,e1,fun v φ1 H1 g1 l1 b1 r1 R1=>?_⟩
  show Q (.bl (!decide (v=.non))) H1
  rw [r1.nonIff]
  exact k _ φ1 H1 g1 l1 rfl RV.blI R1
 exact ⟨(pe_cmp (pc_notN ha.1)).imp key,(pt_cmp (pc_notN ha.1)).imp fun σ H Q q=>key _ _ _ (tt_val q)⟩
theorem bool_pw {op:BoolOp}{es:List Expr}{t:TT}(h:PT X (.BoolOp op es pos) t):PW X (.BoolOp op es pos) t:=by
 intro wh pins s σ H Q I q
 have:=h pins s σ H Q I q
 have e:∀ w,isTrue (.BoolOp op es pos) X.env w=allTrue op es X.env:=fun w=>by rw [PySem.isTrue]
 rw [e] at this ⊢
 exact this
theorem ev_and2 (ha:EvT Γ X l (DV.ev F a))(hb:EvT Γ X r (DV.ev F b)):EvT Γ X (.BoolOp .And [l,r] pos) (DV.ev F (.and a b)) :=
 ⟨(pe_and ha.1 (pe_one hb.1)).imp fun σ H Q q=>tv_and (TEv.eq (fun ρ s=>rfl) q),(pw_and ha.2 (pw_and1 hb.2)).pt.imp fun σ H Q q=>tt_and (TTv.eq (fun ρ s=>rfl) q)⟩
theorem ev_and3 {es:List Expr}(ha:EvT Γ X l (DV.ev F a))(hb:EvT Γ X (.BoolOp .And (r::es) pos) (DV.ev F b)):EvT Γ X (.BoolOp .And (l::r::es) pos) (DV.ev F (.and a b)) :=
 ⟨(pe_and ha.1 hb.1).imp fun σ H Q q=>tv_and (TEv.eq (fun ρ s=>rfl) q),(pw_and ha.2 (bool_pw hb.2)).pt.imp fun σ H Q q=>tt_and (TTv.eq (fun ρ s=>rfl) q)⟩
theorem ev_or2 (ha:EvT Γ X l (DV.ev F a))(hb:EvT Γ X r (DV.ev F b)):EvT Γ X (.BoolOp .Or [l,r] pos) (DV.ev F (.or a b)) :=
 ⟨(pe_or ha.1 (pe_one hb.1)).imp fun σ H Q q=>tv_or (TEv.eq (fun ρ s=>rfl) q),(pw_or ha.2 (pw_or1 hb.2)).pt.imp fun σ H Q q=>tt_or (TTv.eq (fun ρ s=>rfl) q)⟩
theorem ev_or3 {es:List Expr}(ha:EvT Γ X l (DV.ev F a))(hb:EvT Γ X (.BoolOp .Or (r::es) pos) (DV.ev F b)):EvT Γ X (.BoolOp .Or (l::r::es) pos) (DV.ev F (.or a b)) :=
 ⟨(pe_or ha.1 hb.1).imp fun σ H Q q=>tv_or (TEv.eq (fun ρ s=>rfl) q),(pw_or ha.2 (bool_pw hb.2)).pt.imp fun σ H Q q=>tt_or (TTv.eq (fun ρ s=>rfl) q)⟩
theorem ev_ite' (hc:EvT Γ X t (DV.ev F c))(ha:EvT Γ X l (DV.ev F a))(hb:EvT Γ X r (DV.ev F b)):EvT Γ X (.IfExp t l r pos) (DV.ev F (.ite c a b)) :=
 ⟨(pe_ifExp hc.2 ha.1 hb.1).imp fun σ H Q q=>tv_ite (TEv.eq (fun ρ s=>rfl) q),(pt_ifExp hc.2 ha.2 hb.2).imp fun σ H Q q=>tt_ite (TTv.eq (fun ρ s=>rfl) q)⟩
theorem ev_ix' (G:CG Γ F n X ck)(hs:shp r=true)(ha:EvT Γ X l (DV.ev F a))(hb:EvT Γ X r (DV.ev F b)):EvT Γ X (.Subscript l r pos) (DV.ev F (.ix a b)) :=
 .val ((pe_ix (ix_ok G.K (hu_of G.room)) ha.1 hb.1 (plainIx_ok hs)).imp fun σ H Q q=>tv_op (TEv.eq (fun ρ s=>rfl) q))
theorem ev_slL' {p2:Pos}(G:CG Γ F n X ck)(ha:EvT Γ X l (DV.ev F a))(hb:EvT Γ X r (DV.ev F b)):EvT Γ X (.Subscript l (.Slice (some r) none none p2) pos) (DV.ev F (.slL a b)) :=
 .val ((pe_slice (sl_ok G.K) ha.1 (po_some hb.1) po_none).imp fun σ H Q q=>(tv_sl (mh:=DV.ev F b)).1 (TEv.eq (fun ρ s=>rfl) q))
theorem ev_slU' {p2:Pos}(G:CG Γ F n X ck)(ha:EvT Γ X l (DV.ev F a))(hb:EvT Γ X r (DV.ev F b)):EvT Γ X (.Subscript l (.Slice none (some r) none p2) pos) (DV.ev F (.slU a b)) :=
 .val ((pe_slice (sl_ok G.K) ha.1 po_none (po_some hb.1)).imp fun σ H Q q=>(tv_sl (ml:=DV.ev F b)).2.1 (TEv.eq (fun ρ s=>rfl) q))
end
end
end L2
end
noncomputable section
namespace L2
open PySem PySem.Spec PyProof.Rows
section
variable {Γ:Gm} {F:DV.Fns} {n:Nat} {X:Cx} {ck:Ck} {σ:St} {H:Hp} {Q:VK}
theorem evs_len:∀ {es:DV.Es} {ρ:DV.Env} {s s':DV.Sto} {l:List DV.D} {xs:List Expr} {ck:Ck},DV.evs F es ρ s=.ok l s'->mEs ck es xs=true->l.length=xs.length
 | .nil,ρ,s,s',l,xs,ck,h,m=>by
  cases h
  cases xs with
  | nil=>rfl
  | cons _ _=>rw [mEs] at m<;>first | cases m | (intros;simp_all)
 | .cons e es,ρ,s,s',l,xs,ck,h,m=>by
  obtain ⟨d,s1,e1,h⟩:=bind_inv h
  obtain ⟨r,s2,e2,h⟩:=bind_inv h
  cases h
  cases xs with
  | nil=>rw [mEs] at m<;>first | cases m | (intros;simp_all)
  | cons x xs =>
   rw [mEs,Bool.and_eq_true] at m
   rw [List.length_cons,List.length_cons,evs_len e2 m.2]
theorem mEs_shp:∀ {es:DV.Es} {xs:List Expr},mEs ck es xs=true->∀ x∈xs,shp x=true
 | .nil,[],_,x,hx=>by cases hx
 | .nil,_::_,m,_,_=>by rw [mEs] at m<;>first | cases m | (intros;simp_all)
 | .cons e es,[],m,x,hx=>by cases hx
 | .cons e es,y::xs,m,x,hx=>by
  rw [mEs,Bool.and_eq_true,Bool.and_eq_true] at m
  rcases List.mem_cons.mp hx with h | h
  ·rw [h];exact m.1.2
  ·exact mEs_shp m.2 x h
theorem mAs_shp:∀ {es:DV.As} {xs:List Expr},mAs ck es xs=true->∀ x∈xs,shp x=true
 | .nil,[],_,x,hx=>by cases hx
 | .nil,_::_,m,_,_=>by rw [mAs] at m<;>first | cases m | (intros;simp_all)
 | .ex e es,[],m,x,hx=>by cases hx
 | .lam _ _ _,_,m,_,_=>by rw [mAs] at m<;>first | cases m | (intros;simp_all)
 | .fn _ _,_,m,_,_=>by rw [mAs] at m<;>first | cases m | (intros;simp_all)
 | .ex e es,y::xs,m,x,hx=>by
  rw [mAs,Bool.and_eq_true,Bool.and_eq_true] at m
  rcases List.mem_cons.mp hx with h | h
  ·rw [h];exact m.1.2
  ·exact mAs_shp m.2 x h
theorem pa_cons' {e:DV.E}{x:Expr}{xs:List Expr}{ms:DV.Env->DV.Sto->DV.R (List DV.D)}(hs:shp x=true)(h1:PE X x (TEv Γ (DV.ev F e)))(h2:PA X xs (TAv Γ ms)) :
  PA X (x::xs) (TAv Γ (fun ρ s=>(DV.ev F e ρ s).bind fun d s=>(ms ρ s).bind fun l s=>.ok (d::l) s)) :=
 (zP h1 h2 (zd hs)).imp fun σ H Q q=>ta_cons q
theorem le1000 {k:Nat}(h:k<=1000):k<=sizeLine:=by rw [sizeLine_eq];omega
theorem pe_tup' {es:DV.Es}{xs:List Expr}{k:Nat}{pos:Pos}(m:mEs ck es xs=true)(hz:xs.length<=1000)(h:PA X xs (TAv Γ (DV.evs F es))):EvT Γ X (.Tuple xs k pos) (DV.ev F (.tup es)) :=
 .val ((pe_tup h).imp fun σ H Q q=>tv_tup' hz m q)
where
 tv_tup' {es:DV.Es} {xs:List Expr} {σ:St} {H:Hp} {Q:VK} (hz:xs.length<=1000) (m:mEs ck es xs=true) (q:TEv Γ (DV.ev F (.tup es)) σ H Q):tTup (TAv Γ (DV.evs F es)) σ H Q:=by
  obtain ⟨φ,ρ,s,d,s',E,R,hm,q⟩:=q
  obtain ⟨l,s1,e1,hm⟩:=bind_inv hm
  cases hm
  refine ⟨φ,ρ,s,l,_,E,R,e1,fun vs φ1 H1 g1 l1 b1 r1 R1=>⟨by rw [r1.length,evs_len e1 m];exact le1000 hz,fun p hp=>?_⟩⟩
  exact (q.trans g1 l1).tup R1 r1 b1 hp
theorem pe_lst' {es:DV.Es}{xs:List Expr}{pos:Pos}(m:mEs ck es xs=true)(hz:xs.length<=1000)(h:PA X xs (TAv Γ (DV.evs F es))):EvT Γ X (.List xs pos) (DV.ev F (.lst es)):=by
 refine .val ((pe_lst h).imp fun σ H Q q=>?_)
 obtain ⟨φ,ρ,s,d,s',E,R,hm,q⟩:=q
 obtain ⟨l,s1,e1,hm⟩:=bind_inv hm
 obtain ⟨rfl,rfl⟩:=qa hm
 refine ⟨φ,ρ,s,l,_,E,R,e1,fun vs φ1 H1 g1 l1 b1 r1 R1=>⟨by rw [r1.length,evs_len e1 m];exact le1000 hz,fun p hp=>?_⟩⟩
 exact (q.trans g1 l1).alloc R1 r1 b1 hp
theorem pe_call' {f:String}{as:DV.As}{xs:List Expr}{p pos:Pos}(G:CG Γ F n X ck)(hg:ck.gl (f:Str)=true)(m:mAs ck as xs=true)(h:PA X xs (TAv Γ (DV.evas F as))):EvT Γ X (.Call (.Name (f:Str) p) xs [] pos) (DV.ev F (.call f as)):=by
 refine .val ?_
 obtain ⟨g1,g2,g3⟩:=G.gl hg
 rcases G.call f with hbad | ⟨a,fd,ps,hF,hmg,hk,hb⟩
 ·intro pins s σ H Q I q
  obtain ⟨φ,ρ,s,d,s',E,R,hm,q⟩:=q
  obtain ⟨l,s1,e1,hm⟩:=bind_inv hm
  rw [hbad] at hm
  cases hm
 have key:∀ σ H Q,TEv Γ (DV.ev F (.call f as)) σ H Q->tCall (spV Γ (F.call f)) [] E0 (TAv Γ (DV.evas F as)) σ H Q:=fun σ H Q q=>by
  have:=tv_call (TEv.eq (m':=fun ρ s=>(DV.evas F as ρ s).bind fun l s=>F.call f l s) (fun ρ s=>rfl) q)
  unfold tCB at this
  unfold tCall spV
  simpa only [List.append_nil] using this
 cases xs with
 | nil =>
  have h0:PE X (.Call (.Name (f:Str) p) [] [] pos) (tCall (spV Γ (F.call f)) [] E0 tNil):=pe_call0 hF G.room g1 hmg hk hb .nil pass0 g2
  cases as with
  | nil =>
   refine h0.imp fun σ H Q q=>?_
   have q1:=key σ H Q q
   unfold tCall at q1 ⊢
   exact ta_nil (TAv.eq (fun ρ s=>rfl) q1)
  | _=>rw [mAs] at m<;>first | cases m | (intros;simp_all)
 | cons x xs =>
  have hs:=mAs_shp m
  exact (pe_call hF G.room g1 hmg hk hb .nil pass0 h g2 (zd (hs x (List.mem_cons_self ..))) (zw fun e he=>hs e (List.mem_cons_of_mem _ he)).1).imp key
noncomputable def BiC (Γ:Gm)(X:Cx)(b:DV.Bi)(x:Str):Prop:=(∃ id,bootBuiltins x=some (.builtin id)/\CallR X (.builtin id) (rCl Γ (DV.bi b)))\/∃ T,bootBuiltins x=some (.type T)/\CallR X (.type T) (rCl Γ (DV.bi b))
theorem biT_ok (G:CG Γ F n X ck){b:DV.Bi}{x:Str}(h:biT b=some x):x∈bNames/\BiC Γ X b x:=by
 cases b<;>first | cases h | skip
 ·exact ⟨by decide,.inl ⟨_,b_len,bi_ok G.K G.calm (k:=1) rfl⟩⟩
 ·exact ⟨by decide,.inl ⟨_,b_abs,bi_ok G.K G.calm (k:=1) rfl⟩⟩
 ·exact ⟨by decide,.inr ⟨_,b_int,int_ok⟩⟩
 ·exact ⟨by decide,.inl ⟨_,b_min,bi_ok G.K G.calm (k:=2) rfl⟩⟩
 ·exact ⟨by decide,.inl ⟨_,b_max,bi_ok G.K G.calm (k:=2) rfl⟩⟩
theorem pe_bi' {b:DV.Bi}{es:DV.Es}{x:Str}{y:Expr}{xs:List Expr}{p pos:Pos}(G:CG Γ F n X ck)(hb:biT b=some x)(hg:ck.gl x=true)(m:mEs ck es (y::xs)=true)(h:PA X (y::xs) (TAv Γ (DV.evs F es))) :
  EvT Γ X (.Call (.Name x p) (y::xs) [] pos) (DV.ev F (.bi b es)):=by
 refine .val ?_
 obtain ⟨g1,g2,g3⟩:=G.gl hg
 obtain ⟨hm,hc⟩:=biT_ok G hb
 have hs:=mEs_shp m
 have s1:=zd (es:=xs) (env:=X.env) (hs y (List.mem_cons_self ..))
 have s2:=(zw (env:=X.env) (pos:=pos) fun e he=>hs e (List.mem_cons_of_mem _ he)).1
 rcases hc with ⟨id,h1,h2⟩ | ⟨T,h1,h2⟩
 ·exact (pe_callB h2 g1 (G.bi _ hm) h1 h g3 g2 s1 s2).imp fun σ H Q q=>tv_call (TEv.eq (fun ρ s=>rfl) q)
 ·exact (pe_callTy h2 g1 (G.bi _ hm) h1 h g3 g2 s1 s2).imp fun σ H Q q=>tv_call (TEv.eq (fun ρ s=>rfl) q)
theorem biK_ok {b:DV.Bi}{k:Nat}{t:Str}(h:biK b=some (k,t)):(1<=k/\k<=5)/\t∈bNames/\bootBuiltins t=some (.type (kName k))/\DV.bi b=DV.bi1 (DV.isK k):=by
 cases b<;>cases h
 ·exact ⟨by omega,by decide,b_int,rfl⟩
 ·exact ⟨by omega,by decide,b_bool,rfl⟩
 ·exact ⟨by omega,by decide,b_str,rfl⟩
 ·exact ⟨by omega,by decide,b_tuple,rfl⟩
 ·exact ⟨by omega,by decide,b_list,rfl⟩
noncomputable def PEs (Γ:Gm)(F:DV.Fns)(X:Cx):DV.Es->List Expr->Prop
 | .nil,[]=>True
 | .cons e es,x::xs=>(shp x=true/\EvT Γ X x (DV.ev F e))/\PEs Γ F X es xs
 | _,_=>False
theorem pes_pa:∀ {es:DV.Es} {xs:List Expr},PEs Γ F X es xs->PA X xs (TAv Γ (DV.evs F es))
 | .nil,[],_=>pa_nil.imp fun σ H Q q=>ta_nil (TAv.eq (fun ρ s=>rfl) q)
 | .nil,_::_,h=>h.elim
 | .cons _ _,[],h=>h.elim
 | .cons e es,x::xs,h=>(pa_cons' h.1.1 h.1.2.1 (pes_pa h.2)).imp fun σ H Q q=>TAv.eq (fun ρ s=>rfl) q
theorem pe_isi' {b:DV.Bi}{es:DV.Es}{k:Nat}{t:Str}{a:Expr}{p py pos:Pos}(G:CG Γ F n X ck)(hb:biK b=some (k,t))(hg:ck.gl "isinstance"=true)(hg2:ck.gl t=true)(h:PEs Γ F X es [a]) :
  EvT Γ X (.Call (.Name "isinstance" p) [a,.Name t py] [] pos) (DV.ev F (.bi b es)):=by
 refine .val ?_
 obtain ⟨g1,g2,g3⟩:=G.gl hg
 obtain ⟨t1,t2,t3⟩:=G.gl hg2
 obtain ⟨hk,hm,hv,hbi⟩:=biK_ok hb
 have pty:PE X (.Name t py) (tC (.ty (kName k))):=pe_bltn t1 (G.bi _ hm) hv rfl t3 t2
 cases es with
 | nil=>exact h.elim
 | cons e es =>
  cases es with
  | cons _ _=>exact h.2.elim
  | nil =>
   obtain ⟨⟨hs,ha,_⟩,_⟩:=h
   have hA:PA X [a,.Name t py] (tCons (TEv Γ (DV.ev F e)) (tCons (tC (.ty (kName k))) tNil)):=zP ha (zP pty pa_nil (zd rfl)) (zd hs)
   refine (pe_callB (isK_ok G.K hk) g1 (G.bi _ (by decide)) b_isinstance hA g3 g2 (zd hs) (zw fun e he=>by rw [List.mem_singleton.mp he];rfl).1).imp fun σ H Q q=>?_
   obtain ⟨φ,ρ,s,d,s',E,R,hm,q⟩:=q
   obtain ⟨l,s1,e1,hm⟩:=bind_inv hm
   obtain ⟨x,s2,e2,e1⟩:=bind_inv e1
   obtain ⟨l2,s3,e3,e1⟩:=bind_inv e1
   cases e3
   cases e1
   rw [hbi] at hm
   refine ⟨φ,ρ,s,x,_,E,R,e2,fun v φ1 H1 g1 l1 b1 r1 R1=>?_⟩
   exact ⟨v,rfl,φ1,_,[x],d,s',R1,.cons r1 .nil,by unfold DV.D.bndL;rw [b1];rfl,hm,q.trans g1 l1⟩
end
end L2
end
noncomputable section
namespace L2
open PySem PySem.Spec PyProof.Rows
section
variable {Γ:Gm} {F:DV.Fns} {n:Nat} {X:Cx} {ck:Ck} {σ:St} {H:Hp}
noncomputable def TAp (Γ:Gm)(cells:List (Str×Addr))(N:List Str)(m:DV.Env->DV.Sto->DV.R (List DV.D)):TA:=fun σ H Q=>∃ φ ρ s l s',RE Γ φ H s.length ρ σ/\Rp Γ φ H s/\m ρ s=.ok l s' /\
 ∀ vs φ' H',Gr φ s H φ' s' H'->s.length<=s'.length->DV.D.bndL s'.length l=true->PVL Γ cells N σ φ' H' l vs->Rp Γ φ' H' s'->Q vs H'
theorem TAp.eq {cells:List (Str×Addr)}{N:List Str}{m m':DV.Env->DV.Sto->DV.R (List DV.D)}{Q:List V->Hp->Prop}(e:∀ ρ s,m ρ s=m' ρ s)(q:TAp Γ cells N m σ H Q):TAp Γ cells N m' σ H Q:=by
 obtain ⟨φ,ρ,s,l,s',E,R,hm,q⟩:=q
 exact ⟨φ,ρ,s,l,s',E,R,by rw [<-e];exact hm,q⟩
theorem tap_nil {cells:List (Str×Addr)}{N:List Str}{Q:List V->Hp->Prop}(h:TAp Γ cells N (fun ρ s=>.ok [] s) σ H Q):tNil σ H Q:=by
 obtain ⟨φ,ρ,s,l,s',E,R,hm,q⟩:=h
 cases hm
 exact q [] φ H (Gr.refl _ _ _) (Nat.le_refl _) rfl .nil R
theorem tap_ex {cells:List (Str×Addr)}{N:List Str}{m:DV.Env->DV.Sto->DV.R DV.D}{ms:DV.Env->DV.Sto->DV.R (List DV.D)}{Q:List V->Hp->Prop}(h:TAp Γ cells N (fun ρ s=>(m ρ s).bind fun d s=>(ms ρ s).bind fun l s=>.ok (d::l) s) σ H Q):tCons (TEv Γ m) (TAp Γ cells N ms) σ H Q:=by
 obtain ⟨φ,ρ,s,l,s',E,R,hm,q⟩:=h
 obtain ⟨x,s1,e1,hm⟩:=bind_inv hm
 obtain ⟨y,s2,e2,hm⟩:=bind_inv hm
 cases hm
 refine ⟨φ,ρ,s,x,s1,E,R,e1,fun v φ1 H1 g1 l1 b1 r1 R1=>?_⟩
 refine ⟨φ1,ρ,s1,y,s',E.mono g1 l1,R1,e2,fun vs φ2 H2 g2 l2 b2 r2 R2=>?_⟩
 exact q (v::vs) φ2 H2 (g1.trans g2 l1) (Nat.le_trans l1 l2) (by unfold DV.D.bndL;rw [zn l2 x b1,b2];rfl) (.cons (PVp.mono g2 b1 (.inl r1)) r2) R2
theorem getVs_get {ρ:DV.Env}:∀ {is:List Nat} {cs:List DV.D},DV.getVs ρ is=some cs->cs.length=is.length/\∀ (i j:Nat),is[i]?=some j->∃ d,cs[i]?=some d/\ρ[j]?=some (some d)
 | [],cs,h=>by cases h;exact ⟨rfl,fun i j e=>by cases e⟩
 | k::is,cs,h=>by
  unfold DV.getVs at h
  cases e:ρ[k]? with
  | none=>rw [e] at h;cases h
  | some o =>
   cases o with
   | none=>rw [e] at h;cases h
   | some d =>
    cases e2:DV.getVs ρ is with
    | none=>rw [e,e2] at h;cases h
    | some l =>
     rw [e,e2] at h
     cases h
     obtain ⟨h1,h2⟩:=getVs_get e2
     refine ⟨by rw [List.length_cons,List.length_cons,h1],fun i j ei=>?_⟩
     cases i with
     | zero=>cases ei;exact ⟨d,rfl,e⟩
     | succ i=>exact h2 i j ei
theorem cap_of {φ:Nat->Addr}{s:DV.Sto}{ρ:DV.Env}(E:RE Γ φ H s.length ρ σ):∀ {is:List Nat} {cs:List DV.D},DV.getVs ρ is=some cs->∃ cap,RVL Γ φ H cs cap/\DV.D.bndL s.length cs=true/\∀ (i j:Nat) (v:V),is[i]?=some j->cap[i]?=some v->σ[j]?=some (some v)
 | [],cs,h=>by cases h;exact ⟨[],.nil,rfl,fun i j v e=>by cases e⟩
 | k::is,cs,h=>by
  unfold DV.getVs at h
  cases e:ρ[k]? with
  | none=>rw [e] at h;cases h
  | some o =>
   cases o with
   | none=>rw [e] at h;cases h
   | some d =>
    cases e2:DV.getVs ρ is with
    | none=>rw [e,e2] at h;cases h
    | some l =>
     rw [e,e2] at h
     cases h
     obtain ⟨cap,h1,h2,h3⟩:=cap_of E e2
     obtain ⟨hb,v,hσ,hv⟩:=E.val k d e
     refine ⟨v::cap,.cons hv h1,by unfold DV.D.bndL;rw [hb,h2];rfl,fun i j w ei ec=>?_⟩
     cases i with
     | zero=>cases ei;cases ec;exact hσ
     | succ i=>exact h3 i j w ei ec
theorem pa_lam {id:String}{caps:List Nat}{params:Arguments}{body:Expr}{scope:Scope}{pos:Pos}{c P:Addr}{J:LamI}{xs:List Expr}{ms:DV.Env->DV.Sto->DV.R (List DV.D)}(L:LamHere Γ X X.N id caps params body scope c P J)(hnm:J.nm=none)(h2:PA X xs (TAp Γ X.env.cells X.N ms)) :
  PA X (.Lambda params body scope pos::xs) (TAp Γ X.env.cells X.N (fun ρ s=>match DV.getVs ρ caps with | some cs=>(ms ρ s).bind fun l s=>.ok (.clo id cs::l) s | none=>.bad)):=by
 refine (zP (pe_lambda L.code L.hd L.bm L.ck L.df) h2).imp fun σ H Q q=>?_
 obtain ⟨φ,ρ,s,l,s',E,R,hm,q⟩:=q
 have hm:(match DV.getVs ρ caps with | some cs=>(ms ρ s).bind fun l s=>DV.R.ok (DV.D.clo id cs::l) s | none=>DV.R.bad)=.ok l s':=hm
 cases eg:DV.getVs ρ caps with
 | none=>rw [eg] at hm;cases hm
 | some cs =>
  rw [eg] at hm
  obtain ⟨y,s2,e2,hm⟩:=bind_inv hm
  cases hm
  obtain ⟨cap,hcap,hcb,hσ⟩:=cap_of E eg
  have hlen:=(getVs_get eg).1
  have hq:J.qual=X.env.qual ++ "<lambda>":=by rw [L.q];unfold LamI.own;rw [hnm]
  rw [<-hq]
  refine tLam_of2 R.tab L.nd L.tab fun f H' e st tb hf ho=>?_
  obtain ⟨g1,R1⟩:=R.sameT e st tb
  refine ⟨φ,ρ,s,y,s',E.mono g1 (Nat.le_refl _),R1,e2,fun vs φ2 H2 g2 l2 b2 r2 R2=>?_⟩
  refine q (.ref f::vs) φ2 H2 (g1.trans g2 (Nat.le_refl _)) l2 (by unfold DV.D.bndL DV.D.bnd;rw [D_bndL_mono l2 cs hcb,b2];rfl) (.cons ?_ r2) R2
  have p1:PVp Γ X.env.cells X.N σ φ H' (.clo id cs) (.ref f):=by
   refine .inr ⟨id,cs,rfl,f,J,rfl,L.lg,by unfold CloRaw;rw [hnm];dsimp only;rw [L.p,L.b,L.s];exact ho,by rw [hlen,L.len],by rw [L.s];exact L.cl,cap,RVL.mono g1 cs cap hcb hcap,fun i x v e1 e3=>?_⟩
   have hi:i<caps.length:=by rw [<-L.len];exact (List.getElem?_eq_some_iff.mp e1).1
   have hj:caps[i]?=some caps[i]:=List.getElem?_eq_getElem hi
   exact ⟨by rw [L.s];exact L.fr x (List.mem_of_getElem? e1),caps[i],L.at_ i _ x hj e1,hσ i _ v hj e3⟩
  exact p1.mono g2 (by unfold DV.D.bnd;exact hcb)
theorem pe_callC' {f:String}{ms:DV.Env->DV.Sto->DV.R (List DV.D)}{e:Expr}{es:List Expr}{p pos:Pos}(G:CG Γ F n X ck)(hg:ck.gl (f:Str)=true)(hfn:∀ x,X.fn x=true)(hkd:∀ x c,X.env.cells.lookup x=some c->X.env.kindOf x=some .cell\/X.env.kindOf x=some .free)
  (hs:∀ y∈e::es,shp y=true) (h:PA X (e::es) (TAp Γ X.env.cells X.N ms)) :
  PE X (.Call (.Name (f:Str) p) (e::es) [] pos) (TEv Γ (fun ρ s=>(ms ρ s).bind fun l s=>(F.call f l s).bind fun d s'=>if (d.ncl&&s'.all DV.O.ncl)=true then .ok d s' else .bad)):=by
 obtain ⟨g1,g2,g3⟩:=G.gl hg
 rcases G.call f with hb | ⟨a,fd,ps,hF,hmg,hk,hB⟩
 ·intro pins s σ H Q I q
  obtain ⟨φ,ρ,s,d,s',E,R,hm,q⟩:=q
  obtain ⟨l,s1,e1,hm⟩:=bind_inv hm
  rw [hb] at hm;cases hm
 ·refine (pe_callC hF G.room g1 hmg hk hB hfn h g2 (zd (hs e (List.mem_cons_self ..))) (zw fun y hy=>hs y (List.mem_cons_of_mem _ hy)).1).imp fun σ H Q q=>?_
  obtain ⟨φ,ρ,s,d,s',E,R,hm,q⟩:=q
  obtain ⟨l,s1,e1,hm⟩:=bind_inv hm
  obtain ⟨d2,s2,e2,hm⟩:=bind_inv hm
  split at hm
  case isFalse=>cases hm
  rename_i hn
  cases hm
  rw [Bool.and_eq_true] at hn
  refine ⟨φ,ρ,s,l,s1,E,R,e1,fun vs φ1 H1 gg l1 b1 r1 R1=>fun H2 ca=>?_⟩
  obtain ⟨gs,R2⟩:=R1.same ca.same
  refine ⟨φ1,s1,l,d,s',R2,r1.caught ca hkd b1,b1,e2,fun v φ' H3 g' l' b' r' R'=>?_⟩
  have hc:Cells X.env.cells H3:=ca.cells.kp g'.w.kp
  exact q v φ' (Drop X.env.cells H3) (gg.trans (Gr.caught ca g') l1) (Nat.le_trans l1 l') b' (RV.dropC hc d v hn.1 r') (R'.dropC hc hn.2)
theorem pe_callV' {i:Nat}{x:Str}{es:DV.Es}{e:Expr}{xs:List Expr}{p pos:Pos}(G:CG Γ F n X ck)(hv:ck.var i x=true)(hs:∀ y∈e::xs,shp y=true)(h:PA X (e::xs) (TAv Γ (DV.evs F es)))(hvar:PE X (.Name x p) (tVar i)) :
  PE X (.Call (.Name x p) (e::xs) [] pos) (TEv Γ (DV.ev F (.callV i es))):=by
 refine (pe_callV rfl rfl rfl rfl rfl G.room hvar h (zd (hs e (List.mem_cons_self ..))) (zw fun y hy=>hs y (List.mem_cons_of_mem _ hy)).1).imp fun σ H Q q=>?_
 obtain ⟨φ,ρ,s,d,s',E,R,hm,q⟩:=q
 have hm:((DV.evs F es ρ s).bind fun l s=>match ρ[i]? with
  | some (some (.fn f))=>F.call f l s
  | some (some (.clo id cs))=>F.lam id cs l s
  | _=>.bad)=.ok d s':=hm
 obtain ⟨l,s1,e1,hm⟩:=bind_inv hm
 cases eρ:ρ[i]? with
 | none=>rw [eρ] at hm;cases hm
 | some o =>
  cases o with
  | none=>rw [eρ] at hm;cases hm
  | some v0 =>
   obtain ⟨hb,v,hσ,rv⟩:=E.val i v0 eρ
   cases v0 with
   | fn f =>
    rw [eρ] at hm
    have hm:F.call f l s1=.ok d s':=hm
    unfold RV at rv
    obtain ⟨a,ha,e2⟩:=rv
    subst e2
    obtain ⟨h1,h2⟩:=G.fa f a ha
    rcases G.call f with hb | ⟨a',fd,ps,hF,hmg,hk,hB⟩
    ·rw [hb] at hm;cases hm
    ·rw [h1] at hmg
     cases hmg
     refine ⟨a,hσ,.inr h2,φ,ρ,s,l,s1,E,R,e1,fun vs φ1 H1 g1 l1 b1 r1 R1=>?_⟩
     exact ⟨.inr h2,_,_,ClOk.ofFn hF hB,trivial,φ1,s1,l,d,s',R1,r1,b1,hm,q.trans g1 l1⟩
   | clo id cs =>
    rw [eρ] at hm
    have hm:F.lam id cs l s1=.ok d s':=hm
    unfold RV at rv
    unfold DV.D.bnd at hb
    obtain ⟨f,cap,J,clos,e2,hlg,hat,hcl,hcs⟩:=rv
    subst e2
    have fin:∀ H',CloAt H' f J cap clos->FnIn X.K H' f:=fun H' h'=>h'.fn
    refine ⟨f,hσ,fin H hat,φ,ρ,s,l,s1,E,R,e1,fun vs φ1 H1 g1 l1 b1 r1 R1=>?_⟩
    have hat1:=hat.kp g1.w.kp
    exact ⟨fin H1 hat1,_,_,G.cl id J f cap clos hlg hcl,hat1,φ1,s1,cs,l,d,s',R1,r1,RVL.mono g1 cs cap hb hcs,b1,D_bndL_mono l1 cs hb,hm,q.trans g1 l1⟩
   | _=>rw [eρ] at hm;cases hm
end
end L2
end
noncomputable section
namespace L2
open PySem PySem.Spec PyProof.Rows
section
variable {Γ:Gm} {F:DV.Fns} {n:Nat} {X:Cx} {ck:Ck} {σ:St} {H:Hp} {Q:VK}
noncomputable def SeqV (K:PySem.W.Frag)(H:Hp)(v:V)(ys:List V):Prop:=(∃ a,v=.ref a/\(SqL K H a ys\/SqT K H a ys))\/∃ x:List Nat,v=.str ⟨x.toArray⟩/\x.length<=DV.LIM/\ys=sgV x
noncomputable def TLv (Γ:Gm)(m:DV.Env->DV.Sto->DV.R (List DV.D)):TE:=fun σ H Q=>∃ φ ρ s l s',RE Γ φ H s.length ρ σ/\Rp Γ φ H s/\m ρ s=.ok l s' /\
 ∀ v ys φ' H',Gr φ s H φ' s' H'->s.length<=s'.length->DV.D.bndL s'.length l=true->SeqV Γ.K H' v ys->RVL Γ φ' H' l ys->Rp Γ φ' H' s'->Q v H'
theorem tl_fresh {m:DV.Env->DV.Sto->DV.R (List DV.D)}(h:TLv Γ m σ H Q):TFv Γ m σ H Q:=by
 obtain ⟨φ,ρ,s,l,s',E,R,hm,q⟩:=h
 exact ⟨φ,ρ,s,l,s',E,R,hm,fun p ys φ' H' g hl hb hp h0 ho r R'=>q (.ref p) ys φ' H' g hl hb (.inl ⟨p,rfl,.inl (SqL.of hp)⟩) r R'⟩
theorem rvl_signs {φ:Nat->Addr}:∀ x:List Nat,RVL Γ φ H (x.map fun c=>.str [c]) (sgV x)
 | []=>.nil
 | c::x=>.cons (RV.strI (by unfold DV.LIM;simp)) (rvl_signs x)
theorem bndL_signs {k:Nat}:∀ x:List Nat,DV.D.bndL k (x.map fun c=>.str [c])=true
 | []=>rfl
 | c::x=>by rw [List.map_cons];unfold DV.D.bndL;rw [bndL_signs x];rfl
theorem tl_seq {m:DV.Env->DV.Sto->DV.R DV.D}(h:TLv Γ (fun ρ s=>(m ρ s).bind fun d s=>DV.lstM d s) σ H Q):TEv Γ m σ H Q:=by
 obtain ⟨φ,ρ,s,l,s',E,R,hm,q⟩:=h
 obtain ⟨d,s1,e1,hm⟩:=bind_inv hm
 refine ⟨φ,ρ,s,d,s1,E,R,e1,fun v φ1 H1 g1 l1 b1 r1 R1=>?_⟩
 cases d with
 | tup l' =>
  cases hm
  obtain ⟨a,xs,rfl,h1,h2⟩:=r1.tupE
  unfold DV.D.bnd at b1
  exact q _ xs φ1 H1 g1 l1 b1 (.inl ⟨a,rfl,.inr h1⟩) h2 R1
 | str x =>
  cases hm
  exact q v (sgV x) φ1 H1 g1 l1 (bndL_signs x) (.inr ⟨x,r1.strE,r1.strL,rfl⟩) (rvl_signs x) R1
 | ref k =>
  have hm:(match s1[k]? with
   | some (.lst l)=>DV.R.ok l s1
   | some (.ro l)=>.ok l s1
   | _=>.bad)=.ok l s':=hm
  rw [r1.refE]
  cases e:s1[k]? with
  | none=>rw [e] at hm;cases hm
  | some ob =>
   rw [e] at hm
   cases ob with
   | lst l' =>
    cases hm
    obtain ⟨xs,h1,h2⟩:=R1.addr e
    have:=R1.wf k _ e
    unfold DV.O.bnd at this
    exact q _ xs φ1 H1 g1 l1 this (.inl ⟨_,rfl,.inl (SqL.of h1)⟩) h2 R1
   | ro l' =>
    cases hm
    obtain ⟨xs,h1,h2⟩:=R1.obj k _ e
    have:=R1.wf k _ e
    unfold DV.O.bnd at this
    exact q _ xs φ1 H1 g1 l1 this (.inl ⟨_,rfl,.inl h1.1⟩) h2 R1
   | _=>cases hm
 | _=>cases hm
theorem TLv.eq {m m':DV.Env->DV.Sto->DV.R (List DV.D)}(e:∀ ρ s,m ρ s=m' ρ s)(q:TLv Γ m σ H Q):TLv Γ m' σ H Q:=by
 have:m=m':=funext fun ρ=>funext fun s=>e ρ s
 subst this;exact q
theorem pe_mkTuple {m:DV.Env->DV.Sto->DV.R (List DV.D)}{a:Expr}{p pos:Pos}(G:CG Γ F n X ck)(hg:ck.gl "tuple"=true)(hs:shp a=true)(h:PE X a (TLv Γ m)) :
  PE X (.Call (.Name "tuple" p) [a] [] pos) (TEv Γ (fun ρ s=>(m ρ s).bind fun l s=>DV.mk .tuple l s)):=by
 obtain ⟨g1,g2,g3⟩:=G.gl hg
 refine (pe_callTy ((call_tupleK G.K).or (call_tupleS G.calm)) g1 (G.bi _ (by decide)) b_tuple (zP h pa_nil (zd hs)) g3 g2 (zd hs) rfl).imp fun σ H Q q=>?_
 obtain ⟨φ,ρ,s,d,s',E,R,hm,q⟩:=q
 obtain ⟨l,s1,e1,hm⟩:=bind_inv hm
 cases hm
 refine ⟨φ,ρ,s,l,_,E,R,e1,fun v ys φ1 H1 g1 l1 b1 hq r1 R1=>?_⟩
 rcases hq with ⟨a,rfl,hq | hq⟩ | ⟨x,rfl,hx,rfl⟩
 ·exact .inl ⟨a,ys,rfl,.inl ⟨hq,fun p hp=>(q.trans g1 l1).tup R1 r1 b1 hp⟩⟩
 ·exact .inl ⟨a,ys,rfl,.inr ⟨hq,q _ φ1 H1 g1 l1 (by unfold DV.D.bnd;exact b1) (RV.tupI hq r1) R1⟩⟩
 ·exact .inr ⟨x,rfl,hx,fun p hp=>(q.trans g1 l1).tup R1 r1 b1 hp⟩
theorem pe_mkList {m:DV.Env->DV.Sto->DV.R (List DV.D)}{a:Expr}{p pos:Pos}(G:CG Γ F n X ck)(hg:ck.gl "list"=true)(hs:shp a=true)(h:PE X a (TLv Γ m)) :
  PE X (.Call (.Name "list" p) [a] [] pos) (TEv Γ (fun ρ s=>(m ρ s).bind fun l s=>DV.mk .list l s)):=by
 obtain ⟨g1,g2,g3⟩:=G.gl hg
 refine (pe_callTy ((call_listK G.K).or (call_listS G.calm)) g1 (G.bi _ (by decide)) b_list (zP h pa_nil (zd hs)) g3 g2 (zd hs) rfl).imp fun σ H Q q=>?_
 obtain ⟨φ,ρ,s,d,s',E,R,hm,q⟩:=q
 obtain ⟨l,s1,e1,hm⟩:=bind_inv hm
 obtain ⟨rfl,rfl⟩:=qa hm
 refine ⟨φ,ρ,s,l,_,E,R,e1,fun v ys φ1 H1 g1 l1 b1 hq r1 R1=>?_⟩
 rcases hq with ⟨a,rfl,hq⟩ | ⟨x,rfl,hx,rfl⟩
 ·exact .inl ⟨a,ys,rfl,hq,fun p hp=>(q.trans g1 l1).alloc R1 r1 b1 hp⟩
 ·exact .inr ⟨x,rfl,hx,fun p hp=>(q.trans g1 l1).alloc R1 r1 b1 hp⟩
theorem pe_mk' {m:DV.Env->DV.Sto->DV.R (List DV.D)}{k:DV.Mk}{x:Str}{a:Expr}{p pos:Pos}(G:CG Γ F n X ck)(hk:mkT k=some x)(hg:ck.gl x=true)(hs:shp a=true)(h:PE X a (TLv Γ m)) :
  PE X (.Call (.Name x p) [a] [] pos) (TEv Γ (fun ρ s=>(m ρ s).bind fun l s=>DV.mk k l s)):=by
 cases k<;>cases hk
 ·exact pe_mkTuple G hg hs h
 ·exact pe_mkList G hg hs h
noncomputable def FrC (Γ:Gm)(X:Cx)(x:Str)(k:DV.Mk):Prop:=∃ id r,bootBuiltins x=some (.builtin id)/\x∈bNames/\CallR X (.builtin id) r/\∀ φ H s l ys p d s' Q,Rp Γ φ H s->RVL Γ φ H l ys->H p=some (.lst ys)->DV.mk k l s=.ok d s'->After Γ φ s H d s' Q->r [.ref p] H Q
theorem fold_min:∀ (l:List Int) (a:Int),(l.foldl min a=a\/l.foldl min a∈l)/\l.foldl min a<=a/\∀ y∈l,l.foldl min a<=y
 | [],a=>⟨.inl rfl,Int.le_refl _,fun y hy=>by cases hy⟩
 | b::l,a=>by
  obtain ⟨h1,h2,h3⟩:=fold_min l (min a b)
  rw [List.foldl_cons]
  refine ⟨?_,by omega,fun y hy=>?_⟩
  ·rcases h1 with h | h
   ·rw [h]
    rcases Int.le_total a b with z | z
    ·left;omega
    ·right;rw [show min a b=b by omega];exact List.mem_cons_self ..
   ·exact .inr (List.mem_cons_of_mem _ h)
  ·rcases List.mem_cons.mp hy with z | z
   ·rw [z];omega
   ·exact h3 y z
theorem minI_min {l:List Int}{m:Int}(h:DV.minI l=some m):m∈l/\∀ y∈l,m<=y:=by
 cases l with
 | nil=>cases h
 | cons a l =>
  cases h
  obtain ⟨h1,h2,h3⟩:=fold_min l a
  refine ⟨?_,fun y hy=>?_⟩
  ·rcases h1 with h | h
   ·rw [h];exact List.mem_cons_self ..
   ·exact List.mem_cons_of_mem _ h
  ·rcases List.mem_cons.mp hy with z | z
   ·rw [z];exact h2
   ·exact h3 y z
theorem frc_all (G:CG Γ F n X ck){k:DV.Mk}{x:Str}(hk:mkF k=some x):FrC Γ X x k:=by
 cases k<;>cases hk
 ·refine ⟨_,_,b_all,by decide,call_allL G.calm G.K,fun φ H s l ys p d s' Q R r hp hm q=>?_⟩
  unfold DV.mk at hm
  dsimp only at hm
  cases e:DV.blsOf l with
  | none=>rw [e] at hm;cases hm
  | some bs =>
   rw [e] at hm
   cases hm
   have:=blsOf_inv e
   subst this
   exact ⟨p,bs,rfl,SqL.of (by rw [<-r.bls];exact hp),q.here R rfl RV.blI⟩
 ·refine ⟨_,_,b_min,by decide,call_minL G.calm G.K,fun φ H s l ys p d s' Q R r hp hm q=>?_⟩
  unfold DV.mk at hm
  dsimp only at hm
  cases e:DV.zY l with
  | none=>rw [e] at hm;cases hm
  | some is =>
   rw [e] at hm
   have hm:(match DV.minI is with | some m=>DV.R.ok (DV.D.int m) s | none=>.bad)=.ok d s':=hm
   cases e2:DV.minI is with
   | none=>rw [e2] at hm;cases hm
   | some mm =>
    rw [e2] at hm
    cases hm
    have:=zR e
    subst this
    refine ⟨p,is,rfl,SqL.of (by rw [<-r.ints];exact hp),(fun (z:is=[])=>by rw [z] at e2;cases e2),fun m hm hmin=>?_⟩
    obtain ⟨a,b⟩:=minI_min e2
    have:m=mm:=Int.le_antisymm (hmin mm a) (b m hm)
    rw [this]
    exact q.here R rfl RV.intI
theorem pe_mkF {m:DV.Env->DV.Sto->DV.R (List DV.D)}{k:DV.Mk}{x:Str}{a:Expr}{p pos:Pos}(G:CG Γ F n X ck)(hk:mkF k=some x)(hg:ck.gl x=true)(hs:shp a=true)(h:PE X a (TFv Γ m)) :
  PE X (.Call (.Name x p) [a] [] pos) (TEv Γ (fun ρ s=>(m ρ s).bind fun l s=>DV.mk k l s)):=by
 obtain ⟨g1,g2,g3⟩:=G.gl hg
 obtain ⟨id,r,hb,hx,hc,hr⟩:=frc_all (Γ:=Γ) G hk
 refine (pe_callB hc g1 (G.bi _ hx) hb (zP h pa_nil (zd hs)) g3 g2 (zd hs) rfl).imp fun σ H Q q=>?_
 obtain ⟨φ,ρ,s,d,s',E,R,hm,q⟩:=q
 obtain ⟨l,s1,e1,hm⟩:=bind_inv hm
 exact ⟨φ,ρ,s,l,_,E,R,e1,fun p ys φ1 H1 g1 l1 b1 hp h0 ho r1 R1=>hr φ1 H1 s1 l ys p d s' Q R1 r1 hp hm (q.trans g1 l1)⟩
theorem pe_mkD {md:DV.Env->DV.Sto->DV.R (DV.D)}{ml:DV.Env->DV.Sto->DV.R (List DV.D)}{a de:Expr}{p pos kp:Pos}(G:CG Γ F n X ck)(hg:ck.gl "min"=true)(hs:shp a=true)(h:PE X a (TFv Γ ml))(hd:PE X de (TEv Γ md)) :
  PE X (.Call (.Name "min" p) [a] [⟨some "default",de,kp⟩] pos) (TEv Γ (fun ρ s=>(ml ρ s).bind fun l s=>(md ρ s).bind fun d s=>DV.mkD .min l d s)):=by
 obtain ⟨g1,g2,g3⟩:=G.gl hg
 refine (pe_minD rfl G.calm g1 (G.bi _ (by decide)) h hd (zd hs)).imp fun σ H Q q=>?_
 obtain ⟨φ,ρ,s,d,s',E,R,hm,q⟩:=q
 obtain ⟨l,s1,e1,hm⟩:=bind_inv hm
 obtain ⟨d0,s2,e2,hm⟩:=bind_inv hm
 refine ⟨φ,ρ,s,l,s1,E,R,e1,fun p ys φ1 H1 g1 l1 b1 hp h0 ho r1 R1=>?_⟩
 refine ⟨φ1,ρ,s1,d0,s2,E.mono g1 l1,R1,e2,fun v φ2 H2 g2 l2 b2 r2 R2=>?_⟩
 have hp2:H2 p=some (.lst ys):=g2.fr p _ hp (by nofun) (fun i ob e mu=>ho i ob e mu)
 unfold DV.mkD at hm
 dsimp only at hm
 cases e:DV.zY l with
 | none=>rw [e] at hm;cases hm
 | some is =>
  rw [e] at hm
  have hm2:(match DV.minI is with | some m=>DV.R.ok (DV.D.int m) s2 | none=>DV.R.ok d0 s2)=.ok d s':=hm
  have:=zR e
  subst this
  have hq:=q.trans (g1.trans g2 l1) (Nat.le_trans l1 l2)
  refine ⟨p,is,rfl,SqL.of (by rw [<-r1.ints];exact hp2),fun z=>?_,fun m hm' hmin=>?_⟩
  ·subst z
   cases hm2
   exact hq.here R2 b2 r2
  ·clear e2
   cases e2:DV.minI is with
   | none =>
    cases is with
    | nil=>cases hm'
    | cons _ _=>cases e2
   | some mm =>
    rw [e2] at hm2
    cases hm2
    obtain ⟨x,y⟩:=minI_min e2
    have:m=mm:=Int.le_antisymm (hmin mm x) (y m hm')
    rw [this]
    exact hq.here R2 rfl RV.intI
theorem lstR_inv {x:DV.D}{s s':DV.Sto}{l:List DV.D}(h:DV.lstR x s=.ok l s'):s'=s/\∃ r,x=.ref r/\s[r]?=some (.lst l):=by
 unfold DV.lstR at h
 split at h
 ·rename_i r
  split at h
  ·rename_i l' e;cases h;exact ⟨rfl,r,rfl,e⟩
  ·cases h
 ·cases h
theorem pe_mkDS {md me:DV.Env->DV.Sto->DV.R (DV.D)}{a de:Expr}{p pos kp:Pos}(G:CG Γ F n X ck)(hg:ck.gl "min"=true)(hs:shp a=true)(h:PE X a (TEv Γ me))(hd:PE X de (TEv Γ md)) :
  PE X (.Call (.Name "min" p) [a] [⟨some "default",de,kp⟩] pos) (TEv Γ (fun ρ s=>(me ρ s).bind fun x s=>(md ρ s).bind fun d s=>(DV.lstR x s).bind fun l s=>DV.mkD .min l d s)):=by
 obtain ⟨g1,g2,g3⟩:=G.gl hg
 refine (pe_minD rfl G.calm g1 (G.bi _ (by decide)) h hd (zd hs)).imp fun σ H Q q=>?_
 obtain ⟨φ,ρ,s,d,s',E,R,hm,q⟩:=q
 obtain ⟨x0,s1,e1,hm1⟩:=bind_inv hm
 obtain ⟨d0,s2,e2,hm2⟩:=bind_inv hm1
 obtain ⟨l,s3,e3,hm3⟩:=bind_inv hm2
 clear hm hm1 hm2
 obtain ⟨rfl,r0,rfl,er⟩:=lstR_inv e3
 refine ⟨φ,ρ,s,_,s1,E,R,e1,fun v0 φ1 H1 g1 l1 b1 r1 R1=>?_⟩
 refine ⟨φ1,ρ,s1,d0,_,E.mono g1 l1,R1,e2,fun v φ2 H2 g2 l2 b2 r2 R2=>?_⟩
 obtain ⟨ys,hp2,hy⟩:=R2.addr er
 have hlt:r0<s1.length:=by unfold DV.D.bnd at b1;exact of_decide_eq_true b1
 rw [g2.w.map r0 hlt] at hp2
 unfold DV.mkD at hm3
 dsimp only at hm3
 cases e:DV.zY l with
 | none=>rw [e] at hm3;cases hm3
 | some is =>
  rw [e] at hm3
  have hm2:(match DV.minI is with | some m=>DV.R.ok (DV.D.int m) _ | none=>DV.R.ok d0 _)=.ok d s':=hm3
  have:=zR e
  subst this
  have hq:=q.trans (g1.trans g2 l1) (Nat.le_trans l1 l2)
  refine ⟨φ1 r0,is,r1.refE,SqL.of (by rw [<-hy.ints];exact hp2),fun z=>?_,fun m hm' hmin=>?_⟩
  ·subst z
   cases hm2
   exact hq.here R2 b2 r2
  ·clear e2
   cases e2:DV.minI is with
   | none =>
    cases is with
    | nil=>cases hm'
    | cons _ _=>cases e2
   | some mm =>
    rw [e2] at hm2
    cases hm2
    obtain ⟨x,y⟩:=minI_min e2
    have:m=mm:=Int.le_antisymm (hmin mm x) (y m hm')
    rw [this]
    exact hq.here R2 rfl RV.intI
theorem lst_then {φ φ':Nat->Addr}{s s':DV.Sto}{H':Hp}{r:Nat}{l:List DV.D}(R:Rp Γ φ H s)(g:Gr φ s H φ' s' H')(hb:r<s.length)(e:s'[r]?=some (.lst l)):tyV Γ.K "list" (.ref (φ r)) H:=by
 obtain ⟨o0,e0⟩:∃ o0,s[r]?=some o0:=⟨s[r],List.getElem?_eq_getElem hb⟩
 have hm:=g.mu r o0 _ e0 e rfl
 have ho:=R.obj r o0 e0
 cases o0 with
 | lst l0 =>
  obtain ⟨xs,h1,_⟩:=ho
  exact .inl ⟨rfl,xs,SqL.of h1⟩
 | ro _=>cases hm
 | dic _=>have:=g.kd r _ _ e0 e;cases this
 | ins _ _=>exact ho.elim
noncomputable def mtR (Γ:Gm)(m:DV.Mt):V->List V->Hp->VK->Prop:=fun x vs H Q=>∃ φ s a l d s',Rp Γ φ H s/\RV Γ φ H a x/\RVL Γ φ H l vs/\a.bnd s.length=true/\DV.D.bndL s.length l=true/\DV.meth m a l s=.ok d s'/\After Γ φ s H d s' Q
theorem LIM_lt:DV.LIM<sizeLine:=by rw [sizeLine_eq];decide
theorem meth_lst {m:DV.Mt}{x:Str}{k:Nat}(hm:mtT m=some (x,k)){a:DV.D}{l:List DV.D}{s s':DV.Sto}{d:DV.D}(h:DV.meth m a l s=.ok d s'):∃ r l0,a=.ref r/\s[r]?=some (.lst l0):=by
 have go:∀ {r:Nat} {f:List DV.D->DV.R DV.D},(match s[r]? with | some (.lst l)=>f l | _=>.bad)=.ok d s'->∃ l0,s[r]?=some (.lst l0):=fun {r f} h=>by
  cases e:s[r]? with
  | none=>rw [e] at h;cases h
  | some ob =>
   cases ob with
   | lst l0=>exact ⟨l0,rfl⟩
   | _=>rw [e] at h;cases h
 unfold DV.meth at h
 split at h
 ·obtain ⟨l0,e⟩:=go h;exact ⟨_,l0,rfl,e⟩
 ·obtain ⟨l0,e⟩:=go h;exact ⟨_,l0,rfl,e⟩
 ·obtain ⟨l0,e⟩:=go h;exact ⟨_,l0,rfl,e⟩
 ·obtain ⟨l0,e⟩:=go h;exact ⟨_,l0,rfl,e⟩
 ·obtain ⟨l0,e⟩:=go h;exact ⟨_,l0,rfl,e⟩
 ·cases h
theorem m_append:MtR X "list.append" (mtR Γ .append):=by
 intro pins sh σ H x vs v us Q I rx rv h
 obtain ⟨φ,s,a,l,d,s',R,ra,rl,ba,bl,hm,q⟩:=h
 obtain ⟨r,l0,rfl,e⟩:=meth_lst (m:=.append) rfl hm
 cases l with
 | nil=>cases hm
 | cons y t =>
  cases t with
  | cons _ _=>cases hm
  | nil =>
   simp only [DV.meth,e] at hm
   split at hm
   case isFalse=>cases hm
   rename_i hlt
   cases hm
   obtain ⟨z,rfl,rz⟩:=rl.one
   obtain ⟨xs,h1,h2⟩:=R.addr e
   have hb0:DV.D.bndL s.length l0=true:=by have:=R.wf r _ e;unfold DV.O.bnd at this;exact this
   refine mt_append pins sh σ H x [z] v us Q I rx rv ⟨φ r,xs,z,ra.refE,rfl,h1,by rw [h2.length];have:=LIM_lt;omega,?_⟩
   exact q.put R e (h2.append (.cons rz .nil)) (zG hb0 bl) rfl RV.nonI
structure MtOk (Γ:Gm)(X:Cx)(m:DV.Mt)(x:Str):Prop where
 ex:∃ id,PySem.Slot "list" x id/\typeOf (.builtin id)=pure (.type "method_descriptor")/\MtR X id (mtR Γ m)
theorem mt_all (hK:X.K=Γ.K)(hroom:Room (DV.DEEP+1) X.A){m:DV.Mt}{x:Str}{k:Nat}(h:mtT m=some (x,k)):MtOk Γ X m x:=by
 cases m<;>cases h
 ·exact ⟨_,PySem.F.slot_list_append,PySem.F.type_list_append,m_append⟩
theorem pe_meth' {m:DV.Mt}{o:DV.E}{es:DV.Es}{ob:Expr}{xs:List Expr}{x:Str}{ap cp:Pos}(G:CG Γ F n X ck)(hm:mtT m=some (x,xs.length))(hab:abOk ob=true)(hl:(ap.endLine==cp.line)=true)(ho:PE X ob (TEv Γ (DV.ev F o)))
  (hmE:mEs ck es xs=true) (h:PEs Γ F X es xs):EvT Γ X (.Call (.Attribute ob x ap) xs [] cp) (DV.ev F (.meth m o es)):=by
 refine .val ?_
 obtain ⟨id,slot,hty,hr⟩:=(mt_all (Γ:=Γ) (X:=X) G.K (G.room.mono G.deep) hm).ex
 have hs:=mEs_shp hmE
 have key:∀ σ H Q,TEv Γ (DV.ev F (.meth m o es)) σ H Q->tBM Γ.K "list" (mtR Γ m) (TEv Γ (DV.ev F o)) (TAv Γ (DV.evs F es)) σ H Q:=fun σ H Q q=>by
  obtain ⟨φ,ρ,s,d,s',E,R,hmm,q⟩:=q
  obtain ⟨a,s1,e1,hmm⟩:=bind_inv hmm
  obtain ⟨l,s2,e2,hmm⟩:=bind_inv hmm
  refine ⟨φ,ρ,s,a,s1,E,R,e1,fun v φ1 H1 g1 l1 b1 r1 R1=>?_⟩
  obtain ⟨r,l0,rfl,er⟩:=meth_lst hm hmm
  rw [r1.refE]
  have hk:∀ φ2 H2,Gr φ1 s1 H1 φ2 s2 H2->tyV Γ.K "list" (.ref (φ1 r)) H1:=fun φ2 H2 g2=>lst_then R1 g2 (by unfold DV.D.bnd at b1;exact of_decide_eq_true b1) er
  have goal2:TAv Γ (DV.evs F es) σ H1 fun xs H2=>mtR Γ m (.ref (φ1 r)) xs H2 Q:=by
   refine ⟨φ1,ρ,s1,l,s2,E.mono g1 l1,R1,e2,fun vs φ2 H2 g2 l2 b2 r2 R2=>?_⟩
   refine ⟨φ2,s2,.ref r,l,d,s',R2,?_,r2,zn l2 _ b1,b2,hmm,q.trans (g1.trans g2 l1) (Nat.le_trans l1 l2)⟩
   have:=RV.mono g2 _ _ b1 r1
   rw [r1.refE] at this
   exact this
  refine ⟨?_,goal2⟩
  have hlt:r<s1.length:=by unfold DV.D.bnd at b1;exact of_decide_eq_true b1
  obtain ⟨o0,e0⟩:∃ o0,s1[r]?=some o0:=⟨s1[r],List.getElem?_eq_getElem hlt⟩
  have hob:=R1.obj r o0 e0
  cases o0 with
  | lst l0 =>
   obtain ⟨xs,h1,_⟩:=hob
   exact .inl ⟨rfl,xs,SqL.of h1⟩
  | ro l0 =>
   obtain ⟨xs,h1,_⟩:=hob
   exact .inl ⟨rfl,xs,h1.1⟩
  | dic _ =>
   obtain ⟨o',eo,ek⟩:=DV.evs_kr G.fk es ρ s1 _ _ e2 r _ e0
   rw [er] at eo;cases eo;cases ek
  | ins _ _=>exact hob.elim
 cases xs with
 | nil =>
  have p0:PE X (.Call (.Attribute ob x ap) [] [] cp) (tBM0 X.K "list" (mtR Γ m) (TEv Γ (DV.ev F o))):=pe_bm0 PySem.F.plainAttrs_list slot hty hr ho (base_ok hab) hl
  rw [G.K] at p0
  refine p0.imp fun σ H Q q=>?_
  cases es with
  | cons _ _=>exact h.elim
  | nil =>
   obtain ⟨φ,ρ,s,d,s',E,R,hmm,k⟩:=key σ H Q q
   refine ⟨φ,ρ,s,d,s',E,R,hmm,fun v φ1 H1 g1 l1 b1 r1 R1=>?_⟩
   obtain ⟨h1,h2⟩:=k v φ1 H1 g1 l1 b1 r1 R1
   exact ⟨h1,ta_nil (TAv.eq (fun ρ s=>rfl) h2)⟩
 | cons y ys =>
  refine (pe_bmK G.K PySem.F.plainAttrs_list slot hty hr ho (pes_pa h) (base_ok hab) ?_ hl (zd (hs y (List.mem_cons_self ..))) (zw fun e he=>hs e (List.mem_cons_of_mem _ he)).1).imp key
  rw [(zw hs).2]
  have:(y::ys).length<=1:=by
   unfold mtT at hm
   split at hm<;>first | (have:=Option.some.inj hm;have:=congrArg Prod.snd this;simp at this;simp;omega) | cases hm
  simp only [Bool.true_and,List.length_nil,Nat.add_zero]
  show (true&&decide ((y::ys).length+0+0<30))=true
  rw [Bool.true_and]
  exact decide_eq_true (by omega)
end
end L2
end
noncomputable section
namespace L2
open PySem PySem.Spec PyProof.Rows
section
variable {Γ:Gm} {F:DV.Fns} {n:Nat} {X:Cx} {ck:Ck} {σ:St} {H:Hp} {Q:VK}
theorem pe_ext' {o:DV.E}{m:DV.Env->DV.Sto->DV.R (List DV.D)}{ob a:Expr}{ap cp:Pos}(G:CG Γ F n X ck)(hab:abOk ob=true)(hl:(ap.endLine==cp.line)=true)(ho:PE X ob (TEv Γ (DV.ev F o)))(hs:shp a=true)(h:PE X a (TFv Γ m))(hkr:∀ ρ s,DV.KR s (m ρ s)) :
  PE X (.Call (.Attribute ob "extend" ap) [a] [] cp) (TEv Γ (fun ρ s=>(DV.ev F o ρ s).bind fun x s=>(m ρ s).bind fun q s=>DV.extM x q s)):=by
 refine (pe_bmK G.K PySem.F.plainAttrs_list PySem.F.slot_list_extend PySem.F.type_list_extend mt_extend ho (zP h pa_nil (zd hs)) (base_ok hab) ?_ hl (zd hs) rfl).imp fun σ H Q q=>?_
 ·rw [(zw (es:=[a]) fun e he=>by rw [List.mem_singleton.mp he];exact hs).2];rfl
 ·obtain ⟨φ,ρ,s,d,s',E,R,hmm,q⟩:=q
  obtain ⟨x,s1,e1,hmm⟩:=bind_inv hmm
  obtain ⟨l,s2,e2,hmm⟩:=bind_inv hmm
  refine ⟨φ,ρ,s,x,s1,E,R,e1,fun v φ1 H1 g1 l1 b1 r1 R1=>?_⟩
  cases x with
  | ref r =>
   have hmm:(match s2[r]? with
    | some (.lst m)=>if m.length+l.length<=DV.LIM then DV.R.ok DV.D.non (s2.set r (.lst (m++l))) else .bad
    | _=>.bad)=.ok d s':=hmm
   cases e:s2[r]? with
   | none=>rw [e] at hmm;cases hmm
   | some ob' =>
    rw [e] at hmm
    cases ob' with
    | lst l0 =>
     have hmm:(if l0.length+l.length<=DV.LIM then DV.R.ok DV.D.non (s2.set r (.lst (l0++l))) else .bad)=.ok d s':=hmm
     split at hmm
     case isFalse=>cases hmm
     rename_i hlim
     cases hmm
     have hlt:r<s1.length:=by unfold DV.D.bnd at b1;exact of_decide_eq_true b1
     have hty:tyV Γ.K "list" (.ref (φ1 r)) H1:=by
      obtain ⟨o0,e0⟩:∃ o0,s1[r]?=some o0:=⟨s1[r],List.getElem?_eq_getElem hlt⟩
      have hob:=R1.obj r o0 e0
      cases o0 with
      | lst l0 =>
       obtain ⟨xs,h1,_⟩:=hob
       exact .inl ⟨rfl,xs,SqL.of h1⟩
      | ro l0 =>
       obtain ⟨xs,h1,_⟩:=hob
       exact .inl ⟨rfl,xs,h1.1⟩
      | dic _ =>
       obtain ⟨o',eo,ek⟩:=hkr ρ s1 _ _ e2 r _ e0
       rw [e] at eo;cases eo;cases ek
      | ins _ _=>exact hob.elim
     rw [r1.refE]
     refine ⟨hty,φ1,ρ,s1,l,s2,E.mono g1 l1,R1,e2,fun p ys φ2 H2 g2 l2 b2 hp h0 ho r2 R2=>?_⟩
     obtain ⟨xs,h1,h2⟩:=R2.addr e
     have hb0:DV.D.bndL s2.length l0=true:=by have:=R2.wf r _ e;unfold DV.O.bnd at this;exact this
     refine ⟨φ1 r,p,xs,ys,rfl,rfl,by rw [<-g2.w.map r hlt];exact h1,hp,by rw [h2.length,r2.length];have:=LIM_lt;omega,?_⟩
     rw [<-g2.w.map r hlt]
     exact (q.trans (g1.trans g2 l1) (Nat.le_trans l1 l2)).put R2 e (h2.append r2) (zG hb0 b2) rfl RV.nonI
    | _=>cases hmm
  | _=>cases hmm
theorem PIf.imp {e:List Expr}{t t':TT}(h:PIf X e t)(i:∀ σ H Q,t' σ H Q->t σ H Q):PIf X e t':=fun pins s σ H Q I q=>h pins s σ H Q I (i σ H Q q)
structure CompF (Γ:Gm)(X:Cx)(m:DV.Env->DV.Sto->DV.R (List DV.D))(E:Expr):Prop where
 ex:∃ elt tgt iter ifs scope pos N' caps wi g tc te,E=.ListComp elt [⟨tgt,iter,ifs,0⟩] scope pos/\zU N' caps scope X.N X.env.scope=true/\PI X tgt iter wi /\
  (∀ (C:Addr) (cells:List (Str×Addr)) (s:Shared) (H:Hp) (ex:List Addr),PG (zE X N' scope C cells s H ex) tgt g/\PIf (zE X N' scope C cells s H ex) ifs tc/\PE (zE X N' scope C cells s H ex) elt te) /\
  (∀ x,foldedSetIterable iter X.env x=pure x)/\∀ σ H Q,TFv Γ m σ H Q->tComp caps wi g tc te σ H Q
theorem CompF.pe {m:DV.Env->DV.Sto->DV.R (List DV.D)}{E:Expr}(h:CompF Γ X m E)(hc:X.calm=true):PE X E (TFv Γ m):=by
 obtain ⟨elt,tgt,iter,ifs,scope,pos,N',caps,wi,g,tc,te,rfl,h1,h2,h3,h4,h5⟩:=h.ex
 exact (pe_comp N' caps h1 h2 hc h3 h4).imp h5
theorem comp_if {tg:DV.Tg}{mI:DV.Env->DV.Sto->DV.R DV.Sq}{mc me:DV.Env->DV.Sto->DV.R DV.D}{caps:List (Option Nat)}{elt tgt iter i:Expr}{scope:Scope}{pos:Pos}(G:CG Γ F n X ck)(hm:mComp ck tg tgt iter caps scope=true)
  (hi:PI X tgt iter (TIv Γ mI)) (hc:∀ C cells s H ex,PT (zE X (ckC ck tgt caps scope).N scope C cells s H ex) i (TTv Γ mc)) (he:∀ C cells s H ex,PE (zE X (ckC ck tgt caps scope).N scope C cells s H ex) elt (TEv Γ me)) :
  CompF Γ X (fun ρ s=>(mI ρ s).bind fun q s0=>if q.its.length<=DV.LIM then DV.qt (fun s=>DV.chk s0 s q.src) (fun d ρ s=>match DV.bindT ρ tg d with
   | some ρ=>DV.tru (mc ρ s) fun k s=>if k then (me ρ s).bind fun v s=>.ok (some v,ρ) s else .ok (none,ρ) s
   | none=>.bad) q.its (DV.zx ρ caps) s0 else .bad) (.ListComp elt [⟨tgt,iter,[i],0⟩] scope pos):=by
 obtain ⟨c1,c2,c3⟩:=G.comp hm
 exact ⟨elt,tgt,iter,[i],scope,pos,_,caps,_,_,_,_,rfl,c1,hi,fun C cells s H ex=>⟨(c3 C cells s H ex).2,pif_one (hc C cells s H ex),he C cells s H ex⟩,fold_ok c2,fun σ H Q q=>tf_comp q⟩
theorem comp_all {tg:DV.Tg}{mI:DV.Env->DV.Sto->DV.R DV.Sq}{me:DV.Env->DV.Sto->DV.R DV.D}{caps:List (Option Nat)}{elt tgt iter:Expr}{scope:Scope}{pos:Pos}(G:CG Γ F n X ck)(hm:mComp ck tg tgt iter caps scope=true)
  (hi:PI X tgt iter (TIv Γ mI)) (he:∀ C cells s H ex,PE (zE X (ckC ck tgt caps scope).N scope C cells s H ex) elt (TEv Γ me)) :
  CompF Γ X (fun ρ s=>(mI ρ s).bind fun q s0=>if q.its.length<=DV.LIM then DV.qt (fun s=>DV.chk s0 s q.src) (fun d ρ s=>match DV.bindT ρ tg d with
   | some ρ=>(me ρ s).bind fun v s=>.ok (some v,ρ) s
   | none=>.bad) q.its (DV.zx ρ caps) s0 else .bad) (.ListComp elt [⟨tgt,iter,[],0⟩] scope pos):=by
 obtain ⟨c1,c2,c3⟩:=G.comp hm
 refine ⟨elt,tgt,iter,[],scope,pos,_,caps,_,_,TTv Γ (fun ρ s=>.ok (.bl true) s),_,rfl,c1,hi,fun C cells s H ex=>⟨(c3 C cells s H ex).2,pif_nil.imp fun σ H Q q=>?_,he C cells s H ex⟩,fold_ok c2,fun σ H Q q=>tf_comp (TFv.eq (fun ρ s=>?_) q)⟩
 ·obtain ⟨φ,ρ,s,b,s',E,R,hm,q⟩:=q
  cases hm
  exact q φ H (Gr.refl _ _ _) (Nat.le_refl _) R
 ·congr 1
theorem pi_seq' {tg:Expr}{e:DV.E}{E:Expr}(G:CG Γ F n X ck)(h:PE X E (TEv Γ (DV.ev F e))):PI X tg E (TIv Γ (DV.evI F (.seq e))):=by
 refine (PI.or (pi_tupK G.K h) (PI.or (pi_listK G.K h) (pi_str h))).imp fun σ H R q=>ti_seq (TIv.eq (fun ρ s=>rfl) q)
theorem pi_rng1' {tg:Expr}{a:DV.E}{l:Expr}{p pos:Pos}(G:CG Γ F n X ck)(hg:ck.gl "range"=true)(hs:shp l=true)(h:PE X l (TEv Γ (DV.ev F a))):PI X tg (.Call (.Name "range" p) [l] [] pos) (TIv Γ (DV.evI F (.rng1 a))) :=
 (pi_range1 (G.gl hg).1 (G.bi _ (by decide)) (zP h pa_nil (zd hs)) (zd hs)).imp fun σ H R q=>ti_rng1 (TIv.eq (fun ρ s=>rfl) q)
theorem td_new (h:TEv Γ (fun ρ s=>DV.alloc (.dic []) s) σ H Q):tDNewK σ H Q:=by
 obtain ⟨φ,ρ,s,d,s',E,R,hm,q⟩:=h
 obtain ⟨rfl,rfl⟩:=qa hm
 intro p hp
 obtain ⟨g,R'⟩:=R.new (o:=.dic []) (u:=.dK []) hp rfl fun φ' H' g e=>⟨[],e,rfl⟩
 exact q (.ref p) _ _ g (by simp) (by unfold DV.D.bnd;simp) (by unfold RV;simp) R'
theorem td_one {mk mv:DV.Env->DV.Sto->DV.R DV.D}(h:TEv Γ (fun ρ s=>(mk ρ (s++[.dic []])).bind fun kd s1=>(mv ρ s1).bind fun vd s2=>if kd.key=true/\s2[s.length]?=some (.dic []) then .ok (.ref s.length) (s2.set s.length (.dic [(kd,vd)])) else .bad) σ H Q):tDisp [(TEv Γ mk,TEv Γ mv)] σ H Q:=by
 obtain ⟨φ,ρ,s,d,s',E,R,hm,q⟩:=h
 obtain ⟨kd,s1,e1,hm⟩:=bind_inv hm
 obtain ⟨vd,s2,e2,hm⟩:=bind_inv hm
 split at hm
 case isFalse=>cases hm
 rename_i hc
 cases hm
 intro p hp
 obtain ⟨g0,R0⟩:=R.new (o:=.dic []) (u:=.dK []) hp rfl fun φ' H' g e=>⟨[],e,rfl⟩
 have l0:s.length<=(s++[DV.O.dic []]).length:=by simp
 refine ⟨_,ρ,s++[DV.O.dic []],kd,s1,E.mono g0 l0,R0,e1,fun v1 φ1 H1 g1 l1 b1 r1 R1=>?_⟩
 refine ⟨φ1,ρ,s1,vd,s2,(E.mono g0 l0).mono g1 l1,R1,e2,fun v2 φ2 H2 g2 l2 b2 r2 R2=>?_⟩
 have hp2:φ2 s.length=p:=by
  rw [g2.w.map s.length (Nat.lt_of_lt_of_le (by simp) l1),g1.w.map s.length (by simp)];simp
 obtain ⟨k,hk⟩:=key_some hc.1
 have ek:=key_kV hk (RV.mono g2 kd v1 b1 r1)
 obtain ⟨kvs,z1,z2⟩:=R2.obj s.length _ hc.2
 have z2:kvs=[]:=z2
 subst z2
 rw [hp2] at z1
 refine ⟨z1,[(k,v2)],by rw [ek];rfl,by simp,?_⟩
 have hb:(DV.O.dic [(kd,vd)]).bnd s2.length=true:=by
  unfold DV.O.bnd
  simp only [List.map_cons,List.map_nil,DV.D.bndL,Bool.and_true,Bool.and_eq_true]
  exact ⟨zn l2 _ b1,b2⟩
 obtain ⟨g3,R3⟩:=R2.set (o:=.dic [(kd,vd)]) (u:=.dK [(k,v2)]) hc.2 rfl hb fun H' g e=>⟨_,e,k,v2,[],rfl,hk,RV.monoW g _ _ b2 r2,rfl⟩
 rw [hp2] at g3 R3
 have L:s.length<=s2.length:=Nat.le_trans l0 (Nat.le_trans l1 l2)
 have lt:s.length<s2.length:=Nat.lt_of_lt_of_le (by simp) (Nat.le_trans l1 l2)
 exact q (.ref p) _ _ (((g0.trans g1 l0).trans g2 (Nat.le_trans l0 l1)).trans g3 L) (by rw [List.length_set];exact L) (by unfold DV.D.bnd;rw [List.length_set];exact decide_eq_true lt) (by unfold RV;rw [hp2]) R3
end
end L2
end
noncomputable section
namespace L2
open PySem PySem.Spec PyProof.Rows
section
variable {Γ:Gm} {F:DV.Fns} {n:Nat}
theorem cst_ok {X:Cx}{c:DV.Cn}{v:Const}{k:Nat}{pos:Pos}(h:mC c v=true):EvT Γ X (.Constant v k pos) (DV.ev F (.cst c)):=by
 refine .val ?_
 unfold mC at h
 split at h
 ·exact pe_non.imp fun σ H Q q=>tv_cst (c:=.non) (fun _=>rfl) (fun _ _=>RV.nonI) (TEv.eq (fun ρ s=>rfl) q)
 ·rename_i b c
  have e:=eq_of_beq h
  subst e
  exact pe_bl.imp fun σ H Q q=>tv_cst (c:=.bl b) (fun _=>rfl) (fun _ _=>RV.blI) (TEv.eq (fun ρ s=>rfl) q)
 ·rename_i i j
  have e:=of_decide_eq_true h
  subst e
  exact pe_int.imp fun σ H Q q=>tv_cst (c:=.int i) (fun _=>rfl) (fun _ _=>RV.intI) (TEv.eq (fun ρ s=>rfl) q)
 ·rename_i x y
  rw [Bool.and_eq_true] at h
  have e:=of_decide_eq_true h.1
  have e2:=of_decide_eq_true h.2
  subst e
  exact pe_str.imp fun σ H Q q=>tv_cst (c:=.str x) (fun _=>rfl) (fun _ _=>RV.strI (by unfold DV.LIM;omega)) (TEv.eq (fun ρ s=>rfl) q)
 ·cases h
theorem disp_ok {X:Cx}{ck:Ck}{es:DV.Es}{xs:List Expr}{pos:Pos}(m:mEs ck es xs=true)(hz:xs.length<=1000)(h:PA X xs (TAv Γ (DV.evs F es))):PE X (.List xs pos) (TFv Γ (DV.evL F (.disp es))):=by
 refine (pe_lst h).imp fun σ H Q q=>?_
 obtain ⟨φ,ρ,s,l,s',E,R,hm,q⟩:=q
 refine ⟨φ,ρ,s,l,s',E,R,hm,fun vs φ1 H1 g1 l1 b1 r1 R1=>⟨by rw [r1.length,evs_len hm m];exact le1000 hz,fun p hp=>?_⟩⟩
 obtain ⟨g2,R2⟩:=R1.same (H':=upd H1 p (.lst vs)) ((Same.refl H1).new hp)
 refine q p vs φ1 _ (g1.trans g2 l1) l1 b1 zb ?_ (Off.new R1 hp) (RVL.mono g2 _ _ b1 r1) R2
 cases e:H p with
 | none=>rfl
 | some o=>exact absurd hp (g1.st p (by rw [e];simp))
theorem CompF.eq {X:Cx}{m m':DV.Env->DV.Sto->DV.R (List DV.D)}{E:Expr}(c:CompF Γ X m E)(e:∀ ρ s,m' ρ s=m ρ s):CompF Γ X m' E:=by
 have:m'=m:=funext fun ρ=>funext fun s=>e ρ s
 subst this;exact c
theorem zl {a b:Bool}(h:(a&&b)=true):a=true/\b=true:=by rw [Bool.and_eq_true] at h;exact h
theorem glob_ok {X:Cx}{ck:Ck}{g:String}{p:Pos}(G:CG Γ F n X ck)(h:ck.gl (g:Str)=true):EvT Γ X (.Name (g:Str) p) (DV.ev F (.glob g)):=by
 refine .val ?_
 obtain ⟨g1,g2,g3⟩:=G.gl h
 cases e:F.con g with
 | none =>
  intro pins s σ H Q I q
  obtain ⟨φ,ρ,s,d,s',E,R,hm,q⟩:=q
  have hm:(match F.con g with | some d=>DV.R.ok d s | none=>.bad)=.ok d s':=hm
  rw [e] at hm
  cases hm
 | some d =>
  obtain ⟨v,u,h1,h2,h3,h4⟩:=G.con g d e
  exact (pe_glob g1 h1 h2 g2).imp fun σ H Q q=>tv_cst (c:=d) h3 h4 (TEv.eq (fun ρ s=>by show (match F.con g with | some d=>DV.R.ok d s | none=>.bad)=DV.R.ok d s;rw [e]) q)
theorem var_ok {X:Cx}{ck:Ck}{i:Nat}{x:Str}{p:Pos}(G:CG Γ F n X ck)(h:ck.var i x=true):EvT Γ X (.Name x p) (DV.ev F (.var i)):=by
 refine .val ?_
 unfold Ck.var at h
 obtain ⟨h,h4⟩:=zl h
 obtain ⟨h,h3⟩:=zl h
 obtain ⟨h1,h2⟩:=zl h
 have e1:(x==("__debug__":Str))=false:=by simpa using h3
 have e2:(x==("__classdict__":Str))=false:=by simpa using h4
 exact (pe_var (by rw [G.N];exact of_decide_eq_true h1) (G.vis h2) e1 e2).imp fun σ H Q q=>tv_var i (TEv.eq (fun ρ s=>rfl) q)
theorem var_pe {X:Cx}{ck:Ck}{i:Nat}{x:Str}{p:Pos}(G:CG Γ F n X ck)(h:ck.var i x=true):PE X (.Name x p) (tVar i):=by
 unfold Ck.var at h
 obtain ⟨h,h4⟩:=zl h
 obtain ⟨h,h3⟩:=zl h
 obtain ⟨h1,h2⟩:=zl h
 exact pe_var (by rw [G.N];exact of_decide_eq_true h1) (G.vis h2) (by simpa using h3) (by simpa using h4)
theorem mAsC_shp {ck:Ck}:∀ {es:DV.As} {xs:List Expr},mAsC ck es xs=true->∀ x∈xs,shp x=true
 | .nil,[],_,x,hx=>by cases hx
 | .nil,_::_,h,_,_=>by unfold mAsC at h;cases h
 | .ex e es,[],h,_,_=>by unfold mAsC at h;cases h
 | .ex e es,y::ys,h,x,hx=>by
  unfold mAsC at h
  obtain ⟨h,h3⟩:=zl h
  obtain ⟨h1,h2⟩:=zl h
  rcases List.mem_cons.mp hx with rfl | hx
  ·exact h2
  ·exact mAsC_shp h3 x hx
 | .lam _ _ es,[],h,_,_=>by unfold mAsC at h;cases h
 | .lam _ _ es,y::ys,h,x,hx=>by
  unfold mAsC at h
  obtain ⟨h,h3⟩:=zl h
  obtain ⟨h1,h2⟩:=zl h
  rcases List.mem_cons.mp hx with rfl | hx
  ·exact h2
  ·exact mAsC_shp h3 x hx
 | .fn _ _,_,h,_,_=>by unfold mAsC at h;cases h
theorem mAsC_lam {ck:Ck}:∀ {es:DV.As} {xs:List Expr},mAsC ck es xs=true->asLam es=true->∃ id caps E,ck.lk id caps E=true
 | .nil,_,_,h=>by cases h
 | .ex e es,[],h,_=>by unfold mAsC at h;cases h
 | .ex e es,y::ys,h,hl=>by
  unfold mAsC at h
  obtain ⟨h,h3⟩:=zl h
  exact mAsC_lam h3 hl
 | .lam id caps es,[],h,_=>by unfold mAsC at h;cases h
 | .lam id caps es,y::ys,h,_=>by
  unfold mAsC at h
  obtain ⟨h,h3⟩:=zl h
  obtain ⟨h1,h2⟩:=zl h
  exact ⟨id,caps,y,h1⟩
 | .fn _ _,_,h,_=>by unfold mAsC at h;cases h
mutual
theorem sE:∀ (e:DV.E) (E:Expr) (X:Cx) (ck:Ck),CG Γ F n X ck->mE ck e E=true->EvT Γ X E (DV.ev F e)
 | .var i,E,X,ck,G,h=>by
  unfold mE at h
  split at h
  ·exact var_ok G h
  ·cases h
 | .cst c,E,X,ck,G,h=>by
  unfold mE at h
  split at h
  ·exact cst_ok h
  ·cases h
 | .glob g,E,X,ck,G,h=>by
  unfold mE at h
  split at h
  ·obtain ⟨h1,h2⟩:=zl h
   have e:=of_decide_eq_true h1
   subst e
   exact glob_ok G h2
  ·cases h
 | .bin op a b,E,X,ck,G,h=>by
  unfold mE at h
  split at h
  ·obtain ⟨h,h3⟩:=zl h
   obtain ⟨h1,h2⟩:=zl h
   have e:=of_decide_eq_true h1
   subst e
   exact ev_bin' G op (sE a _ X ck G h2) (sE b _ X ck G h3)
  ·cases h
 | .neg _,E,X,ck,G,h=>by unfold mE at h;cases h
 | .not a,E,X,ck,G,h=>by
  unfold mE at h
  split at h
  ·exact ev_not' (sE a _ X ck G h)
  ·cases h
 | .cmp op a b,E,X,ck,G,h=>by
  unfold mE at h
  split at h
  ·obtain ⟨h,h3⟩:=zl h
   obtain ⟨h1,h2⟩:=zl h
   have e:=of_decide_eq_true h1
   subst e
   exact ev_cmp' G op (mE_shp h3) (sE a _ X ck G h2) (sE b _ X ck G h3)
  ·cases h
 | .chain _ _ _ _ _,E,X,ck,G,h=>by unfold mE at h;cases h
 | .isN a,E,X,ck,G,h=>by
  unfold mE at h
  split at h
  ·exact ev_isN' (sE a _ X ck G h)
  ·cases h
 | .notN a,E,X,ck,G,h=>by
  unfold mE at h
  split at h
  ·exact ev_notN' (sE a _ X ck G h)
  ·cases h
 | .isB _ _,E,X,ck,G,h=>by unfold mE at h;cases h
 | .notB _ _,E,X,ck,G,h=>by unfold mE at h;cases h
 | .and a b,E,X,ck,G,h=>by
  unfold mE at h
  split at h
  ·obtain ⟨h1,h2⟩:=zl h
   exact ev_and2 (sE a _ X ck G h1) (sE b _ X ck G h2)
  ·obtain ⟨h1,h2⟩:=zl h
   exact ev_and3 (sE a _ X ck G h1) (sE b _ X ck G h2)
  ·cases h
 | .or a b,E,X,ck,G,h=>by
  unfold mE at h
  split at h
  ·obtain ⟨h1,h2⟩:=zl h
   exact ev_or2 (sE a _ X ck G h1) (sE b _ X ck G h2)
  ·obtain ⟨h1,h2⟩:=zl h
   exact ev_or3 (sE a _ X ck G h1) (sE b _ X ck G h2)
  ·cases h
 | .ite c a b,E,X,ck,G,h=>by
  unfold mE at h
  split at h
  ·obtain ⟨h,h3⟩:=zl h
   obtain ⟨h1,h2⟩:=zl h
   exact ev_ite' (sE c _ X ck G h1) (sE a _ X ck G h2) (sE b _ X ck G h3)
  ·cases h
 | .tup es,E,X,ck,G,h=>by
  unfold mE at h
  split at h
  ·obtain ⟨h1,h2⟩:=zl h
   exact pe_tup' h1 (of_decide_eq_true h2) (pes_pa (sEs es _ X ck G h1))
  ·cases h
 | .lst es,E,X,ck,G,h=>by
  unfold mE at h
  split at h
  ·obtain ⟨h1,h2⟩:=zl h
   exact pe_lst' h1 (of_decide_eq_true h2) (pes_pa (sEs es _ X ck G h1))
  ·cases h
 | .dic .nil .nil,E,X,ck,G,h=>by
  unfold mE at h
  split at h
  ·exact .val (pe_dnewK.imp fun σ H Q q=>td_new (TEv.eq (fun ρ s=>rfl) q))
  ·cases h
 | .dic (.cons k .nil) (.cons v .nil),E,X,ck,G,h=>by
  unfold mE at h
  split at h
  ·obtain ⟨h1,h2⟩:=zl h
   exact .val ((pe_disp (pps_cons (sE k _ X ck G h1).1 (sE v _ X ck G h2).1 pps_nil) rfl rfl (by nofun) (by show 1<=15;decide)).imp fun σ H Q q=>td_one (TEv.eq (fun ρ s=>rfl) q))
  ·cases h
 | .dic .nil (.cons _ _),E,X,ck,G,h=>by unfold mE at h;cases h
 | .dic (.cons _ .nil) .nil,E,X,ck,G,h=>by unfold mE at h;cases h
 | .dic (.cons _ .nil) (.cons _ (.cons _ _)),E,X,ck,G,h=>by unfold mE at h;cases h
 | .dic (.cons _ (.cons _ _)) _,E,X,ck,G,h=>by unfold mE at h;cases h
 | .ix a b,E,X,ck,G,h=>by
  unfold mE at h
  split at h
  ·obtain ⟨h1,h2⟩:=zl h
   exact ev_ix' G (mE_shp h2) (sE a _ X ck G h1) (sE b _ X ck G h2)
  ·cases h
 | .slL a lo,E,X,ck,G,h=>by
  unfold mE at h
  split at h
  ·obtain ⟨h1,h2⟩:=zl h
   exact ev_slL' G (sE a _ X ck G h1) (sE lo _ X ck G h2)
  ·cases h
 | .slU a hi,E,X,ck,G,h=>by
  unfold mE at h
  split at h
  ·obtain ⟨h1,h2⟩:=zl h
   exact ev_slU' G (sE a _ X ck G h1) (sE hi _ X ck G h2)
  ·cases h
 | .slLU _ _ _,E,X,ck,G,h=>by unfold mE at h;cases h
 | .rev _,E,X,ck,G,h=>by unfold mE at h;cases h
 | .call f as,E,X,ck,G,h=>by
  unfold mE at h
  split at h
  ·obtain ⟨h,h3⟩:=zl h
   obtain ⟨h1,h2⟩:=zl h
   have e:=of_decide_eq_true h1
   subst e
   exact pe_call' G h2 h3 (sAs as _ X ck G h3)
  ·cases h
 | .callC f as,E,X,ck,G,h=>by
  unfold mE at h
  split at h
  ·obtain ⟨h,h3⟩:=zl h
   obtain ⟨h,h4⟩:=zl h
   obtain ⟨h1,h2⟩:=zl h
   have e:=of_decide_eq_true h1
   subst e
   obtain ⟨id,caps,E',hlk⟩:=mAsC_lam h3 h4
   obtain ⟨_,_,_,_,_,_,_,_,L⟩:=G.lam id caps E' hlk
   exact .val ((pe_callC' G h2 L.fn L.kd (mAsC_shp h3) (sAsC as _ X ck G h3)).imp fun σ H Q q=>TEv.eq (fun ρ s=>rfl) q)
  ·cases h
 | .callV i es,E,X,ck,G,h=>by
  unfold mE at h
  split at h
  ·obtain ⟨h1,h2⟩:=zl h
   exact .val (pe_callV' G h1 (mEs_shp h2) (pes_pa (sEs es _ X ck G h2)) (var_pe G h1))
  ·cases h
 | .bi b es,E,X,ck,G,h=>by
  unfold mE at h
  split at h
  ·split at h
   ·rename_i hk
    split at h
    ·obtain ⟨h,h5⟩:=zl h
     obtain ⟨h,h4⟩:=zl h
     obtain ⟨h,h3⟩:=zl h
     obtain ⟨h1,h2⟩:=zl h
     have e:=of_decide_eq_true h1
     have e':=of_decide_eq_true h3
     subst e
     subst e'
     exact pe_isi' G hk h2 h4 (sEs es _ X ck G h5)
    ·cases h
   ·split at h
    ·obtain ⟨h,h3⟩:=zl h
     obtain ⟨h1,h2⟩:=zl h
     exact pe_bi' G (of_decide_eq_true h1) h2 h3 (pes_pa (sEs es _ X ck G h3))
    ·cases h
  ·cases h
 | .mk k l,E,X,ck,G,h=>by
  unfold mE at h
  split at h
  ·obtain ⟨h,h4⟩:=zl h
   obtain ⟨h2,h3⟩:=zl h
   rw [Bool.or_eq_true] at h4
   rcases h4 with h4 | h4
   ·obtain ⟨h5,h6⟩:=zl h4
    exact .val ((pe_mk' G (of_decide_eq_true h5) h2 h3 (sL l _ X ck G h6)).imp fun σ H Q q=>TEv.eq (fun ρ s=>rfl) q)
   ·obtain ⟨h5,h6⟩:=zl h4
    exact .val ((pe_mkF G (of_decide_eq_true h5) h2 h3 (sLf l _ X ck G h6)).imp fun σ H Q q=>TEv.eq (fun ρ s=>rfl) q)
  ·obtain ⟨h1,h2⟩:=zl h
   have e:=of_decide_eq_true h1
   subst e
   exact .val (((sLc l _ X ck G h2).pe G.calm).imp fun σ H Q q=>tf_list (TEv.eq (fun ρ s=>rfl) q))
  ·cases h
 | .mks _ _,E,X,ck,G,h=>by unfold mE at h;cases h
 | .mkDs k e d,E,X,ck,G,h=>by
  unfold mE at h
  split at h
  ·obtain ⟨h,h7⟩:=zl h
   obtain ⟨h,h6⟩:=zl h
   obtain ⟨h,h5⟩:=zl h
   obtain ⟨h,h4⟩:=zl h
   obtain ⟨h,h3⟩:=zl h
   obtain ⟨h1,h2⟩:=zl h
   have e1:=of_decide_eq_true h1
   have e2:=of_decide_eq_true h2
   have e3:=of_decide_eq_true h3
   subst e1 e2 e3
   exact .val ((pe_mkDS G h4 h5 (sE e _ X ck G h6).1 (sE d _ X ck G h7).1).imp fun σ H Q q=>TEv.eq (fun ρ s=>rfl) q)
  ·cases h
 | .mkD k l d,E,X,ck,G,h=>by
  unfold mE at h
  split at h
  ·obtain ⟨h,h7⟩:=zl h
   obtain ⟨h,h6⟩:=zl h
   obtain ⟨h,h5⟩:=zl h
   obtain ⟨h,h4⟩:=zl h
   obtain ⟨h,h3⟩:=zl h
   obtain ⟨h1,h2⟩:=zl h
   have e:=of_decide_eq_true h1
   have e2:=of_decide_eq_true h2
   have e3:=of_decide_eq_true h3
   subst e e2 e3
   exact .val ((pe_mkD G h4 h5 (sLf l _ X ck G h6) (sE d _ X ck G h7).1).imp fun σ H Q q=>TEv.eq (fun ρ s=>rfl) q)
  ·cases h
 | .meth m o es,E,X,ck,G,h=>by
  unfold mE at h
  split at h
  ·obtain ⟨h,h5⟩:=zl h
   obtain ⟨h,h4⟩:=zl h
   obtain ⟨h,h3⟩:=zl h
   obtain ⟨h1,h2⟩:=zl h
   exact pe_meth' G (of_decide_eq_true h1) h2 h3 (sE o _ X ck G h4).1 h5 (sEs es _ X ck G h5)
  ·cases h
 | .ext o l,E,X,ck,G,h=>by
  unfold mE at h
  split at h
  ·obtain ⟨h,h6⟩:=zl h
   obtain ⟨h,h5⟩:=zl h
   obtain ⟨h,h4⟩:=zl h
   obtain ⟨h,h3⟩:=zl h
   obtain ⟨h1,h2⟩:=zl h
   have e:=of_decide_eq_true h1
   subst e
   exact .val ((pe_ext' G h2 h3 (sE o _ X ck G h4).1 h6 (sLf l _ X ck G h5) (DV.evL_kr G.fk l)).imp fun σ H Q q=>TEv.eq (fun ρ s=>rfl) q)
  ·cases h
 | .extS _ _,E,X,ck,G,h=>by unfold mE at h;cases h
 | .join _ _,E,X,ck,G,h=>by unfold mE at h;cases h
theorem sEs:∀ (es:DV.Es) (xs:List Expr) (X:Cx) (ck:Ck),CG Γ F n X ck->mEs ck es xs=true->PEs Γ F X es xs
 | .nil,xs,X,ck,G,h=>by
  unfold mEs at h
  split at h
  ·exact trivial
  ·cases h
 | .cons e es,xs,X,ck,G,h=>by
  unfold mEs at h
  split at h
  ·obtain ⟨h,h3⟩:=zl h
   obtain ⟨h1,h2⟩:=zl h
   exact ⟨⟨h2,sE e _ X ck G h1⟩,sEs es _ X ck G h3⟩
  ·cases h
theorem sAs:∀ (es:DV.As) (xs:List Expr) (X:Cx) (ck:Ck),CG Γ F n X ck->mAs ck es xs=true->PA X xs (TAv Γ (DV.evas F es))
 | .nil,xs,X,ck,G,h=>by
  unfold mAs at h
  split at h
  ·exact pa_nil.imp fun σ H Q q=>ta_nil (TAv.eq (fun ρ s=>rfl) q)
  ·cases h
 | .ex e es,xs,X,ck,G,h=>by
  unfold mAs at h
  split at h
  ·obtain ⟨h,h3⟩:=zl h
   obtain ⟨h1,h2⟩:=zl h
   exact (pa_cons' h2 (sE e _ X ck G h1).1 (sAs es _ X ck G h3)).imp fun σ H Q q=>TAv.eq (fun ρ s=>rfl) q
  ·cases h
 | .lam _ _ _,xs,X,ck,G,h=>by unfold mAs at h;cases h
 | .fn _ _,xs,X,ck,G,h=>by unfold mAs at h;cases h
theorem sAsC:∀ (es:DV.As) (xs:List Expr) (X:Cx) (ck:Ck),CG Γ F n X ck->mAsC ck es xs=true->PA X xs (TAp Γ X.env.cells X.N (DV.evas F es))
 | .nil,xs,X,ck,G,h=>by
  unfold mAsC at h
  split at h
  ·exact pa_nil.imp fun σ H Q q=>tap_nil (TAp.eq (fun ρ s=>rfl) q)
  ·cases h
 | .ex e es,xs,X,ck,G,h=>by
  unfold mAsC at h
  split at h
  ·obtain ⟨h,h3⟩:=zl h
   obtain ⟨h1,h2⟩:=zl h
   exact (zP (sE e _ X ck G h1).1 (sAsC es _ X ck G h3) (zd h2)).imp fun σ H Q q=>tap_ex (TAp.eq (fun ρ s=>rfl) q)
  ·cases h
 | .lam id caps es,xs,X,ck,G,h=>by
  unfold mAsC at h
  split at h
  ·obtain ⟨h,h3⟩:=zl h
   obtain ⟨h1,h2⟩:=zl h
   obtain ⟨c,P,params,body,scope,pos,J,e,L⟩:=G.lam id caps _ h1
   have hnm:J.nm=none:=by
    cases q:J.nm with
    | none=>rfl
    | some p=>unfold lamText at e;rw [q] at e;rw [e] at h2;cases h2
   unfold lamText at e
   rw [hnm] at e
   dsimp only at e
   subst e
   rw [<-G.N] at L
   exact (pa_lam L hnm (sAsC es _ X ck G h3)).imp fun σ H Q q=>TAp.eq (fun ρ s=>rfl) q
  ·cases h
 | .fn _ _,xs,X,ck,G,h=>by unfold mAsC at h;cases h
theorem sI:∀ (i:DV.I) (E tg:Expr) (X:Cx) (ck:Ck),CG Γ F n X ck->mI ck tg i E=true->PI X tg E (TIv Γ (DV.evI F i))
 | .seq e,E,tg,X,ck,G,h=>by
  unfold mI at h
  obtain ⟨h1,h2⟩:=zl h
  exact pi_seq' G (sE e _ X ck G h1).1
 | .rng1 a,E,tg,X,ck,G,h=>by
  unfold mI at h
  split at h
  ·obtain ⟨h,h4⟩:=zl h
   obtain ⟨h,h3⟩:=zl h
   obtain ⟨h1,h2⟩:=zl h
   have e:=of_decide_eq_true h1
   subst e
   exact pi_rng1' G h2 h4 (sE a _ X ck G h3).1
  ·cases h
 | .rng2 _ _,E,tg,X,ck,G,h=>by unfold mI at h;cases h
 | .rng3 _ _ _,E,tg,X,ck,G,h=>by unfold mI at h;cases h
 | .enum (.seq _),E,tg,X,ck,G,h=>by unfold mI at h;cases h
 | .enum (.rng1 _),E,tg,X,ck,G,h=>by unfold mI at h;cases h
 | .enum (.rng2 _ _),E,tg,X,ck,G,h=>by unfold mI at h;cases h
 | .enum (.rng3 _ _ _),E,tg,X,ck,G,h=>by unfold mI at h;cases h
 | .enum (.enum _),E,tg,X,ck,G,h=>by unfold mI at h;cases h
 | .enum (.zip _ _),E,tg,X,ck,G,h=>by unfold mI at h;cases h
 | .enum (.items _),E,tg,X,ck,G,h=>by unfold mI at h;cases h
 | .zip (.seq _) (.seq _),E,tg,X,ck,G,h=>by unfold mI at h;cases h
 | .zip (.seq _) (.rng1 _),E,tg,X,ck,G,h=>by unfold mI at h;cases h
 | .zip (.seq _) (.rng2 _ _),E,tg,X,ck,G,h=>by unfold mI at h;cases h
 | .zip (.seq _) (.rng3 _ _ _),E,tg,X,ck,G,h=>by unfold mI at h;cases h
 | .zip (.seq _) (.enum _),E,tg,X,ck,G,h=>by unfold mI at h;cases h
 | .zip (.seq _) (.zip _ _),E,tg,X,ck,G,h=>by unfold mI at h;cases h
 | .zip (.seq _) (.items _),E,tg,X,ck,G,h=>by unfold mI at h;cases h
 | .zip (.rng1 _) _,E,tg,X,ck,G,h=>by unfold mI at h;cases h
 | .zip (.rng2 _ _) _,E,tg,X,ck,G,h=>by unfold mI at h;cases h
 | .zip (.rng3 _ _ _) _,E,tg,X,ck,G,h=>by unfold mI at h;cases h
 | .zip (.enum _) _,E,tg,X,ck,G,h=>by unfold mI at h;cases h
 | .zip (.zip _ _) _,E,tg,X,ck,G,h=>by unfold mI at h;cases h
 | .zip (.items _) _,E,tg,X,ck,G,h=>by unfold mI at h;cases h
 | .items _,E,tg,X,ck,G,h=>by unfold mI at h;cases h
theorem sLc:∀ (l:DV.L) (E:Expr) (X:Cx) (ck:Ck),CG Γ F n X ck->mLc ck l E=true->CompF Γ X (DV.evL F l) E
 | .comp tg it e caps,E,X,ck,G,h=>by
  unfold mLc at h
  split at h
  ·obtain ⟨h,h3⟩:=zl h
   obtain ⟨h1,h2⟩:=zl h
   have c:=comp_all (pos:=‹Pos›) G h1 (sI it _ _ X ck G h2) fun C cells s H ex=>(sE e _ _ _ ((G.comp h1).2.2 C cells s H ex).1 h3).1
   exact c.eq fun ρ s=>rfl
  ·cases h
 | .compIf tg it i e caps,E,X,ck,G,h=>by
  unfold mLc at h
  split at h
  ·obtain ⟨h,h4⟩:=zl h
   obtain ⟨h,h3⟩:=zl h
   obtain ⟨h1,h2⟩:=zl h
   have c:=comp_if (pos:=‹Pos›) G h1 (sI it _ _ X ck G h2) (fun C cells s H ex=>(sE i _ _ _ ((G.comp h1).2.2 C cells s H ex).1 h3).2) fun C cells s H ex=>(sE e _ _ _ ((G.comp h1).2.2 C cells s H ex).1 h4).1
   exact c.eq fun ρ s=>rfl
  ·cases h
 | .disp _,E,X,ck,G,h=>by unfold mLc at h;cases h
 | .seq _,E,X,ck,G,h=>by unfold mLc at h;cases h
theorem sLf:∀ (l:DV.L) (E:Expr) (X:Cx) (ck:Ck),CG Γ F n X ck->mLf ck l E=true->PE X E (TFv Γ (DV.evL F l))
 | .comp tg it e caps,E,X,ck,G,h=>by
  unfold mLf at h
  split at h
  ·obtain ⟨h,h3⟩:=zl h
   obtain ⟨h1,h2⟩:=zl h
   have c:=comp_all (pos:=‹Pos›) G h1 (sI it _ _ X ck G h2) fun C cells s H ex=>(sE e _ _ _ ((G.comp h1).2.2 C cells s H ex).1 h3).1
   exact (c.eq fun ρ s=>rfl).pe G.calm
  ·cases h
 | .compIf tg it i e caps,E,X,ck,G,h=>by
  unfold mLf at h
  split at h
  ·obtain ⟨h,h4⟩:=zl h
   obtain ⟨h,h3⟩:=zl h
   obtain ⟨h1,h2⟩:=zl h
   have c:=comp_if (pos:=‹Pos›) G h1 (sI it _ _ X ck G h2) (fun C cells s H ex=>(sE i _ _ _ ((G.comp h1).2.2 C cells s H ex).1 h3).2) fun C cells s H ex=>(sE e _ _ _ ((G.comp h1).2.2 C cells s H ex).1 h4).1
   exact (c.eq fun ρ s=>rfl).pe G.calm
  ·cases h
 | .disp es,E,X,ck,G,h=>by
  unfold mLf at h
  split at h
  ·obtain ⟨h1,h2⟩:=zl h
   exact disp_ok h1 (of_decide_eq_true h2) (pes_pa (sEs es _ X ck G h1))
  ·cases h
 | .seq _,E,X,ck,G,h=>by unfold mLf at h;cases h
theorem sL:∀ (l:DV.L) (E:Expr) (X:Cx) (ck:Ck),CG Γ F n X ck->mL ck l E=true->PE X E (TLv Γ (DV.evL F l))
 | .comp tg it e caps,E,X,ck,G,h=>by
  unfold mL at h
  split at h
  ·obtain ⟨h,h3⟩:=zl h
   obtain ⟨h1,h2⟩:=zl h
   have c:=comp_all (pos:=‹Pos›) G h1 (sI it _ _ X ck G h2) fun C cells s H ex=>(sE e _ _ _ ((G.comp h1).2.2 C cells s H ex).1 h3).1
   exact ((c.eq fun ρ s=>rfl).pe G.calm).imp fun σ H Q q=>tl_fresh q
  ·cases h
 | .compIf tg it i e caps,E,X,ck,G,h=>by
  unfold mL at h
  split at h
  ·obtain ⟨h,h4⟩:=zl h
   obtain ⟨h,h3⟩:=zl h
   obtain ⟨h1,h2⟩:=zl h
   have c:=comp_if (pos:=‹Pos›) G h1 (sI it _ _ X ck G h2) (fun C cells s H ex=>(sE i _ _ _ ((G.comp h1).2.2 C cells s H ex).1 h3).2) fun C cells s H ex=>(sE e _ _ _ ((G.comp h1).2.2 C cells s H ex).1 h4).1
   exact ((c.eq fun ρ s=>rfl).pe G.calm).imp fun σ H Q q=>tl_fresh q
  ·cases h
 | .disp es,E,X,ck,G,h=>by
  unfold mL at h
  split at h
  ·obtain ⟨h1,h2⟩:=zl h
   exact (disp_ok h1 (of_decide_eq_true h2) (pes_pa (sEs es _ X ck G h1))).imp fun σ H Q q=>tl_fresh q
  ·cases h
 | .seq e,E,X,ck,G,h=>by
  unfold mL at h
  exact (sE e _ X ck G h).1.imp fun σ H Q q=>tl_seq (TLv.eq (fun ρ s=>rfl) q)
end
end
end L2
end
noncomputable section
namespace L2
open PySem PySem.Spec PyProof.Rows
section
variable {Γ:Gm} {F:DV.Fns} {n:Nat}
theorem asg_comp {X:Cx}{ck:Ck}{m:DV.Env->DV.Sto->DV.R (List DV.D)}{E:Expr}{x:Str}{i:Nat}{px pos:Pos}(G:CG Γ F n X ck)(c:CompF Γ X m E)(hi:ck.N[i]?=some x)(hl:ck.loc x=true) :
  PS X (.Assign [.Name x px] E pos) (tAsg (TFv Γ m) (gName i)):=by
 obtain ⟨elt,tgt,iter,ifs,scope,p2,N',caps,wi,g,tc,te,rfl,h1,h2,h3,h4,h5⟩:=c.ex
 obtain ⟨l1,l2⟩:=G.loc hl
 have nd:X.N.Nodup:=by rw [G.N];exact G.nd
 have hi':X.N[i]?=some x:=by rw [G.N];exact hi
 generalize hb:((X.env.blockKind==.function&&X.env.kindOf x==some .local&&px.line==(Expr.ListComp elt [⟨tgt,iter,ifs,0⟩] scope p2).pos.line&&!(scope.names.any fun (n,k)=>n==x&&(k==.local||k==.cell))))=b
 have hsw:swapsWith (.ListComp elt [⟨tgt,iter,ifs,0⟩] scope p2) (some (.Name x px)) pos.line X.env=pure b:=by rw [<-hb];rfl
 have imp:∀ D σ H,tAsg (TFv Γ m) (gName i) D σ H->tAsg (tComp caps wi g tc te) (gName i) D σ H:=fun D σ H q=>h5 _ _ _ q
 cases b with
 | true =>
  have hloc:X.env.scope.names.lookup x=some .local:=by
   simp only [Bool.and_eq_true] at hb
   exact eq_of_beq hb.1.1.2
  exact (ps_setComp N' caps nd hi' hloc h1 h2 G.calm h3 h4 hsw).imp imp
 | false=>exact (ps_set nd hi' l1 (pe_comp N' caps h1 h2 G.calm h3 h4) hsw l2).imp imp
theorem asg1_ok {X:Cx}{ck:Ck}{e:DV.E}{v:Expr}{x:Str}{i:Nat}{px pos:Pos}(G:CG Γ F n X ck)(hi:ck.N[i]?=some x)(hl:ck.loc x=true)(h:mE ck e v=true) :
  PS X (.Assign [.Name x px] v pos) (TSv Γ (DV.ex F (.asg (.one i) e))):=by
 obtain ⟨l1,l2⟩:=G.loc hl
 have nd:X.N.Nodup:=by rw [G.N];exact G.nd
 have hi':X.N[i]?=some x:=by rw [G.N];exact hi
 by_cases hc:noComp v=true
 ·exact (ps_set nd hi' l1 (sE e v X ck G h).1 (swap_ok hc) l2).imp fun D σ H q=>ts_asg (tg:=.one i) (TSv.eq (fun ρ s=>rfl) q)
 ·have hs:=mE_shp h
  cases v with
  | ListComp elt gs sc p =>
   cases e with
   | mk k l =>
    unfold mE at h
    dsimp only at h
    obtain ⟨h1,h2⟩:=zl h
    have e:=of_decide_eq_true h1
    subst e
    exact (asg_comp G (sLc l _ X ck G h2) hi hl).imp fun D σ H q=>tf_list1 (tg:=.one i) (TSv.eq (fun ρ s=>rfl) q)
   | dic _ _=>obtain ⟨_,_,_,z⟩:=mE_dic h;cases z
   | _=>unfold mE at h;cases h
  | SetComp _ _ _ _=>cases hs
  | DictComp _ _ _ _ _=>cases hs
  | _=>exact absurd rfl hc
theorem tDef_of2 {T:List (Addr×Str)}{cells:List (Str×Addr)}{P:Addr}{q:Str}{name:Str}{params:Arguments}{body:List Stmt}{scope:Scope}{pos:Pos}{ix:Nat}{D0:Ends}{σ:St}{H:Hp}(hT:TabsH T H)(nd:(T.map (·.1)).Nodup)(hm:(P,q)∈T)
  (go:∀ (f:Addr) (H':Hp),SameT H H'->(∀ b,H b≠none->H' b≠none)->TabsH T H'->H f=none->(∃ doc pm c' ctv,H' f=some (lamO f (PySem.W.fnX name q params body scope (clOf cells scope.names []) .none .none doc pm none (.ref c') ctv))/\H' c'=some (qb c' q))->D0.nx (σ.set ix (some (.ref f))) H') :
  tDef cells P name q params body scope pos ix D0 σ H:=by
 obtain ⟨ps,hP,ht,hc⟩:=hT _ hm
 refine ⟨ps,hP,ht,fun hn c' f doc pm ctv n1 n2 ne=>?_,fun cv e=>?_⟩
 ·have cP:c'≠P:=fun z=>by rw [z,hP] at n1;cases n1
  have fP:f≠P:=fun z=>by rw [z,hP] at n2;cases n2
  have at':∀ b,b≠P->H b≠none->∀ o1 o2 o3,upd (upd (upd H P o1) c' o2) f o3 b=H b:=fun b z1 z2 o1 o2 o3=>by
   rw [za fun z=>by subst z;exact z2 n2,za fun z=>by subst z;exact z2 n1,za z1]
  refine go f _ (fun b o d e=>?_) (fun b hb=>?_) (fun y hy=>?_) n2 ⟨doc,pm,c',ctv,zb,by rw [za ne,zb]⟩
  ·rw [at' b (fun z=>by subst z;rw [hP] at e;cases e;exact d _ rfl) (by rw [e];simp)];exact e
  ·by_cases z:b=P
   ·subst z;rw [za (Ne.symm fP),za (Ne.symm cP),zb];simp
   ·rw [at' b z hb];exact hb
  ·by_cases z:y.1=P
   ·have ey:y=(P,q):=by
     have:∀ (l:List (Addr×Str)),(l.map (·.1)).Nodup->y∈l->(P,q)∈l->y=(P,q):=by
      intro l
      induction l with
      | nil=>intro _ h;simp at h
      | cons a l ih =>
       intro hn h1 h2
       rw [List.map_cons,List.nodup_cons] at hn
       rcases List.mem_cons.mp h1 with e1 | h1<;>rcases List.mem_cons.mp h2 with e2 | h2
       ·rw [e1,e2]
       ·exact absurd (by rw [<-e1,z];exact List.mem_map_of_mem (f:=(·.1)) h2) hn.1
       ·exact absurd (by rw [<-e2,<-z];exact List.mem_map_of_mem (f:=(·.1)) h1) hn.1
       ·exact ih hn.2 h1 h2
     exact this T nd hy hm
    subst ey
    refine ⟨_,by rw [za (Ne.symm fP),za (Ne.symm cP),zb],?_,fun pos2 cv e=>?_⟩
    ·rw [Array.toList_append];exact TriplesOk_snoc _ _ _ _ ht
    ·rw [Array.toList_append] at e
     rcases codeAmong_add _ ht e with e' | e'
     ·obtain ⟨c2,e1,e2⟩:=hc pos2 cv e'
      exact ⟨c2,e1,by rw [at' c2 (fun z=>by subst z;rw [hP] at e2;unfold qb at e2;cases e2) (by rw [e2];simp)];exact e2⟩
     ·exact ⟨c',e',by rw [za ne,zb]⟩
   ·obtain ⟨qs,e1,e2,e3⟩:=hT y hy
    refine ⟨qs,by rw [at' y.1 z (by rw [e1];simp)];exact e1,e2,fun pos2 cv e=>?_⟩
    obtain ⟨c2,e4,e5⟩:=e3 pos2 cv e
    exact ⟨c2,e4,by rw [at' c2 (fun z=>by subst z;rw [hP] at e5;unfold qb at e5;cases e5) (by rw [e5];simp)];exact e5⟩
 ·obtain ⟨c',e1,e2⟩:=hc pos cv e
  refine ⟨c',e1,fun f doc pm ctv n=>go f _ (.of ((Same.refl H).new n)) (fun b hb=>by
   by_cases z:b=f
   ·subst z;rw [zb];simp
   ·rw [za z];exact hb) (hT.new n) n ⟨doc,pm,c',ctv,zb,?_⟩⟩
  rw [za (zq e2 n)];exact e2
theorem ann_nil (env : Env) : ∀ l : List Arg, (l.all fun y => y.annotation.isNone) = true -> annotationsOf l env = []
 | [], _ => by unfold annotationsOf; rfl
 | ⟨x,some a,p⟩::l,h=>by simp at h
 | ⟨x,none,p⟩::l,h=>by
  unfold annotationsOf
  exact ann_nil env l (by simpa using h)
theorem noAnn_ok {params:Arguments}(h:noAnn params=true)(env:Env):params.defaults=[]/\params.kw_defaults=[]/\annTrees params none env=[]:=by
 unfold noAnn at h
 split at h
 ·refine ⟨rfl,rfl,?_⟩
  unfold annTrees
  simp only [Option.toList,List.append_nil]
  rw [ann_nil env _ h];rfl
 ·cases h
theorem s_nest {s:DV.S}{ss:DV.Ss}{x:Stmt}{xs:List Stmt}(G:CG Γ F n X ck)(h:mNest ck s ss x xs=true):PSs X (x::xs) (TSv Γ (DV.exs F (.cons s ss))):=by
 unfold mNest at h
 split at h
 case h_2=>cases h
 rename_i i g e id caps
 split at h
 case h_2=>cases h
 rename_i nm params b rp scope nm0 pos g' gp a nm' p2 cp rp2
 obtain ⟨h,h11⟩:=zl h
 obtain ⟨h,h10⟩:=zl h
 obtain ⟨h,h9⟩:=zl h
 obtain ⟨h,h8⟩:=zl h
 obtain ⟨h,h7⟩:=zl h
 obtain ⟨h,h6⟩:=zl h
 obtain ⟨h,h5⟩:=zl h
 obtain ⟨h,h4⟩:=zl h
 obtain ⟨h,h3⟩:=zl h
 obtain ⟨h1,h2⟩:=zl h
 have h1:=of_decide_eq_true h1
 have h3:=of_decide_eq_true h3
 have h4:=of_decide_eq_true h4
 have h7:=of_decide_eq_true h7
 subst h3 h4 h7
 obtain ⟨c,P,params',body',scope',pos',J,eE,L⟩:=G.lam id caps _ h6
 obtain ⟨pn,hnm⟩:∃ pn,J.nm=some pn:=by
  cases q:J.nm with
  | none=>unfold lamText at eE;rw [q] at eE;cases eE
  | some p=>exact ⟨p,rfl⟩
 obtain ⟨pa,pb⟩:=pn
 unfold lamText at eE
 rw [hnm] at eE
 dsimp only at eE
 cases eE
 rw [<-G.N] at L h1
 obtain ⟨l1,l2⟩:=G.loc h2
 obtain ⟨a1,a2,a3⟩:=noAnn_ok h11 X.env
 have hkd:X.env.kindOf nm'=some .local\/X.env.kindOf nm'=some .cell:=l1
 have hq:qualnameIn X.env nm' nm'=J.qual:=by
  rw [L.q]
  unfold LamI.own qualnameIn
  rw [hnm]
  rcases hkd with z | z<;>rw [z]<;>rfl
 have p1:=ps_def (X:=X) (c:=c) (P:=P) (body:=[.Return (some b) rp]) (scope:=scope) (pos:=pos) (by rw [G.N];exact G.nd) h1 l1 L.code L.hd L.bm L.ck hq a1 a2 a3 l2
 have p2':PE X (.Name nm' p2) (tVar i):=var_pe G h5
 obtain ⟨g1,g2,g3⟩:=G.gl h8
 rcases G.call g with hb | ⟨fa,fd,ps,hF,hmg,hk,hB⟩
 ·intro pins sh σ H D I q
  obtain ⟨φ,ρ,s,c,s',E,R,hm,q⟩:=q
  obtain ⟨c1,s1,e1,hm⟩:=bind_inv hm
  have e1:(match DV.unsetV ρ i with | some ρ=>DV.R.ok (DV.Ct.next ρ) s | none=>.bad)=.ok c1 s1:=e1
  split at e1
  case h_2=>cases e1
  cases e1
  obtain ⟨c1,s1,e1,hm⟩:=bind_inv hm
  obtain ⟨d1,s2,e1,hm2⟩:=bind_inv e1
  obtain ⟨l,s3,e1,hm2⟩:=bind_inv e1
  obtain ⟨d,s4,e4,hm2⟩:=bind_inv hm2
  rw [hb] at e4;cases e4
 have hE:=(sE e _ X ck G h9).1
 have hA:PA X [a,.Name nm' p2] (tCons (TEv Γ (DV.ev F e)) (tCons (tVar i) tNil)):=zP hE (zP p2' pa_nil (zd rfl)) (zd h10)
 have p3:=pe_callC (p:=gp) (pos:=cp) hF G.room g1 hmg hk hB L.fn hA g2 (zd h10) (zw (es:=[.Name nm' p2]) fun z hz=>by rw [List.mem_singleton.mp hz];rfl).1
 refine (pss_cons p1 (pss_cons (ps_ret p3) pss_nil)).imp fun D σ H q=>?_
 obtain ⟨φ,ρ,s,c0,s',E,R,hm,q⟩:=q
 obtain ⟨c1,s1,e1,hm⟩:=bind_inv hm
 have e1:(match DV.unsetV ρ i with | some ρ=>DV.R.ok (DV.Ct.next ρ) s | none=>.bad)=.ok c1 s1:=e1
 unfold DV.unsetV at e1
 by_cases hil:i < ρ.length
 case neg=>rw [if_neg hil] at e1;cases e1
 rw [if_pos hil] at e1
 cases e1
 obtain ⟨c1,s1,e1,hm⟩:=bind_inv hm
 obtain ⟨d1,s2,e1,hm2⟩:=bind_inv e1
 cases hm2
 cases hm
 obtain ⟨l,s3,e1,hm2⟩:=bind_inv e1
 obtain ⟨d2,s4,e4,hm2⟩:=bind_inv hm2
 split at hm2
 case isFalse=>cases hm2
 rename_i hn
 cases hm2
 rw [Bool.and_eq_true] at hn
 obtain ⟨x1,s5,e5,e1⟩:=bind_inv e1
 obtain ⟨y1,s6,e6,e1⟩:=bind_inv e1
 cases e1
 have e6:(match DV.getVs (ρ.set i none) caps with | some cs=>(DV.evas F .nil (ρ.set i none) s5).bind fun l s=>DV.R.ok (DV.D.clo id cs::l) s | none=>DV.R.bad)=.ok y1 s3:=e6
 cases eg:DV.getVs (ρ.set i none) caps with
 | none=>rw [eg] at e6;cases e6
 | some cs =>
  rw [eg] at e6
  cases e6
  refine tDef_of2 R.tab L.nd L.tab fun f H' eS st tb hf ho=>?_
  obtain ⟨g1',R1⟩:=R.sameT eS st tb
  have E1:RE Γ φ H' s.length (ρ.set i none) (σ.set i (some (.ref f))):=by
   have E0:=E.mono g1' (Nat.le_refl _)
   refine ⟨by rw [List.length_set,List.length_set];exact E0.len,fun j d ej=>?_⟩
   by_cases z:i=j
   ·subst z
    rw [List.getElem?_set_self hil] at ej;cases ej
   ·rw [List.getElem?_set_ne z] at ej
    obtain ⟨q1,v,q2,q3⟩:=E0.val j d ej
    exact ⟨q1,v,by rw [List.getElem?_set_ne z];exact q2,q3⟩
  obtain ⟨cap,hcap,hcb,hσ⟩:=cap_of E1 eg
  have hlen:=(getVs_get eg).1
  have raw:CloRaw H' f J (clOf X.env.cells J.scope.names []):=by
   unfold CloRaw;rw [hnm];dsimp only;rw [L.p,L.b,L.s];exact ho
  refine ⟨φ,ρ.set i none,s,x1,_,E1,R1,e5,fun v1 φ1 H1 g1 l1 b1 r1 R1'=>?_⟩
  have hi2:i < σ.length:=by rw [<-E.len];exact hil
  refine ⟨.ref f,by rw [List.getElem?_set_self hi2],?_⟩
  intro H2 ca
  obtain ⟨gs,R2⟩:=R1'.same ca.same
  have hcb1:=D_bndL_mono l1 cs hcb
  have bl0:∀ m,x1.bnd m=true->DV.D.bndL m cs=true->DV.D.bndL m [x1,.clo id cs]=true:=fun m z1 z2=>by
   simp only [DV.D.bndL,z1,Bool.true_and,Bool.and_true]
   unfold DV.D.bnd;exact z2
  have bl:=bl0 _ b1 hcb1
  have pv:PVL Γ X.env.cells X.N (σ.set i (some (.ref f))) φ1 H1 [x1,.clo id cs] [v1,.ref f]:=by
   refine .cons (.inl r1) (.cons (.inr ⟨id,cs,rfl,f,J,rfl,L.lg,raw.kp g1.w.kp,by rw [hlen,L.len],by rw [L.s];exact L.cl,cap,RVL.mono g1 cs cap hcb hcap,fun i x v e1 e3=>?_⟩) .nil)
   have hi:i<caps.length:=by rw [<-L.len];exact (List.getElem?_eq_some_iff.mp e1).1
   have hj:caps[i]?=some caps[i]:=List.getElem?_eq_getElem hi
   exact ⟨by rw [L.s];exact L.fr x (List.mem_of_getElem? e1),caps[i],L.at_ i _ x hj e1,hσ i _ v hj e3⟩
  refine ⟨φ1,_,[x1,.clo id cs],_,_,R2,pv.caught ca L.kd bl,bl,e4,fun v φ' H3 g' l' b' r' R'=>?_⟩
  have hc:Cells X.env.cells H3:=ca.cells.kp g'.w.kp
  exact q φ' (Drop X.env.cells H3) ((g1'.trans g1 (Nat.le_refl _)).trans (Gr.caught ca g') l1) (Nat.le_trans l1 l') (R'.dropC hc hn.2) v b' (RV.dropC hc _ v hn.1 r')
mutual
theorem sS:∀ (st:DV.S) (S:Stmt) (X:Cx) (ck:Ck),CG Γ F n X ck->mS ck st S=true->PS X S (TSv Γ (DV.ex F st))
 | .asg tg e,S,X,ck,G,h=>by
  unfold mS at h
  split at h
  ·obtain ⟨h,h3⟩:=zl h
   obtain ⟨h1,h2⟩:=zl h
   cases tg with
   | one i =>
    unfold mTg at h1
    split at h1
    ·rename_i he _
     cases he
     obtain ⟨a1,a2⟩:=zl h1
     exact asg1_ok G (of_decide_eq_true a1) a2 h2
    ·rename_i he _;cases he
    ·cases h1
   | tup is =>
    obtain ⟨a1,a2⟩:=zl h3
    refine (ps_asg (sE e _ X ck G h2).1 (cg_tg G h1) (swap_ok a2) (stores_ok a1) ?_).imp fun D σ H q=>ts_asg (TSv.eq (fun ρ s=>rfl) q)
    unfold mTg at h1
    split at h1
    ·rfl
    ·rfl
    ·cases h1
  ·cases h
 | .setIx o i e,S,X,ck,G,h=>by
  unfold mS at h
  split at h
  ·rename_i ob ix p1 v p2
   obtain ⟨h,h5⟩:=zl h
   obtain ⟨h,h4⟩:=zl h
   obtain ⟨h,h3⟩:=zl h
   obtain ⟨h1,h2⟩:=zl h
   have hsh:=mE_shp h2
   refine (ps_asg (sE e _ X ck G h3).1 (pg_sub (sE o _ X ck G h1).1 (sE i _ X ck G h2).1 (set_ok (hu_of G.room)) ?_) (show swapsWith v (some (.Subscript ob ix p1)) p2.line X.env=pure false from swap_ok h4) (stores_ok h5) ?_).imp fun D σ H q=>ts_setIx (TSv.eq (fun ρ s=>rfl) q)
   ·intro w
    cases ix<;>first | rfl | cases hsh
   ·rfl
  ·cases h
 | .aug _ _,S,X,ck,G,h=>by unfold mS at h;cases h
 | .ex e,S,X,ck,G,h=>by
  unfold mS at h
  split at h
  ·obtain ⟨h1,h2⟩:=zl h
   exact (ps_expr (sE e _ X ck G h1).1 (swap_ok h2)).imp fun D σ H q=>ts_drop (TSv.eq (fun ρ s=>rfl) q)
  ·cases h
 | .ret e,S,X,ck,G,h=>by
  unfold mS at h
  split at h
  ·exact (ps_ret (sE e _ X ck G h).1).imp fun D σ H q=>ts_ret (TSv.eq (fun ρ s=>rfl) q)
  ·cases h
 | .retN,S,X,ck,G,h=>by unfold mS at h;cases h
 | .ite c a b,S,X,ck,G,h=>by
  unfold mS at h
  split at h
  ·obtain ⟨h,h3⟩:=zl h
   obtain ⟨h1,h2⟩:=zl h
   exact (ps_if (sE c _ X ck G h1).2 (sSs a _ X ck G h2) (sSs b _ X ck G h3)).imp fun D σ H q=>ts_if (TSv.eq (fun ρ s=>rfl) q)
  ·cases h
 | .whl _ _,S,X,ck,G,h=>by unfold mS at h;cases h
 | .for_ tg it b,S,X,ck,G,h=>by
  unfold mS at h
  split at h
  ·obtain ⟨h,h3⟩:=zl h
   obtain ⟨h1,h2⟩:=zl h
   exact (ps_for (by rw [G.xe];exact PassesOwn.never) G.calm (sI it _ _ X ck G h2) (cg_tg G h1) (sSs b _ X ck G h3) (fold_ok (mI_shp h2))).imp fun D σ H q=>ts_for (TSv.eq (fun ρ s=>rfl) q)
  ·cases h
 | .pass,S,X,ck,G,h=>by unfold mS at h;cases h
 | .cont,S,X,ck,G,h=>by unfold mS at h;cases h
 | .brk,S,X,ck,G,h=>by unfold mS at h;cases h
 | .und _,S,X,ck,G,h=>by unfold mS at h;cases h
 | .raise,S,X,ck,G,h=>ps_never.imp fun D σ H q=>by
  obtain ⟨φ,ρ,s,c,s',E,R,hm,q⟩:=q
  cases hm
theorem sSs:∀ (st:DV.Ss) (S:List Stmt) (X:Cx) (ck:Ck),CG Γ F n X ck->mSs ck st S=true->PSs X S (TSv Γ (DV.exs F st))
 | .nil,S,X,ck,G,h=>by
  unfold mSs at h
  split at h
  ·exact pss_nil.imp fun D σ H q=>ts_next (m:=DV.exs F .nil) (fun ρ s=>rfl) q
  ·cases h
 | .cons s ss,S,X,ck,G,h=>by
  unfold mSs at h
  split at h
  ·rcases (Bool.or_eq_true _ _).mp h with h | h
   ·exact s_nest G h
   obtain ⟨h1,h2⟩:=zl h
   exact (pss_cons (sS s _ X ck G h1) (sSs ss _ X ck G h2)).imp fun D σ H q=>ts_seq (TSv.eq (fun ρ s=>rfl) q)
  ·cases h
end
end
end L2
end
noncomputable section
namespace L2
open PySem PySem.Spec PyProof.Rows
section
variable {Γ:Gm}
theorem old_bnd {φ φ1:Nat->Addr}{H H1:Hp}{s s1:DV.Sto}(R:Rp Γ φ H s)(g:Gr φ s H φ1 s1 H1)(ho:DV.okOld s s1=true){i:Nat}{o:DV.O}(hi:i<s.length)(e:s1[i]?=some o):o.bnd s.length=true:=by
 unfold DV.okOld at ho
 have:=List.all_eq_true.mp ho i (List.mem_range.mpr hi)
 rw [e,Bool.or_eq_true] at this
 rcases this with h | h
 ·exact R.wf i o (of_decide_eq_true h).symm
 ·exact h
theorem qj {s1:DV.Sto}{k i:Nat}{o:DV.O}(e:(s1.take k)[i]?=some o):i<k/\s1[i]?=some o:=by
 rw [List.getElem?_take] at e
 split at e
 ·exact ⟨‹_›,e⟩
 ·cases e
theorem canon_take {φ φ1:Nat->Addr}{H H1:Hp}{s s1:DV.Sto}(R:Rp Γ φ H s)(g:Gr φ s H φ1 s1 H1)(R1:Rp Γ φ1 H1 s1)(ho:DV.okOld s s1=true):Gr φ s H φ1 (s1.take s.length) H1/\Rp Γ φ1 H1 (s1.take s.length):=by
 have hl:(s1.take s.length).length=s.length:=by rw [List.length_take];have:=g.le;omega
 refine ⟨⟨g.w,by rw [hl];exact Nat.le_refl _,fun i h1 h2=>by rw [hl] at h2;omega,fun i o o' e e'=>g.kd i o o' e (qj e').2,g.st,g.fr⟩,fun i j o o' e e' m m' z=>R1.inj i j o o' (qj e).2 (qj e').2 m m' z,fun i o e=>R1.obj i o (qj e).2,fun i o e=>?_,R1.tab⟩
 rw [hl]
 exact old_bnd R g ho (qj e).1 (qj e).2
theorem canon_ok {φ φ1:Nat->Addr}{H H1:Hp}{s s1 s':DV.Sto}{v0 d:DV.D}{v:V}(R:Rp Γ φ H s)(g:Gr φ s H φ1 s1 H1)(R1:Rp Γ φ1 H1 s1)(hb:v0.bnd s1.length=true)(r:RV Γ φ1 H1 v0 v)(h:DV.zA s v0 s1=.ok d s') :
  ∃ φ',Gr φ s H φ' s' H1/\s.length<=s'.length/\d.bnd s'.length=true/\RV Γ φ' H1 d v/\Rp Γ φ' H1 s':=by
 have all:d=v0->s'=s1->∃ φ',Gr φ s H φ' s' H1/\s.length<=s'.length/\d.bnd s'.length=true/\RV Γ φ' H1 d v/\Rp Γ φ' H1 s':=fun e1 e2=>by
  subst e1;subst e2
  exact ⟨φ1,g,g.le,hb,r,R1⟩
 unfold DV.zA at h
 split at h
 case isFalse=>cases h;exact all rfl rfl
 rename_i ho
 obtain ⟨gt,Rt⟩:=canon_take R g R1 ho
 have hl:(s1.take s.length).length=s.length:=by rw [List.length_take];have:=g.le;omega
 have tk:d=v0->s'=s1.take s.length->v0.bnd s.length=true->∃ φ',Gr φ s H φ' s' H1/\s.length<=s'.length/\d.bnd s'.length=true/\RV Γ φ' H1 d v/\Rp Γ φ' H1 s':=fun e1 e2 b=>by
  subst e1;subst e2
  exact ⟨φ1,gt,by rw [hl];exact Nat.le_refl _,by rw [hl];exact b,r,Rt⟩
 split at h
 ·rename_i k
  split at h
  ·cases h
   exact tk rfl rfl (by unfold DV.D.bnd;exact decide_eq_true ‹_›)
  ·rename_i hk
   split at h
   ·rename_i o eo
    split at h
    ·rename_i hob
     cases h
     have gw:Gw φ1 s.length H1 (fun i=>if i=s.length then φ1 k else φ1 i) H1:=⟨fun i hi=>if_neg (Nat.ne_of_lt hi),Kp.refl _⟩
     have key:∀ (i:Nat) (o':DV.O),(s1.take s.length++[o])[i]?=some o'->(i<s.length/\s1[i]?=some o')\/(i=s.length/\o'=o):=fun i o' e=>by
      rcases Nat.lt_trichotomy i s.length with h | h | h
      ·rw [List.getElem?_append_left (by rw [hl];exact h)] at e;exact .inl (qj e)
      ·subst h
       rw [List.getElem?_append_right (by rw [hl];exact Nat.le_refl _),hl,Nat.sub_self] at e
       exact .inr ⟨rfl,(Option.some.inj e).symm⟩
      ·rw [List.getElem?_eq_none (by rw [List.length_append,hl];simp;omega)] at e;cases e
     have hlen:(s1.take s.length++[o]).length=s.length+1:=by rw [List.length_append,hl];rfl
     refine ⟨fun i=>if i=s.length then φ1 k else φ1 i,⟨⟨fun i hi=>?_,g.w.kp⟩,by rw [hlen];omega,fun i h1 h2=>?_,fun i oo o' e e'=>?_,g.st,g.fr⟩,by rw [hlen];omega,by unfold DV.D.bnd;rw [hlen];exact decide_eq_true (Nat.lt_succ_self _),?_,⟨fun i j oi oj ei0 ej0 mi mj e=>?_,fun i o' e=>?_,fun i o' e=>?_,R1.tab⟩⟩
     ·show (if i=s.length then φ1 k else φ1 i)=φ i
      rw [if_neg (Nat.ne_of_lt hi)];exact g.w.map i hi
     ·rw [hlen] at h2
      show H (if i=s.length then φ1 k else φ1 i)=none
      rw [if_pos (by omega)]
      exact g.new k (by omega) (List.getElem?_eq_some_iff.mp eo).1
     ·rcases key i o' e' with ⟨_,e2⟩ | ⟨hi,_⟩
      ·exact g.kd i oo o' e e2
      ·have:=(List.getElem?_eq_some_iff.mp e).1;omega
     ·rw [r.refE]
      unfold RV
      show V.ref (φ1 k)=V.ref (if s.length=s.length then φ1 k else φ1 s.length)
      rw [if_pos rfl]
     ·rcases key i oi ei0 with ⟨hi,ei⟩ | ⟨hi,zi⟩<;>rcases key j oj ej0 with ⟨hj,ej⟩ | ⟨hj,zj⟩
      ·rw [if_neg (Nat.ne_of_lt hi),if_neg (Nat.ne_of_lt hj)] at e
       exact R1.inj i j oi oj ei ej mi mj e
      ·rw [if_neg (Nat.ne_of_lt hi),if_pos hj] at e
       subst zj
       have:=R1.inj i k oi _ ei eo mi mj e
       omega
      ·rw [if_neg (Nat.ne_of_lt hj),if_pos hi] at e
       subst zi
       have:=R1.inj k j _ oj eo ej mi mj e
       omega
      ·rw [hi,hj]
     ·rcases key i o' e with ⟨hi,e⟩ | ⟨hi,rfl⟩
      ·show RO Γ _ _ (if i=s.length then φ1 k else φ1 i) o'
       rw [if_neg (Nat.ne_of_lt hi)]
       exact (R1.obj i o' e).mono gw (old_bnd R g ho hi e) fun _ u hu=>hu
      ·show RO Γ _ _ (if i=s.length then φ1 k else φ1 i) o'
       rw [if_pos hi]
       exact (R1.obj k _ eo).mono gw hob fun _ u hu=>hu
     ·rw [hlen]
      rcases key i o' e with ⟨hi,e⟩ | ⟨_,rfl⟩
      ·exact z5 (Nat.le_succ _) _ (old_bnd R g ho hi e)
      ·exact z5 (Nat.le_succ _) _ hob
    ·cases h;exact all rfl rfl
   ·cases h
 ·split at h
  ·cases h;exact tk rfl rfl ‹_›
  ·cases h;exact all rfl rfl
structure LamGood (J:LamI)(L:DV.Lm):Prop where
 sc:LamScope (J.ps++J.fr) J.ps J.fr J.scope
 ps:J.ps.length=L.ps
 fr:J.fr.length=L.cs
 m:mE (ck0 (J.ps++J.fr) J.scope) L.body J.body=true
 bind:∀ (clos:List (Str×Addr)) (doc pm:Value) (c':Addr) (ctv:Value) (us:List Value),us.length=J.ps.length->bindArgs (PySem.W.kla_fn "<lambda>" J.qual J.params J.body J.scope clos pm (.ref c') ctv) ⟨us,[]⟩=pure (J.ps.zip us) /\
  ∀ (nm:Str) (rp:Pos),bindArgs (PySem.W.fnX nm J.qual J.params [.Return (some J.body) rp] J.scope clos .none .none doc pm none (.ref c') ctv) ⟨us,[]⟩=pure (J.ps.zip us)
structure LkAt (Γ:Gm)(cds:List (Addr×Addr))(f:Str)(sc:Scope)(N:List Str)(fd:FuncData)(id:String)(caps:List Nat)(params:Arguments)(body:Expr)(scope:Scope)(c P:Addr)(J:LamI):Prop where
 code:fd.code=.ref c
 cd:(c,P)∈cds
 ck:lamCheck scope sc=true
 fre:∀ x,scope.names.lookup x=some .free->sc.names.lookup x=some .cell
 cel:∀ y∈sc.names,y.2=.cell->sc.names.lookup y.1=some .cell
 df:∀ env,defaultsOf params env=([],[])
 lg:Γ.lg id J
 q:J.qual=f ++ ".<locals>."++J.own
 p:J.params=params
 b:J.body=body
 s:J.scope=scope
 len:J.fr.length=caps.length
 at_:∀ (i j:Nat) (x:Str),caps[i]?=some j->J.fr[i]?=some x->N[j]?=some x
 fr:∀ x∈J.fr,scope.names.lookup x=some .free
 tab:(P,J.qual)∈Γ.T
noncomputable def LkOk (Γ:Gm)(cds:List (Addr×Addr))(f:Str)(sc:Scope)(N:List Str)(fd:FuncData)(lk:String->List Nat->Expr->Bool):Prop :=
 ∀ id caps E,lk id caps E=true->∃ c P params body scope pos J,E=lamText J params body scope pos/\LkAt Γ cds f sc N fd id caps params body scope c P J
noncomputable def Good (Γ:Gm)(cds:List (Addr×Addr))(mg:Str->Option Value)(f:String)(d:DV.Df):Prop:=∃ st N ps a fd lk,DefAt Γ.K mg (f:Str) st ps a fd/\FnScope N ps (defScope st)/\ps.length=d.ps/\N.length=d.ps+d.vs/\mSs ⟨N,defScope st,lk⟩ d.body (zK st)=true/\LkOk Γ cds (f:Str) (defScope st) N fd lk
structure PrOk (Γ:Gm)(cds:List (Addr×Addr))(P:DV.Pr)(mg:Str->Option Value):Prop where
 df:∀ f d,P.df f=some d->Good Γ cds mg f d
 con:∀ x d,P.con x=some d->∃ v u,mg (x:Str)=some u/\RelV v u/\(∀ m,d.bnd m=true)/\∀ φ H,RV Γ φ H d v
 bi:∀ x∈bNames,mg x=none
 fa:∀ (f:String) (a:Addr),Γ.fa f=some a->mg (f:Str)=some (.ref a)/\∃ oc od fd sl,Γ.K.lookup a=some ⟨oc,od,.func fd,sl⟩
 lg:∀ id J,Γ.lg id J->∃ L,P.lm id=some L/\LamGood J L
 nd:(Γ.T.map (·.1)).Nodup
noncomputable def CallOk (Γ : Gm) (prog : Program) (w : World) (mg : Str -> Option Value) (base : Heap) (F : DV.Fns) (n : Nat) : Prop := (∀ f : String, (∀ l s, F.call f l s = .bad) \/
      ∃ a fd ps, FnOk prog w Γ.K mg base CX0 n a fd ps (spV Γ (F.call f)) /\ mg (f : Str) = some (.ref a) /\ PySem.W.keepIn Γ.K (.ref a) = true /\ Binds Γ.K fd ps []) /\
  ∀ (id : String) (J : LamI) (f : Addr) (cap : List V) (clos : List (Str × Addr)), Γ.lg id J -> cap.length = J.fr.length -> ClOk prog w Γ.K mg base n (fun H => CloAt H f J cap clos) f (spL Γ (F.lam id) cap)
theorem re_start {φ:Nat->Addr}{H:Hp}{n k:Nat}{N:List Str}{l:List DV.D}{vs:List V}(r:RVL Γ φ H l vs)(b:DV.D.bndL n l=true)(hN:N.length=l.length+k):RE Γ φ H n (l.map some++List.replicate k none) (start N vs):=by
 have hl:=r.length
 refine ⟨?_,fun i d e=>?_⟩
 ·unfold start;simp [hl,hN]
 ·by_cases hi:i<l.length
  ·rw [List.getElem?_append_left (by simpa using hi),List.getElem?_map] at e
   have e':l[i]?=some d:=by
    rw [List.getElem?_eq_getElem hi] at e ⊢
    exact Option.some.inj e
   obtain ⟨v,e1,e2⟩:=r.get e'
   refine ⟨bndL_get b e',v,?_,e2⟩
   unfold start
   rw [List.getElem?_append_left (by rw [List.length_map,hl];exact hi),List.getElem?_map,e1];rfl
  ·rw [List.getElem?_append_right (by simpa using Nat.le_of_not_lt hi)] at e
   rw [List.getElem?_replicate] at e
   split at e<;>cases e
theorem fn_ok {cds:List (Addr×Addr)}{P:DV.Pr}{prog:Program}{w:World}{mg:Str->Option Value}{base:Heap}(hP:PrOk Γ cds P mg)(hb:∀ y∈cds,PySem.W.CodeHd base y.1 y.2/\BM mg base)(n:Nat)(hcall:CallOk Γ prog w mg base (DV.callN P n) (n+31))
  {f:String} {d:DV.Df} (e:P.df f=some d) {st:Stmt} {N ps:List Str} {a:Addr} {fd:FuncData} {lk:String->List Nat->Expr->Bool} (hD:DefAt Γ.K mg (f:Str) st ps a fd) (hS:FnScope N ps (defScope st)) (h1:ps.length=d.ps) (h2:N.length=d.ps+d.vs) (hm:mSs ⟨N,defScope st,lk⟩ d.body (zK st)=true) (hL:LkOk Γ cds (f:Str) (defScope st) N fd lk) :
  FnOk prog w Γ.K mg base CX0 (n+1+31) a fd ps (spV Γ ((DV.callN P (n+1)).call f)):=by
 have hlen:∀ vs H Q E,spV Γ ((DV.callN P (n+1)).call f) vs H Q E->vs.length=ps.length:=fun vs H Q E q=>by
  obtain ⟨φ,s,l,d',s',R,r,b,hc,k⟩:=q
  simp only [DV.callN,e] at hc
  split at hc
  ·rw [r.length,h1];assumption
  ·cases hc
 have body:∀ (cdv:Value),(∀ id caps E,lk id caps E=true->fd.code=cdv)->∀ (A:Around) (outer:List Env) (sh:Shared) (H:Hp) (vs:List V) (Q:VK) (E:XK),Room (n+31) (A.deeper (envOfC (f:Str) (defScope st) sh.heap.objs.size a cdv))->spV Γ ((DV.callN P (n+1)).call f) vs H Q E ->
   ∃ t,PSs (cxOf CX0 prog w Γ.K mg base N (f:Str) (defScope st) a cdv A outer sh H E).nox (zK st) t/\t { nx:=fun _ H'=>Q .non H',rt:=Q } (start N vs) H:=by
  intro cdv hcd A outer sh H vs Q E hr q
  have G:CG Γ (DV.callN P n) (n+31) (cxOf CX0 prog w Γ.K mg base N (f:Str) (defScope st) a cdv A outer sh H E).nox ⟨N,defScope st,lk⟩:=by
   refine ⟨rfl,rfl,hS.nd,rfl,rfl,?_,hr,fun x k e=>.inl e,fun _ _=>rfl,hP.bi,hcall.1,?_,fun id caps E' hlk=>?_,hcall.2,hP.fa,DV.callN_fk P n⟩
   ·show DV.DEEP+1<=n+31
    unfold DV.DEEP;omega
   ·have:(DV.callN P n).con=P.con:=by cases n<;>rfl
    rw [this];exact hP.con
   ·obtain ⟨c,Pa,params,body,scope,pos,J,eE,L⟩:=hL id caps E' hlk
    obtain ⟨hb1,hb2⟩:=hb _ L.cd
    refine ⟨c,Pa,params,body,scope,pos,J,eE,⟨?_,hb1,hb2,L.ck,L.df _,L.lg,L.q,L.p,L.b,L.s,L.len,L.at_,L.fr,fun x hx=>?_,L.tab,hP.nd,fun _=>rfl,fun x c hx=>?_⟩⟩
    ·show cdv=.ref c
     rw [<-hcd id caps E' hlk];exact L.code
    ·exact zS (L.fre x hx)
    ·rcases zv (PySem.mem_of_lookup hx) with z | z
     ·exact .inl (L.cel (x,.cell) z rfl)
     ·exact absurd z (by simp)
  refine ⟨_,sSs d.body (zK st) _ ⟨N,defScope st,lk⟩ G hm,?_⟩
  obtain ⟨φ,s,l,d',s',R,r,b,hc,k⟩:=q
  simp only [DV.callN,e] at hc
  split at hc
  case isFalse=>cases hc
  rename_i hlen
  obtain ⟨c,s1,e1,hc⟩:=bind_inv hc
  refine ⟨φ,l.map some++List.replicate d.vs none,s,c,s1,re_start r b (by rw [h2,hlen]),R,e1,fun φ1 H1 g1 l1 R1=>?_⟩
  cases c with
  | ret v0 =>
   intro v hb rv
   obtain ⟨φ',g',l',b',r',R'⟩:=canon_ok R g1 R1 hb rv hc
   exact k v φ' H1 g' l' b' r' R'
  | next ρ =>
   intro σ' _
   obtain ⟨φ',g',l',b',r',R'⟩:=canon_ok (v0:=.non) R g1 R1 rfl RV.nonI hc
   exact k .non φ' H1 g' l' b' r' R'
  | cont ρ=>cases hc
  | brk ρ=>cases hc
 by_cases hl:∃ id caps E,lk id caps E=true
 ·obtain ⟨id,caps,E,hlk⟩:=hl
  obtain ⟨c,Pa,params,body',scope,pos,J,eE,L⟩:=hL id caps E hlk
  exact hD.fn.okC L.code hS hlen (body _ fun _ _ _ _=>L.code)
 ·exact hD.fn.ok hS hlen (fun cdv=>body cdv fun id caps E h=>absurd ⟨id,caps,E,h⟩ hl)
theorem lamN_ok {cds:List (Addr×Addr)}{P:DV.Pr}{prog:Program}{w:World}{mg:Str->Option Value}{base:Heap}(hP:PrOk Γ cds P mg)(n:Nat)(hcall:CallOk Γ prog w mg base (DV.callN P n) (n+31))
  (id:String) (J:LamI) (f:Addr) (cap:List V) (clos:List (Str×Addr)) (hlg:Γ.lg id J) (hcap:cap.length=J.fr.length) :
  ClOk prog w Γ.K mg base (n+1+31) (fun H=>CloAt H f J cap clos) f (spL Γ ((DV.callN P (n+1)).lam id) cap):=by
 obtain ⟨L,eL,LG⟩:=hP.lg id J hlg
 have hlen:∀ vs H Q E,spL Γ ((DV.callN P (n+1)).lam id) cap vs H Q E->vs.length=J.ps.length:=fun vs H Q E q=>by
  obtain ⟨φ,s,cs,l,d,s',R,r,rc,b,bc,hc,k⟩:=q
  simp only [DV.callN,eL] at hc
  split at hc
  ·rename_i hh;rw [r.length,LG.ps];exact hh.1
  ·cases hc
 have main:∀ (A:Around) (outer:List Env) (sh:Shared) (H:Hp) (cd:Value) (vs:List V) (Q:VK),Room (n+31) (A.deeper (PySem.W.envX J.qual J.scope sh.heap.objs.size f cd (cellsFrom (sh.heap.objs.size+1) J.scope.names clos)))->Cells clos H->(∀ b o,Γ.K.lookup b=some o->H b=none)->spL Γ ((DV.callN P (n+1)).lam id) cap vs H Q E0 ->
   ∃ t,PE (cxLam prog w Γ.K mg base (J.ps++J.fr) J.qual J.scope f cd clos A outer sh H) J.body t/\t (vs.map some++cap.map some) (Drop clos H) fun v H'=>(∀ b,isC clos b=true->H' b=none)->Q v (Put clos H H'):=by
  intro A outer sh H cd vs Q hr hcells hK q
  have G:CG Γ (DV.callN P n) (n+31) (cxLam prog w Γ.K mg base (J.ps++J.fr) J.qual J.scope f cd clos A outer sh H) (ck0 (J.ps++J.fr) J.scope):=by
   refine ⟨rfl,rfl,LG.sc.nd,rfl,rfl,?_,hr,fun x k e=>.inl e,fun x e=>?_,hP.bi,hcall.1,?_,fun _ _ _ h=>(by cases h),hcall.2,hP.fa,DV.callN_fk P n⟩
   ·show DV.DEEP+1<=n+31
    unfold DV.DEEP;omega
   ·show (J.scope.names.lookup x==some .cell)=true
    rw [show J.scope.names.lookup x=some .cell from e];rfl
   ·have:(DV.callN P n).con=P.con:=by cases n<;>rfl
    rw [this];exact hP.con
  refine ⟨_,(sE L.body J.body _ (ck0 (J.ps++J.fr) J.scope) G LG.m).1,?_⟩
  obtain ⟨φ,s,cs,l,d,s',R,r,rc,b,bc,hc,k⟩:=q
  simp only [DV.callN,eL] at hc
  split at hc
  case isFalse=>cases hc
  rename_i hh
  obtain ⟨h1,h2,h3⟩:=hh
  rw [Bool.and_eq_true,Bool.and_eq_true] at h3
  obtain ⟨⟨hn1,hn2⟩,hn3⟩:=h3
  obtain ⟨v0,s1,e1,hc⟩:=bind_inv hc
  have RD:Rp Γ φ (Drop clos H) s:=R.dropC hcells hn3
  have rall:RVL Γ φ (Drop clos H) (l++cs) (vs++cap):=(RVL.dropC hcells l vs hn1 r).append (RVL.dropC hcells cs cap hn2 rc)
  refine ⟨φ,l.map some++cs.map some,s,v0,s1,⟨by simp [r.length,rc.length],fun i x ei=>?_⟩,RD,e1,fun v φ1 H1 g1 l1 b1 r1 R1 gone=>?_⟩
  ·rw [<-List.map_append,List.getElem?_map] at ei
   have ei':(l++cs)[i]?=some x:=by
    cases q:(l++cs)[i]? with
    | none=>rw [q] at ei;cases ei
    | some y=>rw [q] at ei;cases ei;rfl
   obtain ⟨u,e3,e4⟩:=rall.get ei'
   refine ⟨bndL_get (zG b bc) ei',u,?_,e4⟩
   rw [<-List.map_append,List.getElem?_map,e3];rfl
  ·obtain ⟨φ',g',l',b',r',R'⟩:=canon_ok RD g1 R1 b1 r1 hc
   have gp:=Gr.put hcells gone hK R' g'
   obtain ⟨gs,Rs⟩:=R'.same (putC_same (H:=H) gone)
   exact k v φ' _ gp l' b' (RV.mono gs d v b' r') Rs
 unfold CloAt
 cases q:J.nm with
 | none=>exact lam_ok2 LG.sc hlen hcap (fun pm c' ctv us hus=>(LG.bind clos .none pm c' ctv us hus).1) (fun A outer sh H cd vs Q hr hat hK q=>by
   obtain ⟨pm,c',ctv,_,_,hcells,_⟩:=hat
   exact main A outer sh H cd vs Q hr hcells hK q)
 | some p=>exact def_ok2 LG.sc hlen hcap (fun doc pm c' ctv us hus=>(LG.bind clos doc pm c' ctv us hus).2 _ _) (fun A outer sh H cd vs Q hr hat hK q=>by
   obtain ⟨doc,pm,c',ctv,_,_,hcells,_⟩:=hat
   obtain ⟨t,h1,h2⟩:=main A outer sh H cd vs Q hr hcells hK q
   exact ⟨_,pss_cons (ps_ret h1) pss_nil,h2⟩)
theorem call_ok {cds:List (Addr×Addr)}{P:DV.Pr}{prog:Program}{w:World}{mg:Str->Option Value}{base:Heap}(hP:PrOk Γ cds P mg)(hb:∀ y∈cds,PySem.W.CodeHd base y.1 y.2/\BM mg base):∀ n:Nat,CallOk Γ prog w mg base (DV.callN P n) (n+31)
 | 0=>⟨fun f=>.inl fun l s=>rfl,fun id J f cap clos _ _=>⟨fun A outer s H us vs Q _ _ _ _ q=>by
   obtain ⟨φ,s,cs,l,d,s',R,r,rc,b,bc,hc,k⟩:=q
   cases hc⟩⟩
 | n+1=>by
  have ih:CallOk Γ prog w mg base (DV.callN P n) (n+31):=call_ok hP hb n
  refine ⟨fun f=>?_,fun id J f cap clos h1 h2=>lamN_ok hP n ih id J f cap clos h1 h2⟩
  cases e:P.df f with
  | none=>exact .inl fun l s=>by simp only [DV.callN,e]
  | some d =>
   obtain ⟨st,N,ps,a,fd,lk,hD,hS,h1,h2,hm,hL⟩:=hP.df f d e
   exact .inr ⟨a,fd,ps,fn_ok hP hb n ih e hD hS h1 h2 hm hL,hD.mg,hD.fn.kp,hD.bi⟩
noncomputable def spT (Γ:Gm):Sp:=fun vs H Q _=>∃ (a:Addr) (ns:List Int),vs=[.ref a]/\SqF Γ.K H a (ns.map V.int)/\ns.length<=63/\TabsH Γ.T H/\∀ H',Q (.bl true) H'
theorem rvl_ints {φ:Nat->Addr}{H:Hp}:∀ ns:List Int,RVL Γ φ H (ns.map DV.D.int) (ns.map V.int)
 | []=>.nil
 | n::ns=>.cons RV.intI (rvl_ints ns)
theorem bndL_ints {m:Nat}:∀ ns:List Int,DV.D.bndL m (ns.map DV.D.int)=true
 | []=>rfl
 | n::ns=>by rw [List.map_cons];unfold DV.D.bndL;rw [bndL_ints ns];rfl
theorem spT_of {P:DV.Pr}{k:Nat}(h:∀ ns:List Int,ns.length<=63->∃ s',(DV.callN P k).call "law" [.ref 0] [.ro (ns.map DV.D.int)]=.ok (.bl true) s')(vs:List V)(H:Hp)(Q:VK)(E:XK)(q:spT Γ vs H Q E):spV Γ ((DV.callN P k).call "law") vs H Q E:=by
 obtain ⟨a,ns,rfl,hS,hl,hT,hQ⟩:=q
 obtain ⟨s',hs⟩:=h ns hl
 refine ⟨fun _=>a,[.ro (ns.map DV.D.int)],[.ref 0],.bl true,s',⟨fun i j o o' e e' m m' _=>?_,fun i o e=>?_,fun i o e=>?_,hT⟩,.cons RV.refI .nil,?_,hs,fun v φ' H' g l b r R=>?_⟩
 ·cases i with
  | zero=>cases e;cases m
  | succ i=>cases e
 ·cases i with
  | zero=>cases e;exact ⟨_,hS,rvl_ints ns⟩
  | succ i=>cases e
 ·cases i with
  | zero=>cases e;unfold DV.O.bnd;exact bndL_ints ns
  | succ i=>cases e
 ·unfold DV.D.bndL DV.D.bnd DV.D.bndL;rfl
 ·rw [r.blE];exact hQ H'
theorem good_tbl {cds:List (Addr×Addr)}{mg:Str->Option Value}:∀ {tbl:List (String×DV.Df)},(∀ p∈tbl,Good Γ cds mg p.1 p.2)->∀ f d,tbl.lookup f=some d->Good Γ cds mg f d
 | [],_,f,d,h=>by cases h
 | (g,e)::tbl,H,f,d,h=>by
  rw [List.lookup_cons] at h
  cases q:f==g with
  | true =>
   rw [q] at h
   cases h
   rw [eq_of_beq q]
   exact H (g,_) (List.mem_cons_self ..)
  | false =>
   rw [q] at h
   exact good_tbl (fun p hp=>H p (List.mem_cons_of_mem _ hp)) f d h
noncomputable def GoodC (Γ:Gm)(mg:Str->Option Value)(x:String)(d:DV.D):Prop:=∃ v u,mg (x:Str)=some u/\RelV v u/\(∀ m,d.bnd m=true)/\∀ φ H,RV Γ φ H d v
theorem con_tbl {mg:Str->Option Value}:∀ {tbl:List (String×DV.D)},(∀ p∈tbl,GoodC Γ mg p.1 p.2)->∀ f d,tbl.lookup f=some d->GoodC Γ mg f d
 | [],_,f,d,h=>by cases h
 | (g,e)::tbl,H,f,d,h=>by
  rw [List.lookup_cons] at h
  cases q:f==g with
  | true =>
   rw [q] at h
   cases h
   rw [eq_of_beq q]
   exact H (g,_) (List.mem_cons_self ..)
  | false =>
   rw [q] at h
   exact con_tbl (fun p hp=>H p (List.mem_cons_of_mem _ hp)) f d h
theorem con_int {mg:Str->Option Value}{x:String}{i:Int}{t:Tok}(h:mg (x:Str)=some (.int i t)):GoodC Γ mg x (.int i):=⟨.int i,_,h,⟨t,rfl⟩,fun _=>rfl,fun _ _=>RV.intI⟩
end
end L2
end
noncomputable section
namespace L2
open PySem PySem.Spec PyProof.Rows
theorem law_callT2 {P:Program}{w:World}{K:PySem.W.Frag}{mg mb:Str->Option Value}{k:Nat}{fa a:Addr}{fd:FuncData}{x:Str}{sp:Sp}{s₁:Shared}{vs:List Value}{ns:List Int}{tabs:List (Addr×Addr)}
  (KX:K.In s₁.heap) (hns:s₁.heap.Ns mainGlobals mg) (hb:s₁.heap.Ns builtinsNs mb) (hbb:∀ x:Str,x ≠ "__name__"->mb x=bootBuiltins x) (hlim:s₁.heap.NoLimit) (hg:s₁.gens=#[]) (hBM:BM mg s₁.heap) (hT:PySem.W.TabsAt tabs s₁.heap) (hnt:PySem.W.noTabs K=true)
  (ha:s₁.heap.get? a=some { cls:=.type "list",data:=.seq vs.toArray }) (hi:IntsAre vs ns) (hl:ns.length<=sizeLine) (hr:Room k callerA)
  (F:∀ base:Heap,K.In base->base.Ns mainGlobals mg->BM mg base->(∀ q∈tabs,PySem.W.CodeHd base q.1 q.2)->FnOk P w K mg base CX0 k fa fd [x] sp) (hbind:∀ (s:Shared) (u:Value),BindsTo s fd ⟨[u],[]⟩ [(x,u)])
  (hsp:∀ H:Hp,(∀ q∈tabs,H q.2=some (.tbl #[]))->SqL K H a (ns.map V.int)->(∀ u,H a=some u->(∃ o xs,u=.frz o (.lst xs))\/∃ ps,u=.tbl ps)->sp [.ref a] H (fun v _=>v=.bl true) E0) :
  codeAny (model P w) callerA (.call (.ref fa) ⟨[.ref a],[]⟩) (fun r s'=>r=.ok (.ret (.bool true))/\OldK s₁.heap s'.heap/\s'.os=s₁.os/\AllBare s'.gens) s₁:=by
 have rv:=vals_ints hi
 have lenV:=hi.length
 have tabO:∀ b,b∈tabs.map (·.2)->s₁.heap.get? b=some (PySem.W.tabObj #[]):=fun b h=>by
  obtain ⟨q,hq,rfl⟩:=List.mem_map.mp h
  exact (hT q hq).2
 have core:∀ H:Hp,(∀ b u,H b=some u->(b=a/\∃ o xs,u=.frz o (.lst xs))\/(b∈tabs.map (·.2)/\u=.tbl #[]))->(∀ q∈tabs,H q.2=some (.tbl #[]))->SqL K H a (ns.map V.int)->HOk P w H s₁.heap->(H a≠none->K.lookup a=none) ->
   codeAny (model P w) callerA (.call (.ref fa) ⟨[.ref a],[]⟩) (fun r s'=>r=.ok (.ret (.bool true))/\OldK s₁.heap s'.heap/\s'.os=s₁.os/\AllBare s'.gens) s₁:=by
  intro H hO hTb hS hok hK
  have un:∀ b o,s₁.heap.get? b=some o->o.cls≠.type "list"->(∀ vs,o.data≠.fields vs)->H b=none:=fun b o e n1 n2=>by
   cases q:H b with
   | none=>rfl
   | some u =>
    rcases hO b u q with ⟨z,_⟩ | ⟨z,_⟩
    ·rw [z,ha] at e;cases e;exact absurd rfl n1
    ·rw [tabO b z] at e;cases e;exact absurd rfl (n2 #[])
  have nsK:∀ {b:Addr} {m:Str->Option Value},s₁.heap.Ns b m->(hidT s₁.heap H).Ns b m:=fun {b m} ⟨o,es,ep,e,d,r⟩=>by
   refine ⟨o,es,ep,hidT_get e ?_,d,r⟩
   cases q:H b with
   | none=>rfl
   | some u =>
    rcases hO b u q with ⟨z,_⟩ | ⟨z,_⟩
    ·rw [z,ha] at e;cases e;cases d
    ·rw [tabO b z] at e;cases e;cases d
  have hKb:K.In (hidT s₁.heap H):=fun b o e=>hidT_get (KX b o e) (by
   cases q:H b with
   | none=>rfl
   | some u =>
    rcases hO b u q with ⟨z,_⟩ | ⟨z,_⟩
    ·subst z
     rw [hK (by rw [q];simp)] at e;cases e
    ·have e2:=KX b o e
     rw [tabO b z] at e2
     have h2:=List.all_eq_true.mp hnt (b,o) (PySem.W.mem_of_lookupK e)
     have e3:o=PySem.W.tabObj #[]:=(Option.some.inj e2).symm
     subst e3
     exact absurd (show false=true from h2) Bool.false_ne_true)
  have hM:Mod K mg (hidT s₁.heap H):=⟨hKb,nsK hns,⟨mb,nsK hb,hbb⟩,let ⟨mc,h1,h2⟩:=hlim;⟨mc,nsK h1,h2⟩⟩
  have hB2:BM mg (hidT s₁.heap H):=by
   obtain ⟨bm,ob,b1,b2,b3,b4,b5,b6⟩:=hBM
   exact ⟨bm,ob,b1,b2,hidT_get b3 (un bm ob b3 (by rw [b4];nofun) (by rw [b6];nofun)),b4,b5,b6⟩
  have hC2:∀ q∈tabs,PySem.W.CodeHd (hidT s₁.heap H) q.1 q.2:=fun q hq=>by
   obtain ⟨o,vs',file,tf,flags,tg,inF,text,tt,e1,r1,r2⟩:=(hT q hq).1
   refine ⟨o,vs',file,tf,flags,tg,inF,text,tt,hidT_get e1 ?_,r1,r2⟩
   cases q2:H q.1 with
   | none=>rfl
   | some u =>
    rcases hO _ u q2 with ⟨z,_⟩ | ⟨z,_⟩
    ·rw [z,ha] at e1;cases e1;exact absurd r1 (by simp)
    ·rw [tabO _ z] at e1;cases e1;exact absurd r1 (by simp)
  have e0:Env0 P w K mg (hidT s₁.heap H) callerA [] s₁ H:=⟨rfl,hM,fun b o e=>of_hidT e,Nat.le_of_eq (hidT_size _ _),trivial,fun b hb=>absurd (show b∈([]:List Addr) from hb) (by simp),hok,.of_eq hg⟩
  refine codeAny_mono ((F _ hKb (nsK hns) hB2 hC2).run callerA [] s₁ H ⟨[.ref a],[]⟩ [.ref a] [.ref a] _ _ hr e0 (hbind s₁ (.ref a)) (.cons rfl .nil) (hsp H hTb hS (fun u e=>(hO a u e).elim (fun z=>.inl z.2) (fun z=>.inr ⟨_,z.2⟩)))) fun r s' h=>?_
  cases r with
  | error e=>exact False.elim h
  | ok fl =>
   cases fl with
   | next=>exact False.elim h
   | brk=>exact False.elim h
   | cont=>exact False.elim h
   | ret u =>
    obtain ⟨v,H',os,bare,un',hok',r',q⟩:=h
    have q':v=.bl true:=q
    subst q'
    obtain rfl:u=Value.bool true:=r'
    have key:∀ b o,s₁.heap.get? b=some o->asItWas s₁.heap s'.heap b o/\∃ o',s'.heap.get? b=some o':=fun b o e=>by
     cases q:H b with
     | none =>
      have z:=un'.keep b o e q (by intro z;exact absurd (show b∈([]:List Addr) from z) (by simp)) (by simp)
      exact ⟨.inl z,o,z⟩
     | some u =>
      rcases hO b u q with ⟨_,ob,xs,z⟩ | ⟨z,z2⟩
      ·subst z
       have z2:=un'.frzs b ob _ q
       obtain ⟨e1,_⟩:=hok b _ q
       obtain ⟨e2,_⟩:=hok' b _ z2
       rw [e] at e1;cases e1
       exact ⟨.inl e2,_,e2⟩
      ·subst z2
       obtain ⟨more,z3⟩:=un'.tbls b _ q
       have g:s'.heap.get? b=some { cls:=.none,data:=.fields (#[]++more) }:=hok' b _ z3
       have e1:=tabO b z
       rw [e] at e1;cases e1
       obtain ⟨p,hp,ep⟩:=List.mem_map.mp z
       refine ⟨.inr (.inl ⟨?_,rfl,#[],more,rfl,g⟩),_,g⟩
       have t:=((hT p hp).1.tab (hT p hp).2).isCodeTable
       rw [ep] at t
       exact t
    exact ⟨rfl,⟨fun b o e=>(key b o e).1,fun b o e=>(key b o e).2⟩,os,bare⟩
 have tbl:∀ b,b∈tabs.map (·.2)->b≠a:=fun b h z=>by
  have e:=tabO b h
  rw [z,ha] at e;cases e
 cases hk:K.lookup a with
 | some o =>
  have e:=KX a o hk
  rw [ha] at e
  cases e
  refine core (fun b=>if b∈tabs.map (·.2) then some (.tbl #[]) else none) (fun b u z=>?_) (fun q hq=>if_pos (List.mem_map_of_mem hq)) (.inr ⟨_,vs.toArray,_,hk,rfl,rfl,rfl,by rw [List.size_toArray,lenV];exact hl,by simpa using rv⟩) (fun b u z=>?_) fun z=>?_
  ·by_cases hb:b∈tabs.map (·.2)
   ·have z':=(if_pos hb).symm.trans z
    cases z'
    exact .inr ⟨hb,rfl⟩
   ·have z':=(if_neg hb).symm.trans z
    cases z'
  ·by_cases hb:b∈tabs.map (·.2)
   ·have z':=(if_pos hb).symm.trans z
    cases z'
    exact tabO b hb
   ·have z':=(if_neg hb).symm.trans z
    cases z'
  ·exact absurd (if_neg fun y=>tbl a y rfl) z
 | none =>
  refine core (fun b=>if b=a then some (.frz { cls:=.type "list",data:=.seq vs.toArray } (.lst (ns.map V.int))) else if b∈tabs.map (·.2) then some (.tbl #[]) else none) (fun b u z=>?_) (fun q hq=>?_) (.inl (.inr ⟨{ cls:=.type "list",data:=.seq vs.toArray },if_pos rfl⟩)) (fun b u z=>?_) fun _=>hk
  ·by_cases hb:b=a
   ·have z':=(if_pos hb).symm.trans z
    cases z'
    exact .inl ⟨hb,_,_,rfl⟩
   ·have z':=(if_neg hb).symm.trans z
    by_cases hc:b∈tabs.map (·.2)
    ·rw [if_pos hc] at z';cases z';exact .inr ⟨hc,rfl⟩
    ·rw [if_neg hc] at z';cases z'
  ·have hm:q.2∈tabs.map (·.2):=List.mem_map_of_mem hq
   show (if _ then _ else if _ then _ else _)=_
   rw [if_neg (tbl _ hm),if_pos hm]
  ·by_cases hb:b=a
   ·have z':=(if_pos hb).symm.trans z
    cases z'
    subst hb
    exact ⟨ha,by rw [List.length_map];exact hl,vs,_,rv,ha⟩
   ·have z':=(if_neg hb).symm.trans z
    by_cases hc:b∈tabs.map (·.2)
    ·rw [if_pos hc] at z';cases z';exact tabO b hc
    ·rw [if_neg hc] at z';cases z'
theorem walk_ofT2 {ts:List Addr}{l:PySem.W.OpenLaw}{n k:Nat}{q:Program}{loose:List Str}{XP:(Str->Option Value)->Heap->Prop}{YP:World->Heap->Prop}{d:DefRec}{K:Params->PySem.W.Frag}{sp:PySem.W.Frag->Sp}{x:Str}(names:List Str)
  (hn:l.most=some n) (hn2:n<=sizeLine) (hdf:d.params.defaults=[]) (hr:Room k callerA)
  (hY:∀ (w:World) (h:Heap),YP w h->(K w.params).In h/\∀ P∈ts,h.get? P=some (PySem.W.tabObj #[])) (hrec:∀ w:World,tabsIn (K w.params) names ts=true) (hnt:∀ w:World,PySem.W.noTabs (K w.params)=true)
  (F:∀ (w:World) (mg:Str->Option Value) (fa:Addr) (h:Heap),(K w.params).In h->h.Ns mainGlobals mg->mg d.name=some (.ref fa) ->
   ∃ fd:FuncData,(∀ (s:Shared) (u:Value),BindsTo s fd ⟨[u],[]⟩ [(x,u)]) /\
    ∀ base:Heap,(K w.params).In base->base.Ns mainGlobals mg->BM mg base->Codes (K w.params) names base->FnOk l.prog w (K w.params) mg base CX0 k fa fd [x] (sp (K w.params)))
  (hsp:∀ (K:PySem.W.Frag) (H:Hp) (a:Addr) (ns:List Int),ns.length<=n->Blank K names H->SqL K H a (ns.map V.int)->(∀ u,H a=some u->(∃ o xs,u=.frz o (.lst xs))\/∃ ps,u=.tbl ps)->sp K [.ref a] H (fun v _=>v=.bl true) E0) :
  PySem.W.WalkO q loose XP YP l.row.toRowW d [] (fun f vs=>PySem.call f vs):=by
 refine Att.attach_call hn hdf fun w s₀ s₁ mg mb fa o pm cd doc a vs ns G Y ho hd hcd hmg hobj hints hlen hg=>?_
 obtain ⟨KX,tsX⟩:=hY w _ Y
 obtain ⟨fd,hb,hF⟩:=F w mg fa _ KX G.T.g hmg
 have hT:PySem.W.TabsAt ((tabsOf (K w.params) names).map (·.2)) s₁.heap:=fun p hp=>by
  obtain ⟨y,hy,rfl⟩:=List.mem_map.mp hp
  obtain ⟨h1,h2⟩:=mem_tabsOf.mp hy
  have z:=List.all_eq_true.mp (hrec w) y.1 h1
  rw [h2] at z
  have z':(PySem.W.codeHdIn (K w.params) y.2.1 y.2.2&&ts.contains y.2.2)=true:=z
  rw [Bool.and_eq_true] at z'
  exact ⟨PySem.W.codeHd_of_K KX z'.1,tsX _ (by simpa using z'.2)⟩
 have hm:∀ x∈names,∀ c P,PySem.W.tabIn (K w.params) x=some (c,P)->(c,P)∈(tabsOf (K w.params) names).map (·.2):=fun x hx c P e=>List.mem_map.mpr ⟨(x,c,P),mem_tabsOf.mpr ⟨hx,e⟩,rfl⟩
 refine law_callT2 (tabs:=(tabsOf (K w.params) names).map (·.2)) KX G.T.g G.T.b G.T.builtins G.T.nolimit hg ?_ hT (hnt w) hobj hints (Nat.le_trans hlen hn2) hr (fun base k1 k2 k3 k4=>hF base k1 k2 k3 fun x hx c P e=>k4 _ (hm x hx c P e)) hb fun H hO hS hF=>hsp (K w.params) H a ns hlen (fun x hx c P e=>hO _ (hm x hx c P e)) hS hF
 obtain ⟨bm,ob,h1,h2,h3,h4,h5,h6⟩:=G.T.bmain
 exact ⟨bm,ob,h1,h2,h3,h4,h5,h6⟩
noncomputable def spB (names:List Str)(K:PySem.W.Frag):Sp:=fun vs H Q _=>∃ (a:Addr) (ns:List Int),vs=[.ref a]/\SqF K H a (ns.map V.int)/\ns.length<=63/\Blank K names H/\∀ H',Q (.bl true) H'
theorem spB_mk {names:List Str}{K:PySem.W.Frag}{H:Hp}{a:Addr}{ns:List Int}(hl:ns.length<=63)(hB:Blank K names H)(hS:SqL K H a (ns.map V.int))(hF:∀ u,H a=some u->(∃ o xs,u=.frz o (.lst xs))\/∃ ps,u=.tbl ps):spB names K [.ref a] H (fun v _=>v=.bl true) E0:=by
 refine ⟨a,ns,rfl,⟨hS,fun H' k=>?_⟩,hl,hB,fun _=>rfl⟩
 rcases hS with (h | ⟨o,h⟩) | h
 ·rcases hF _ h with ⟨_,_,z⟩ | ⟨_,z⟩<;>cases z
 ·exact .inl (.inr ⟨o,k _ _ h rfl⟩)
 ·exact .inr h
noncomputable def lgOf (P:DV.Pr):String->LamI->Prop:=fun id J=>∃ L,P.lm id=some L/\LamGood J L
noncomputable def sfx (x:Str):Str:=if x = "letter_table" then "least_fee" else "<lambda>"
noncomputable def tabsT (names:List Str)(K:PySem.W.Frag):List (Addr×Str):=names.map fun x=>(((PySem.W.tabIn K x).getD (0,0)).2,x ++ ".<locals>."++sfx x)
noncomputable def cdsT (names:List Str)(K:PySem.W.Frag):List (Addr×Addr):=names.map fun x=>(PySem.W.tabIn K x).getD (0,0)
noncomputable def faOf (K:PySem.W.Frag)(f:String):Option Addr:=match PySem.W.nsIn K mainGlobals (f:Str) with
 | some (some (.ref a))=>(match K.lookup a with
  | some ⟨_,_,.func _,_⟩=>some a
  | _=>none)
 | _=>none
theorem faOf_inv {K:PySem.W.Frag}{f:String}{a:Addr}(h:faOf K f=some a):PySem.W.nsIn K mainGlobals (f:Str)=some (some (.ref a))/\∃ oc od fd sl,K.lookup a=some ⟨oc,od,.func fd,sl⟩:=by
 unfold faOf at h
 split at h
 ·rename_i a' e
  split at h
  ·rename_i oc od fd sl e2
   cases h
   exact ⟨e,_,_,_,_,e2⟩
  ·cases h
 ·cases h
noncomputable abbrev gmOf (names:List Str)(P:DV.Pr)(K:PySem.W.Frag):Gm:=⟨K,faOf K,lgOf P,tabsT names K⟩
theorem fa_ok {names:List Str}{P:DV.Pr}{K:PySem.W.Frag}{h:Heap}{mg:Str->Option Value}(X:K.In h)(G:h.Ns mainGlobals mg):∀ (f:String) (a:Addr),(gmOf names P K).fa f=some a->mg (f:Str)=some (.ref a)/\∃ oc od fd sl,(gmOf names P K).K.lookup a=some ⟨oc,od,.func fd,sl⟩:=fun f a e=>⟨PySem.W.mg_of X G (faOf_inv e).1,(faOf_inv e).2⟩
theorem spT_of_B {names:List Str}{P:DV.Pr}{K:PySem.W.Frag}(ht:∀ x∈names,(PySem.W.tabIn K x).isSome=true){vs:List V}{H:Hp}{Q:VK}{E:XK}(q:spB names K vs H Q E):spT (gmOf names P K) vs H Q E:=by
 obtain ⟨a,ns,e,hS,hl,hB,hQ⟩:=q
 refine ⟨a,ns,e,hS,hl,TabsH.init fun p hp=>?_,hQ⟩
 simp only [tabsT,List.map_map] at hp
 obtain ⟨x,hx,rfl⟩:=List.mem_map.mp hp
 exact hB x hx _ _ (tab_some (ht x hx))
theorem cds_ok {names:List Str}{K:PySem.W.Frag}{mg:Str->Option Value}{base:Heap}(ht:∀ x∈names,(PySem.W.tabIn K x).isSome=true)(bm:BM mg base)(hc:Codes K names base):∀ y∈cdsT names K,PySem.W.CodeHd base y.1 y.2/\BM mg base:=fun y hy=>by
 obtain ⟨x,hx,rfl⟩:=List.mem_map.mp hy
 exact ⟨hc x hx _ _ (tab_some (ht x hx)),bm⟩
noncomputable def lamArgs:Arguments->Option (List Str)
 | ⟨[],args,none,[],[],none,[]⟩=>some (args.map (·.arg))
 | _=>none
theorem lamArgs_inv {p:Arguments}{ps:List Str}(h:lamArgs p=some ps):∃ args,p=⟨[],args,none,[],[],none,[]⟩/\args.map (·.arg)=ps:=by
 unfold lamArgs at h
 split at h
 ·exact ⟨_,rfl,Option.some.inj h⟩
 ·cases h
noncomputable def BindG (ps:List Str):Prop:=∀ params,lamArgs params=some ps->∀ (qual:Str) (body:Expr) (scope:Scope) (clos:List (Str×Addr)) (doc pm:Value) (c':Addr) (ctv:Value) (us:List Value),us.length=ps.length->bindArgs (PySem.W.kla_fn "<lambda>" qual params body scope clos pm (.ref c') ctv) ⟨us,[]⟩=pure (ps.zip us) /\
 ∀ (nm:Str) (rp:Pos),bindArgs (PySem.W.fnX nm qual params [.Return (some body) rp] scope clos .none .none doc pm none (.ref c') ctv) ⟨us,[]⟩=pure (ps.zip us)
noncomputable def lamScB (ps fr:List Str)(sc:Scope):Bool:=decide (sc.kind=.function)&&!sc.isCoroutine&&!sc.isGenerator&&decide ((ps++fr).Nodup)&&(ps.all fun x=>decide (sc.names.lookup x=some .local)||decide (sc.names.lookup x=some .cell))&&(fr.all fun x=>decide (sc.names.lookup x=some .free))&&(sc.names.all fun y=>!decide (y.2=.cell)||decide (sc.names.lookup y.1=some .cell))
theorem lamScB_ok {ps fr:List Str}{sc:Scope}(h:lamScB ps fr sc=true):LamScope (ps++fr) ps fr sc:=by
 unfold lamScB at h
 simp only [Bool.and_eq_true,decide_eq_true_eq,Bool.not_eq_true',List.all_eq_true,Bool.or_eq_true] at h
 obtain ⟨⟨⟨⟨⟨⟨h1,h2⟩,h3⟩,h4⟩,h5⟩,h6⟩,h7⟩:=h
 exact ⟨h1,h2,h3,h4,rfl,h5,h6,fun y hy e=>by
  rcases h7 y hy with z | z
  ·rw [e] at z;simp at z
  ·exact z⟩
noncomputable def freeB (scope sc:Scope):Bool:=scope.names.all fun y=>!decide (scope.names.lookup y.1=some .free)||decide (sc.names.lookup y.1=some .cell)
theorem freeB_ok {scope sc:Scope}(h:freeB scope sc=true):∀ x,scope.names.lookup x=some .free->sc.names.lookup x=some .cell:=fun x hx=>by
 have:=List.all_eq_true.mp h (x,.free) (PySem.mem_of_lookup hx)
 simp only [Bool.or_eq_true,Bool.not_eq_true',decide_eq_false_iff_not,decide_eq_true_eq] at this
 rcases this with z | z
 ·exact absurd hx z
 ·exact z
noncomputable def lkB (sc:Scope)(N:List Str)(caps:List Nat)(params:Arguments)(body:Expr)(scope:Scope)(t:DV.Lm×List Str×List Str):Bool :=
 decide (lamArgs params=some t.2.1)&&decide (caps.map (fun j=>N[j]?)=t.2.2.map some)&&lamCheck scope sc&&freeB scope sc&&lamScB t.2.1 t.2.2 scope&&decide (t.2.1.length=t.1.ps)&&decide (t.2.2.length=t.1.cs)&&mE (ck0 (t.2.1++t.2.2) scope) t.1.body body
noncomputable def lkG (f:Str)(sc:Scope)(N:List Str)(tab:List (String×DV.Lm×List Str×List Str))(id:String)(caps:List Nat)(E:Expr):Bool:=match tab.lookup id,E with
 | some t,.Lambda params body scope _=>decide (sfx f = "<lambda>")&&lkB sc N caps params body scope t
 | some t,.NamedExpr (.Name nm _) (.Lambda params body scope p1) p2=>decide (sfx f=nm)&&decide (p1=p2)&&lkB sc N caps params body scope t
 | _,_=>false
theorem lkOk_of {names:List Str}{P:DV.Pr}{K:PySem.W.Frag}{f:Str}{sc:Scope}{N:List Str}{fd:FuncData}{tab:List (String×DV.Lm×List Str×List Str)}(hf:f∈names)(hcode:fd.code=.ref ((PySem.W.tabIn K f).getD (0,0)).1)(hcel:∀ y∈sc.names,y.2=.cell->sc.names.lookup y.1=some .cell)
  (htab:∀ id t,tab.lookup id=some t->P.lm id=some t.1/\BindG t.2.1):LkOk (gmOf names P K) (cdsT names K) f sc N fd (lkG f sc N tab):=by
 intro id caps E h
 have core:∀ (t:DV.Lm×List Str×List Str) (params:Arguments) (body:Expr) (scope:Scope) (nm:Option (Str×Pos)),tab.lookup id=some t->lkB sc N caps params body scope t=true->(match nm with | none => "<lambda>" | some p=>p.1)=sfx f ->
   LkAt (gmOf names P K) (cdsT names K) f sc N fd id caps params body scope ((PySem.W.tabIn K f).getD (0,0)).1 ((PySem.W.tabIn K f).getD (0,0)).2 ⟨f ++ ".<locals>."++sfx f,params,body,scope,t.2.1,t.2.2,nm⟩:=fun t params body scope nm e h hs=>by
  obtain ⟨L,ps,fr⟩:=t
  unfold lkB at h
  simp only [Bool.and_eq_true,decide_eq_true_eq] at h
  obtain ⟨⟨⟨⟨⟨⟨⟨h1,h2⟩,h3⟩,h4⟩,h5⟩,h6⟩,h7⟩,h8⟩:=h
  obtain ⟨hL,hB⟩:=htab id _ e
  obtain ⟨args,rfl,hargs⟩:=lamArgs_inv h1
  have hlen:fr.length=caps.length:=by have:=congrArg List.length h2;simpa using this.symm
  have S:=lamScB_ok h5
  refine ⟨hcode,List.mem_map.mpr ⟨f,hf,rfl⟩,h3,freeB_ok h4,hcel,fun env=>rfl,⟨L,hL,⟨S,h6,h7,h8,fun clos doc pm c' ctv us hus=>hB _ h1 _ _ _ _ _ _ _ _ _ hus⟩⟩,?_,rfl,rfl,rfl,hlen,fun i j x e1 e2=>?_,S.frs,List.mem_map.mpr ⟨f,hf,rfl⟩⟩
  ·show f ++ ".<locals>."++sfx f=f ++ ".<locals>."++LamI.own _
   unfold LamI.own
   rw [<-hs]<;>rfl
  ·have e3:(caps.map (fun j=>N[j]?))[i]?=some (N[j]?):=by rw [List.getElem?_map,e1];rfl
   rw [h2,List.getElem?_map,e2] at e3
   exact (Option.some.inj e3).symm
 unfold lkG at h
 split at h
 case h_3=>cases h
 ·rename_i t params body scope pos e
  rw [Bool.and_eq_true] at h
  exact ⟨_,_,params,body,scope,pos,_,rfl,core t params body scope none e h.2 (of_decide_eq_true h.1).symm⟩
 ·rename_i t nm rp params body scope p1 p2 e
  rw [Bool.and_eq_true,Bool.and_eq_true] at h
  have ep:=of_decide_eq_true h.1.2
  subst ep
  exact ⟨_,_,params,body,scope,p1,_,rfl,core t params body scope (some (nm,rp)) e h.2 (of_decide_eq_true h.1.1).symm⟩
theorem lkOk_no {names:List Str}{P:DV.Pr}{K:PySem.W.Frag}{f:Str}{sc:Scope}{N:List Str}{fd:FuncData}:LkOk (gmOf names P K) (cdsT names K) f sc N fd (fun _ _ _=>false):=fun _ _ _ h=>by cases h
theorem lg_ok {names:List Str}{P:DV.Pr}{K:PySem.W.Frag}:∀ id J,(gmOf names P K).lg id J->∃ L,P.lm id=some L/\LamGood J L:=fun _ _ h=>h
theorem lt_of {P:DV.Pr}{tab:List (String×DV.Lm×List Str×List Str)}(h:∀ p∈tab,P.lm p.1=some p.2.1/\BindG p.2.2.1):∀ id t,tab.lookup id=some t->P.lm id=some t.1/\BindG t.2.1:=by
 induction tab with
 | nil=>intro id t e;cases e
 | cons y l ih =>
  intro id t e
  rw [List.lookup_cons] at e
  cases q:id==y.1 with
  | true =>
   rw [q] at e
   cases e
   rw [eq_of_beq q]
   exact h y (List.mem_cons_self ..)
  | false =>
   rw [q] at e
   exact ih (fun p hp=>h p (List.mem_cons_of_mem _ hp)) id t e
end L2
end
noncomputable section
namespace L2
open PySem PySem.Spec PyProof.Rows
noncomputable def DfIn (K:PySem.W.Frag)(n:Str)(st:Stmt):Prop:=∃ (f:Addr) (od an:Option Addr) (sl:Array (Option Value)) (oc kV dc pm cd ct:Value),PySem.W.nsIn K mainGlobals n=some (some (.ref f)) /\
 K.lookup f=some ⟨oc,od,.func (PySem.W.fnOf n n (defArgs st) (zK st) (defScope st) .none kV dc pm an cd ct),sl⟩/\PySem.W.codeIn K cd n=true/\PySem.W.keepIn K (.ref f)=true
noncomputable def BdOk (n:Str)(st:Stmt)(ps:List Str):Prop:=∀ (kV doc pm:Value) (an:Option Addr) (cdv ct:Value) (us:List Value),us.length=ps.length->bindArgs (PySem.W.fnOf n n (defArgs st) (zK st) (defScope st) .none kV doc pm an cdv ct) ⟨us,[]⟩=pure (ps.zip us)
noncomputable def DT (names:List Str)(P:DV.Pr)(n:String)(d:DV.Df)(st:Stmt):Prop:=∃ N ps,FnScope N ps (defScope st)/\ps.length=d.ps/\N.length=d.ps+d.vs/\BdOk n st ps/\(mSs ⟨N,defScope st,fun _ _ _=>false⟩ d.body (zK st)=true \/
 ((n:Str)∈names/\∃ tab,mSs ⟨N,defScope st,lkG n (defScope st) N tab⟩ d.body (zK st)=true/\(∀ y∈(defScope st).names,y.2=.cell->(defScope st).names.lookup y.1=some .cell)/\∀ p∈tab,P.lm p.1=some p.2.1/\BindG p.2.2.1))
theorem good_of {names:List Str}{P:DV.Pr}{K:PySem.W.Frag}{h:Heap}{mg:Str->Option Value}{n:String}{d:DV.Df}{st:Stmt}(X:K.In h)(G:h.Ns mainGlobals mg)(hT:∀ x∈names,(PySem.W.tabIn K x).isSome=true)(hD:DfIn K n st)(hd:DT names P n d st):Good (gmOf names P K) (cdsT names K) mg n d:=by
 obtain ⟨f,od,an,sl,oc,kV,dc,pm,cd,ct,a,l,c,k⟩:=hD
 obtain ⟨N,ps,h1,h2,h3,h4,h5⟩:=hd
 have F:=fun_mk (st:=st) l c k
 have D:DefAt K mg n st ps f _:=⟨F,PySem.W.mg_of X G a,F.binds h4⟩
 rcases h5 with h5 | ⟨hn,tab,h5,h6,h7⟩
 ·exact ⟨_,_,_,_,_,_,D,h1,h2,h3,h5,lkOk_no⟩
 ·exact ⟨_,_,_,_,_,_,D,h1,h2,h3,h5,lkOk_of hn (PySem.W.law_code X G (tab_some (hT _ hn)) (PySem.W.mg_of X G a) (X _ _ l) rfl) h6 (lt_of h7)⟩
theorem head_of {l:PySem.W.OpenLaw}{q:Program}{loose:List Str}{H:PySem.W.Hook}{N:Nat}{d:DefRec}{kwd:List (Str×Expr)}
  (left:PySem.W.LeftO l.row.prog q loose (fun s=>PySem.W.xlAt q [] s&&PySem.W.recOk (PySem.W.RowW.records (PySem.W.OpenRow.toRowW l.row)) s) H.obs H.val N)
  (hdef:PySem.W.defOf q l.row.name=some (d,kwd)) (hp:l.row.prog.theDef l.row.name=some (d.params,d.body,d.scope)) (hk:PySem.W.kwWritten? d.params.kwonlyargs d.params.kw_defaults=some kwd) (hwr:(!l.row.writes||l.row.records.isEmpty)=true)
  (k1:l.row.wellSaid=true) (ok:(PySem.W.chainsOk q&&PySem.W.opensWell l.row.prog&&(PySem.W.frees l.row.toRowW&&l.row.within.isEmpty))=true) (hb:l.row.prog.bare) (hw:l.row.toRowW.promised)
  (call:PySem.W.WalkO q loose (PySem.W.XL q []) H.says l.row.toRowW d kwd fun f vs=>PySem.call f vs):l.row.Holds :=
 PySem.W.holds_open left H.of H.keeps (fun s e=>PySem.W.xl_of s (Bool.and_eq_true_iff.mp e).1) PySem.W.XL.keeps hdef hp hk (fun s e=>PySem.W.recFacts_of (Bool.and_eq_true_iff.mp e).2) hwr k1 ok hb hw call
end L2
end
noncomputable section
namespace DV
noncomputable def w_bag:Df:=⟨"_law_bag",2,3,(.cons (.asg (.one 2) (.cst (.int 0))) (.cons (.ite (.cmp .lt (.var 1) (.bi .len (.cons (.var 0) .nil))) (.cons (.asg (.one 2) (.bi .abs (.cons (.ix (.var 0) (.var 1)) .nil))) .nil) .nil) (.cons (.asg (.one 3) (.bin .add (.bin .mul (.cst (.int 7919)) (.var 1)) (.cst (.int 17)))) (.cons (.for_ (.one 4) (.rng1 (.bi .min2 (.cons (.bi .len (.cons (.var 0) .nil)) (.cons (.cst (.int 60)) .nil)))) (.cons (.asg (.one 3) (.bin .mod (.bin .add (.bin .add (.bin .mul (.var 3) (.cst (.int 48271))) (.bin .mod (.ix (.var 0) (.var 4)) (.cst (.int 2147483647)))) (.var 4)) (.cst (.int 2147483629)))) .nil)) (.cons (.ite (.cmp .lt (.var 2) (.bin .pow (.cst (.int 10)) (.cst (.int 18)))) (.cons (.asg (.one 2) (.cst (.int 0))) .nil) .nil) (.cons (.ret (.lst (.cons (.var 2) (.cons (.var 3) .nil)))) .nil))))))⟩
noncomputable def w_take:Df:=⟨"_law_take",2,3,(.cons (.ite (.cmp .gt (.ix (.var 0) (.cst (.int 0))) (.cst (.int 0))) (.cons (.asg (.one 2) (.bin .mod (.ix (.var 0) (.cst (.int 0))) (.var 1))) (.cons (.setIx (.var 0) (.cst (.int 0)) (.bin .fdiv (.ix (.var 0) (.cst (.int 0))) (.var 1))) (.cons (.ret (.var 2)) .nil))) .nil) (.cons (.asg (.one 3) (.cst (.int 0))) (.cons (.asg (.one 4) (.cst (.int 1))) (.cons (.whl (.cmp .lt (.var 4) (.var 1)) (.cons (.setIx (.var 0) (.cst (.int 1)) (.bin .mod (.bin .add (.bin .mul (.ix (.var 0) (.cst (.int 1))) (.cst (.int 48271))) (.cst (.int 7919))) (.cst (.int 2147483647)))) (.cons (.asg (.one 3) (.bin .add (.bin .mul (.var 3) (.cst (.int 1073741789))) (.bin .mod (.bin .mul (.bin .fdiv (.ix (.var 0) (.cst (.int 1))) (.cst (.int 8))) (.cst (.int 69621))) (.cst (.int 1073741789))))) (.cons (.asg (.one 4) (.bin .mul (.var 4) (.cst (.int 1073741789)))) .nil)))) (.cons (.ret (.bin .mod (.var 3) (.var 1))) .nil)))))⟩
noncomputable def w_rooms:Df:=⟨"_law_rooms",2,1,(.cons (.asg (.one 2) (.call "_law_take" (.ex (.var 0) (.ex (.bin .shl (.cst (.int 1)) (.var 1)) .nil)))) (.cons (.ret (.mk .tuple (.compIf (.one 0) (.rng1 (.var 1)) (.cmp .eq (.bin .mod (.bin .fdiv (.var 1) (.bin .shl (.cst (.int 1)) (.var 0))) (.cst (.int 2))) (.cst (.int 1))) (.var 0) [none,some 2]))) .nil))⟩
noncomputable def w_machine:Df:=⟨"_law_machine",1,5,(.cons (.asg (.one 1) (.bin .add (.cst (.int 1)) (.call "_law_take" (.ex (.var 0) (.ex (.cst (.int 3)) .nil))))) (.cons (.asg (.one 2) (.bin .add (.cst (.int 1)) (.call "_law_take" (.ex (.var 0) (.ex (.cst (.int 5)) .nil))))) (.cons (.asg (.one 3) (.call "_law_take" (.ex (.var 0) (.ex (.cst (.int 13)) .nil)))) (.cons (.ite (.cmp .eq (.call "_law_take" (.ex (.var 0) (.ex (.cst (.int 8)) .nil))) (.cst (.int 7))) (.cons (.asg (.one 3) (.call "_law_take" (.ex (.var 0) (.ex (.cst (.int 76)) .nil)))) .nil) .nil) (.cons (.asg (.one 4) (.lst .nil)) (.cons (.for_ (.one 5) (.rng1 (.var 3)) (.cons (.ex (.meth .append (.var 4) (.cons (.tup (.cons (.call "_law_take" (.ex (.var 0) (.ex (.var 2) .nil))) (.cons (.ix (.cst (.str [97,98,99])) (.call "_law_take" (.ex (.var 0) (.ex (.var 1) .nil)))) (.cons (.call "_law_take" (.ex (.var 0) (.ex (.var 2) .nil))) (.cons (.call "_law_take" (.ex (.var 0) (.ex (.cst (.int 4)) .nil))) .nil))))) .nil))) .nil)) (.cons (.ret (.tup (.cons (.var 1) (.cons (.var 2) (.cons (.call "_law_rooms" (.ex (.var 0) (.ex (.var 2) .nil))) (.cons (.call "_law_rooms" (.ex (.var 0) (.ex (.var 2) .nil))) (.cons (.mk .tuple (.seq (.var 4))) .nil))))))) .nil)))))))⟩
noncomputable def w_word:Df:=⟨"_law_word",3,2,(.cons (.asg (.one 3) (.cst (.str []))) (.cons (.for_ (.one 4) (.rng1 (.call "_law_take" (.ex (.var 0) (.ex (.bin .add (.var 2) (.cst (.int 1))) .nil)))) (.cons (.asg (.one 3) (.bin .add (.var 3) (.ix (.cst (.str [97,98,99])) (.call "_law_take" (.ex (.var 0) (.ex (.var 1) .nil)))))) .nil)) (.cons (.ret (.var 3)) .nil)))⟩
noncomputable def d_rooms_of:Df:=⟨"rooms_of",1,0,(.cons (.ret (.ix (.var 0) (.cst (.int 1)))) .nil)⟩
noncomputable def d_begins_of:Df:=⟨"begins_of",1,0,(.cons (.ret (.ix (.var 0) (.cst (.int 2)))) .nil)⟩
noncomputable def d_ends_of:Df:=⟨"ends_of",1,0,(.cons (.ret (.ix (.var 0) (.cst (.int 3)))) .nil)⟩
noncomputable def d_doors_of:Df:=⟨"doors_of",1,0,(.cons (.ret (.ix (.var 0) (.cst (.int 4)))) .nil)⟩
noncomputable def d_grid:Df:=⟨"grid",2,2,(.cons (.asg (.one 2) (.lst .nil)) (.cons (.for_ (.one 3) (.rng1 (.var 0)) (.cons (.ex (.meth .append (.var 2) (.cons (.mk .tuple (.comp (.one 0) (.rng1 (.var 0)) (.callV 1 (.cons (.var 2) (.cons (.var 0) .nil))) [none,some 1,some 3])) .nil))) .nil)) (.cons (.ret (.mk .tuple (.seq (.var 2)))) .nil)))⟩
noncomputable def d_least:Df:=⟨"least",1,0,(.cons (.ret (.mkD .min (.compIf (.one 0) (.seq (.var 0)) (.notN (.var 0)) (.var 0) [none]) (.cst .non))) .nil)⟩
noncomputable def d_added:Df:=⟨"added",2,0,(.cons (.ite (.or (.isN (.var 0)) (.isN (.var 1))) (.cons (.ret (.cst .non)) .nil) .nil) (.cons (.ret (.bin .add (.var 0) (.var 1))) .nil))⟩
noncomputable def d_plain:Df:=⟨"plain",1,0,(.cons (.ret (.callC "grid" (.ex (.var 0) (.lam "plain.0" [] .nil)))) .nil)⟩
noncomputable def d_plain_l0:Lm:=⟨"plain.0",2,0,(.ite (.cmp .eq (.var 0) (.var 1)) (.cst (.int 0)) (.cst .non))⟩
noncomputable def d_product:Df:=⟨"product",2,1,(.cons (.asg (.one 2) (.bi .len (.cons (.var 0) .nil))) (.cons (.ret (.callC "grid" (.ex (.var 2) (.lam "product.0" [2,0,1] .nil)))) .nil))⟩
noncomputable def d_product_l0:Lm:=⟨"product.0",2,3,(.call "least" (.ex (.mk .list (.comp (.one 0) (.rng1 (.var 2)) (.call "added" (.ex (.ix (.ix (.var 1) (.var 2)) (.var 0)) (.ex (.ix (.ix (.var 3) (.var 0)) (.var 4)) .nil))) [none,some 3,some 0,some 4,some 1])) .nil))⟩
noncomputable def w_same_2:Df:=⟨"_law_same",2,2,(.cons (.ite (.or (.not (.bi .isTup (.cons (.var 0) .nil))) (.cmp .ne (.bi .len (.cons (.var 0) .nil)) (.bi .len (.cons (.var 1) .nil)))) (.cons (.ret (.cst (.bl false))) .nil) .nil) (.cons (.for_ (.one 2) (.rng1 (.bi .len (.cons (.var 1) .nil))) (.cons (.ite (.or (.not (.bi .isTup (.cons (.ix (.var 0) (.var 2)) .nil))) (.cmp .ne (.bi .len (.cons (.ix (.var 0) (.var 2)) .nil)) (.bi .len (.cons (.var 1) .nil)))) (.cons (.ret (.cst (.bl false))) .nil) .nil) (.cons (.for_ (.one 3) (.seq (.ix (.var 0) (.var 2))) (.cons (.ite (.and (.notN (.var 3)) (.or (.not (.bi .isInt (.cons (.var 3) .nil))) (.bi .isBool (.cons (.var 3) .nil)))) (.cons (.ret (.cst (.bl false))) .nil) .nil) .nil)) .nil))) (.cons (.ret (.cmp .eq (.var 0) (.var 1))) .nil)))⟩
noncomputable def d_raised:Df:=⟨"raised",4,3,(.cons (.asg (.one 4) (.var 2)) (.cons (.asg (.one 5) (.var 0)) (.cons (.asg (.one 6) (.var 1)) (.cons (.whl (.cmp .gt (.var 6) (.cst (.int 0))) (.cons (.ite (.cmp .eq (.bin .mod (.var 6) (.cst (.int 2))) (.cst (.int 1))) (.cons (.asg (.one 4) (.callV 3 (.cons (.var 4) (.cons (.var 5) .nil)))) .nil) .nil) (.cons (.asg (.one 6) (.bin .fdiv (.var 6) (.cst (.int 2)))) (.cons (.ite (.cmp .gt (.var 6) (.cst (.int 0))) (.cons (.asg (.one 5) (.callV 3 (.cons (.var 5) (.cons (.var 5) .nil)))) .nil) .nil) .nil)))) (.cons (.ret (.var 4)) .nil)))))⟩
noncomputable def d_letter_table:Df:=⟨"letter_table",2,1,(.cons (.und 2) (.cons (.ret (.callC "grid" (.ex (.call "rooms_of" (.ex (.var 0) .nil)) (.lam "letter_table.least_fee" [0,1] .nil)))) .nil))⟩
noncomputable def d_letter_table_l0:Lm:=⟨"letter_table.least_fee",2,2,(.call "least" (.ex (.mk .list (.compIf (.tup [0,1,2,3]) (.seq (.call "doors_of" (.ex (.var 2) .nil))) (.cmp .eq (.tup (.cons (.var 0) (.cons (.var 1) (.cons (.var 2) .nil)))) (.tup (.cons (.var 4) (.cons (.var 5) (.cons (.var 6) .nil))))) (.var 3) [none,none,none,none,some 0,some 3,some 1])) .nil))⟩
noncomputable def d_word_table:Df:=⟨"word_table",2,3,(.cons (.asg (.one 2) (.dic .nil .nil)) (.cons (.asg (.one 3) (.call "plain" (.ex (.call "rooms_of" (.ex (.var 0) .nil)) .nil))) (.cons (.for_ (.one 4) (.seq (.var 1)) (.cons (.ite (.cmp .notin (.var 4) (.var 2)) (.cons (.setIx (.var 2) (.var 4) (.call "letter_table" (.ex (.var 0) (.ex (.var 4) .nil)))) .nil) .nil) (.cons (.asg (.one 3) (.call "product" (.ex (.var 3) (.ex (.ix (.var 2) (.var 4)) .nil)))) .nil))) (.cons (.ret (.var 3)) .nil))))⟩
noncomputable def w_from_room:Df:=⟨"_law_from_room",3,7,(.cons (.asg (.one 3) (.mk .list (.comp (.one 0) (.rng1 (.ix (.var 0) (.cst (.int 1)))) (.cst .non) [none]))) (.cons (.setIx (.var 3) (.var 2) (.cst (.int 0))) (.cons (.for_ (.one 4) (.seq (.var 1)) (.cons (.asg (.one 5) (.mk .list (.comp (.one 0) (.seq (.var 3)) (.cst .non) [none]))) (.cons (.for_ (.tup [6,7,8,9]) (.seq (.ix (.var 0) (.cst (.int 4)))) (.cons (.ite (.and (.cmp .eq (.var 7) (.var 4)) (.notN (.ix (.var 3) (.var 6)))) (.cons (.ite (.or (.isN (.ix (.var 5) (.var 8))) (.cmp .lt (.bin .add (.ix (.var 3) (.var 6)) (.var 9)) (.ix (.var 5) (.var 8)))) (.cons (.setIx (.var 5) (.var 8) (.bin .add (.ix (.var 3) (.var 6)) (.var 9))) .nil) .nil) .nil) .nil) .nil)) (.cons (.asg (.one 3) (.var 5)) .nil)))) (.cons (.ret (.mk .tuple (.seq (.var 3)))) .nil))))⟩
noncomputable def w_law_k10:Df:=⟨"law",1,7,(.cons (.for_ (.one 1) (.rng1 (.bin .add (.bi .min2 (.cons (.bi .len (.cons (.var 0) .nil)) (.cons (.cst (.int 3)) .nil))) (.cst (.int 1)))) (.cons (.asg (.one 2) (.call "_law_bag" (.ex (.var 0) (.ex (.var 1) .nil)))) (.cons (.asg (.one 3) (.call "_law_machine" (.ex (.var 2) .nil))) (.cons (.asg (.one 4) (.call "_law_word" (.ex (.var 2) (.ex (.ix (.var 3) (.cst (.int 0))) (.ex (.ix (.lst (.cons (.cst (.int 10)) (.cons (.cst (.int 10)) (.cons (.cst (.int 10)) (.cons (.ix (.lst (.cons (.cst (.int 30)) (.cons (.cst (.int 200)) .nil))) (.bi .int (.cons (.cmp .eq (.var 1) (.cst (.int 0))) .nil))) .nil))))) (.call "_law_take" (.ex (.var 2) (.ex (.cst (.int 4)) .nil)))) .nil))))) (.cons (.asg (.one 5) (.lst (.cons (.var 4) (.cons (.cst (.str [])) (.cons (.rev (.var 4)) (.cons (.var 4) .nil)))))) (.cons (.ite (.cmp .gt (.bi .len (.cons (.var 4) .nil)) (.cst (.int 60))) (.cons (.asg (.one 5) (.lst (.cons (.var 4) .nil))) .nil) .nil) (.cons (.for_ (.one 6) (.seq (.var 5)) (.cons (.asg (.one 7) (.mk .tuple (.comp (.one 0) (.rng1 (.ix (.var 3) (.cst (.int 1)))) (.call "_law_from_room" (.ex (.var 1) (.ex (.var 2) (.ex (.var 0) .nil)))) [none,some 3,some 6]))) (.cons (.ite (.not (.call "_law_same" (.ex (.call "word_table" (.ex (.var 3) (.ex (.var 6) .nil))) (.ex (.var 7) .nil)))) (.cons (.ret (.cst (.bl false))) .nil) .nil) .nil))) .nil))))))) (.cons (.ret (.cst (.bl true))) .nil))⟩
noncomputable def d_at_begins_and_ends:Df:=⟨"at_begins_and_ends",2,2,(.cons (.asg (.one 2) (.lst .nil)) (.cons (.for_ (.one 3) (.seq (.call "begins_of" (.ex (.var 0) .nil))) (.cons (.ex (.ext (.var 2) (.comp (.one 0) (.seq (.call "ends_of" (.ex (.var 0) .nil))) (.ix (.ix (.var 1) (.var 2)) (.var 0)) [none,some 1,some 3]))) .nil)) (.cons (.ret (.var 2)) .nil)))⟩
noncomputable def d_price:Df:=⟨"price",2,0,(.cons (.ret (.call "least" (.ex (.call "at_begins_and_ends" (.ex (.var 0) (.ex (.call "word_table" (.ex (.var 0) (.ex (.var 1) .nil))) .nil))) .nil))) .nil)⟩
noncomputable def d_sign_of:Df:=⟨"sign_of",1,0,(.cons (.ite (.isN (.var 0)) (.cons (.ret (.glob "NONE")) .nil) .nil) (.cons (.ret (.ite (.cmp .eq (.var 0) (.cst (.int 0))) (.glob "FREE") (.glob "SOME"))) .nil))⟩
noncomputable def d_reading:Df:=⟨"reading",1,0,(.cons (.ret (.callC "grid" (.ex (.bi .len (.cons (.var 0) .nil)) (.lam "reading.0" [0] .nil)))) .nil)⟩
noncomputable def d_reading_l0:Lm:=⟨"reading.0",2,1,(.call "sign_of" (.ex (.ix (.ix (.var 2) (.var 0)) (.var 1)) .nil))⟩
noncomputable def d_plain_signs:Df:=⟨"plain_signs",1,0,(.cons (.ret (.callC "grid" (.ex (.var 0) (.lam "plain_signs.0" [] .nil)))) .nil)⟩
noncomputable def qr:Lm:=⟨"plain_signs.0",2,0,(.ite (.cmp .eq (.var 0) (.var 1)) (.glob "FREE") (.glob "NONE"))⟩
noncomputable def w_box:Df:=⟨"_law_box",2,4,(.cons (.asg (.one 2) (.cst (.int 0))) (.cons (.ite (.cmp .lt (.var 1) (.bi .len (.cons (.var 0) .nil))) (.cons (.asg (.one 2) (.bi .abs (.cons (.ix (.var 0) (.var 1)) .nil))) .nil) .nil) (.cons (.ite (.cmp .ge (.var 2) (.bin .pow (.cst (.int 10)) (.cst (.int 18)))) (.cons (.ret (.lst (.cons (.var 2) .nil))) .nil) .nil) (.cons (.asg (.one 3) (.cst (.int 0))) (.cons (.for_ (.one 4) (.rng1 (.cst (.int 128))) (.cons (.asg (.one 5) (.bin .mod (.bin .mul (.bin .add (.bin .add (.bin .add (.bin .mod (.var 2) (.cst (.int 2147483647))) (.bin .mul (.cst (.int 7919)) (.var 1))) (.bin .mul (.cst (.int 104729)) (.var 4))) (.cst (.int 97))) (.cst (.int 48271))) (.cst (.int 2147483647)))) (.cons (.asg (.one 3) (.bin .add (.bin .mul (.var 3) (.cst (.int 2147483647))) (.bin .mod (.bin .add (.bin .add (.bin .mul (.var 5) (.var 5)) (.bin .mul (.cst (.int 31)) (.var 4))) (.bin .fdiv (.var 2) (.cst (.int 2147483647)))) (.cst (.int 2147483647))))) .nil))) (.cons (.ret (.lst (.cons (.var 3) .nil))) .nil))))))⟩
noncomputable def w_draw:Df:=⟨"_law_draw",2,1,(.cons (.asg (.one 2) (.bin .mod (.ix (.var 0) (.cst (.int 0))) (.var 1))) (.cons (.setIx (.var 0) (.cst (.int 0)) (.bin .fdiv (.ix (.var 0) (.cst (.int 0))) (.var 1))) (.cons (.ret (.var 2)) .nil)))⟩
noncomputable def w_form:Df:=⟨"_law_form",2,2,(.cons (.ite (.or (.not (.bi .isTup (.cons (.var 0) .nil))) (.cmp .ne (.bi .len (.cons (.var 0) .nil)) (.var 1))) (.cons (.ret (.cst (.bl false))) .nil) .nil) (.cons (.for_ (.one 2) (.seq (.var 0)) (.cons (.ite (.or (.not (.bi .isTup (.cons (.var 2) .nil))) (.cmp .ne (.bi .len (.cons (.var 2) .nil)) (.var 1))) (.cons (.ret (.cst (.bl false))) .nil) .nil) (.cons (.for_ (.one 3) (.seq (.var 2)) (.cons (.ite (.or (.not (.bi .isInt (.cons (.var 3) .nil))) (.bi .isBool (.cons (.var 3) .nil))) (.cons (.ret (.cst (.bl false))) .nil) .nil) .nil)) .nil))) (.cons (.ret (.cst (.bl true))) .nil)))⟩
noncomputable def d_sign_product:Df:=⟨"sign_product",2,1,(.cons (.asg (.one 2) (.bi .len (.cons (.var 0) .nil))) (.cons (.ret (.callC "grid" (.ex (.var 2) (.lam "sign_product.0" [2,0,1] .nil)))) .nil))⟩
noncomputable def d_sign_product_l0:Lm:=⟨"sign_product.0",2,3,(.mk .min (.comp (.one 0) (.rng1 (.var 2)) (.bi .max2 (.cons (.ix (.ix (.var 1) (.var 2)) (.var 0)) (.cons (.ix (.ix (.var 3) (.var 0)) (.var 4)) .nil))) [none,some 3,some 0,some 4,some 1]))⟩
noncomputable def w_signs:Df:=⟨"_law_signs",2,6,(.cons (.asg (.one 2) (.call "_law_draw" (.ex (.var 0) (.ex (.cst (.int 4)) .nil)))) (.cons (.asg (.one 3) (.lst .nil)) (.cons (.for_ (.one 4) (.rng1 (.var 1)) (.cons (.asg (.one 5) (.lst .nil)) (.cons (.for_ (.one 6) (.rng1 (.var 1)) (.cons (.asg (.one 7) (.call "_law_draw" (.ex (.var 0) (.ex (.cst (.int 4)) .nil)))) (.cons (.ite (.or (.and (.cmp .eq (.var 2) (.cst (.int 1))) (.cmp .gt (.call "_law_draw" (.ex (.var 0) (.ex (.cst (.int 3)) .nil))) (.cst (.int 0)))) (.and (.cmp .eq (.var 2) (.cst (.int 2))) (.cmp .gt (.var 4) (.var 6)))) (.cons (.asg (.one 7) (.cst (.int 3))) .nil) .nil) (.cons (.ite (.and (.cmp .eq (.var 2) (.cst (.int 3))) (.and (.cmp .ne (.var 6) (.bin .mod (.bin .add (.var 4) (.cst (.int 1))) (.var 1))) (.cmp .gt (.call "_law_draw" (.ex (.var 0) (.ex (.cst (.int 4)) .nil))) (.cst (.int 0))))) (.cons (.asg (.one 7) (.cst (.int 3))) .nil) .nil) (.cons (.ex (.meth .append (.var 5) (.cons (.var 7) .nil))) .nil))))) (.cons (.ex (.meth .append (.var 3) (.cons (.mk .tuple (.seq (.var 5))) .nil))) .nil)))) (.cons (.ret (.mk .tuple (.seq (.var 3)))) .nil))))⟩
noncomputable def w_product_2:Df:=⟨"_law_product",2,4,(.cons (.asg (.one 2) (.lst .nil)) (.cons (.for_ (.one 3) (.seq (.var 0)) (.cons (.asg (.one 4) (.mk .list (.comp (.one 0) (.seq (.var 3)) (.cst (.int 3)) [none]))) (.cons (.for_ (.one 5) (.rng1 (.bi .len (.cons (.var 3) .nil))) (.cons (.ite (.cmp .lt (.ix (.var 3) (.var 5)) (.cst (.int 3))) (.cons (.asg (.one 4) (.mk .list (.comp (.one 0) (.rng1 (.bi .len (.cons (.var 3) .nil))) (.bi .min2 (.cons (.ix (.var 1) (.var 0)) (.cons (.bi .max2 (.cons (.ix (.var 2) (.var 3)) (.cons (.ix (.ix (.var 4) (.var 3)) (.var 0)) .nil))) .nil))) [none,some 4,some 3,some 5,some 1]))) .nil) .nil) .nil)) (.cons (.ex (.meth .append (.var 2) (.cons (.mk .tuple (.seq (.var 4))) .nil))) .nil)))) (.cons (.ret (.mk .tuple (.seq (.var 2)))) .nil)))⟩
noncomputable def d_sign_power:Df:=⟨"sign_power",2,0,(.cons (.ret (.call "raised" (.ex (.var 0) (.ex (.var 1) (.ex (.call "plain_signs" (.ex (.bi .len (.cons (.var 0) .nil)) .nil)) (.ex (.glob "sign_product") .nil)))))) .nil)⟩
noncomputable def w_unit:Df:=⟨"_law_unit",1,0,(.cons (.ret (.mk .tuple (.comp (.one 0) (.rng1 (.var 0)) (.mk .tuple (.comp (.one 0) (.rng1 (.var 1)) (.bin .mul (.cst (.int 3)) (.bi .int (.cons (.cmp .ne (.var 1) (.var 0)) .nil))) [none,some 0])) [none,some 0]))) .nil)⟩
noncomputable def w_round:Df:=⟨"_law_round",1,2,(.cons (.asg (.one 1) (.lst (.cons (.call "_law_unit" (.ex (.bi .len (.cons (.var 0) .nil)) .nil)) .nil))) (.cons (.whl (.cst (.bl true)) (.cons (.asg (.one 2) (.call "_law_product" (.ex (.ix (.var 1) (.neg (.cst (.int 1)))) (.ex (.var 0) .nil)))) (.cons (.ite (.cmp .isin (.var 2) (.var 1)) (.cons (.ret (.tup (.cons (.var 1) (.cons (.meth .index (.var 1) (.cons (.var 2) .nil)) .nil)))) .nil) .nil) (.cons (.ex (.meth .append (.var 1) (.cons (.var 2) .nil))) .nil)))) .nil))⟩
noncomputable def w_due_2:Df:=⟨"_law_due",3,0,(.cons (.ite (.cmp .lt (.var 2) (.bi .len (.cons (.var 0) .nil))) (.cons (.ret (.ix (.var 0) (.var 2))) .nil) .nil) (.cons (.ret (.ix (.var 0) (.bin .add (.var 1) (.bin .mod (.bin .sub (.var 2) (.var 1)) (.bin .sub (.bi .len (.cons (.var 0) .nil)) (.var 1)))))) .nil))⟩
noncomputable def w_law_k22:Df:=⟨"law",1,9,(.cons (.for_ (.one 1) (.rng1 (.bin .add (.bi .min2 (.cons (.cst (.int 8)) (.cons (.bi .len (.cons (.var 0) .nil)) .nil))) (.cst (.int 1)))) (.cons (.asg (.one 2) (.call "_law_box" (.ex (.var 0) (.ex (.var 1) .nil)))) (.cons (.asg (.one 3) (.bin .add (.cst (.int 1)) (.call "_law_draw" (.ex (.var 2) (.ex (.cst (.int 5)) .nil))))) (.cons (.asg (.one 4) (.call "_law_signs" (.ex (.var 2) (.ex (.var 3) .nil)))) (.cons (.asg (.tup [5,6]) (.call "_law_round" (.ex (.var 4) .nil))) (.cons (.asg (.one 7) (.bin .mul (.call "_law_draw" (.ex (.var 2) (.ex (.bin .pow (.cst (.int 10)) (.cst (.int 30))) .nil))) (.bin .pow (.cst (.int 10)) (.cst (.int 29))))) (.cons (.ite (.cmp .gt (.var 1) (.cst (.int 0))) (.cons (.asg (.one 7) (.cst (.int 0))) .nil) .nil) (.cons (.for_ (.one 8) (.seq (.lst (.cons (.cst (.int 0)) (.cons (.cst (.int 1)) (.cons (.bin .add (.cst (.int 2)) (.call "_law_draw" (.ex (.var 2) (.ex (.cst (.int 30)) .nil)))) (.cons (.call "_law_draw" (.ex (.var 2) (.ex (.cst (.int 1000)) .nil))) (.cons (.bin .add (.var 7) (.call "_law_draw" (.ex (.var 2) (.ex (.cst (.int 1000)) .nil)))) .nil))))))) (.cons (.asg (.one 9) (.call "sign_power" (.ex (.var 4) (.ex (.var 8) .nil)))) (.cons (.ite (.or (.not (.call "_law_form" (.ex (.var 9) (.ex (.var 3) .nil)))) (.cmp .ne (.var 9) (.call "_law_due" (.ex (.var 5) (.ex (.var 6) (.ex (.var 8) .nil)))))) (.cons (.ret (.cst (.bl false))) .nil) .nil) (.cons (.ite (.cmp .ne (.call "sign_product" (.ex (.var 9) (.ex (.call "sign_power" (.ex (.var 4) (.ex (.cst (.int 7)) .nil))) .nil))) (.call "_law_due" (.ex (.var 5) (.ex (.var 6) (.ex (.bin .add (.var 8) (.cst (.int 7))) .nil))))) (.cons (.ret (.cst (.bl false))) .nil) .nil) .nil)))) .nil)))))))) (.cons (.ret (.cst (.bl true))) .nil))⟩
noncomputable def qE:Df:=⟨"is_steady",1,0,(.cons (.ret (.cmp .eq (.call "sign_product" (.ex (.var 0) (.ex (.var 0) .nil))) (.var 0))) .nil)⟩
noncomputable def d_round_of:Df:=⟨"round_of",1,0,(.cons (.ite (.or (.cmp .eq (.var 0) (.glob "FREE")) (.cmp .eq (.var 0) (.glob "NONE"))) (.cons (.ret (.var 0)) .nil) .nil) (.cons (.ret (.glob "UNBOUND")) .nil))⟩
noncomputable def d_sharpened:Df:=⟨"sharpened",1,2,(.cons (.ite (.not (.call "is_steady" (.ex (.var 0) .nil))) (.cons .raise .nil) .nil) (.cons (.asg (.one 1) (.bi .len (.cons (.var 0) .nil))) (.cons (.asg (.one 2) (.mk .list (.comp (.one 0) (.rng1 (.var 1)) (.call "round_of" (.ex (.ix (.ix (.var 1) (.var 0)) (.var 0)) .nil)) [none,some 0]))) (.cons (.ret (.callC "grid" (.ex (.var 1) (.lam "sharpened.0" [1,0,2] .nil)))) .nil))))⟩
noncomputable def qD:Lm:=⟨"sharpened.0",2,3,(.mk .min (.comp (.one 0) (.rng1 (.var 2)) (.bi .max3 (.cons (.ix (.ix (.var 1) (.var 2)) (.var 0)) (.cons (.ix (.var 3) (.var 0)) (.cons (.ix (.ix (.var 1) (.var 0)) (.var 4)) .nil)))) [none,some 3,some 0,some 4,some 1]))⟩
noncomputable def qC:Df:=⟨"steady_power",1,2,(.cons (.asg (.one 1) (.cst (.int 1))) (.cons (.asg (.one 2) (.var 0)) (.cons (.whl (.not (.call "is_steady" (.ex (.var 2) .nil))) (.cons (.aug 1 (.cst (.int 1))) (.cons (.asg (.one 2) (.call "sign_product" (.ex (.var 2) (.ex (.var 0) .nil)))) .nil))) (.cons (.ret (.tup (.cons (.var 1) (.cons (.var 2) .nil)))) .nil))))⟩
noncomputable def w_goes_with:Df:=⟨"_law_goes_with",2,4,(.cons (.for_ (.tup [2,3]) (.zip (.seq (.var 0)) (.seq (.var 1))) (.cons (.for_ (.tup [4,5]) (.zip (.seq (.var 2)) (.seq (.var 3))) (.cons (.ite (.or (.cmp .lt (.var 5) (.var 4)) (.or (.cmp .ne (.cmp .eq (.var 5) (.cst (.int 0))) (.cmp .eq (.var 4) (.cst (.int 0)))) (.cmp .ne (.cmp .eq (.var 5) (.cst (.int 3))) (.cmp .eq (.var 4) (.cst (.int 3)))))) (.cons (.ret (.cst (.bl false))) .nil) .nil) .nil)) .nil)) (.cons (.ret (.cmp .eq (.bi .len (.cons (.var 0) .nil)) (.bi .len (.cons (.var 1) .nil)))) .nil))⟩
noncomputable def w_right:Df:=⟨"_law_right",1,3,(.cons (.asg (.tup [1,2]) (.call "steady_power" (.ex (.var 0) .nil))) (.cons (.asg (.one 3) (.call "sharpened" (.ex (.var 2) .nil))) (.cons (.ite (.or (.notB (.call "is_steady" (.ex (.var 3) .nil)) true) (.cmp .ne (.call "sharpened" (.ex (.var 3) .nil)) (.var 3))) (.cons (.ret (.cst (.bl false))) .nil) .nil) (.cons (.ite (.or (.cmp .ne (.call "sign_product" (.ex (.var 3) (.ex (.var 2) .nil))) (.var 3)) (.cmp .ne (.call "sign_product" (.ex (.var 2) (.ex (.var 3) .nil))) (.var 3))) (.cons (.ret (.cst (.bl false))) .nil) .nil) (.cons (.ret (.call "_law_goes_with" (.ex (.var 2) (.ex (.var 3) .nil)))) .nil)))))⟩
noncomputable def w_law_k25:Df:=⟨"law",1,7,(.cons (.for_ (.one 1) (.rng1 (.bin .add (.bi .min2 (.cons (.cst (.int 12)) (.cons (.bi .len (.cons (.var 0) .nil)) .nil))) (.cst (.int 1)))) (.cons (.asg (.one 2) (.call "_law_box" (.ex (.var 0) (.ex (.var 1) .nil)))) (.cons (.asg (.one 3) (.bin .add (.cst (.int 1)) (.call "_law_draw" (.ex (.var 2) (.ex (.cst (.int 5)) .nil))))) (.cons (.asg (.one 4) (.call "_law_signs" (.ex (.var 2) (.ex (.var 3) .nil)))) (.cons (.asg (.one 5) (.call "_law_signs" (.ex (.var 2) (.ex (.var 3) .nil)))) (.cons (.asg (.one 6) (.call "sign_product" (.ex (.call "sharpened" (.ex (.ix (.call "steady_power" (.ex (.var 4) .nil)) (.cst (.int 1))) .nil)) (.ex (.var 5) .nil)))) (.cons (.for_ (.one 7) (.seq (.lst (.cons (.var 4) (.cons (.call "sign_product" (.ex (.var 4) (.ex (.var 5) .nil))) (.cons (.call "sign_product" (.ex (.var 5) (.ex (.var 4) .nil))) (.cons (.var 6) .nil)))))) (.cons (.ite (.not (.call "_law_right" (.ex (.var 7) .nil))) (.cons (.ret (.cst (.bl false))) .nil) .nil) .nil)) .nil))))))) (.cons (.ret (.cst (.bl true))) .nil))⟩
noncomputable def d_word_signs:Df:=⟨"word_signs",2,0,(.cons (.ret (.call "reading" (.ex (.call "word_table" (.ex (.var 0) (.ex (.var 1) .nil))) .nil))) .nil)⟩
noncomputable def d_end_sign:Df:=⟨"end_sign",2,0,(.cons (.ret (.mkDs .min (.call "at_begins_and_ends" (.ex (.var 0) (.ex (.var 1) .nil))) (.glob "NONE"))) .nil)⟩
noncomputable def w_machine_3:Df:=⟨"_law_machine",1,12,(.cons (.asg (.one 1) (.bin .add (.cst (.int 1)) (.call "_law_draw" (.ex (.var 0) (.ex (.cst (.int 3)) .nil))))) (.cons (.asg (.one 2) (.bin .add (.cst (.int 1)) (.call "_law_draw" (.ex (.var 0) (.ex (.cst (.int 5)) .nil))))) (.cons (.asg (.one 3) (.call "_law_draw" (.ex (.var 0) (.ex (.bin .add (.bin .mul (.cst (.int 3)) (.var 2)) (.cst (.int 2))) .nil)))) (.cons (.ite (.cmp .eq (.call "_law_draw" (.ex (.var 0) (.ex (.cst (.int 8)) .nil))) (.cst (.int 5))) (.cons (.asg (.one 3) (.call "_law_draw" (.ex (.var 0) (.ex (.cst (.int 76)) .nil)))) .nil) .nil) (.cons (.asg (.one 4) (.ix (.lst (.cons (.cst (.int 2)) (.cons (.cst (.int 2)) (.cons (.cst (.int 4)) (.cons (.cst (.int 1)) .nil))))) (.call "_law_draw" (.ex (.var 0) (.ex (.cst (.int 4)) .nil))))) (.cons (.asg (.one 5) (.lst .nil)) (.cons (.for_ (.one 6) (.rng1 (.var 3)) (.cons (.asg (.one 7) (.call "_law_draw" (.ex (.var 0) (.ex (.var 2) .nil)))) (.cons (.asg (.one 8) (.call "_law_draw" (.ex (.var 0) (.ex (.var 2) .nil)))) (.cons (.asg (.one 9) (.ix (.cst (.str [97,98,99])) (.call "_law_draw" (.ex (.var 0) (.ex (.var 1) .nil))))) (.cons (.ex (.meth .append (.var 5) (.cons (.tup (.cons (.var 7) (.cons (.var 9) (.cons (.var 8) (.cons (.call "_law_draw" (.ex (.var 0) (.ex (.var 4) .nil))) .nil))))) .nil))) .nil))))) (.cons (.asg (.one 10) (.call "_law_draw" (.ex (.var 0) (.ex (.bin .shl (.cst (.int 1)) (.var 2)) .nil)))) (.cons (.asg (.one 11) (.mk .tuple (.compIf (.one 0) (.rng1 (.var 2)) (.cmp .eq (.bin .mod (.bin .shr (.var 1) (.var 0)) (.cst (.int 2))) (.cst (.int 1))) (.var 0) [none,some 10]))) (.cons (.asg (.one 10) (.call "_law_draw" (.ex (.var 0) (.ex (.bin .shl (.cst (.int 1)) (.var 2)) .nil)))) (.cons (.asg (.one 12) (.mk .tuple (.compIf (.one 0) (.rng1 (.var 2)) (.cmp .eq (.bin .mod (.bin .shr (.var 1) (.var 0)) (.cst (.int 2))) (.cst (.int 1))) (.var 0) [none,some 10]))) (.cons (.ret (.tup (.cons (.var 1) (.cons (.var 2) (.cons (.var 11) (.cons (.var 12) (.cons (.mk .tuple (.seq (.var 5))) .nil))))))) .nil))))))))))))⟩
noncomputable def w_letter_signs:Df:=⟨"_law_letter_signs",2,6,(.cons (.asg (.one 2) (.ix (.var 0) (.cst (.int 1)))) (.cons (.asg (.one 3) (.mk .list (.comp (.one 0) (.rng1 (.var 2)) (.mk .list (.comp (.one 0) (.rng1 (.var 1)) (.cst (.int 3)) [none])) [none,some 2]))) (.cons (.for_ (.tup [4,5,6,7]) (.seq (.ix (.var 0) (.cst (.int 4)))) (.cons (.ite (.cmp .eq (.var 5) (.var 1)) (.cons (.setIx (.ix (.var 3) (.var 4)) (.var 6) (.bi .min2 (.cons (.ix (.ix (.var 3) (.var 4)) (.var 6)) (.cons (.bi .int (.cons (.cmp .gt (.var 7) (.cst (.int 0))) .nil)) .nil)))) .nil) .nil) .nil)) (.cons (.ret (.mk .tuple (.comp (.one 0) (.seq (.var 3)) (.mk .tuple (.seq (.var 0))) [none]))) .nil))))⟩
noncomputable def w_law_k26:Df:=⟨"law",1,11,(.cons (.for_ (.one 1) (.rng1 (.bin .add (.bi .min2 (.cons (.cst (.int 3)) (.cons (.bi .len (.cons (.var 0) .nil)) .nil))) (.cst (.int 1)))) (.cons (.asg (.one 2) (.call "_law_box" (.ex (.var 0) (.ex (.var 1) .nil)))) (.cons (.asg (.one 3) (.call "_law_machine" (.ex (.var 2) .nil))) (.cons (.asg (.one 4) (.call "_law_draw" (.ex (.var 2) (.ex (.cst (.int 61)) .nil)))) (.cons (.ite (.and (.cmp .eq (.call "_law_draw" (.ex (.var 2) (.ex (.cst (.int 8)) .nil))) (.cst (.int 3))) (.cmp .eq (.var 1) (.cst (.int 0)))) (.cons (.asg (.one 4) (.call "_law_draw" (.ex (.var 2) (.ex (.cst (.int 201)) .nil)))) .nil) .nil) (.cons (.asg (.one 5) (.cst (.str []))) (.cons (.asg (.one 6) (.call "_law_unit" (.ex (.ix (.var 3) (.cst (.int 1))) .nil))) (.cons (.asg (.one 7) (.mk .list (.comp (.one 0) (.seq (.slU (.cst (.str [97,98,99])) (.ix (.var 3) (.cst (.int 0))))) (.call "_law_letter_signs" (.ex (.var 1) (.ex (.var 0) .nil))) [none,some 3]))) (.cons (.for_ (.one 8) (.rng1 (.var 4)) (.cons (.asg (.one 9) (.call "_law_draw" (.ex (.var 2) (.ex (.ix (.var 3) (.cst (.int 0))) .nil)))) (.cons (.asg (.one 5) (.bin .add (.var 5) (.ix (.cst (.str [97,98,99])) (.var 9)))) (.cons (.asg (.one 6) (.call "_law_product" (.ex (.var 6) (.ex (.ix (.var 7) (.var 9)) .nil)))) .nil)))) (.cons (.asg (.one 10) (.call "word_signs" (.ex (.var 3) (.ex (.var 5) .nil)))) (.cons (.ite (.or (.not (.call "_law_form" (.ex (.var 10) (.ex (.ix (.var 3) (.cst (.int 1))) .nil)))) (.or (.cmp .ne (.var 10) (.var 6)) (.cmp .ne (.call "reading" (.ex (.call "word_table" (.ex (.var 3) (.ex (.var 5) .nil))) .nil)) (.var 6)))) (.cons (.ret (.cst (.bl false))) .nil) .nil) (.cons (.asg (.one 11) (.call "_law_draw" (.ex (.var 2) (.ex (.bin .add (.var 4) (.cst (.int 1))) .nil)))) (.cons (.ite (.cmp .ne (.call "sign_product" (.ex (.call "word_signs" (.ex (.var 3) (.ex (.slU (.var 5) (.var 11)) .nil))) (.ex (.call "word_signs" (.ex (.var 3) (.ex (.slL (.var 5) (.var 11)) .nil))) .nil))) (.var 6)) (.cons (.ret (.cst (.bl false))) .nil) .nil) (.cons (.ite (.cmp .ne (.call "end_sign" (.ex (.var 3) (.ex (.var 10) .nil))) (.call "sign_of" (.ex (.call "price" (.ex (.var 3) (.ex (.var 5) .nil))) .nil))) (.cons (.ret (.cst (.bl false))) .nil) .nil) .nil)))))))))))))) (.cons (.ret (.cst (.bl true))) .nil))⟩
noncomputable def w_on:Df:=⟨"_law_on",3,5,(.cons (.asg (.one 3) (.mk .list (.comp (.one 0) (.seq (.var 2)) (.cst .non) [none]))) (.cons (.for_ (.tup [4,5,6,7]) (.seq (.ix (.var 0) (.cst (.int 4)))) (.cons (.ite (.and (.cmp .eq (.var 5) (.var 1)) (.notN (.ix (.var 2) (.var 4)))) (.cons (.ite (.or (.isN (.ix (.var 3) (.var 6))) (.cmp .lt (.bin .add (.ix (.var 2) (.var 4)) (.var 7)) (.ix (.var 3) (.var 6)))) (.cons (.setIx (.var 3) (.var 6) (.bin .add (.ix (.var 2) (.var 4)) (.var 7))) .nil) .nil) .nil) .nil) .nil)) (.cons (.ret (.var 3)) .nil)))⟩
end DV
end
noncomputable section
namespace DV
class Has (P:Pr)(d:Df):Prop where
 eq:P.df d.name=some d
class HasL (P:Pr)(d:Lm):Prop where
 eq:P.lm d.id=some d
class HasC (P:Pr)(x:String)(v:D):Prop where
 eq:P.con x=some v
noncomputable def fin (s:Sto)(c:Ct)(s':Sto):R D:=match c with
 | .ret v=>zA s v s'
 | .next _=>zA s .non s'
 | _=>.bad
@[simp] theorem fin_ret (s:Sto) (v:D) (s':Sto):fin s (.ret v) s'=zA s v s':=rfl
@[simp] theorem fin_next (s:Sto) (ρ:Env) (s':Sto):fin s (.next ρ) s'=zA s .non s':=rfl
theorem zg {P:Pr}(d:Df)[h:Has P d]{n:Nat}{l:List D}{s:Sto}(hl:l.length=d.ps) :
  (callN P (n+1)).call d.name l s=(exs (callN P n) d.body (l.map some++List.replicate d.vs none) s).bind (fin s):=by
 simp only [callN,h.eq,hl,if_true]
 rfl
theorem lam_def {P:Pr}(d:Lm)[h:HasL P d]{n:Nat}{cs l:List D}{s:Sto}(hl:l.length=d.ps)(hc:cs.length=d.cs)(hn:(D.nclL l&&D.nclL cs&&s.all O.ncl)=true) :
  (callN P (n+1)).lam d.id cs l s=(ev (callN P n) d.body (l.map some++cs.map some) s).bind (zA s):=by
 simp only [callN,h.eq,hl,hc,hn,and_self,if_true]
theorem con_def {P:Pr}{x:String}{v:D}[h:HasC P x v]{n:Nat}:(callN P n).con x=some v:=by
 cases n<;>exact h.eq
theorem okOld_app (s t:Sto):okOld s (s++t)=true:=by
 unfold okOld
 rw [List.all_eq_true]
 intro i hi
 rw [List.mem_range] at hi
 rw [List.getElem?_append_left hi]
 simp
theorem okOld_set (s t:Sto)(r:Nat)(o:O)(h:o.bnd s.length=true):okOld s (s.set r o++t)=true:=by
 unfold okOld
 rw [List.all_eq_true]
 intro i hi
 rw [List.mem_range] at hi
 rw [List.getElem?_append_left (by rw [List.length_set];exact hi)]
 by_cases e:r=i
 ·subst e;rw [List.getElem?_set_self hi];simp [h]
 ·rw [List.getElem?_set_ne e];simp
theorem zO {s t:Sto}{d:D}(h:∀ n,d.bnd n=true)(hr:∀ r,d≠.ref r):zA s d (s++t)=.ok d s:=by
 unfold zA
 rw [okOld_app,if_pos rfl]
 cases d with
 | ref r=>exact absurd rfl (hr r)
 | _=>simp [h]
theorem zo {s:Sto}{d:D}(h:∀ n,d.bnd n=true)(hr:∀ r,d≠.ref r):zA s d s=.ok d s:=by
 have:=zO (s:=s) (t:=[]) h hr
 rwa [List.append_nil] at this
theorem canon_set {s t:Sto}{d:D}{r:Nat}{o:O}(h:∀ n,d.bnd n=true)(hr:∀ r,d≠.ref r)(ho:o.bnd s.length=true):zA s d (s.set r o++t)=.ok d (s.set r o):=by
 unfold zA
 rw [okOld_set s t r o ho,if_pos rfl]
 have e:(s.set r o++t).take s.length=s.set r o:=by rw [List.take_append_of_le_length (by simp),List.take_of_length_le (by simp)]
 cases d with
 | ref r=>exact absurd rfl (hr r)
 | _=>simp only [h,if_true,e]
theorem canon_set0 {s:Sto}{d:D}{r:Nat}{o:O}(h:∀ n,d.bnd n=true)(hr:∀ r,d≠.ref r)(ho:o.bnd s.length=true):zA s d (s.set r o)=.ok d (s.set r o):=by
 have:=canon_set (s:=s) (t:=[]) (r:=r) h hr ho
 rwa [List.append_nil] at this
theorem canon_new {s t u:Sto}{o:O}(ho:o.bnd s.length=true):zA s (.ref (s.length+t.length)) (s++(t++o::u))=.ok (.ref s.length) (s++[o]):=by
 unfold zA
 rw [okOld_app,if_pos rfl]
 simp [ho,List.getElem?_append_right]
@[simp] theorem z6 {s:Sto} {i:Int}:zA s (.int i) s=.ok (.int i) s:=zo (fun _=>rfl) (by nofun)
@[simp] theorem canon_bl {s:Sto} {i:Bool}:zA s (.bl i) s=.ok (.bl i) s:=zo (fun _=>rfl) (by nofun)
@[simp] theorem canon_non {s:Sto}:zA s .non s=.ok .non s:=zo (fun _=>rfl) (by nofun)
@[simp] theorem canon_str {s:Sto} {x:List Nat}:zA s (.str x) s=.ok (.str x) s:=zo (fun _=>rfl) (by nofun)
theorem qI {ok:Sto->Bool}{g:D->Env->Sto->R Ct}(P:Nat->Env->Sto->Prop):∀ (l:List D) (k:Nat) (ρ:Env) (s:Sto),
  P k ρ s->(∀ (j:Nat) (ρ:Env) (s:Sto),j<=l.length->P (k+j) ρ s->ok s=true)->(∀ (j:Nat) (d:D) (ρ:Env) (s:Sto),l[j]?=some d->P (k+j) ρ s->∃ ρ' s',(g d ρ s=.ok (.next ρ') s'\/g d ρ s=.ok (.cont ρ') s')/\P (k+j+1) ρ' s') ->
  ∃ ρ' s',forL ok g l ρ s=.ok (.next ρ') s'/\P (k+l.length) ρ' s'
 | [],k,ρ,s,h,o,_=>⟨ρ,s,by show (if ok s then _ else _)=_;rw [if_pos (o 0 ρ s (Nat.le_refl _) h)],h⟩
 | d::l,k,ρ,s,h,o,t=>by
  have ho:=o 0 ρ s (Nat.zero_le _) h
  obtain ⟨ρ1,s1,hg,h1⟩:=t 0 d ρ s rfl h
  obtain ⟨ρ2,s2,e,h2⟩:=qI P l (k+1) ρ1 s1 h1 (fun j ρ' s' hj hp=>o (j+1) ρ' s' (by simpa using hj) (by rwa [show k+(j+1)=k+1+j by omega])) fun j d' ρ' s' hj hp=>by
   have:=t (j+1) d' ρ' s' (by simpa using hj) (by rwa [show k+(j+1)=k+1+j by omega])
   rwa [show k+(j+1)+1=k+1+j+1 by omega] at this
  refine ⟨ρ2,s2,?_,by rwa [List.length_cons,show k+(l.length+1)=k+1+l.length by omega]⟩
  show (if ok s then _ else _)=_
  rw [if_pos ho]
  rcases hg with hg | hg<;>(rw [hg];exact e)
noncomputable def Nx (Q:Env->Sto->Prop):R Ct->Prop
 | .ok (.next ρ) s=>Q ρ s
 | .ok (.cont ρ) s=>Q ρ s
 | _=>False
@[simp] theorem Nx_next (Q:Env->Sto->Prop) (ρ:Env) (s:Sto):Nx Q (.ok (.next ρ) s)=Q ρ s:=rfl
@[simp] theorem Nx_cont (Q:Env->Sto->Prop) (ρ:Env) (s:Sto):Nx Q (.ok (.cont ρ) s)=Q ρ s:=rfl
theorem Nx_of {Q:Env->Sto->Prop}{r:R Ct}{ρ:Env}{s:Sto}(e:r=.ok (.next ρ) s)(h:Q ρ s):Nx Q r:=by rw [e];exact h
theorem Nx.out {Q:Env->Sto->Prop}:∀ {r:R Ct},Nx Q r->∃ ρ s,(r=.ok (.next ρ) s\/r=.ok (.cont ρ) s)/\Q ρ s
 | .ok (.next ρ) s,h=>⟨ρ,s,.inl rfl,h⟩
 | .ok (.cont ρ) s,h=>⟨ρ,s,.inr rfl,h⟩
 | .ok (.ret _) _,h=>h.elim
 | .ok (.brk _) _,h=>h.elim
 | .exc _ _,h=>h.elim
 | .bad,h=>h.elim
noncomputable def Tst (A B:Sto->Prop):R D->Prop
 | .ok (.bl false) s=>A s
 | .ok (.bl true) s=>B s
 | _=>False
@[simp] theorem Tst_bl (A B:Sto->Prop) (b:Bool) (s:Sto):Tst A B (.ok (.bl b) s)=if b then B s else A s:=by cases b<;>rfl
theorem for_want {ok:Sto->Bool}{g:D->Env->Sto->R Ct}{l:List D}{ρ:Env}{s:Sto}{α:Type}{f:Ct->Sto->R α}{W:R α->Prop}(P:Nat->Env->Sto->Prop)(h:P 0 ρ s)
  (o:∀ (j:Nat) (ρ:Env) (s:Sto),j<=l.length->P j ρ s->ok s=true) (step:∀ (j:Nat) (d:D) (ρ:Env) (s:Sto),l[j]?=some d->P j ρ s->Nx (P (j+1)) (g d ρ s))
  (hf:∀ ρ' s',P l.length ρ' s'->W (f (.next ρ') s')):W ((forL ok g l ρ s).bind f):=by
 obtain ⟨ρ',s',e,q⟩:=qI P l 0 ρ s h (fun j ρ s hj hp=>o j ρ s hj (by rwa [Nat.zero_add] at hp)) (fun j d ρ s hj hp=>by
  rw [Nat.zero_add] at hp ⊢
  exact (step j d ρ s hj hp).out)
 rw [e]
 rw [Nat.zero_add] at q
 exact hf ρ' s' q
theorem for_bind {ok:Sto->Bool}{g:D->Env->Sto->R Ct}{l:List D}{ρ:Env}{s:Sto}{α:Type}{f:Ct->Sto->R α}{x:R α}(P:Nat->Env->Sto->Prop)(h:P 0 ρ s)
  (o:∀ (j:Nat) (ρ:Env) (s:Sto),j<=l.length->P j ρ s->ok s=true) (step:∀ (j:Nat) (d:D) (ρ:Env) (s:Sto),l[j]?=some d->P j ρ s->Nx (P (j+1)) (g d ρ s))
  (hf:∀ ρ' s',P l.length ρ' s'->f (.next ρ') s'=x):(forL ok g l ρ s).bind f=x:=for_want (W:=(·=x)) P h o step hf
section
variable {F:Fns} {ρ:Env} {s:Sto}
@[simp] theorem zy (i:Nat):ev F (.var i) ρ s=getV ρ i s:=rfl
@[simp] theorem ev_cst (c:Cn):ev F (.cst c) ρ s=.ok c.d s:=rfl
@[simp] theorem ev_bin (op:BOp) (a b:E):ev F (.bin op a b) ρ s=(ev F a ρ s).bind fun x s=>(ev F b ρ s).bind fun y s=>binop op x y s:=rfl
@[simp] theorem ev_not (a:E):ev F (.not a) ρ s=tru (ev F a ρ s) fun b s=>.ok (.bl (!b)) s:=rfl
@[simp] theorem ev_cmp (op:COp) (a b:E):ev F (.cmp op a b) ρ s=(ev F a ρ s).bind fun x s=>(ev F b ρ s).bind fun y s=>qi op x y s:=rfl
@[simp] theorem ev_chain (o p:COp) (a b c:E):ev F (.chain o p a b c) ρ s=(ev F a ρ s).bind fun x s=>(ev F b ρ s).bind fun y s=>tru (qi o x y s) fun k s=>if k then (ev F c ρ s).bind fun z s=>qi p y z s else .ok (.bl false) s:=rfl
@[simp] theorem ev_isN (a:E):ev F (.isN a) ρ s=(ev F a ρ s).bind fun x s=>.ok (.bl (decide (x=.non))) s:=rfl
@[simp] theorem ev_notN (a:E):ev F (.notN a) ρ s=(ev F a ρ s).bind fun x s=>.ok (.bl (!decide (x=.non))) s:=rfl
@[simp] theorem ev_and (a b:E):ev F (.and a b) ρ s=tru (ev F a ρ s) fun c s=>if c then tru (ev F b ρ s) fun c s=>.ok (.bl c) s else .ok (.bl false) s:=rfl
@[simp] theorem ev_or (a b:E):ev F (.or a b) ρ s=tru (ev F a ρ s) fun c s=>if c then .ok (.bl true) s else tru (ev F b ρ s) fun c s=>.ok (.bl c) s:=rfl
@[simp] theorem ev_ite (c a b:E):ev F (.ite c a b) ρ s=tru (ev F c ρ s) fun k s=>if k then ev F a ρ s else ev F b ρ s:=rfl
@[simp] theorem ev_tup (es:Es):ev F (.tup es) ρ s=(evs F es ρ s).bind fun l s=>.ok (.tup l) s:=rfl
@[simp] theorem ev_lst (es:Es):ev F (.lst es) ρ s=(evs F es ρ s).bind fun l s=>alloc (.lst l) s:=rfl
@[simp] theorem ev_ix (a b:E):ev F (.ix a b) ρ s=(ev F a ρ s).bind fun x s=>(ev F b ρ s).bind fun y s=>ixM x y s:=rfl
@[simp] theorem ev_call (f:String) (as:As):ev F (.call f as) ρ s=(evas F as ρ s).bind fun l s=>F.call f l s:=rfl
@[simp] theorem ev_callC (f:String) (as:As):ev F (.callC f as) ρ s=(evas F as ρ s).bind fun l s=>(F.call f l s).bind fun d s'=>if (d.ncl&&s'.all O.ncl)=true then .ok d s' else .bad:=rfl
@[simp] theorem ev_bi (b:Bi) (es:Es):ev F (.bi b es) ρ s=(evs F es ρ s).bind fun l s=>bi b l s:=rfl
@[simp] theorem ev_mk (k:Mk) (it:L):ev F (.mk k it) ρ s=(evL F it ρ s).bind fun q s=>mk k q s:=rfl
@[simp] theorem ev_mkD (k:Mk) (it:L) (d:E):ev F (.mkD k it d) ρ s=(evL F it ρ s).bind fun q s=>(ev F d ρ s).bind fun d s=>mkD k q d s:=rfl
@[simp] theorem ev_mks (k:Mk) (e:E):ev F (.mks k e) ρ s=(ev F e ρ s).bind fun x s=>(lstR x s).bind fun q s=>mk k q s:=rfl
@[simp] theorem ev_mkDs (k:Mk) (e d:E):ev F (.mkDs k e d) ρ s=(ev F e ρ s).bind fun x s=>(ev F d ρ s).bind fun z s=>(lstR x s).bind fun q s=>mkD k q z s:=rfl
@[simp] theorem ev_meth (m:Mt) (o:E) (es:Es):ev F (.meth m o es) ρ s=(ev F o ρ s).bind fun x s=>(evs F es ρ s).bind fun l s=>meth m x l s:=rfl
@[simp] theorem ev_extS (o e:E):ev F (.extS o e) ρ s=(ev F o ρ s).bind fun x s=>(ev F e ρ s).bind fun y s=>extS x y s:=rfl
@[simp] theorem ev_rev (a:E):ev F (.rev a) ρ s=(ev F a ρ s).bind fun x s=>revM x s:=rfl
@[simp] theorem ev_ext (o:E) (it:L):ev F (.ext o it) ρ s=(ev F o ρ s).bind fun x s=>(evL F it ρ s).bind fun q s=>extM x q s:=rfl
@[simp] theorem zQ:evs F .nil ρ s=.ok [] s:=rfl
@[simp] theorem zF (e:E) (es:Es):evs F (.cons e es) ρ s=(ev F e ρ s).bind fun d s=>(evs F es ρ s).bind fun l s=>.ok (d::l) s:=rfl
@[simp] theorem evas_nil:evas F .nil ρ s=.ok [] s:=rfl
@[simp] theorem evas_ex (e:E) (as:As):evas F (.ex e as) ρ s=(ev F e ρ s).bind fun d s=>(evas F as ρ s).bind fun l s=>.ok (d::l) s:=rfl
@[simp] theorem evas_fn (f:String) (as:As):evas F (.fn f as) ρ s=(evas F as ρ s).bind fun l s=>.ok (.fn f::l) s:=rfl
@[simp] theorem evI_seq (e:E):evI F (.seq e) ρ s=(ev F e ρ s).bind fun d s=>seqM d s:=rfl
@[simp] theorem evL_disp (es:Es):evL F (.disp es) ρ s=evs F es ρ s:=rfl
@[simp] theorem evL_seq (e:E):evL F (.seq e) ρ s=(ev F e ρ s).bind fun d s=>lstM d s:=rfl
noncomputable def rng1M (x:D):M Sq:=fun s=>match x with | .int i=>if -W62<=i/\i<W62 then .ok ⟨qy 0 i,[]⟩ s else .bad | _=>.bad
@[simp] theorem qd (a:E):evI F (.rng1 a) ρ s=(ev F a ρ s).bind fun x s=>rng1M x s:=rfl
theorem zH {i:Int}(h0:-W62<=i)(h:i<W62):rng1M (.int i) s=.ok ⟨qy 0 i,[]⟩ s:=by unfold rng1M;simp only [h0,h,and_self,if_true]
noncomputable def nxt (F:Fns)(ss:Ss)(c:Ct)(s:Sto):R Ct:=match c with | .next ρ=>exs F ss ρ s | c=>.ok c s
@[simp] theorem zt (ss:Ss) (ρ:Env) (s:Sto):nxt F ss (.next ρ) s=exs F ss ρ s:=rfl
@[simp] theorem nxt_ret (ss:Ss) (d:D) (s:Sto):nxt F ss (.ret d) s=.ok (.ret d) s:=rfl
@[simp] theorem nxt_cont (ss:Ss) (ρ:Env) (s:Sto):nxt F ss (.cont ρ) s=.ok (.cont ρ) s:=rfl
@[simp] theorem zI:exs F .nil ρ s=.ok (.next ρ) s:=rfl
@[simp] theorem zr (st:S) (ss:Ss):exs F (.cons st ss) ρ s=(ex F st ρ s).bind (nxt F ss):=rfl
noncomputable def setC (ρ:Option Env)(s:Sto):R Ct:=match ρ with | some ρ=>.ok (.next ρ) s | none=>.bad
@[simp] theorem zV (ρ:Env) (s:Sto):setC (some ρ) s=.ok (.next ρ) s:=rfl
@[simp] theorem ex_asg (tg:Tg) (e:E):ex F (.asg tg e) ρ s=(ev F e ρ s).bind fun d s=>setC (bindT ρ tg d) s:=rfl
@[simp] theorem ex_setIx (o i e:E):ex F (.setIx o i e) ρ s=(ev F e ρ s).bind fun d s=>(ev F o ρ s).bind fun x s=>(ev F i ρ s).bind fun y s=>(setIx x y d s).bind fun _ s=>.ok (.next ρ) s:=rfl
@[simp] theorem ex_ex (e:E):ex F (.ex e) ρ s=(ev F e ρ s).bind fun _ s=>.ok (.next ρ) s:=rfl
@[simp] theorem ex_ret (e:E):ex F (.ret e) ρ s=(ev F e ρ s).bind fun d s=>.ok (.ret d) s:=rfl
@[simp] theorem ex_retN:ex F .retN ρ s=.ok (.ret .non) s:=rfl
@[simp] theorem ex_ite (c:E) (a b:Ss):ex F (.ite c a b) ρ s=tru (ev F c ρ s) fun k s=>if k then exs F a ρ s else exs F b ρ s:=rfl
@[simp] theorem ex_whl (c:E) (b:Ss):ex F (.whl c b) ρ s=whl (ev F c) (exs F b) ρ s:=rfl
noncomputable def turn (F:Fns)(tg:Tg)(b:Ss)(d:D)(ρ:Env)(s:Sto):R Ct:=match bindT ρ tg d with
 | some ρ=>exs F b ρ s
 | none=>.bad
@[simp] theorem ex_for (tg:Tg) (it:I) (b:Ss):ex F (.for_ tg it b) ρ s=(evI F it ρ s).bind fun q s0=>forL (fun s=>chk s0 s q.src) (turn F tg b) q.its ρ s0:=rfl
@[simp] theorem ex_cont:ex F .cont ρ s=.ok (.cont ρ) s:=rfl
@[simp] theorem ex_und (i:Nat):ex F (.und i) ρ s=setC (unsetV ρ i) s:=rfl
@[simp] theorem ex_pass:ex F .pass ρ s=.ok (.next ρ) s:=rfl
@[simp] theorem zm (i:Nat) (d:D):bindT ρ (.one i) d=setV ρ i d:=rfl
@[simp] theorem bindT_tup (is:List Nat) (l:List D):bindT ρ (.tup is) (.tup l)=setVs ρ is l:=rfl
@[simp] theorem setVs_nil:setVs ρ [] []=some ρ:=rfl
@[simp] theorem setVs_cons (i:Nat) (is:List Nat) (d:D) (l:List D):setVs ρ (i::is) (d::l)=(setV ρ i d).bind fun ρ=>setVs ρ is l:=rfl
@[simp] theorem zz (d:D) (ρ:Env):getV (some d::ρ) 0 s=.ok d s:=rfl
@[simp] theorem zD (x:Option D) (ρ:Env) (i:Nat):getV (x::ρ) (i+1) s=getV ρ i s:=by unfold getV;rw [List.getElem?_cons_succ]
@[simp] theorem zN (d:D) (x:Option D) (ρ:Env):setV (x::ρ) 0 d=some (some d::ρ):=rfl
@[simp] theorem qg (d:D) (x:Option D) (ρ:Env) (i:Nat):setV (x::ρ) (i+1) d=(setV ρ i d).map (x::·):=by
 unfold setV
 by_cases h:i < ρ.length
 ·rw [if_pos (by simpa using h),if_pos h];rfl
 ·rw [if_neg (by simpa using h),if_neg h];rfl
@[simp] theorem unsetV_0 (x:Option D) (ρ:Env):unsetV (x::ρ) 0=some (none::ρ):=rfl
@[simp] theorem unsetV_s (x:Option D) (ρ:Env) (i:Nat):unsetV (x::ρ) (i+1)=(unsetV ρ i).map (x::·):=by
 unfold unsetV
 by_cases h:i < ρ.length
 ·rw [if_pos (by simpa using h),if_pos h];rfl
 ·rw [if_neg (by simpa using h),if_neg h];rfl
@[simp] theorem Cn_int (i:Int):(Cn.int i).d=.int i:=rfl
@[simp] theorem Cn_bl (i:Bool):(Cn.bl i).d=.bl i:=rfl
@[simp] theorem Cn_str (i:List Nat):(Cn.str i).d=.str i:=rfl
@[simp] theorem Cn_non:Cn.non.d=.non:=rfl
@[simp] theorem add_int (a b:Int):binop .add (.int a) (.int b) s=.ok (.int (a+b)) s:=rfl
@[simp] theorem sub_int (a b:Int):binop .sub (.int a) (.int b) s=.ok (.int (a - b)) s:=rfl
theorem mul_int {a b:Int}(h:mulOk a b=true):binop .mul (.int a) (.int b) s=.ok (.int (a*b)) s:=by show (if mulOk a b then _ else _:M D) s=_;rw [if_pos h];rfl
theorem mulOk_l {a b:Int}(h:a.natAbs<2^64):mulOk a b=true:=by unfold mulOk;simp [h]
theorem mulOk_r {a b:Int}(h:b.natAbs<2^64):mulOk a b=true:=by unfold mulOk;simp [h]
theorem mod_int {a b:Int}(h:0<b):binop .mod (.int a) (.int b) s=.ok (.int (a % b)) s:=by show (if 0<b then _ else _:M D) s=_;rw [if_pos h];rfl
theorem DIVL_ge:(10:Int)^200<=(DIVL:Int):=by unfold DIVL;decide +kernel
theorem fdiv_int {a b:Int}(h:0<b)(h2:b<10^200):binop .fdiv (.int a) (.int b) s=.ok (.int (a / b)) s:=by show (if 0<b/\b<(DIVL:Int) then _ else _:M D) s=_;rw [if_pos ⟨h,Int.lt_of_lt_of_le h2 DIVL_ge⟩];rfl
theorem pow_int {a b:Int}(h:0<=b/\b<=1000000/\a.natAbs<2^64):binop .pow (.int a) (.int b) s=.ok (.int (a^b.toNat)) s:=by show (if _ then _ else _:M D) s=_;rw [if_pos h];rfl
@[simp] theorem lt_int (a b:Int):qi .lt (.int a) (.int b) s=.ok (.bl (decide (a<b))) s:=rfl
@[simp] theorem le_int (a b:Int):qi .le (.int a) (.int b) s=.ok (.bl (decide (a<=b))) s:=rfl
@[simp] theorem gt_int (a b:Int):qi .gt (.int a) (.int b) s=.ok (.bl (decide (b<a))) s:=rfl
@[simp] theorem ge_int (a b:Int):qi .ge (.int a) (.int b) s=.ok (.bl (decide (b<=a))) s:=rfl
@[simp] theorem eq_int (a b:Int):qi .eq (.int a) (.int b) s=.ok (.bl (decide (a=b))) s:=rfl
@[simp] theorem ne_int (a b:Int):qi .ne (.int a) (.int b) s=.ok (.bl (!decide (a=b))) s:=rfl
@[simp] theorem alloc_eq (o:O):alloc o s=.ok (.ref s.length) (s++[o]):=rfl
@[simp] theorem len_tup (l:List D):bi .len [.tup l] s=.ok (.int l.length) s:=rfl
@[simp] theorem len_str (l:List Nat):bi .len [.str l] s=.ok (.int l.length) s:=rfl
theorem len_ro {r:Nat}{l:List D}(h:s[r]?=some (.ro l)):bi .len [.ref r] s=.ok (.int l.length) s:=by simp only [bi,bi1,lenM,h]
@[simp] theorem abs_int (i:Int):bi .abs [.int i] s=.ok (.int (if i<0 then -i else i)) s:=rfl
@[simp] theorem min2_int (a b:Int):bi .min2 [.int a,.int b] s=.ok (.int (if b<a then b else a)) s:=rfl
@[simp] theorem max2_int (a b:Int):bi .max2 [.int a,.int b] s=.ok (.int (if b > a then b else a)) s:=rfl
@[simp] theorem isInt_int (a:Int):bi .isInt [.int a] s=.ok (.bl true) s:=rfl
@[simp] theorem isBool_int (a:Int):bi .isBool [.int a] s=.ok (.bl false) s:=rfl
@[simp] theorem isTup_tup (l:List D):bi .isTup [.tup l] s=.ok (.bl true) s:=rfl
theorem ix_ro {r:Nat}{l:List D}{j:Nat}{d:D}(h:s[r]?=some (.ro l))(hj:l[j]?=some d):ixM (.ref r) (.int (j:Int)) s=.ok d s:=by
 have hl:j<l.length:=(List.getElem?_eq_some_iff.mp hj).1
 have e:l[j]=d:=(List.getElem?_eq_some_iff.mp hj).2
 simp [ixM,h,ixn,hl,e]
theorem ix_lst {r:Nat}{l:List D}{j:Nat}{d:D}(h:s[r]?=some (.lst l))(hj:l[j]?=some d):ixM (.ref r) (.int (j:Int)) s=.ok d s:=by
 have hl:j<l.length:=(List.getElem?_eq_some_iff.mp hj).1
 have e:l[j]=d:=(List.getElem?_eq_some_iff.mp hj).2
 simp [ixM,h,ixn,hl,e]
theorem ix_tup {l:List D}{j:Nat}{d:D}(hj:l[j]?=some d):ixM (.tup l) (.int (j:Int)) s=.ok d s:=by
 have hl:j<l.length:=(List.getElem?_eq_some_iff.mp hj).1
 have e:l[j]=d:=(List.getElem?_eq_some_iff.mp hj).2
 simp [ixM,ixn,hl,e]
theorem set_lst {r:Nat}{l:List D}{j:Nat}{v:D}(h:s[r]?=some (.lst l))(hl:j<l.length):setIx (.ref r) (.int (j:Int)) v s=.ok () (s.set r (.lst (l.set j v))):=by
 simp [setIx,h,ixn,hl]
theorem append_lst {r:Nat}{l:List D}{v:D}(h:s[r]?=some (.lst l))(hl:l.length<LIM):meth .append (.ref r) [v] s=.ok .non (s.set r (.lst (l++[v]))):=by
 simp [meth,h,hl]
end
end DV
end
noncomputable section
namespace DV
theorem canon_bl_ex (s t:Sto)(b:Bool):∃ s',zA s (.bl b) t=.ok (.bl b) s':=by
 unfold zA
 by_cases h:okOld s t=true
 ·rw [if_pos h];exact ⟨_,rfl⟩
 ·rw [if_neg h];exact ⟨_,rfl⟩
noncomputable def Yes (r:R D):Prop:=∃ s',r=.ok (.bl true) s'
theorem Yes_canon (s t:Sto):Yes (zA s (.bl true) t):=canon_bl_ex s t true
theorem rngL_get {a b:Int}{j:Nat}{d:D}(h:(qy a b)[j]?=some d):(j:Int)<b - a/\d=.int (a+j):=by
 have hj:=(List.getElem?_eq_some_iff.mp h).1
 simp only [qy,List.length_map,List.length_range] at hj
 unfold qy at h
 rw [List.getElem?_map,List.getElem?_range hj] at h
 exact ⟨by omega,(Option.some.inj h).symm⟩
noncomputable def LawOk (P:Pr)(k:Nat):Prop:=∀ ns:List Int,ns.length<=63->Yes ((callN P k).call "law" [.ref 0] [.ro (ns.map D.int)])
end DV
end
noncomputable section
namespace DV
noncomputable def qc:Option Int->D
 | none=>.non
 | some i=>.int i
@[simp] theorem encO_none:qc none=.non:=rfl
@[simp] theorem qv (i:Int):qc (some i)=.int i:=rfl
@[simp] theorem zZ (p:Option Int) (n:Nat):(qc p).bnd n=true:=by cases p<;>rfl
theorem encO_ref (p:Option Int)(r:Nat):qc p≠.ref r:=by cases p<;>nofun
@[simp] theorem canon_encO {s:Sto} {p:Option Int}:zA s (qc p) s=.ok (qc p) s:=zo (zZ p) (encO_ref p)
noncomputable def bagO (b:Nat×Nat):O:=.lst [.int b.1,.int b.2]
@[simp] theorem bagO_bnd (b:Nat×Nat) (n:Nat):(bagO b).bnd n=true:=rfl
noncomputable def tkW (many:Nat):Nat->Nat->Nat->Nat->Nat×Nat
 | 0,mix,num,_=>(num,mix)
 | n+1,mix,num,room=>if room<many then tkW many n ((mix*48271+7919) % 2147483647) (num*1073741789+(mix*48271+7919) % 2147483647 / 8*69621 % 1073741789) (room*1073741789) else (num,mix)
noncomputable def tk (b:Nat×Nat)(many:Nat):Nat×(Nat×Nat) :=
 if 0<b.1 then (b.1 % many,(b.1 / many,b.2)) else let r:=tkW many 12 b.2 0 1;(r.1 % many,(b.1,r.2))
theorem set_app {s t:Sto}{r:Nat}{o:O}(h:r<s.length):(s++t).set r o=s.set r o++t:=by rw [List.set_append,if_pos h]
theorem get_app {s t:Sto}{r:Nat}{o:O}(h:s[r]?=some o):(s++t)[r]?=some o:=by
 rw [List.getElem?_append_left (List.getElem?_eq_some_iff.mp h).1];exact h
theorem get_set {s:Sto}{r:Nat}{o:O}(h:r<s.length):(s.set r o)[r]?=some o:=List.getElem?_set_self h
noncomputable def bd (b:Nat×Nat):Nat×(Nat×Nat) :=
 let x0:=tk b 3
 let x1:=tk x0.2 13
 let x2:=tk x1.2 1000000000
 let x3:=tk x2.2 1000000000000000000000000000000
 let i:=tk x3.2 4
 ([x0.1,x1.1,x2.1,x3.1].getD i.1 0,i.2)
end DV
end
noncomputable section
namespace DV
section
variable {F:Fns} {ρ:Env} {s:Sto}
noncomputable def zW (F:Fns)(tg:Tg)(e:E)(d:D)(ρ:Env)(s:Sto):R (Option D×Env):=match bindT ρ tg d with
 | some ρ=>(ev F e ρ s).bind fun v s=>.ok (some v,ρ) s
 | none=>.bad
noncomputable def turnI (F:Fns)(tg:Tg)(c e:E)(d:D)(ρ:Env)(s:Sto):R (Option D×Env):=match bindT ρ tg d with
 | some ρ=>tru (ev F c ρ s) fun k s=>if k then (ev F e ρ s).bind fun v s=>.ok (some v,ρ) s else .ok (none,ρ) s
 | none=>.bad
@[simp] theorem ql (tg:Tg) (it:I) (e:E) (caps:List (Option Nat)):evL F (.comp tg it e caps) ρ s=(evI F it ρ s).bind fun q s0=>if q.its.length<=LIM then qt (fun s=>chk s0 s q.src) (zW F tg e) q.its (zx ρ caps) s0 else .bad:=rfl
@[simp] theorem qA (tg:Tg) (it:I) (c e:E) (caps:List (Option Nat)):evL F (.compIf tg it c e caps) ρ s=(evI F it ρ s).bind fun q s0=>if q.its.length<=LIM then qt (fun s=>chk s0 s q.src) (turnI F tg c e) q.its (zx ρ caps) s0 else .bad:=rfl
@[simp] theorem ev_slU (a hi:E):ev F (.slU a hi) ρ s=(ev F a ρ s).bind fun x s=>(ev F hi ρ s).bind fun y s=>match y with | .int i=>slM x none (some i) s | _=>.bad:=rfl
@[simp] theorem ev_slL (a hi:E):ev F (.slL a hi) ρ s=(ev F a ρ s).bind fun x s=>(ev F hi ρ s).bind fun y s=>match y with | .int i=>slM x (some i) none s | _=>.bad:=rfl
end
theorem comp_inv {ok:Sto->Bool}{g:D->Env->Sto->R (Option D×Env)}(P:Env->Sto->Prop)(f:D->Option D):∀ (l:List D) (ρ:Env) (s:Sto),P ρ s ->
  (∀ ρ s,P ρ s->ok s=true)->(∀ d∈l,∀ ρ s,P ρ s->∃ ρ' s',g d ρ s=.ok (f d,ρ') s'/\P ρ' s')->∃ ρ' s',qt ok g l ρ s=.ok (l.filterMap f) s'/\P ρ' s'
 | [],ρ,s,h,o,_=>⟨ρ,s,by unfold qt;rw [if_pos (o ρ s h)];rfl,h⟩
 | d::l,ρ,s,h,o,st=>by
  obtain ⟨ρ1,s1,e1,h1⟩:=st d (List.mem_cons_self ..) ρ s h
  obtain ⟨ρ2,s2,e2,h2⟩:=comp_inv P f l ρ1 s1 h1 o fun x hx=>st x (List.mem_cons_of_mem _ hx)
  refine ⟨ρ2,s2,?_,h2⟩
  unfold qt
  rw [if_pos (o ρ s h),e1]
  simp only [R.bind_ok]
  rw [e2,List.filterMap_cons]
  cases f d<;>rfl
theorem qh {k:Int}(h:k<=1000):k<=10^90:=Int.le_trans h (by decide)
theorem shl_one {k:Int}{s:Sto}(h:0<=k/\k<=1000000):binop .shl (.int 1) (.int k) s=.ok (.int (1*2^k.toNat)) s:=by
 show (if 0<=k/\k<=1000000/\(1:Int).natAbs<2^64 then _ else _:M D) s=_
 rw [if_pos ⟨h.1,h.2,by decide⟩];rfl
theorem zT {l:List D}(h:∀ d∈l,∀ n,d.bnd n=true)(n:Nat):D.bndL n l=true:=by
 induction l with
 | nil=>rfl
 | cons d l ih=>unfold D.bndL;rw [h d (List.mem_cons_self ..),ih fun x hx=>h x (List.mem_cons_of_mem _ hx)];rfl
noncomputable def roomF (bits:Nat):D->Option D
 | .int i=>if (bits:Int) / (1*2^i.toNat) % 2=1 then some (.int i) else none
 | _=>none
theorem abc_ix {k:Nat}(h:k<3)(s:Sto):ixM (.str [97,98,99]) (.int (k:Int)) s=.ok (.str [97+k]) s:=by
 match k,h with
 | 0,_=>rfl
 | 1,_=>rfl
 | 2,_=>rfl
theorem add_str {a b:List Nat}{s:Sto}(h:a.length+b.length<=LIM):binop .add (.str a) (.str b) s=.ok (.str (a++b)) s:=by
 show (if a.length+b.length<=LIM then _ else _:M D) s=_;rw [if_pos h];rfl
noncomputable def Lts (L:Nat)(w:List Nat):Prop:=∀ c∈w,97<=c/\c<97+L
theorem rep_len (l:List Nat):∀ n,(rep n l).length=l.length*n
 | 0=>by simp [rep]
 | n+1=>by simp [rep,rep_len l n,Nat.mul_add];omega
end DV
end
noncomputable section
namespace DV
noncomputable def goodW (L:Nat)(d:D):Bool:=match d with
 | .str w=>decide (w.length<=200)&&w.all fun c=>decide (97<=c/\c<97+L)
 | _=>false
theorem ev_glob {P:Pr}{x:String}{v:D}[HasC P x v]{n:Nat}{ρ:Env}{s:Sto}:ev (callN P n) (.glob x) ρ s=.ok v s:=by
 show (match (callN P n).con x with | some d=>R.ok d s | none=>.bad)=_
 rw [con_def (v:=v)]
end DV
end
noncomputable section
namespace DV
@[simp] theorem ev_neg {F:Fns} {ρ:Env} {s:Sto} (a:E):ev F (.neg a) ρ s=(ev F a ρ s).bind fun x s=>match x with | .int i=>.ok (.int (-i)) s | _=>.bad:=rfl
structure Dr where
 a:Nat
 l:Nat
 b:Nat
 t:Nat
noncomputable def Dr.d (x:Dr):D:=.tup [.int x.a,.str [x.l],.int x.b,.int x.t]
structure Mc where
 L:Nat
 R:Nat
 bg:List Nat
 en:List Nat
 ds:List Dr
noncomputable def nats (l:List Nat):List D:=l.map fun (k:Nat)=>D.int (k:Int)
noncomputable def sg (w:List Nat):List D:=w.map fun c=>.str [c]
noncomputable def Mc.ps (m:Mc):List D:=[.int m.L,.int m.R,.tup (nats m.bg),.tup (nats m.en),.tup (m.ds.map Dr.d)]
noncomputable def Mc.d (m:Mc):D:=.tup m.ps
structure Dr.Ok (m:Mc)(x:Dr):Prop where
 a:x.a<m.R
 l:97<=x.l/\x.l<97+m.L
 b:x.b<m.R
 t:x.t<4
structure Mc.Ok (m:Mc):Prop where
 L1:1<=m.L
 L3:m.L<=3
 R1:1<=m.R
 R5:m.R<=5
 bg:(∀ k∈m.bg,k<m.R)/\m.bg.Pairwise (· < ·)
 en:(∀ k∈m.en,k<m.R)/\m.en.Pairwise (· < ·)
 ds:(∀ x∈m.ds,x.Ok m)/\m.ds.length<=75
theorem nats_bnd {l:List Nat}:∀ d∈nats l,∀ n,d.bnd n=true:=fun d hd n=>by
 obtain ⟨c,_,rfl⟩:=List.mem_map.mp hd;rfl
theorem drs_bnd {l:List Dr}:∀ d∈l.map Dr.d,∀ n,d.bnd n=true:=fun d hd n=>by
 obtain ⟨c,_,rfl⟩:=List.mem_map.mp hd;rfl
theorem mps_bnd {m:Mc}:∀ d∈m.ps,∀ n,d.bnd n=true:=fun d hd n=>by
 simp only [Mc.ps,List.mem_cons,List.not_mem_nil,or_false] at hd
 rcases hd with rfl | rfl | rfl | rfl | rfl
 ·rfl
 ·rfl
 ·unfold D.bnd;exact zT nats_bnd n
 ·unfold D.bnd;exact zT nats_bnd n
 ·unfold D.bnd;exact zT drs_bnd n
theorem mc_bnd (m:Mc)(n:Nat):m.d.bnd n=true:=by unfold Mc.d D.bnd;exact zT mps_bnd n
noncomputable def roomsN (bits k:Nat):List Nat:=(List.range k).filter fun i=>decide (bits / 2^i % 2=1)
theorem roomsN_ok (bits k:Nat):(∀ i∈roomsN bits k,i<k)/\(roomsN bits k).Pairwise (· < ·) :=
 ⟨fun i hi=>List.mem_range.mp (List.mem_filter.mp hi).1,List.Pairwise.filter _ List.pairwise_lt_range⟩
theorem roomF_eq (bits:Nat)(k:Nat):(qy 0 (k:Int)).filterMap (roomF bits)=nats (roomsN bits k):=by
 unfold qy roomsN nats
 simp only [Int.sub_zero,Int.toNat_natCast]
 rw [List.filterMap_map]
 induction (List.range k) with
 | nil=>rfl
 | cons i l ih =>
  rw [List.filterMap_cons,List.filter_cons]
  have e:((bits:Int) / (1*2^((0:Int)+(i:Int)).toNat) % 2=1)↔(bits / 2^i % 2=1):=by
   rw [Int.one_mul,show ((0:Int)+(i:Int)).toNat=i by omega]
   have:((bits:Int) / 2^i % 2)=((bits / 2^i % 2:Nat):Int):=by simp
   rw [this];omega
  simp only [Function.comp,roomF]
  by_cases h:bits / 2^i % 2=1
  ·rw [if_pos (e.mpr h)]
   simp only [h,decide_true,if_true,List.map_cons]
   rw [<-ih,Int.zero_add]
  ·rw [if_neg fun z=>h (e.mp z)]
   simp only [h,decide_false]
   exact ih
section
variable {P:Pr}
theorem ix_ps {l:List D}{s:Sto}(j:Nat){d:D}(h:l[j]?=some d):ixM (.tup l) (.int (j:Int)) s=.ok d s:=ix_tup h
theorem ixL (m:Mc)(s:Sto):ixM m.d (.int 0) s=.ok (.int m.L) s:=ix_ps 0 rfl
theorem ixR (m:Mc)(s:Sto):ixM m.d (.int 1) s=.ok (.int m.R) s:=ix_ps 1 rfl
theorem ixB (m:Mc)(s:Sto):ixM m.d (.int 2) s=.ok (.tup (nats m.bg)) s:=ix_ps 2 rfl
theorem ixE (m:Mc)(s:Sto):ixM m.d (.int 3) s=.ok (.tup (nats m.en)) s:=ix_ps 3 rfl
theorem ixD (m:Mc)(s:Sto):ixM m.d (.int 4) s=.ok (.tup (m.ds.map Dr.d)) s:=ix_ps 4 rfl
theorem rooms_of_ok [Has P d_rooms_of](n:Nat)(m:Mc)(s:Sto):(callN P (n+1)).call "rooms_of" [m.d] s=.ok (.int m.R) s:=by
 refine (zg d_rooms_of rfl).trans ?_
 simp -implicitDefEqProofs [d_rooms_of,ixR]
theorem canon_tup {s:Sto}{l:List D}(h:∀ d∈l,∀ n,d.bnd n=true):zA s (.tup l) s=.ok (.tup l) s:=zo (fun n=>by unfold D.bnd;exact zT h n) (by nofun)
theorem begins_of_ok [Has P d_begins_of](n:Nat)(m:Mc)(s:Sto):(callN P (n+1)).call "begins_of" [m.d] s=.ok (.tup (nats m.bg)) s:=by
 refine (zg d_begins_of rfl).trans ?_
 simp -implicitDefEqProofs [d_begins_of,ixB,canon_tup nats_bnd]
theorem ends_of_ok [Has P d_ends_of](n:Nat)(m:Mc)(s:Sto):(callN P (n+1)).call "ends_of" [m.d] s=.ok (.tup (nats m.en)) s:=by
 refine (zg d_ends_of rfl).trans ?_
 simp -implicitDefEqProofs [d_ends_of,ixE,canon_tup nats_bnd]
theorem doors_of_ok [Has P d_doors_of](n:Nat)(m:Mc)(s:Sto):(callN P (n+1)).call "doors_of" [m.d] s=.ok (.tup (m.ds.map Dr.d)) s:=by
 refine (zg d_doors_of rfl).trans ?_
 simp -implicitDefEqProofs [d_doors_of,ixD,canon_tup drs_bnd]
theorem rngL_cons {a b:Int}(h:a<b):qy a b=.int a::qy (a+1) b:=by
 unfold qy
 obtain ⟨n,hn⟩:∃ n:Nat,(b - a).toNat=n+1:=⟨(b - a).toNat - 1,by omega⟩
 rw [hn,show (b - (a+1)).toNat=n by omega,List.range_succ_eq_map,List.map_cons,List.map_map]
 congr 1
 ·simp
 ·apply List.map_congr_left
  intro k _
  simp only [Function.comp]
  congr 1;omega
@[simp] theorem ne_str1 (a b:Nat) (s:Sto):qi .ne (.str [a]) (.str [b]) s=.ok (.bl (!decide (a=b))) s:=by
 show (match eqv s DEEP (.str [a]) (.str [b]) with | some r=>R.ok (D.bl (!r)) s | none=>.bad)=_
 have:eqv s DEEP (.str [a]) (.str [b])=some ([a]==[b]):=rfl
 rw [this]
 have e:([a]==[b])=decide (a=b):=by rw [Bool.eq_iff_iff];simp
 rw [e]
@[simp] theorem eq_str1 (a b:Nat) (s:Sto):qi .eq (.str [a]) (.str [b]) s=.ok (.bl (decide (a=b))) s:=by
 show (match eqv s DEEP (.str [a]) (.str [b]) with | some r=>R.ok (D.bl r) s | none=>.bad)=_
 have:eqv s DEEP (.str [a]) (.str [b])=some ([a]==[b]):=rfl
 rw [this]
 have e:([a]==[b])=decide (a=b):=by rw [Bool.eq_iff_iff];simp
 rw [e]
end
end DV
end
noncomputable section
namespace DV
theorem good_of {L:Nat}{w:List Nat}(h:w.length<=200)(hw:Lts L w):goodW L (.str w)=true:=by
 unfold goodW
 simp only [h,decide_true,Bool.true_and,List.all_eq_true,decide_eq_true_eq]
 exact hw
end DV
end
noncomputable section
namespace DV
end DV
end
noncomputable section
namespace DV
end DV
end
noncomputable section
namespace DV
end DV
end
noncomputable section
namespace DV
@[simp] theorem ev_slLU {F:Fns} {ρ:Env} {s:Sto} (a lo hi:E):ev F (.slLU a lo hi) ρ s=(ev F a ρ s).bind fun x s=>(ev F lo ρ s).bind fun y s=>match y with | .int i=>(ev F hi ρ s).bind (fun z s=>match z with | .int j=>slM x (some i) (some j) s | _=>.bad) | _=>.bad:=rfl
end DV
end
noncomputable section
namespace DV
noncomputable def qu (N:Int):O:=.lst [.int N]
theorem box_lt {s:Sto}{r:Nat}(h:∃ N,s[r]?=some (qu N)):r<s.length:=by obtain ⟨b,hb⟩:=h;exact (List.getElem?_eq_some_iff.mp hb).1
theorem box_set {s:Sto}{r:Nat}{b:Int}(h:r<s.length):∃ b',(s.set r (qu b))[r]?=some (qu b'):=⟨b,get_set h⟩
theorem z7 {P:Pr}[Has P w_draw](n:Nat){s:Sto}{r:Nat}(hs:∃ N,s[r]?=some (qu N))(many:Int)(h0:0<many)(h:many<=10^90) :
  ∃ (k:Nat) (N:Int),(k:Int)<many/\(callN P (n+1)).call "_law_draw" [.ref r,.int many] s=.ok (.int k) (s.set r (qu N)):=by
 obtain ⟨N,hN⟩:=hs
 have e0:(callN P (n+1)).call "_law_draw" [.ref r,.int many] s=_:=zg w_draw (n:=n) rfl
 have hm3:many<10^200:=by
  have:(10:Int)^90<10^200:=by decide +kernel
  omega
 have h1:=Int.emod_nonneg N (show many≠0 by omega)
 have h2:=Int.emod_lt_of_pos N h0
 refine ⟨(N % many).toNat,N / many,by omega,?_⟩
 rw [e0]
 have hs':s[r]?=some (.lst [.int N]):=hN
 simp -implicitDefEqProofs [w_draw,ixM,hs',ixn,mod_int h0,fdiv_int h0 hm3,setIx]
 rw [show max (N % many) 0=N % many by omega]
 exact canon_set0 (fun _=>rfl) (by nofun) rfl
noncomputable def BoxR (s:Sto)(x:R D):Prop:=∃ N:Int,x=.ok (.ref s.length) (s++[qu N])
theorem box_ex {P:Pr}[Has P w_box](n:Nat)(ns:List Int)(k:Nat){s:Sto}{r:Nat}(hs:s[r]?=some (.ro (ns.map D.int))) :
  ∃ N:Int,(callN P (n+1)).call "_law_box" [.ref r,.int k] s=.ok (.ref s.length) (s++[qu N]):=by
 have e0:(callN P (n+1)).call "_law_box" [.ref r,.int k] s=_:=zg w_box (n:=n) rfl
 have hlen:bi .len [.ref r] s=.ok (.int ns.length) s:=by rw [len_ro hs,List.length_map]
 have m1:∀ a:Int,mulOk 7919 a=true:=fun a=>mulOk_l (by decide)
 have m2:∀ a:Int,mulOk a 48271=true:=fun a=>mulOk_r (by decide)
 have m3:∀ a:Int,mulOk 104729 a=true:=fun a=>mulOk_l (by decide)
 have m4:∀ a:Int,mulOk a 2147483647=true:=fun a=>mulOk_r (by decide)
 have m5:∀ a:Int,mulOk 31 a=true:=fun a=>mulOk_l (by decide)
 have m6:∀ a:Int,mulOk (a % 2147483647) (a % 2147483647)=true:=fun a=>mulOk_l (by
  have h1:=Int.emod_nonneg a (show (2147483647:Int)≠0 by decide)
  have h2:=Int.emod_lt_of_pos a (show (0:Int)<2147483647 by decide)
  omega)
 have cn:∀ N:Int,zA s (.ref s.length) (s++[.lst [.int N]])=.ok (.ref s.length) (s++[qu N]):=fun N=>by
  have:=canon_new (s:=s) (t:=[]) (u:=[]) (o:=qu N) rfl
  simp only [List.length_nil,Nat.add_zero,List.nil_append] at this
  exact this
 have tail:∀ c:Int,BoxR s ((exs (callN P n) (.cons (.ite (.cmp .ge (.var 2) (.bin .pow (.cst (.int 10)) (.cst (.int 18)))) (.cons (.ret (.lst (.cons (.var 2) .nil))) .nil) .nil) (.cons (.asg (.one 3) (.cst (.int 0))) (.cons (.for_ (.one 4) (.rng1 (.cst (.int 128))) (.cons (.asg (.one 5) (.bin .mod (.bin .mul (.bin .add (.bin .add (.bin .add (.bin .mod (.var 2) (.cst (.int 2147483647))) (.bin .mul (.cst (.int 7919)) (.var 1))) (.bin .mul (.cst (.int 104729)) (.var 4))) (.cst (.int 97))) (.cst (.int 48271))) (.cst (.int 2147483647)))) (.cons (.asg (.one 3) (.bin .add (.bin .mul (.var 3) (.cst (.int 2147483647))) (.bin .mod (.bin .add (.bin .add (.bin .mul (.var 5) (.var 5)) (.bin .mul (.cst (.int 31)) (.var 4))) (.bin .fdiv (.var 2) (.cst (.int 2147483647)))) (.cst (.int 2147483647))))) .nil))) (.cons (.ret (.lst (.cons (.var 3) .nil))) .nil))))
   [some (.ref r),some (.int k),some (.int c),none,none,none] s).bind (fin s)):=by
  intro c
  by_cases hc:(10:Int)^18<=c
  ·have hc':(1000000000000000000:Int)<=c:=hc
   exact ⟨c,by simp -implicitDefEqProofs [pow_int,hc',cn]⟩
  ·have hc':¬ (1000000000000000000:Int)<=c:=hc
   simp -implicitDefEqProofs [pow_int,hc']
   rw [zH (by decide) (by decide)]
   simp only [R.bind_ok]
   refine for_want (W:=BoxR s) (fun j ρ t=>t=s/\∃ (N:Int) (x y:Option D),ρ=[some (.ref r),some (.int k),some (.int c),some (.int N),x,y]) ⟨rfl,0,_,_,rfl⟩ (fun _ _ _ _ _=>rfl) ?_ ?_
   ·rintro j d ρ t hj ⟨rfl,N,x,y,rfl⟩
    obtain ⟨_,rfl⟩:=rngL_get hj
    conv=>arg 2;simp -implicitDefEqProofs [turn,mul_int (m1 _),mul_int (m2 _),mul_int (m3 _),mul_int (m4 _),mul_int (m5 _),mul_int (m6 _),mod_int,fdiv_int]
    exact ⟨rfl,_,_,_,rfl⟩
   ·rintro ρ t ⟨rfl,N,x,y,rfl⟩
    exact ⟨N,by simp -implicitDefEqProofs [cn]⟩
 rw [e0]
 by_cases hk:k<ns.length
 ·have hx:ixM (.ref r) (.int k) s=.ok (.int (ns.getD k 0)) s:=ix_ro hs (by simp [hk])
  obtain ⟨N,e⟩:=tail (if ns.getD k 0<0 then -ns.getD k 0 else ns.getD k 0)
  refine ⟨N,?_⟩
  rw [<-e]
  simp -implicitDefEqProofs [w_box,hlen,hk,hx]
 ·obtain ⟨N,e⟩:=tail 0
  refine ⟨N,?_⟩
  rw [<-e]
  simp -implicitDefEqProofs [w_box,hlen,hk]
end DV
end
noncomputable section
namespace DV
@[simp] theorem evI_enum {F:Fns} {ρ:Env} {s:Sto} (e:E):evI F (.enum (.seq e)) ρ s=(ev F e ρ s).bind fun d s=>(enumM d s).bind fun q s=>.ok ⟨enumL 0 q.its,q.src⟩ s:=rfl
end DV
end
noncomputable section
namespace DV
end DV
end
noncomputable section
namespace DV
theorem qH {P:Pr}[Has P w_draw](n:Nat){s t:Sto}{r:Nat}(hr:r<s.length)(b:Int)(many:Int)(h0:0<many)(h:many<=10^90) :
  ∃ (k:Nat) (b':Int),(k:Int)<many/\(callN P (n+1)).call "_law_draw" [.ref r,.int many] (s.set r (qu b)++t)=.ok (.int k) (s.set r (qu b')++t):=by
 obtain ⟨k,b',h1,h2⟩:=z7 (P:=P) n (s:=s.set r (qu b)++t) (r:=r) ⟨b,get_app (get_set hr)⟩ many h0 h
 refine ⟨k,b',h1,?_⟩
 rw [h2,set_app (by rw [List.length_set];exact hr),List.set_set]
end DV
end
noncomputable section
namespace DV
noncomputable def row (m:Nat)(f:Nat->Int):List D:=(List.range m).map fun j=>.int (f j)
noncomputable def gd (m:Nat)(f:Nat->Nat->Int):D:=.tup ((List.range m).map fun i=>.tup (row m (f i)))
theorem row_get {m:Nat}{f:Nat->Int}{j:Nat}(h:j<m):(row m f)[j]?=some (.int (f j)):=by
 unfold row;rw [List.getElem?_map,List.getElem?_range h];rfl
@[simp] theorem row_len {m:Nat} {f:Nat->Int}:(row m f).length=m:=by unfold row;simp
theorem row_inv {m:Nat}{f:Nat->Int}{j:Nat}{d:D}(h:(row m f)[j]?=some d):j<m/\d=.int (f j):=by
 have hj:=(List.getElem?_eq_some_iff.mp h).1
 rw [row_len] at hj
 rw [row_get hj] at h
 exact ⟨hj,(Option.some.inj h).symm⟩
theorem row_bnd {m:Nat}{f:Nat->Int}(n:Nat):D.bndL n (row m f)=true:=zT (fun d hd n=>by
 obtain ⟨j,_,rfl⟩:=List.mem_map.mp hd;rfl) n
theorem gd_bnd {m:Nat}{f:Nat->Nat->Int}(n:Nat):(gd m f).bnd n=true:=by
 unfold gd D.bnd
 exact zT (fun d hd n=>by
  obtain ⟨j,_,rfl⟩:=List.mem_map.mp hd
  unfold D.bnd;exact row_bnd n) n
theorem gd_ix {m:Nat}{f:Nat->Nat->Int}{i:Nat}(h:i<m)(s:Sto):ixM (gd m f) (.int (i:Int)) s=.ok (.tup (row m (f i))) s :=
 ix_tup (by rw [List.getElem?_map,List.getElem?_range h];rfl)
theorem row_ix {m:Nat}{f:Nat->Int}{j:Nat}(h:j<m)(s:Sto):ixM (.tup (row m f)) (.int (j:Int)) s=.ok (.int (f j)) s:=ix_tup (row_get h)
theorem gd_seq {m:Nat}{f:Nat->Nat->Int}(s:Sto):seqM (gd m f) s=.ok ⟨(List.range m).map fun i=>.tup (row m (f i)),[]⟩ s:=rfl
theorem tup_seq {l:List D}(s:Sto):seqM (.tup l) s=.ok ⟨l,[]⟩ s:=rfl
theorem comp_map {ok:Sto->Bool}{g:D->Env->Sto->R (Option D×Env)}(P:Env->Sto->Prop)(f:D->D)(l:List D)(ρ:Env)(s:Sto)(h:P ρ s)
  (o:∀ ρ s,P ρ s->ok s=true) (st:∀ d∈l,∀ ρ s,P ρ s->∃ ρ' s',g d ρ s=.ok (some (f d),ρ') s'/\P ρ' s'):∃ ρ' s',qt ok g l ρ s=.ok (l.map f) s'/\P ρ' s':=by
 obtain ⟨ρ',s',e,p⟩:=comp_inv P (fun d=>some (f d)) l ρ s h o st
 refine ⟨ρ',s',?_,p⟩
 rw [e];congr 1;induction l<;>simp_all
theorem qo {ok:Sto->Bool}{g:D->Env->Sto->R (Option D×Env)}(P:Env->Sto->Prop)(f:Nat->D)(n:Nat)(ρ:Env)(s:Sto)(h:P ρ s)
  (o:∀ ρ s,P ρ s->ok s=true) (st:∀ j,j<n->∀ ρ s,P ρ s->∃ ρ' s',g (.int (j:Int)) ρ s=.ok (some (f j),ρ') s'/\P ρ' s'):∃ ρ' s',qt ok g (qy 0 (n:Int)) ρ s=.ok ((List.range n).map f) s'/\P ρ' s':=by
 obtain ⟨ρ',s',e,p⟩:=comp_map (g:=g) P (fun d=>match d with | .int i=>f i.toNat | d=>d) (qy 0 (n:Int)) ρ s h o fun d hd ρ s hp=>by
  obtain ⟨j,hj⟩:=List.getElem?_of_mem hd
  obtain ⟨h2,rfl⟩:=rngL_get hj
  obtain ⟨ρ',s',e,p⟩:=st j (by omega) ρ s hp
  refine ⟨ρ',s',?_,p⟩
  rw [Int.zero_add,e];rfl
 refine ⟨ρ',s',?_,p⟩
 rw [e]
 congr 1
 unfold qy
 rw [List.map_map,show ((n:Int) - 0).toNat=n by omega]
 exact List.map_congr_left fun j _=>by
  show f ((0:Int)+(j:Int)).toNat=f j
  congr 1;omega
theorem zL (n:Nat):(qy 0 (n:Int)).length=n:=by simp [qy]
theorem rngL_at {n j:Nat}{d:D}(h:(qy 0 (n:Int))[j]?=some d):j<n/\d=.int (j:Int):=by
 obtain ⟨h1,rfl⟩:=rngL_get h
 exact ⟨by omega,by rw [Int.zero_add]⟩
theorem row_const {m:Nat}{f:Nat->Int}{i:Int}:(row m f).map (fun _=>D.int i)=row m fun _=>i:=by
 unfold row;rw [List.map_map];rfl
theorem app_mid {s t:Sto}{l:List D}{v:D}(h:l.length<LIM):meth .append (.ref s.length) [v] (s++.lst l::t)=.ok .non (s++.lst (l++[v])::t):=by
 rw [append_lst (l:=l) (by rw [List.getElem?_append_right (Nat.le_refl _)];simp) h,List.set_append_right _ _ (Nat.le_refl _)]
 simp
theorem get_last {s t:Sto}{o:O}{x:O}:(s++x::(t++[o]))[s.length+(t.length+1)]?=some o:=by
 rw [show (s++x::(t++[o]))=(s++x::t)++[o] by simp,List.getElem?_append_right (by simp)]
 simp
noncomputable def prN (f g:Nat->Nat->Int)(i j:Nat):Nat->Int
 | 0=>3
 | k+1=>if f i k<3 then (let b:=(if g k j > f i k then g k j else f i k);if b<prN f g i j k then b else prN f g i j k) else prN f g i j k
noncomputable def pr (m:Nat)(f g:Nat->Nat->Int)(i j:Nat):Int:=prN f g i j m
theorem product_ok {P:Pr}[Has P w_product_2](n:Nat){m:Nat}(hR:m<=5)(f g:Nat->Nat->Int)(s:Sto) :
  (callN P (n+1)).call "_law_product" [gd m f,gd m g] s=.ok (gd m (pr m f g)) s:=by
 have e0:(callN P (n+1)).call "_law_product" [gd m f,gd m g] s=_:=zg w_product_2 (n:=n) rfl
 rw [e0]
 conv=>lhs;simp only [w_product_2]
 simp -implicitDefEqProofs [gd_seq]
 refine for_bind (fun i ρ t=>∃ (T:Sto) (x y z:Option D),ρ=[some (gd m f),some (gd m g),some (.ref s.length),x,y,z]/\t=s++.lst ((List.range i).map fun i=>.tup (row m (pr m f g i)))::T) ⟨[],none,none,none,rfl,rfl⟩ (fun _ _ _ _ _=>rfl) ?_ ?_
 ·rintro i d ρ t hi ⟨T,x,y,z,rfl,rfl⟩
  have hi5:i<m:=by have:=(List.getElem?_eq_some_iff.mp hi).1;simpa using this
  have hd:d=.tup (row m (f i)):=by rw [List.getElem?_map,List.getElem?_range hi5] at hi;exact (Option.some.inj hi).symm
  subst hd
  conv=>arg 2;simp -implicitDefEqProofs [turn,tup_seq]
  rw [if_pos (by unfold LIM;omega)]
  obtain ⟨ρ1,s1,e1,h1⟩:=comp_map (ok:=fun s1=>chk (s++.lst ((List.range i).map fun i=>.tup (row m (pr m f g i)))::T) s1 []) (g:=zW (callN P n) (.one 0) (.cst (.int 3))) (fun ρ u=>u=s++.lst ((List.range i).map fun i=>.tup (row m (pr m f g i)))::T/\∃ x,ρ=[x]) (fun _=>.int 3) (row m (f i)) (zx [some (gd m f),some (gd m g),some (.ref s.length),some (.tup (row m (f i))),y,z] [none]) _ ⟨rfl,none,rfl⟩ (fun _ _ _=>rfl) (by
   rintro d _ ρ u ⟨rfl,x,rfl⟩
   exact ⟨_,_,rfl,rfl,_,rfl⟩)
  obtain ⟨rfl,_⟩:=h1
  rw [row_const] at e1
  rw [e1]
  simp -implicitDefEqProofs [mk]
  rw [zH (by unfold W62;omega) (by unfold W62;omega)]
  simp only [R.bind_ok]
  refine for_want (W:=Nx _) (fun k ρ t=>∃ (T:Sto) (p:Nat) (z:Option D),ρ=[some (gd m f),some (gd m g),some (.ref s.length),some (.tup (row m (f i))),some (.ref p),z]/\t=s++.lst ((List.range i).map fun i=>.tup (row m (pr m f g i)))::T/\t[p]?=some (.lst (row m fun j=>prN f g i j k))) ⟨T++[.lst (row m fun _=>3)],s.length+(T.length+1),z,rfl,rfl,get_last⟩ (fun _ _ _ _ _=>rfl) ?_ ?_
  ·rintro k d ρ t hk ⟨T,p,z,rfl,rfl,hp⟩
   obtain ⟨hk5,rfl⟩:=rngL_at hk
   by_cases h3:f i k<3
   ·conv=>arg 2;simp -implicitDefEqProofs [turn,row_ix hk5,h3]
    rw [zH (by unfold W62;omega) (by unfold W62;omega)]
    simp only [R.bind_ok]
    rw [if_pos (by rw [zL];unfold LIM;omega)]
    obtain ⟨ρ1,s1,e1,h1⟩:=qo (ok:=fun s1=>chk (s++.lst ((List.range i).map fun i=>.tup (row m (pr m f g i)))::T) s1 []) (g:=zW (callN P n) (.one 0) (.bi .min2 (.cons (.ix (.var 1) (.var 0)) (.cons (.bi .max2 (.cons (.ix (.var 2) (.var 3)) (.cons (.ix (.ix (.var 4) (.var 3)) (.var 0)) .nil))) .nil)))) (fun ρ u=>u=s++.lst ((List.range i).map fun i=>.tup (row m (pr m f g i)))::T/\∃ x,ρ=[x,some (.ref p),some (.tup (row m (f i))),some (.int k),some (gd m g)]) (fun j=>.int (prN f g i j (k+1))) m (zx [some (gd m f),some (gd m g),some (.ref s.length),some (.tup (row m (f i))),some (.ref p),some (.int (k:Int))] [none,some 4,some 3,some 5,some 1]) _ ⟨rfl,none,rfl⟩ (fun _ _ _=>rfl) (by
     rintro j hj ρ u ⟨rfl,x,rfl⟩
     refine ⟨[some (.int j),some (.ref p),some (.tup (row m (f i))),some (.int k),some (gd m g)],_,?_,rfl,_,rfl⟩
     simp -implicitDefEqProofs [zW,row_ix hk5,gd_ix hk5,row_ix hj,ix_lst hp (row_get hj),prN,h3])
    obtain ⟨rfl,_⟩:=h1
    rw [e1]
    simp -implicitDefEqProofs [mk]
    rfl
   ·refine Nx_of (ρ:=[some (gd m f),some (gd m g),some (.ref s.length),some (.tup (row m (f i))),some (.ref p),some (.int k)]) ?_ ⟨T,p,_,rfl,rfl,?_⟩
    ·simp -implicitDefEqProofs [turn,row_ix hk5,h3]
    ·rw [hp];simp [prN,h3]
  ·rintro ρ t ⟨T,p,z,rfl,rfl,hp⟩
   rw [zL] at hp
   simp -implicitDefEqProofs [lstM,hp,mk]
   rw [app_mid (by unfold LIM;simp;omega)]
   simp -implicitDefEqProofs
   rw [List.range_succ,List.map_append];rfl
 ·rintro ρ t ⟨T,x,y,z,rfl,rfl⟩
  have h0:(s++.lst ((List.range m).map fun i=>D.tup (row m (pr m f g i)))::T:Sto)[s.length]?=some (.lst ((List.range m).map fun i=>D.tup (row m (pr m f g i)))):=by rw [List.getElem?_append_right (Nat.le_refl _)];simp
  simp -implicitDefEqProofs [lstM,h0,mk]
  exact zO (d:=gd m (pr m f g)) gd_bnd (by nofun)
end DV
end
noncomputable section
namespace DV
theorem shr_int {a b:Int}{s:Sto}(h:0<=b):binop .shr (.int a) (.int b) s=.ok (.int (a / 2^b.toNat)) s:=by
 show (if 0<=b then _ else _:M D) s=_
 rw [if_pos h];rfl
theorem bits_ok {P:Pr}{n c bits:Nat}(hR:c<=5){s:Sto}{ρ:Env}(hρ:zx ρ [none,some 10]=[none,some (.int bits)]) :
  qt (fun s_1=>chk s s_1 []) (turnI (callN P n) (.one 0) (.cmp .eq (.bin .mod (.bin .shr (.var 1) (.var 0)) (.cst (.int 2))) (.cst (.int 1))) (.var 0)) (qy 0 (c:Int)) (zx ρ [none,some 10]) s=.ok (nats (roomsN bits c)) s:=by
 have key:∃ (ρ':Env) (s':Sto),qt (fun s_1=>chk s s_1 []) (turnI (callN P n) (.one 0) (.cmp .eq (.bin .mod (.bin .shr (.var 1) (.var 0)) (.cst (.int 2))) (.cst (.int 1))) (.var 0)) (qy 0 (c:Int)) (zx ρ [none,some 10]) s=.ok ((qy 0 (c:Int)).filterMap (roomF bits)) s'/\(s'=s/\∃ x,ρ'=[x,some (D.int bits)]):=by
  refine comp_inv (fun ρ u=>u=s/\∃ x,ρ=[x,some (.int bits)]) (roomF bits) (qy 0 (c:Int)) _ _ ⟨rfl,none,hρ⟩ (fun _ _ _=>rfl) ?_
  rintro d hd ρ u ⟨rfl,x,rfl⟩
  obtain ⟨j,hj⟩:=List.getElem?_of_mem hd
  obtain ⟨h2,rfl⟩:=rngL_get hj
  refine ⟨[some (.int (0+j)),some (.int bits)],_,?_,rfl,_,rfl⟩
  unfold turnI
  simp only [zm,zN,ev_cmp,ev_bin,zy,ev_cst,Cn_int,zz,zD,R.bind_ok]
  rw [shr_int (by omega)]
  simp only [R.bind_ok]
  rw [mod_int (by decide)]
  simp only [R.bind_ok,eq_int,tru_bl]
  simp [roomF]
  split<;>rfl
 obtain ⟨_,_,e,rfl,_⟩:=key
 rw [e,roomF_eq]
theorem app_two {s:Sto}{r:Nat}{b:Int}{o:O}{l:List D}{v:D}(h:l.length<LIM):meth .append (.ref (s.length+1)) [v] (s.set r (qu b)++[o,.lst l])=.ok .non (s.set r (qu b)++[o,.lst (l++[v])]):=by
 rw [append_lst (l:=l) (by rw [List.getElem?_append_right (by simp)];simp) h,List.set_append_right _ _ (by simp)]
 simp
theorem pow5 {k:Nat}(h:k<=5):(0:Int)<1*2^((k:Int)).toNat/\(1:Int)*2^((k:Int)).toNat<=32:=by
 have h2:(2:Nat)^k<=2^5:=Nat.pow_le_pow_right (by decide) h
 have h3:((2^k:Nat):Int)<=32:=by exact_mod_cast h2
 have h4:0<(2:Nat)^k:=Nat.pow_pos (by decide)
 have h5:(0:Int)<((2^k:Nat):Int):=by exact_mod_cast h4
 rw [Int.toNat_natCast,Int.one_mul]
 push_cast at h3 h5
 exact ⟨h5,h3⟩
noncomputable def McB (s:Sto)(r:Nat)(x:R D):Prop:=∃ (m:Mc) (b:Int),m.Ok/\x=.ok m.d (s.set r (qu b))
theorem machine3_mc {P : Pr} [Has P w_draw] [Has P w_machine_3] (n : Nat) {s : Sto} {r : Nat} (hs : ∃ b, s[r]? = some (qu b)) : McB s r ((callN P (n + 2)).call "_law_machine" [.ref r] s) := by
  have e0 : (callN P (n + 2)).call "_law_machine" [.ref r] s = _ := zg w_machine_3 (n := n + 1) rfl
  have hr := box_lt hs
  obtain ⟨a, b1, ha, e1⟩ := z7 (P := P) n hs 3 (by decide) (by decide)
  obtain ⟨c, b2, hc, e2⟩ := z7 (P := P) n (box_set (b := b1) hr) 5 (by decide) (by decide)
  rw [List.set_set] at e2
  obtain ⟨m1, b3, hm1, e3⟩ := z7 (P := P) n (box_set (b := b2) hr) (3 * (1 + (c : Int)) + 2) (by omega) (qh (by omega))
  rw [List.set_set] at e3
  obtain ⟨m2, b4, hm2, e4⟩ := z7 (P := P) n (box_set (b := b3) hr) 8 (by decide) (by decide)
  rw [List.set_set] at e4
  obtain ⟨m3, b5, hm3, e5⟩ := z7 (P := P) n (box_set (b := b4) hr) 76 (by decide) (by decide)
  rw [List.set_set] at e5
  rw [e0]
  have mo : ∀ x : Int, mulOk 3 x = true := fun x => mulOk_l (by decide)
  simp -implicitDefEqProofs [w_machine_3, e1, e2, mul_int (mo _), e3, e4]
  obtain ⟨many, bb, hmany, hif⟩ : ∃ (many : Nat) (bb : Int), many <= 75 /\ (if (m2 : Int) = 5 then
                      ((callN P (n + 1)).call "_law_draw" [D.ref r, D.int 76] (List.set s r (qu b4))).bind fun d s =>
                        R.ok
                          (Ct.next [some (D.ref r), some (D.int (1 + ↑a)), some (D.int (1 + ↑c)), some d, none, none, none, none, none, none, none, none, none]) s
                    else
                      R.ok
                        (Ct.next
                          [some (D.ref r), some (D.int (1 + ↑a)), some (D.int (1 + ↑c)), some (D.int ↑m1), none, none, none, none, none, none, none, none, none])
                        (List.set s r (qu b4))) = .ok (.next [some (.ref r), some (.int (1 + a)), some (.int (1 + c)), some (.int many), none, none, none, none, none, none, none, none, none]) (s.set r (qu bb)) := by
    by_cases h7 : (m2 : Int) = 5
    · exact ⟨m3, b5, by omega, by rw [if_pos h7, e5]; rfl⟩
    · exact ⟨m1, b4, by omega, by rw [if_neg h7]⟩
  rw [hif]
  simp -implicitDefEqProofs
  obtain ⟨h4, b6, hh4, e6⟩ := qH (P := P) n (t := [.lst [.int 2, .int 2, .int 4, .int 1]]) hr bb 4 (by decide) (by decide)
  rw [e6]
  have hx : ∃ hi : Nat, 1 <= hi /\ hi <= 4 /\ ixM (.ref s.length) (.int h4) (s.set r (qu b6) ++ [.lst [.int 2, .int 2, .int 4, .int 1]]) = .ok (.int hi) (s.set r (qu b6) ++ [.lst [.int 2, .int 2, .int 4, .int 1]]) := by
    have hg : (s.set r (qu b6) ++ [O.lst [.int 2, .int 2, .int 4, .int 1]])[s.length]? = some (.lst [.int 2, .int 2, .int 4, .int 1]) := by rw [List.getElem?_append_right (by simp)]; simp
    match h4, hh4 with
    | 0, _ => exact ⟨2, by decide, by decide, ix_lst (j := 0) hg rfl⟩
    | 1, _ => exact ⟨2, by decide, by decide, ix_lst (j := 1) hg rfl⟩
    | 2, _ => exact ⟨4, by decide, by decide, ix_lst (j := 2) hg rfl⟩
    | 3, _ => exact ⟨1, by decide, by decide, ix_lst (j := 3) hg rfl⟩
    | k + 4, h => omega
  obtain ⟨hi, hi1, hi4, hx⟩ := hx
  simp -implicitDefEqProofs [hx]
  rw [zH (by unfold W62; omega) (by unfold W62; omega)]
  simp -implicitDefEqProofs only [R.bind_ok]
  have hc1 : ((1 : Int) + (c : Int)) = ((c + 1 : Nat) : Int) := by omega
  have ha1 : ((1 : Int) + (a : Int)) = ((a + 1 : Nat) : Int) := by omega
  rw [hc1, ha1]
  generalize hH : O.lst [D.int 2, D.int 2, D.int 4, D.int 1] = H
  have hHb : ∀ b : Int, okOld s (s.set r (qu b) ++ [H]) = true := fun b => okOld_set s [H] r (qu b) rfl
  refine for_want (W := McB s r) (fun j ρ u => ∃ (b : Int) (l : List Dr) (x y z v : Option D), (∀ d ∈ l, d.Ok ⟨a + 1, c + 1, [], [], []⟩) /\ l.length = j /\ ρ = [some (.ref r), some (.int (a + 1 : Nat)), some (.int (c + 1 : Nat)), some (.int many), some (.int hi), some (.ref (s.length + 1)), x, y, z, v, none, none, none] /\ u = s.set r (qu b) ++ [H, .lst (l.map Dr.d)]) ⟨b6, [], none, none, none, none, by simp, rfl, rfl, rfl⟩ (fun _ _ _ _ _ => rfl) ?_ ?_
  · rintro j d ρ u hj ⟨b, l, x, y, z, v, hl, hlen, rfl, rfl⟩
    obtain ⟨hj2, rfl⟩ := rngL_get hj
    obtain ⟨k1, c1, hk1, f1⟩ := qH (P := P) n (t := [H, .lst (l.map Dr.d)]) hr b (c + 1 : Nat) (by omega) (qh (by omega))
    obtain ⟨k3, c2, hk3, f2⟩ := qH (P := P) n (t := [H, .lst (l.map Dr.d)]) hr c1 (c + 1 : Nat) (by omega) (qh (by omega))
    obtain ⟨k2, c3, hk2, f3⟩ := qH (P := P) n (t := [H, .lst (l.map Dr.d)]) hr c2 (a + 1 : Nat) (by omega) (qh (by omega))
    obtain ⟨k4, c4, hk4, f4⟩ := qH (P := P) n (t := [H, .lst (l.map Dr.d)]) hr c3 hi (by omega) (qh (by omega))
    refine Nx_of (ρ := [some (.ref r), some (.int (a + 1 : Nat)), some (.int (c + 1 : Nat)), some (.int many), some (.int hi), some (.ref (s.length + 1)), some (.int j), some (.int k1), some (.int k3), some (.str [97 + k2]), none, none, none]) (s := s.set r (qu c4) ++ [H, .lst ((l ++ [(⟨k1, 97 + k2, k3, k4⟩ : Dr)]).map Dr.d)]) ?_ ⟨c4, l ++ [(⟨k1, 97 + k2, k3, k4⟩ : Dr)], _, _, _, _, ?_, ?_, rfl, rfl⟩
    · simp -implicitDefEqProofs only [turn, Int.zero_add, zm, qg, zN, Option.map_some, zr, zI, ex_asg, ex_ex, ev_call, zy, ev_ix, ev_cst, ev_meth, ev_tup, zF, zQ, evas_ex, evas_nil, zz, zD, R.bind_ok, Cn_str, f1, f2, f3, f4, abc_ix (show k2 < 3 by omega), zV, zt]
      rw [app_two (by unfold LIM; simp; omega)]
      simp -implicitDefEqProofs
      rfl
    · intro d hd
      rcases List.mem_append.mp hd with h | h
      · exact hl d h
      · rw [List.mem_singleton.mp h]; constructor <;> simp only <;> omega
    · simp [hlen]
  · rintro ρ u ⟨b, l, x, y, z, v, hl, hlen, rfl, rfl⟩
    have p5 := pow5 (k := c + 1) (by omega)
    obtain ⟨k1, c1, hk1, f1⟩ := qH (P := P) n (t := [H, .lst (l.map Dr.d)]) hr b _ p5.1 (qh (by omega))
    obtain ⟨k2, c2, hk2, f2⟩ := qH (P := P) n (t := [H, .lst (l.map Dr.d)]) hr c1 _ p5.1 (qh (by omega))
    have hl3 : (s.set r (qu c2) ++ [H, O.lst (l.map Dr.d)])[s.length + 1]? = some (.lst (l.map Dr.d)) := by rw [List.getElem?_append_right (by simp)]; simp
    have hll : l.length <= 75 := by
      rw [hlen]; simp [qy]; omega
    have hrl : (qy 0 ((c + 1 : Nat) : Int)).length <= LIM := by rw [zL]; unfold LIM; omega
    simp -implicitDefEqProofs only [zt, zr, zI, ex_asg, ev_call, evas_ex, evas_nil, zy, ev_bin, ev_cst, Cn_int, zz, zD, R.bind_ok, shl_one ⟨show (0 : Int) <= ((c + 1 : Nat) : Int) by omega, by omega⟩, f1, zm, qg, zN, Option.map_some, zV, ev_mk, qA, qd]
    rw [zH (by unfold W62; omega) (by unfold W62; omega)]
    simp -implicitDefEqProofs only [R.bind_ok, if_pos hrl]
    rw [bits_ok (by omega) rfl]
    simp -implicitDefEqProofs only [R.bind_ok, mk, f2, zV, zt, zm, qg, zN, Option.map_some, zr, ev_call, evas_ex, evas_nil, zy, ev_bin, ev_cst, Cn_int, zz, zD, ex_asg, shl_one ⟨show (0 : Int) <= ((c + 1 : Nat) : Int) by omega, by omega⟩, ev_mk, qA, qd]
    rw [zH (by unfold W62; omega) (by unfold W62; omega)]
    simp -implicitDefEqProofs only [R.bind_ok, if_pos hrl]
    rw [bits_ok (by omega) rfl]
    simp -implicitDefEqProofs only [R.bind_ok, mk, zV, zt, nxt_ret, zm, qg, zN, Option.map_some, zr, zI, ex_ret, ev_tup, zF, zQ, zy, zz, zD, ev_mk, evL_seq, lstM, hl3, fin_ret]
    refine ⟨⟨a + 1, c + 1, roomsN k1 (c + 1), roomsN k2 (c + 1), l⟩, c2, ⟨by simp, by simp; omega, by simp, by simp; omega, roomsN_ok _ _, roomsN_ok _ _, fun x hx => ?_, hll⟩, ?_⟩
    · have := hl x hx
      exact ⟨this.a, this.l, this.b, this.t⟩
    · exact canon_set (mc_bnd ⟨a + 1, c + 1, roomsN k1 (c + 1), roomsN k2 (c + 1), l⟩) (by nofun) rfl
end DV
end
noncomputable section
namespace DV
noncomputable def lines (m:Nat)(f:Nat->Nat->Int):Sto:=(List.range m).map fun i=>.lst (row m (f i))
@[simp] theorem lines_len {m:Nat} {f:Nat->Nat->Int}:(lines m f).length=m:=by unfold lines;simp
theorem lines_get {m i:Nat}{f:Nat->Nat->Int}(h:i<m):(lines m f)[i]?=some (.lst (row m (f i))):=by
 unfold lines;rw [List.getElem?_map,List.getElem?_range h];rfl
theorem row_set {m b:Nat}{f:Nat->Int}{v:Int}:(row m f).set b (.int v)=row m fun j=>if j=b then v else f j:=by
 apply List.ext_getElem?
 intro j
 by_cases hj:j<m
 ·rw [row_get hj]
  by_cases e:j=b
  ·subst e;rw [List.getElem?_set_self (by rw [row_len];exact hj),if_pos rfl]
  ·rw [List.getElem?_set_ne (fun z=>e z.symm),row_get hj,if_neg e]
 ·rw [List.getElem?_eq_none (by simp;omega),List.getElem?_eq_none (by simp;omega)]
theorem lines_set {m a b:Nat}{f:Nat->Nat->Int}{v:Int}:(lines m f).set a (.lst ((row m (f a)).set b (.int v)))=lines m fun i j=>if i=a/\j=b then v else f i j:=by
 apply List.ext_getElem?
 intro i
 by_cases hi:i<m
 ·rw [lines_get hi]
  by_cases e:i=a
  ·subst e;rw [List.getElem?_set_self (by rw [lines_len];exact hi),row_set]
   simp
  ·rw [List.getElem?_set_ne (fun z=>e z.symm),lines_get hi]
   simp [e]
 ·rw [List.getElem?_eq_none (by simp;omega),List.getElem?_eq_none (by simp;omega)]
noncomputable def refs (p m:Nat):List D:=(List.range m).map fun i=>.ref (p+i)
theorem refs_get {p m i:Nat}(h:i<m):(refs p m)[i]?=some (.ref (p+i)):=by
 unfold refs;rw [List.getElem?_map,List.getElem?_range h];rfl
theorem comp_rngI {ok:Sto->Bool}{g:D->Env->Sto->R (Option D×Env)}(P:Nat->Env->Sto->Prop)(f:Nat->D)(n:Nat)
  (o:∀ k ρ s,P k ρ s->ok s=true) (st:∀ j,j<n->∀ ρ s,P j ρ s->∃ ρ' s',g (.int (j:Int)) ρ s=.ok (some (f j),ρ') s'/\P (j+1) ρ' s') :
  ∀ (k:Nat) (ρ:Env) (s:Sto),k<=n->P k ρ s->∃ ρ' s',qt ok g (qy (k:Int) (n:Int)) ρ s=.ok ((List.range' k (n - k)).map f) s'/\P n ρ' s':=by
 intro k
 induction h:n - k generalizing k with
 | zero =>
  intro ρ s hk hp
  have e:k=n:=by omega
  subst e
  refine ⟨ρ,s,?_,hp⟩
  rw [show qy (k:Int) (k:Int)=[] by simp [qy]]
  unfold qt
  rw [if_pos (o _ _ _ hp)];rfl
 | succ d ih =>
  intro ρ s hk hp
  obtain ⟨ρ1,s1,e1,h1⟩:=st k (by omega) ρ s hp
  obtain ⟨ρ2,s2,e2,h2⟩:=ih (k+1) (by omega) ρ1 s1 (by omega) h1
  refine ⟨ρ2,s2,?_,h2⟩
  rw [rngL_cons (by omega),List.range'_succ,List.map_cons]
  unfold qt
  rw [if_pos (o _ _ _ hp),e1]
  simp only [R.bind_ok]
  rw [show ((k:Int)+1)=((k+1:Nat):Int) by omega,e2]
  rfl
noncomputable def sgF (ds:List Dr)(c i j:Nat):Nat->Int
 | 0=>3
 | k+1=>match ds[k]? with
  | some x=>if x.l=c/\i=x.a/\j=x.b then (if (if 0<x.t then (1:Int) else 0)<sgF ds c i j k then (if 0<x.t then (1:Int) else 0) else sgF ds c i j k) else sgF ds c i j k
  | none=>sgF ds c i j k
noncomputable def sgM (m:Mc)(c i j:Nat):Int:=sgF m.ds c i j m.ds.length
theorem int_bl {b:Bool}{s:Sto}:bi .int [.bl b] s=.ok (.int (if b then 1 else 0)) s:=rfl
theorem letter_signs_ok {P:Pr}[Has P w_letter_signs](n:Nat){m:Mc}(hm:m.Ok)(c:Nat)(s:Sto) :
  (callN P (n+1)).call "_law_letter_signs" [m.d,.str [c]] s=.ok (gd m.R (sgM m c)) s:=by
 have e0:(callN P (n+1)).call "_law_letter_signs" [m.d,.str [c]] s=_:=zg w_letter_signs (n:=n) rfl
 have hR:=hm.R5
 rw [e0]
 simp -implicitDefEqProofs [w_letter_signs,ixR]
 rw [zH (by unfold W62;omega) (by unfold W62;omega)]
 simp only [R.bind_ok]
 rw [if_pos (by rw [zL];unfold LIM;omega)]
 obtain ⟨ρ1,s1,e1,h1⟩:=comp_rngI (ok:=fun s1=>chk s s1 []) (g:=zW (callN P n) (.one 0) (.mk .list (.comp (.one 0) (.rng1 (.var 1)) (.cst (.int 3)) [none]))) (fun k ρ u=>u=s++(List.range k).map (fun _=>O.lst (row m.R fun _=>3))/\∃ x,ρ=[x,some (.int m.R)]) (fun i=>.ref (s.length+i)) m.R (fun _ _ _ _=>rfl) (by
  rintro j hj ρ u ⟨rfl,x,rfl⟩
  refine ⟨[some (.int j),some (.int m.R)],_,?_,rfl,_,rfl⟩
  simp -implicitDefEqProofs [zW]
  rw [zH (by unfold W62;omega) (by unfold W62;omega)]
  simp only [R.bind_ok]
  rw [if_pos (by rw [zL];unfold LIM;omega)]
  obtain ⟨ρ1,s1,e1,h1⟩:=qo (ok:=fun s1=>chk (s++(List.range j).map (fun _=>O.lst (row m.R fun _=>3))) s1 []) (g:=zW (callN P n) (.one 0) (.cst (.int 3))) (fun ρ u=>u=s++(List.range j).map (fun _=>O.lst (row m.R fun _=>3))/\∃ x,ρ=[x]) (fun _=>.int 3) m.R (zx [some (.int (j:Int)),some (.int m.R)] [none]) _ ⟨rfl,none,rfl⟩ (fun _ _ _=>rfl) (by
   rintro i _ ρ u ⟨rfl,x,rfl⟩
   exact ⟨_,_,rfl,rfl,_,rfl⟩)
  obtain ⟨rfl,_⟩:=h1
  rw [e1]
  simp -implicitDefEqProofs [mk,List.range_succ]
  rfl) 0 (zx [some m.d,some (.str [c]),some (.int m.R),none,none,none,none,none] [none,some 2]) s (Nat.zero_le _) ⟨by simp,none,rfl⟩
 obtain ⟨rfl,_⟩:=h1
 rw [show ((0:Nat):Int)=0 from rfl] at e1
 rw [e1]
 have el:(List.range m.R).map (fun _=>O.lst (row m.R fun _=>3))=lines m.R (fun i j=>sgF m.ds c i j 0):=rfl
 rw [el,Nat.sub_zero,<-List.range_eq_range']
 simp -implicitDefEqProofs [mk,ixD,tup_seq]
 refine for_bind (fun k ρ t=>∃ (x y z w:Option D),ρ=[some m.d,some (.str [c]),some (.int m.R),some (.ref (s.length+m.R)),x,y,z,w]/\t=s++(lines m.R (fun i j=>sgF m.ds c i j k)++[.lst (refs s.length m.R)])) ⟨none,none,none,none,rfl,rfl⟩ (fun _ _ _ _ _=>rfl) ?_ ?_
 ·rintro k d ρ t hk ⟨x,y,z,w,rfl,rfl⟩
  rw [List.getElem?_map] at hk
  obtain ⟨v,hv,rfl⟩:∃ v,m.ds[k]?=some v/\Dr.d v=d:=by
   cases e:m.ds[k]? with
   | none=>rw [e] at hk;cases hk
   | some v=>rw [e] at hk;exact ⟨v,rfl,Option.some.inj hk⟩
  have hvo:=hm.ds.1 v (List.mem_of_getElem? hv)
  have ha:=hvo.a
  have hb:=hvo.b
  refine Nx_of (ρ:=[some m.d,some (.str [c]),some (.int m.R),some (.ref (s.length+m.R)),some (.int v.a),some (.str [v.l]),some (.int v.b),some (.int v.t)]) (s:=s++(lines m.R (fun i j=>sgF m.ds c i j (k+1))++[.lst (refs s.length m.R)])) ?_ ⟨_,_,_,_,rfl,rfl⟩
  have e3:(s++(lines m.R (fun i j=>sgF m.ds c i j k)++[.lst (refs s.length m.R)]))[s.length+m.R]?=some (.lst (refs s.length m.R)):=by
   rw [List.getElem?_append_right (by omega),Nat.add_sub_cancel_left,List.getElem?_append_right (by simp)];simp
  have e4:(s++(lines m.R (fun i j=>sgF m.ds c i j k)++[.lst (refs s.length m.R)]))[s.length+v.a]?=some (.lst (row m.R fun j=>sgF m.ds c v.a j k)):=by
   rw [List.getElem?_append_right (by omega),Nat.add_sub_cancel_left,List.getElem?_append_left (by simpa using ha),lines_get ha]
  have e5:=ix_lst e3 (refs_get ha)
  have e6:=ix_lst e4 (row_get hb)
  by_cases hl:v.l=c
  ·simp -implicitDefEqProofs only [turn,Dr.d,bindT_tup,setVs_cons,setVs_nil,qg,zN,Option.map_some,Option.bind_some,zr,zI,ex_ite,ev_cmp,zy,zz,zD,R.bind_ok,eq_str1,hl,decide_true,tru_bl,if_true,ex_setIx,ev_bi,zF,zQ,ev_ix,e5,e6,ev_cst,Cn_int,gt_int,int_bl,min2_int]
   rw [set_lst e4 (by rw [row_len];exact hb)]
   simp -implicitDefEqProofs only [R.bind_ok,zt,zI]
   congr 1
   rw [List.set_append_right _ _ (by omega),Nat.add_sub_cancel_left,List.set_append_left _ _ (by simpa using ha)]
   congr 2
   rw [lines_set (f:=fun i j=>sgF m.ds c i j k)]
   congr 1
   funext i j
   rw [sgF,hv]
   by_cases h2:i=v.a/\j=v.b
   ·obtain ⟨rfl,rfl⟩:=h2
    simp [hl]
   ·simp [hl,h2]
  ·simp -implicitDefEqProofs only [turn,Dr.d,bindT_tup,setVs_cons,setVs_nil,qg,zN,Option.map_some,Option.bind_some,zr,zI,ex_ite,ev_cmp,zy,zz,zD,R.bind_ok,eq_str1,hl,decide_false,tru_bl,if_false,Bool.false_eq_true,zt]
   congr 3
   congr 1
   funext i j
   rw [sgF,hv]
   simp [hl]
 ·rintro ρ t ⟨x,y,z,w,rfl,rfl⟩
  rw [List.length_map]
  have e3:(s++(lines m.R (sgM m c)++[.lst (refs s.length m.R)]))[s.length+m.R]?=some (.lst (refs s.length m.R)):=by
   rw [List.getElem?_append_right (by omega),Nat.add_sub_cancel_left,List.getElem?_append_right (by simp)];simp
  show (nxt _ _ _ (s++(lines m.R (sgM m c)++[.lst (refs s.length m.R)]))).bind _=_
  simp -implicitDefEqProofs [seqM,e3]
  rw [if_pos (by unfold refs LIM;simp;omega)]
  generalize hS:s++(lines m.R (sgM m c)++[.lst (refs s.length m.R)])=S
  obtain ⟨ρ1,s1,e1,h1⟩:=comp_map (ok:=fun s1=>chk S s1 [s.length+m.R]) (g:=zW (callN P n) (.one 0) (.mk .tuple (.seq (.var 0)))) (fun ρ u=>u=S/\∃ x,ρ=[x]) (fun d=>match d with | .ref p=>.tup (row m.R (sgM m c (p - s.length))) | d=>d) (refs s.length m.R) (zx [some m.d,some (.str [c]),some (.int m.R),some (.ref (s.length+m.R)),x,y,z,w] [none]) S ⟨rfl,none,rfl⟩ (fun _ u h=>by obtain ⟨rfl,_⟩:=h;simp [chk]) (by
   rintro d hd ρ u ⟨rfl,x,rfl⟩
   obtain ⟨i,hi,rfl⟩:=List.mem_map.mp hd
   have hi':=List.mem_range.mp hi
   have e4:u[s.length+i]?=some (.lst (row m.R (sgM m c i))):=by
    rw [<-hS,List.getElem?_append_right (by omega),Nat.add_sub_cancel_left,List.getElem?_append_left (by simpa using hi'),lines_get hi']
   refine ⟨[some (.ref (s.length+i))],u,?_,rfl,_,rfl⟩
   simp -implicitDefEqProofs [zW,lstM,e4,mk])
  obtain ⟨rfl,_⟩:=h1
  rw [e1]
  simp -implicitDefEqProofs [mk]
  rw [<-hS]
  have:(refs s.length m.R).map (fun d=>match d with | .ref p=>D.tup (row m.R (sgM m c (p - s.length))) | d=>d)=(List.range m.R).map fun i=>.tup (row m.R (sgM m c i)):=by
   unfold refs
   rw [List.map_map]
   exact List.map_congr_left fun i _=>by simp
  rw [this]
  exact zO (d:=gd m.R (sgM m c)) gd_bnd (by nofun)
end DV
end
noncomputable section
namespace DV
@[simp] theorem evI_zip {F:Fns} {ρ:Env} {s:Sto} (a b:E):evI F (.zip (.seq a) (.seq b)) ρ s=(ev F a ρ s).bind fun x s=>(ev F b ρ s).bind fun y s=>(drawM x s).bind fun p s=>(drawM y s).bind fun q s=>.ok ⟨zipL p.its q.its,p.src++q.src⟩ s:=rfl
theorem ix_str {l:List Nat}{j c:Nat}{s:Sto}(hj:l[j]?=some c):ixM (.str l) (.int (j:Int)) s=.ok (.str [c]) s:=by
 have hl:j<l.length:=(List.getElem?_eq_some_iff.mp hj).1
 have e:l[j]=c:=(List.getElem?_eq_some_iff.mp hj).2
 simp [ixM,ixn,hl,e]
end DV
end
noncomputable section
namespace DV
end DV
end
noncomputable section
namespace DV
theorem eqv_int (s:Sto)(n:Nat)(a b:Int):eqv s n (.int a) (.int b)=some (a==b):=by cases n<;>rfl
end DV
end
noncomputable section
namespace DV
noncomputable def shN (f:Nat->Nat->Int)(i j:Nat):Nat->Int
 | 0=>3
 | k+1=>let b:=max (max (f i k) (if f k k=1 then 2 else f k k)) (f k j);if b<shN f i j k then b else shN f i j k
noncomputable def sh (m:Nat)(f:Nat->Nat->Int)(i j:Nat):Int:=shN f i j m
theorem len_gd {m:Nat}{f:Nat->Nat->Int}{s:Sto}:bi .len [gd m f] s=.ok (.int m) s:=by
 show R.ok (D.int ((List.range m).map fun i=>D.tup (row m (f i))).length) s=_
 simp
theorem app_tail {s:Sto}{l:List D}{v:D}(h:l.length<LIM):meth .append (.ref s.length) [v] (s++[.lst l])=.ok .non (s++[.lst (l++[v])]):=app_mid (t:=[]) h
theorem eqL_row {s:Sto}{n m:Nat}{f g:Nat->Int}:∀ l:List Nat,eqL (eqv s n) (l.map fun j=>.int (f j)) (l.map fun j=>.int (g j))=some (l.all fun j=>f j==g j)
 | []=>rfl
 | a::l=>by
  rw [List.map_cons,List.map_cons]
  unfold eqL
  rw [eqv_int,eqL_row (m:=m) l]
  simp
theorem eqL_gd {s:Sto}{n m:Nat}{f g:Nat->Nat->Int}:∀ l:List Nat,eqL (eqv s (n+1)) (l.map fun i=>.tup (row m (f i))) (l.map fun i=>.tup (row m (g i)))=some (l.all fun i=>(List.range m).all fun j=>f i j==g i j)
 | []=>rfl
 | a::l=>by
  rw [List.map_cons,List.map_cons]
  unfold eqL
  rw [show eqv s (n+1) (.tup (row m (f a))) (.tup (row m (g a)))=eqL (eqv s n) (row m (f a)) (row m (g a)) from rfl,row,row,eqL_row (m:=m),eqL_gd l]
  simp
noncomputable def EqG (m:Nat)(f g:Nat->Nat->Int):Prop:=∀ i j,i<m->j<m->f i j=g i j
theorem eqv_gd {s:Sto}{m:Nat}{f g:Nat->Nat->Int}:∃ b:Bool,eqv s DEEP (gd m f) (gd m g)=some b/\(b=true↔EqG m f g):=by
 refine ⟨_,eqL_gd (n:=28) (List.range m),?_⟩
 simp [EqG,List.all_eq_true]
 exact ⟨fun h i j hi hj=>h i hi j hj,fun h i hi j hj=>h i j hi hj⟩
theorem ne_gd {s:Sto}{m:Nat}{f g:Nat->Nat->Int}:∃ b:Bool,qi .ne (gd m f) (gd m g) s=.ok (.bl (!b)) s/\(b=true↔EqG m f g):=by
 obtain ⟨b,e,h⟩:=eqv_gd (s:=s) (m:=m) (f:=f) (g:=g)
 exact ⟨b,by show (match eqv s DEEP (gd m f) (gd m g) with | some r=>R.ok (D.bl (!r)) s | none=>.bad)=_;rw [e],h⟩
end DV
end
noncomputable section
namespace DV
inductive Stp where
 | let_ (c:Nat) | pair (i j:Nat) | sharp (i:Nat)
noncomputable def Stp.d:Stp->D
 | .let_ c=>.tup [.str [108,101,116,116,101,114],.str [c]]
 | .pair i j=>.tup [.str [112,97,105,114],.int i,.int j]
 | .sharp i=>.tup [.str [115,104,97,114,112],.int i]
theorem zB {l:List D}(h:∀ d∈l,d.ncl=true):D.nclL l=true:=by
 induction l with
 | nil=>rfl
 | cons d l ih=>unfold D.nclL;rw [h d (List.mem_cons_self ..),ih fun x hx=>h x (List.mem_cons_of_mem _ hx)];rfl
theorem nats_ncl {l:List Nat}:D.nclL (nats l)=true:=zB fun d hd=>by obtain ⟨x,_,rfl⟩:=List.mem_map.mp hd;rfl
theorem ints_ncl {l:List Int}:D.nclL (l.map D.int)=true:=zB fun d hd=>by obtain ⟨x,_,rfl⟩:=List.mem_map.mp hd;rfl
theorem row_ncl {m:Nat}{f:Nat->Int}:D.nclL (row m f)=true:=zB fun d hd=>by obtain ⟨x,_,rfl⟩:=List.mem_map.mp hd;rfl
theorem gd_ncl {m:Nat}{f:Nat->Nat->Int}:(gd m f).ncl=true:=by
 unfold gd D.ncl
 exact zB fun d hd=>by obtain ⟨x,_,rfl⟩:=List.mem_map.mp hd;unfold D.ncl;exact row_ncl
theorem all_set {s:Sto}{r:Nat}{o:O}(h:s.all O.ncl=true)(ho:o.ncl=true):(s.set r o).all O.ncl=true:=by
 rw [List.all_eq_true] at h ⊢
 intro x hx
 rcases List.mem_or_eq_of_mem_set hx with h1 | h1
 ·exact h x h1
 ·rw [h1];exact ho
section
variable {s:Sto} {r:Nat} {b:Int} {A B C:List D} {T:Sto}
end
end DV
end
noncomputable section
namespace DV
end DV
end
noncomputable section
namespace DV
theorem prN_le {f g:Nat->Nat->Int}{i j:Nat}{x:Int}:∀ k,prN f g i j k<=x↔3<=x\/∃ l,l<k/\f i l<3/\f i l<=x/\g l j<=x
 | 0=>by unfold prN;exact ⟨.inl,fun h=>h.elim id fun ⟨l,hl,_⟩=>absurd hl (Nat.not_lt_zero _)⟩
 | k+1=>by
  have ih:=prN_le (f:=f) (g:=g) (i:=i) (j:=j) (x:=x) k
  have key:prN f g i j (k+1)<=x↔prN f g i j k<=x\/(f i k<3/\f i k<=x/\g k j<=x):=by
   conv=>lhs;unfold prN
   simp only
   repeat' split
   all_goals omega
  rw [key,ih]
  constructor
  ·rintro ((h | ⟨l,h1,h2⟩) | h)
   ·exact .inl h
   ·exact .inr ⟨l,by omega,h2⟩
   ·exact .inr ⟨k,by omega,h⟩
  ·rintro (h | ⟨l,h1,h2⟩)
   ·exact .inl (.inl h)
   ·by_cases e:l=k
    ·subst e;exact .inr h2
    ·exact .inl (.inr ⟨l,by omega,h2⟩)
theorem pr_le {m:Nat}{f g:Nat->Nat->Int}{i j:Nat}{x:Int}(hx:x<3):pr m f g i j<=x↔∃ l,l<m/\f i l<=x/\g l j<=x:=by
 unfold pr
 rw [prN_le]
 constructor
 ·rintro (h | ⟨l,h1,_,h2,h3⟩)
  ·omega
  ·exact ⟨l,h1,h2,h3⟩
 ·rintro ⟨l,h1,h2,h3⟩
  exact .inr ⟨l,h1,by omega,h2,h3⟩
theorem pr_3 {m:Nat}{f g:Nat->Nat->Int}{i j:Nat}:pr m f g i j<=3:=by
 unfold pr;exact (prN_le _).mpr (.inl (Int.le_refl _))
section
variable {m:Nat} {f:Nat->Nat->Int} {x:Int}
end
end DV
end
noncomputable section
namespace DV
end DV
end
noncomputable section
namespace DV
noncomputable def valOf (a c:Int)(vs:List Int):Stp->Int
 | .let_ _=>a
 | .pair i j=>vs.getD i 0+vs.getD j 0
 | .sharp i=>vs.getD i 0*c
noncomputable def vl (a c:Int)(l:List Stp):List Int:=l.foldl (fun vs x=>vs++[valOf a c vs x]) []
theorem take_snoc {α:Type}{l:List α}{k:Nat}{x:α}(h:l[k]?=some x):l.take (k+1)=l.take k++[x]:=by
 rw [List.take_succ,h];rfl
end DV
end
noncomputable section
namespace DV
section
variable {F:Fns} {ρ:Env} {s:Sto}
noncomputable def apV (F:Fns)(d:D)(l:List D)(s:Sto):R D:=match d with
 | .fn f=>F.call f l s
 | .clo id cs=>F.lam id cs l s
 | _=>.bad
theorem ev_callV {i:Nat}{d:D}(es:Es)(h:ρ[i]?=some (some d)):ev F (.callV i es) ρ s=(evs F es ρ s).bind fun l s=>apV F d l s:=by
 show (evs F es ρ s).bind (fun l s=>match ρ[i]? with
  | some (some (.fn f))=>F.call f l s
  | some (some (.clo id cs))=>F.lam id cs l s
  | _=>.bad)=_
 rw [h]
 cases d<;>rfl
theorem evas_lam {id:String}{caps:List Nat}{cs:List D}(as:As)(h:getVs ρ caps=some cs):evas F (.lam id caps as) ρ s=(evas F as ρ s).bind fun l s=>.ok (.clo id cs::l) s:=by
 show (match getVs ρ caps with
  | some cs=>(evas F as ρ s).bind fun l s=>R.ok (D.clo id cs::l) s
  | none=>.bad)=_
 rw [h]
end
theorem all_snoc {s:Sto}{o:O}(h:s.all O.ncl=true)(ho:o.ncl=true):(s++[o]).all O.ncl=true:=by rw [List.all_append,h];simp [ho]
noncomputable def Stp.t (c:Int):Stp->D
 | .sharp i=>.tup [.str [116,105,109,101,115],.int i,.int c]
 | x=>x.d
theorem canon_one {s:Sto}{o:O}(ho:o.bnd s.length=true):zA s (.ref s.length) (s++[o])=.ok (.ref s.length) (s++[o]):=by
 have:=canon_new (s:=s) (t:=[]) (u:=[]) ho
 simpa using this
end DV
end
noncomputable section
namespace DV
noncomputable def gdD (m:Nat)(W:Nat->Nat->D):D:=.tup ((List.range m).map fun i=>.tup ((List.range m).map fun j=>W i j))
theorem gdD_bnd {m:Nat}{W:Nat->Nat->D}(hW:∀ i j n,(W i j).bnd n=true)(n:Nat):(gdD m W).bnd n=true:=by
 unfold gdD D.bnd
 refine zT (fun d hd n=>?_) n
 obtain ⟨i,_,rfl⟩:=List.mem_map.mp hd
 unfold D.bnd
 refine zT (fun d hd n=>?_) n
 obtain ⟨j,_,rfl⟩:=List.mem_map.mp hd
 exact hW i j n
theorem grid_ok {P : Pr} [Has P d_grid] (n : Nat) {m : Nat} (hm : m <= 1000) {d : D} {s : Sto} {W : Nat -> Nat -> D} (hW : ∀ i j n, (W i j).bnd n = true)
    (h : ∀ i j, i < m -> j < m -> apV (callN P n) d [.int i, .int j] (s ++ [.lst ((List.range i).map fun i => .tup ((List.range m).map fun j => W i j))]) = .ok (W i j) (s ++ [.lst ((List.range i).map fun i => .tup ((List.range m).map fun j => W i j))])) :
    (callN P (n + 1)).call "grid" [.int m, d] s = .ok (gdD m W) s := by
  have e0 : (callN P (n + 1)).call "grid" [.int m, d] s = _ := zg d_grid (n := n) rfl
  rw [e0, show (List.map some [D.int m, d] ++ List.replicate d_grid.vs none) = [some (D.int m), some d, none, none] from rfl]
  simp -implicitDefEqProofs only [d_grid]
  simp -implicitDefEqProofs only [zr, zI, ex_asg, ev_lst, zQ, R.bind_ok, alloc_eq, zm, qg, zN, Option.map_some, zV, zt, ex_for, qd, zy, zz, zD]
  rw [zH (by unfold W62; omega) (by unfold W62; omega)]
  simp only [R.bind_ok]
  rw [R.bind_assoc]
  refine for_bind (fun i ρ t => ∃ (x : Option D), ρ = [some (D.int m), some d, some (.ref s.length), x] /\ t = s ++ [.lst ((List.range i).map fun i => .tup ((List.range m).map fun j => W i j))]) ⟨none, rfl, rfl⟩ (fun _ _ _ _ _ => rfl) ?_ ?_
  · rintro i dd ρ t hi ⟨x, rfl, rfl⟩
    have hi5 := (rngL_at hi).1
    rw [(rngL_at hi).2]
    generalize hS : s ++ [O.lst ((List.range i).map fun i => D.tup ((List.range m).map fun j => W i j))] = S
    have e1 : qt (fun s1 => chk S s1 []) (zW (callN P n) (.one 0) (.callV 1 (.cons (.var 2) (.cons (.var 0) .nil)))) (qy 0 (m : Int)) (zx [some (D.int m), some d, some (.ref s.length), some (.int (i : Int))] [none, some 1, some 3]) S = .ok ((List.range m).map fun j => W i j) S := by
     obtain ⟨ρ1, s1, e1, h1⟩ := qo (ok := fun s1 => chk S s1 []) (g := zW (callN P n) (.one 0) (.callV 1 (.cons (.var 2) (.cons (.var 0) .nil)))) (fun ρ u => u = S /\ ∃ x, ρ = [x, some d, some (.int i)]) (fun j => W i j) m (zx [some (D.int m), some d, some (.ref s.length), some (.int (i : Int))] [none, some 1, some 3]) S ⟨rfl, none, rfl⟩ (fun _ _ _ => rfl) (by
      rintro j hj ρ u ⟨rfl, x, rfl⟩
      refine ⟨[some (.int j), some d, some (.int i)], u, ?_, rfl, _, rfl⟩
      have hc := h i j hi5 hj
      rw [hS] at hc
      unfold zW
      simp -implicitDefEqProofs only [zm, zN]
      rw [ev_callV (d := d) _ rfl]
      simp -implicitDefEqProofs only [zF, zQ, zy, zz, zD, R.bind_ok, hc])
     obtain ⟨rfl, _⟩ := h1
     exact e1
    have e2 : turn (callN P n) (.one 3) (.cons (.ex (.meth .append (.var 2) (.cons (.mk .tuple (.comp (.one 0) (.rng1 (.var 0)) (.callV 1 (.cons (.var 2) (.cons (.var 0) .nil))) [none, some 1, some 3])) .nil))) .nil) (.int i) [some (D.int m), some d, some (.ref s.length), x] S = .ok (.next [some (D.int m), some d, some (.ref s.length), some (.int i)]) (s ++ [.lst ((List.range (i + 1)).map fun i => .tup ((List.range m).map fun j => W i j))]) := by
      unfold turn
      simp -implicitDefEqProofs only [zm, qg, zN, Option.map_some, zr, zI, ex_ex, ev_meth, zF, zQ, ev_mk, ql, qd, zy, zz, zD, R.bind_ok]
      rw [zH (by unfold W62; omega) (by unfold W62; omega)]
      simp only [R.bind_ok]
      rw [if_pos (by rw [zL]; unfold LIM; omega), e1, <- hS]
      simp -implicitDefEqProofs only [R.bind_ok, mk]
      rw [app_tail (by unfold LIM; simp; omega), List.range_succ, List.map_append]
      rfl
    rw [e2]
    show ∃ x, _
    exact ⟨some (.int i), rfl, rfl⟩
  · rintro ρ t ⟨x, rfl, rfl⟩
    rw [zL]
    have h0 : (s ++ [O.lst ((List.range m).map fun i => D.tup ((List.range m).map fun j => W i j))])[s.length]? = some (.lst ((List.range m).map fun i => D.tup ((List.range m).map fun j => W i j))) := by rw [List.getElem?_append_right (Nat.le_refl _)]; simp
    simp -implicitDefEqProofs only [zt, zr, zI, ex_ret, ev_mk, evL_seq, zy, zz, zD, R.bind_ok, lstM, h0, mk, nxt_ret, fin_ret]
    exact zO (d := gdD m W) (gdD_bnd hW) (by nofun)
noncomputable def InG (m:Nat)(f:Nat->Nat->Int):Prop:=∀ i j,i<m->j<m->0<=f i j/\f i j<=3
theorem pr_leA {m:Nat}(hm:1<=m){f g:Nat->Nat->Int}(hf:InG m f)(hg:InG m g){i j:Nat}(hi:i<m)(hj:j<m){x:Int}:pr m f g i j<=x↔∃ l,l<m/\f i l<=x/\g l j<=x:=by
 by_cases hx:x<3
 ·exact pr_le hx
 ·refine ⟨fun _=>⟨0,by omega,?_,?_⟩,fun _=>Int.le_trans pr_3 (by omega)⟩
  ·have:=hf i 0 hi (by omega);omega
  ·have:=hg 0 j (by omega) hj;omega
theorem pr_sprod {m:Nat}(hm:1<=m){f g:Nat->Nat->Int}(hf:InG m f)(hg:InG m g):EqG m (pr m f g) (L2.sprod m f g):=fun i j hi hj=>L2.eq_of_le fun x=>by
 rw [pr_leA hm hf hg hi hj,L2.sprod_le hm]
theorem pr_in {m:Nat}(hm:1<=m){f g:Nat->Nat->Int}(hf:InG m f)(hg:InG m g):InG m (pr m f g):=fun i j hi hj=>by
 rw [pr_sprod hm hf hg i j hi hj];exact L2.sprod_in hm hf hg hi hj
theorem foldl_min_le {x:Int}:∀ (l:List Int) (a:Int),l.foldl min a<=x↔∃ y∈a::l,y<=x
 | [],a=>by simp
 | b::l,a=>by
  rw [List.foldl_cons,foldl_min_le l]
  constructor
  ·rintro ⟨y,hy,hx⟩
   rcases List.mem_cons.mp hy with rfl | hy
   ·by_cases h:a<=b
    ·exact ⟨a,by simp,by omega⟩
    ·exact ⟨b,by simp,by omega⟩
   ·exact ⟨y,by simp [hy],hx⟩
  ·rintro ⟨y,hy,hx⟩
   simp only [List.mem_cons] at hy
   rcases hy with rfl | rfl | hy
   ·exact ⟨min y b,by simp,by omega⟩
   ·exact ⟨min a y,by simp,by omega⟩
   ·exact ⟨y,by simp [hy],hx⟩
theorem minI_le {l:List Int}{m x:Int}(h:minI l=some m):m<=x↔∃ y∈l,y<=x:=by
 cases l with
 | nil=>cases h
 | cons a l=>rw [<-Option.some.inj (show some (l.foldl min a)=some m from h)];exact foldl_min_le l a
theorem intsOf_map {l:List Nat}{f:Nat->Int}:zY (l.map fun k=>D.int (f k))=some (l.map f):=by
 induction l with
 | nil=>rfl
 | cons a l ih=>rw [List.map_cons];unfold zY;rw [ih];rfl
theorem mk_min {m:Nat}(hm:1<=m){f:Nat->Int}{v:Int}(hv:∀ x,v<=x↔∃ k,k<m/\f k<=x)(s:Sto):mk .min ((List.range m).map fun k=>D.int (f k)) s=.ok (.int v) s:=by
 obtain ⟨w,hw⟩:∃ w,minI ((List.range m).map f)=some w:=by
  obtain ⟨m',rfl⟩:∃ m',m=m'+1:=⟨m - 1,by omega⟩
  rw [List.range_succ_eq_map]
  exact ⟨_,rfl⟩
 show (match (zY ((List.range m).map fun k=>D.int (f k))).bind minI with | some m=>R.ok (D.int m) s | none=>.bad)=_
 rw [intsOf_map]
 show (match minI ((List.range m).map f) with | some m=>R.ok (D.int m) s | none=>.bad)=_
 rw [hw]
 have:w=v:=L2.eq_of_le fun x=>by
  rw [minI_le hw,hv]
  constructor
  ·rintro ⟨y,hy,hx⟩
   obtain ⟨k,hk,rfl⟩:=List.mem_map.mp hy
   exact ⟨k,List.mem_range.mp hk,hx⟩
  ·rintro ⟨k,hk,hx⟩
   exact ⟨_,List.mem_map.mpr ⟨k,List.mem_range.mpr hk,rfl⟩,hx⟩
 rw [this]
section
variable {P:Pr} [Has P d_grid] [Has P d_sign_product] [HasL P d_sign_product_l0]
theorem sign_product_ok (n:Nat){m:Nat}(hm:1<=m)(hm5:m<=5){f g:Nat->Nat->Int}(hf:InG m f)(hg:InG m g){s:Sto}(hs:s.all O.ncl=true) :
  (callN P (n+3)).call "sign_product" [gd m f,gd m g] s=.ok (gd m (pr m f g)) s:=by
 have e0:(callN P (n+3)).call "sign_product" [gd m f,gd m g] s=_:=zg d_sign_product (n:=n+2) rfl
 have hg0:=grid_ok (P:=P) (n+1) (m:=m) (by omega) (d:=.clo "sign_product.0" [.int m,gd m f,gd m g]) (s:=s) (W:=fun i j=>.int (pr m f g i j)) (fun _ _ _=>rfl) (fun i j hi hj=>by
  generalize hS:s++[O.lst ((List.range i).map fun i=>D.tup ((List.range m).map fun j=>D.int (pr m f g i j)))]=S
  have nS:S.all O.ncl=true:=by
   rw [<-hS]
   refine all_snoc hs (zB fun d hd=>?_)
   obtain ⟨x,_,rfl⟩:=List.mem_map.mp hd
   unfold D.ncl
   exact zB fun d hd=>by obtain ⟨x,_,rfl⟩:=List.mem_map.mp hd;rfl
  refine (lam_def d_sign_product_l0 (n:=n) rfl rfl (by rw [nS];simp [D.nclL,D.ncl,gd_ncl])).trans ?_
  show (ev (callN P n) d_sign_product_l0.body [some (.int i),some (.int j),some (.int m),some (gd m f),some (gd m g)] S).bind (zA S)=_
  simp -implicitDefEqProofs only [d_sign_product_l0,ev_mk,ql,qd,zy,zz,zD,R.bind_ok]
  rw [zH (by unfold W62;omega) (by unfold W62;omega)]
  simp only [R.bind_ok]
  rw [if_pos (by rw [zL];unfold LIM;omega)]
  obtain ⟨ρ1,s1,e1,h1⟩:=qo (ok:=fun s1=>chk S s1 []) (g:=zW (callN P n) (.one 0) (.bi .max2 (.cons (.ix (.ix (.var 1) (.var 2)) (.var 0)) (.cons (.ix (.ix (.var 3) (.var 0)) (.var 4)) .nil)))) (fun ρ u=>u=S/\∃ x,ρ=[x,some (gd m f),some (.int i),some (gd m g),some (.int j)]) (fun k=>.int (if g k j > f i k then g k j else f i k)) m (zx [some (.int i),some (.int j),some (.int m),some (gd m f),some (gd m g)] [none,some 3,some 0,some 4,some 1]) S ⟨rfl,none,rfl⟩ (fun _ _ _=>rfl) (by
   rintro k hk ρ u ⟨rfl,x,rfl⟩
   refine ⟨[some (.int k),some (gd m f),some (.int i),some (gd m g),some (.int j)],u,?_,rfl,_,rfl⟩
   unfold zW
   simp -implicitDefEqProofs only [zm,zN,ev_bi,zF,zQ,ev_ix,zy,zz,zD,R.bind_ok,gd_ix hi,gd_ix hk,row_ix hk,row_ix hj,max2_int])
  obtain ⟨rfl,_⟩:=h1
  rw [e1]
  simp only [R.bind_ok]
  rw [mk_min (v:=pr m f g i j) hm (fun x=>by
   rw [pr_leA hm hf hg hi hj]
   constructor
   ·rintro ⟨l,hl,h1,h2⟩;exact ⟨l,hl,by split<;>omega⟩
   ·rintro ⟨l,hl,h1⟩;exact ⟨l,hl,by split at h1<;>omega,by split at h1<;>omega⟩)]
  exact z6)
 rw [e0,show (List.map some [gd m f,gd m g]++List.replicate d_sign_product.vs none)=[some (gd m f),some (gd m g),none] from rfl]
 simp -implicitDefEqProofs only [d_sign_product,zr,zI,ex_asg,ev_bi,zF,zQ,zy,zz,zD,R.bind_ok,len_gd,zm,qg,zN,Option.map_some,zV,zt,ex_ret,ev_callC,evas_ex]
 rw [evas_lam (cs:=[.int m,gd m f,gd m g]) _ rfl]
 simp -implicitDefEqProofs only [evas_nil,R.bind_ok,hg0]
 have e:gdD m (fun i j=>.int (pr m f g i j))=gd m (pr m f g):=rfl
 rw [e,if_pos (by rw [gd_ncl,hs];rfl)]
 simp -implicitDefEqProofs only [R.bind_ok,nxt_ret,fin_ret]
 exact zo gd_bnd (by nofun)
end
end DV
end
noncomputable section
namespace DV
noncomputable def Least (S:Int->Prop):Option Int->Prop
 | none=>∀ c,¬ S c
 | some c=>S c/\∀ c',S c'->c<=c'
theorem Least.congr {S S':Int->Prop}{o:Option Int}(h:Least S o)(e:∀ c,S c↔S' c):Least S' o:=by
 cases o with
 | none=>exact fun c hc=>h c ((e c).mpr hc)
 | some c=>exact ⟨(e c).mp h.1,fun c' hc=>h.2 c' ((e c').mpr hc)⟩
noncomputable def minO:Option Int->Option Int->Option Int
 | none,x=>x
 | some a,none=>some a
 | some a,some b=>if b<a then some b else some a
noncomputable def Wk (ds:List Dr):List Nat->Nat->Nat->Int->Prop
 | [],p,q,c=>p=q/\c=0
 | x::w,p,q,c=>∃ d∈ds,d.a=p/\d.l=x/\∃ c':Int,Wk ds w d.b q c'/\c=(d.t:Int)+c'
noncomputable def Dr.turn (x:Dr):Dr:=⟨x.b,x.l,x.a,x.t⟩
noncomputable def Mc.Wk (m:Mc)(w:List Nat)(c:Int):Prop:=∃ p∈m.bg,∃ q∈m.en,DV.Wk m.ds w p q c
noncomputable def Mc.turn (m:Mc):Mc:=⟨m.L,m.R,m.en,m.bg,m.ds.map Dr.turn⟩
end DV
end
noncomputable section
namespace DV
noncomputable def rowD (row:List (Option Int)):List D:=row.map qc
theorem rowD_len (row:List (Option Int)):(rowD row).length=row.length:=List.length_map ..
theorem intsOf_enc:∀ l:List Int,zY (l.map D.int)=some l
 | []=>rfl
 | a::l=>by rw [List.map_cons];unfold zY;rw [intsOf_enc l];rfl
theorem foldl_min:∀ (l:List Int) (a:Int),(l.foldl min a=a\/l.foldl min a∈l)/\l.foldl min a<=a/\∀ y∈l,l.foldl min a<=y
 | [],a=>⟨.inl rfl,Int.le_refl _,fun y hy=>by cases hy⟩
 | b::l,a=>by
  obtain ⟨h1,h2,h3⟩:=foldl_min l (min a b)
  rw [List.foldl_cons]
  refine ⟨?_,by omega,fun y hy=>?_⟩
  ·rcases h1 with h | h
   ·rw [h]
    rcases Int.le_total a b with z | z
    ·left;omega
    ·right;rw [show min a b=b by omega];exact List.mem_cons_self ..
   ·exact .inr (List.mem_cons_of_mem _ h)
  ·rcases List.mem_cons.mp hy with z | z
   ·rw [z];omega
   ·exact h3 y z
theorem minI_least (l:List Int):Least (fun c=>c∈l) (minI l):=by
 cases l with
 | nil=>exact fun c hc=>by cases hc
 | cons a l =>
  obtain ⟨h1,h2,h3⟩:=foldl_min l a
  refine ⟨?_,fun y hy=>?_⟩
  ·rcases h1 with h | h
   ·rw [h];exact List.mem_cons_self ..
   ·exact List.mem_cons_of_mem _ h
  ·rcases List.mem_cons.mp hy with z | z
   ·rw [z];exact h2
   ·exact h3 y z
theorem mkD_min (l:List Int)(s:Sto):mkD .min (l.map D.int) .non s=.ok (qc (minI l)) s:=by
 unfold mkD
 simp only [intsOf_enc]
 cases minI l<;>rfl
theorem filterMap_cg {α β:Type}{f g:α->Option β}:∀ {l:List α},(∀ x∈l,f x=g x)->l.filterMap f=l.filterMap g
 | [],_=>rfl
 | a::l,h=>by rw [List.filterMap_cons,List.filterMap_cons,h a (List.mem_cons_self ..),filterMap_cg fun x hx=>h x (List.mem_cons_of_mem _ hx)]
end DV
end
noncomputable section
namespace DV
noncomputable def gdO (m:Nat)(f:Nat->Nat->Option Int):D:=gdD m fun i j=>qc (f i j)
theorem encO_ncl (o:Option Int):(qc o).ncl=true:=by cases o<;>rfl
theorem gdO_bnd {m:Nat}{f:Nat->Nat->Option Int}(n:Nat):(gdO m f).bnd n=true:=gdD_bnd (fun i j n=>zZ _ n) n
theorem gdO_ncl {m:Nat}{f:Nat->Nat->Option Int}:(gdO m f).ncl=true:=by
 unfold gdO gdD D.ncl
 refine zB fun d hd=>?_
 obtain ⟨i,_,rfl⟩:=List.mem_map.mp hd
 unfold D.ncl
 refine zB fun d hd=>?_
 obtain ⟨j,_,rfl⟩:=List.mem_map.mp hd
 exact encO_ncl _
noncomputable def rowO (m:Nat)(f:Nat->Option Int):List D:=(List.range m).map fun j=>qc (f j)
theorem rowO_get {m j:Nat}{f:Nat->Option Int}(h:j<m):(rowO m f)[j]?=some (qc (f j)):=by unfold rowO;rw [List.getElem?_map,List.getElem?_range h];rfl
theorem gdO_ix {m i:Nat}{f:Nat->Nat->Option Int}(h:i<m)(s:Sto):ixM (gdO m f) (.int (i:Int)) s=.ok (.tup (rowO m (f i))) s:=ix_tup (by rw [List.getElem?_map,List.getElem?_range h];rfl)
theorem rowO_ix {m j:Nat}{f:Nat->Option Int}(h:j<m)(s:Sto):ixM (.tup (rowO m f)) (.int (j:Int)) s=.ok (qc (f j)) s:=ix_tup (rowO_get h)
theorem gdO_len {m:Nat}{f:Nat->Nat->Option Int}{s:Sto}:bi .len [gdO m f] s=.ok (.int m) s:=by unfold gdO gdD;rw [len_tup];simp
noncomputable def addO:Option Int->Option Int->Option Int
 | some a,some b=>some (a+b)
 | _,_=>none
theorem rowD_filter:∀ l:List (Option Int),(rowD l).filterMap (fun d=>if d=D.non then none else some d)=(l.filterMap id).map D.int
 | []=>rfl
 | o::l=>by
  have ih:=rowD_filter l
  unfold rowD at ih ⊢
  cases o with
  | none=>rw [List.map_cons,List.filterMap_cons,List.filterMap_cons];simpa using ih
  | some i=>rw [List.map_cons,List.filterMap_cons,List.filterMap_cons];simpa using ih
theorem least_ok {P:Pr}[Has P d_least](n:Nat){s:Sto}{q:Nat}{l:List (Option Int)}(hq:s[q]?=some (.lst (rowD l)))(hl:l.length<=1000):(callN P (n+1)).call "least" [.ref q] s=.ok (qc (minI (l.filterMap id))) s:=by
 have e0:(callN P (n+1)).call "least" [.ref q] s=_:=zg d_least (n:=n) rfl
 rw [e0,show (List.map some [D.ref q]++List.replicate d_least.vs none)=[some (D.ref q)] from rfl]
 have h2:seqM (.ref q) s=.ok ⟨rowD l,[q]⟩ s:=by simp only [seqM,hq]
 obtain ⟨ρ1,s1,e1,rfl,_⟩:=comp_inv (ok:=fun s1=>chk s s1 [q]) (g:=turnI (callN P n) (.one 0) (.notN (.var 0)) (.var 0)) (fun ρ u=>u=s/\∃ x,ρ=[x]) (fun d=>if d=D.non then none else some d) (rowD l) [none] s ⟨rfl,none,rfl⟩ (fun _ u h=>by obtain ⟨rfl,_⟩:=h;simp [chk]) (by
  rintro d hd ρ u ⟨rfl,x,rfl⟩
  refine ⟨[some d],u,?_,rfl,_,rfl⟩
  unfold turnI
  by_cases hn:d=.non
  ·simp -implicitDefEqProofs only [zr,zI,ex_asg,ex_ite,ex_ret,ex_ex,ex_for,ex_setIx,ex_und,zy,ev_cst,ev_bin,ev_not,ev_cmp,ev_and,ev_or,ev_ite,ev_tup,ev_lst,ev_ix,ev_call,ev_bi,ev_mk,ev_mkD,ev_mkDs,ev_meth,ev_isN,ev_notN,zQ,zF,evas_nil,evas_ex,evI_seq,qd,evL_seq,Cn_bl,Cn_int,Cn_non,Cn_str,R.bind_ok,zm,bindT_tup,setVs_nil,setVs_cons,qg,zN,unsetV_s,unsetV_0,zz,zD,Option.map_some,Option.bind_some,zV,zt,nxt_ret,fin_ret,fin_next,add_int,sub_int,lt_int,le_int,gt_int,ge_int,eq_int,ne_int,alloc_eq,tru_bl,if_true,if_false,Bool.false_eq_true,decide_true,decide_false,Bool.not_true,Bool.not_false,hn]
  ·simp -implicitDefEqProofs only [zr,zI,ex_asg,ex_ite,ex_ret,ex_ex,ex_for,ex_setIx,ex_und,zy,ev_cst,ev_bin,ev_not,ev_cmp,ev_and,ev_or,ev_ite,ev_tup,ev_lst,ev_ix,ev_call,ev_bi,ev_mk,ev_mkD,ev_mkDs,ev_meth,ev_isN,ev_notN,zQ,zF,evas_nil,evas_ex,evI_seq,qd,evL_seq,Cn_bl,Cn_int,Cn_non,Cn_str,R.bind_ok,zm,bindT_tup,setVs_nil,setVs_cons,qg,zN,unsetV_s,unsetV_0,zz,zD,Option.map_some,Option.bind_some,zV,zt,nxt_ret,fin_ret,fin_next,add_int,sub_int,lt_int,le_int,gt_int,ge_int,eq_int,ne_int,alloc_eq,tru_bl,if_true,if_false,Bool.false_eq_true,decide_true,decide_false,Bool.not_true,Bool.not_false,hn])
 rw [rowD_filter] at e1
 simp -implicitDefEqProofs only [d_least]
 simp -implicitDefEqProofs only [zr,zI,ex_asg,ex_ite,ex_ret,ex_ex,ex_for,ex_setIx,ex_und,zy,ev_cst,ev_bin,ev_not,ev_cmp,ev_and,ev_or,ev_ite,ev_tup,ev_lst,ev_ix,ev_call,ev_bi,ev_mk,ev_mkD,ev_mkDs,ev_meth,ev_isN,ev_notN,zQ,zF,evas_nil,evas_ex,evI_seq,qd,evL_seq,Cn_bl,Cn_int,Cn_non,Cn_str,R.bind_ok,zm,bindT_tup,setVs_nil,setVs_cons,qg,zN,unsetV_s,unsetV_0,zz,zD,Option.map_some,Option.bind_some,zV,zt,nxt_ret,fin_ret,fin_next,add_int,sub_int,lt_int,le_int,gt_int,ge_int,eq_int,ne_int,alloc_eq,tru_bl,if_true,if_false,Bool.false_eq_true,decide_true,decide_false,Bool.not_true,Bool.not_false,qA,h2,if_pos (show (rowD l).length<=LIM by rw [rowD_len];unfold LIM;omega),show zx [some (D.ref q)] [none]=[none] from rfl,e1,mkD_min]
 exact canon_encO
theorem added_ok {P:Pr}[Has P d_added](n:Nat)(a b:Option Int)(s:Sto):(callN P (n+1)).call "added" [qc a,qc b] s=.ok (qc (addO a b)) s:=by
 have e0:(callN P (n+1)).call "added" [qc a,qc b] s=_:=zg d_added (n:=n) rfl
 rw [e0,show (List.map some [qc a,qc b]++List.replicate d_added.vs none)=[some (qc a),some (qc b)] from rfl]
 simp -implicitDefEqProofs only [d_added]
 cases a with
 | none=>simp -implicitDefEqProofs only [zr,zI,ex_asg,ex_ite,ex_ret,ex_ex,ex_for,ex_setIx,ex_und,zy,ev_cst,ev_bin,ev_not,ev_cmp,ev_and,ev_or,ev_ite,ev_tup,ev_lst,ev_ix,ev_call,ev_bi,ev_mk,ev_mkD,ev_mkDs,ev_meth,ev_isN,ev_notN,zQ,zF,evas_nil,evas_ex,evI_seq,qd,evL_seq,Cn_bl,Cn_int,Cn_non,Cn_str,R.bind_ok,zm,bindT_tup,setVs_nil,setVs_cons,qg,zN,unsetV_s,unsetV_0,zz,zD,Option.map_some,Option.bind_some,zV,zt,nxt_ret,fin_ret,fin_next,add_int,sub_int,lt_int,le_int,gt_int,ge_int,eq_int,ne_int,alloc_eq,tru_bl,if_true,if_false,Bool.false_eq_true,decide_true,decide_false,Bool.not_true,Bool.not_false,encO_none,show (D.non=D.non)=True from eq_self _];exact canon_non
 | some a=>cases b with
  | none=>simp -implicitDefEqProofs only [zr,zI,ex_asg,ex_ite,ex_ret,ex_ex,ex_for,ex_setIx,ex_und,zy,ev_cst,ev_bin,ev_not,ev_cmp,ev_and,ev_or,ev_ite,ev_tup,ev_lst,ev_ix,ev_call,ev_bi,ev_mk,ev_mkD,ev_mkDs,ev_meth,ev_isN,ev_notN,zQ,zF,evas_nil,evas_ex,evI_seq,qd,evL_seq,Cn_bl,Cn_int,Cn_non,Cn_str,R.bind_ok,zm,bindT_tup,setVs_nil,setVs_cons,qg,zN,unsetV_s,unsetV_0,zz,zD,Option.map_some,Option.bind_some,zV,zt,nxt_ret,fin_ret,fin_next,add_int,sub_int,lt_int,le_int,gt_int,ge_int,eq_int,ne_int,alloc_eq,tru_bl,if_true,if_false,Bool.false_eq_true,decide_true,decide_false,Bool.not_true,Bool.not_false,encO_none,qv,show (D.non=D.non)=True from eq_self _,show (D.int a=D.non)=False from eq_false (by nofun)];exact canon_non
  | some b=>simp -implicitDefEqProofs only [zr,zI,ex_asg,ex_ite,ex_ret,ex_ex,ex_for,ex_setIx,ex_und,zy,ev_cst,ev_bin,ev_not,ev_cmp,ev_and,ev_or,ev_ite,ev_tup,ev_lst,ev_ix,ev_call,ev_bi,ev_mk,ev_mkD,ev_mkDs,ev_meth,ev_isN,ev_notN,zQ,zF,evas_nil,evas_ex,evI_seq,qd,evL_seq,Cn_bl,Cn_int,Cn_non,Cn_str,R.bind_ok,zm,bindT_tup,setVs_nil,setVs_cons,qg,zN,unsetV_s,unsetV_0,zz,zD,Option.map_some,Option.bind_some,zV,zt,nxt_ret,fin_ret,fin_next,add_int,sub_int,lt_int,le_int,gt_int,ge_int,eq_int,ne_int,alloc_eq,tru_bl,if_true,if_false,Bool.false_eq_true,decide_true,decide_false,Bool.not_true,Bool.not_false,qv,show (D.int a=D.non)=False from eq_false (by nofun),show (D.int b=D.non)=False from eq_false (by nofun)];exact z6
noncomputable def prO (m:Nat)(f g:Nat->Nat->Option Int)(i j:Nat):Option Int:=minI (((List.range m).map fun k=>addO (f i k) (g k j)).filterMap id)
theorem rows_ncl {s:Sto}(hs:s.all O.ncl=true){m i:Nat}{W:Nat->Nat->D}(hW:∀ i j,(W i j).ncl=true):(s++[O.lst ((List.range i).map fun i=>D.tup ((List.range m).map fun j=>W i j))]).all O.ncl=true:=by
 refine all_snoc hs (zB fun d hd=>?_)
 obtain ⟨x,_,rfl⟩:=List.mem_map.mp hd
 unfold D.ncl
 exact zB fun d hd=>by obtain ⟨x,_,rfl⟩:=List.mem_map.mp hd;exact hW _ _
section
variable {P:Pr} [Has P d_grid]
theorem plain_ok [Has P d_plain][HasL P d_plain_l0](n:Nat){m:Nat}(hm:m<=5){s:Sto}(hs:s.all O.ncl=true) :
  (callN P (n+3)).call "plain" [.int m] s=.ok (gdO m fun i j=>if i=j then some 0 else none) s:=by
 have e0:(callN P (n+3)).call "plain" [.int m] s=_:=zg d_plain (n:=n+2) rfl
 have hg:=grid_ok (P:=P) (n+1) (m:=m) (by omega) (d:=.clo "plain.0" []) (s:=s) (W:=fun i j=>qc (if i=j then some 0 else none)) (fun _ _ n=>zZ _ n) (fun i j hi hj=>by
  generalize hS:s++[O.lst ((List.range i).map fun i=>D.tup ((List.range m).map fun j=>qc (if i=j then some 0 else none)))]=S
  have nS:S.all O.ncl=true:=by rw [<-hS];exact rows_ncl hs (W:=fun i j=>qc (if i=j then some 0 else none)) (fun _ _=>encO_ncl _)
  refine (lam_def d_plain_l0 (n:=n) rfl rfl (by rw [nS];rfl)).trans ?_
  show (ev (callN P n) d_plain_l0.body [some (.int i),some (.int j)] S).bind (zA S)=_
  simp -implicitDefEqProofs only [d_plain_l0]
  by_cases h:i=j
  ·simp -implicitDefEqProofs only [zr,zI,ex_asg,ex_ite,ex_ret,ex_ex,ex_for,ex_setIx,ex_und,zy,ev_cst,ev_bin,ev_not,ev_cmp,ev_and,ev_or,ev_ite,ev_tup,ev_lst,ev_ix,ev_call,ev_bi,ev_mk,ev_mkD,ev_mkDs,ev_meth,ev_isN,ev_notN,zQ,zF,evas_nil,evas_ex,evI_seq,qd,evL_seq,Cn_bl,Cn_int,Cn_non,Cn_str,R.bind_ok,zm,bindT_tup,setVs_nil,setVs_cons,qg,zN,unsetV_s,unsetV_0,zz,zD,Option.map_some,Option.bind_some,zV,zt,nxt_ret,fin_ret,fin_next,add_int,sub_int,lt_int,le_int,gt_int,ge_int,eq_int,ne_int,alloc_eq,tru_bl,if_true,if_false,Bool.false_eq_true,decide_true,decide_false,Bool.not_true,Bool.not_false,show ((i:Int)=(j:Int))=True from eq_true (by omega),if_pos h,qv];exact z6
  ·simp -implicitDefEqProofs only [zr,zI,ex_asg,ex_ite,ex_ret,ex_ex,ex_for,ex_setIx,ex_und,zy,ev_cst,ev_bin,ev_not,ev_cmp,ev_and,ev_or,ev_ite,ev_tup,ev_lst,ev_ix,ev_call,ev_bi,ev_mk,ev_mkD,ev_mkDs,ev_meth,ev_isN,ev_notN,zQ,zF,evas_nil,evas_ex,evI_seq,qd,evL_seq,Cn_bl,Cn_int,Cn_non,Cn_str,R.bind_ok,zm,bindT_tup,setVs_nil,setVs_cons,qg,zN,unsetV_s,unsetV_0,zz,zD,Option.map_some,Option.bind_some,zV,zt,nxt_ret,fin_ret,fin_next,add_int,sub_int,lt_int,le_int,gt_int,ge_int,eq_int,ne_int,alloc_eq,tru_bl,if_true,if_false,Bool.false_eq_true,decide_true,decide_false,Bool.not_true,Bool.not_false,show ((i:Int)=(j:Int))=False from eq_false (by omega),if_neg h,encO_none];exact canon_non)
 rw [e0,show (List.map some [D.int m]++List.replicate d_plain.vs none)=[some (D.int m)] from rfl]
 simp -implicitDefEqProofs only [d_plain]
 simp -implicitDefEqProofs only [zr,zI,ex_asg,ex_ite,ex_ret,ex_ex,ex_for,ex_setIx,ex_und,zy,ev_cst,ev_bin,ev_not,ev_cmp,ev_and,ev_or,ev_ite,ev_tup,ev_lst,ev_ix,ev_call,ev_bi,ev_mk,ev_mkD,ev_mkDs,ev_meth,ev_isN,ev_notN,zQ,zF,evas_nil,evas_ex,evI_seq,qd,evL_seq,Cn_bl,Cn_int,Cn_non,Cn_str,R.bind_ok,zm,bindT_tup,setVs_nil,setVs_cons,qg,zN,unsetV_s,unsetV_0,zz,zD,Option.map_some,Option.bind_some,zV,zt,nxt_ret,fin_ret,fin_next,add_int,sub_int,lt_int,le_int,gt_int,ge_int,eq_int,ne_int,alloc_eq,tru_bl,if_true,if_false,Bool.false_eq_true,decide_true,decide_false,Bool.not_true,Bool.not_false,ev_callC]
 rw [evas_lam (cs:=[]) _ rfl]
 have e:gdD m (fun i j=>qc (if i=j then some 0 else none))=gdO m (fun i j=>if i=j then some 0 else none):=rfl
 simp -implicitDefEqProofs only [zr,zI,ex_asg,ex_ite,ex_ret,ex_ex,ex_for,ex_setIx,ex_und,zy,ev_cst,ev_bin,ev_not,ev_cmp,ev_and,ev_or,ev_ite,ev_tup,ev_lst,ev_ix,ev_call,ev_bi,ev_mk,ev_mkD,ev_mkDs,ev_meth,ev_isN,ev_notN,zQ,zF,evas_nil,evas_ex,evI_seq,qd,evL_seq,Cn_bl,Cn_int,Cn_non,Cn_str,R.bind_ok,zm,bindT_tup,setVs_nil,setVs_cons,qg,zN,unsetV_s,unsetV_0,zz,zD,Option.map_some,Option.bind_some,zV,zt,nxt_ret,fin_ret,fin_next,add_int,sub_int,lt_int,le_int,gt_int,ge_int,eq_int,ne_int,alloc_eq,tru_bl,if_true,if_false,Bool.false_eq_true,decide_true,decide_false,Bool.not_true,Bool.not_false,hg,e,if_pos (show ((gdO m fun i j=>if i=j then some 0 else none).ncl&&s.all O.ncl)=true by rw [gdO_ncl,hs];rfl)]
 exact zo gdO_bnd (by nofun)
theorem productO_ok [Has P d_least][Has P d_added][Has P d_product][HasL P d_product_l0](n:Nat){m:Nat}(hm:m<=5)(f g:Nat->Nat->Option Int){s:Sto}(hs:s.all O.ncl=true) :
  (callN P (n+4)).call "product" [gdO m f,gdO m g] s=.ok (gdO m (prO m f g)) s:=by
 have e0:(callN P (n+4)).call "product" [gdO m f,gdO m g] s=_:=zg d_product (n:=n+3) rfl
 have hg:=grid_ok (P:=P) (n+2) (m:=m) (by omega) (d:=.clo "product.0" [.int m,gdO m f,gdO m g]) (s:=s) (W:=fun i j=>qc (prO m f g i j)) (fun _ _ n=>zZ _ n) (fun i j hi hj=>by
  generalize hS:s++[O.lst ((List.range i).map fun i=>D.tup ((List.range m).map fun j=>qc (prO m f g i j)))]=S
  have nS:S.all O.ncl=true:=by rw [<-hS];exact rows_ncl hs (W:=fun i j=>qc (prO m f g i j)) (fun _ _=>encO_ncl _)
  refine (lam_def d_product_l0 (n:=n+1) rfl rfl (by rw [nS];simp [D.nclL,D.ncl,gdO_ncl])).trans ?_
  show (ev (callN P (n+1)) d_product_l0.body [some (.int i),some (.int j),some (.int m),some (gdO m f),some (gdO m g)] S).bind (zA S)=_
  obtain ⟨ρ1,s1,e1,rfl,_⟩:=qo (ok:=fun s1=>chk S s1 []) (g:=zW (callN P (n+1)) (.one 0) (.call "added" (.ex (.ix (.ix (.var 1) (.var 2)) (.var 0)) (.ex (.ix (.ix (.var 3) (.var 0)) (.var 4)) .nil)))) (fun ρ u=>u=S/\∃ x,ρ=[x,some (gdO m f),some (.int i),some (gdO m g),some (.int j)]) (fun k=>qc (addO (f i k) (g k j))) m [none,some (gdO m f),some (.int i),some (gdO m g),some (.int j)] S ⟨rfl,none,rfl⟩ (fun _ _ _=>rfl) (by
   rintro k hk ρ u ⟨rfl,x,rfl⟩
   refine ⟨[some (.int k),some (gdO m f),some (.int i),some (gdO m g),some (.int j)],u,?_,rfl,_,rfl⟩
   unfold zW
   simp -implicitDefEqProofs only [zr,zI,ex_asg,ex_ite,ex_ret,ex_ex,ex_for,ex_setIx,ex_und,zy,ev_cst,ev_bin,ev_not,ev_cmp,ev_and,ev_or,ev_ite,ev_tup,ev_lst,ev_ix,ev_call,ev_bi,ev_mk,ev_mkD,ev_mkDs,ev_meth,ev_isN,ev_notN,zQ,zF,evas_nil,evas_ex,evI_seq,qd,evL_seq,Cn_bl,Cn_int,Cn_non,Cn_str,R.bind_ok,zm,bindT_tup,setVs_nil,setVs_cons,qg,zN,unsetV_s,unsetV_0,zz,zD,Option.map_some,Option.bind_some,zV,zt,nxt_ret,fin_ret,fin_next,add_int,sub_int,lt_int,le_int,gt_int,ge_int,eq_int,ne_int,alloc_eq,tru_bl,if_true,if_false,Bool.false_eq_true,decide_true,decide_false,Bool.not_true,Bool.not_false,gdO_ix hi,gdO_ix hk,rowO_ix hk,rowO_ix hj,added_ok n])
  have er:((List.range m).map fun k=>qc (addO (f i k) (g k j)))=rowD ((List.range m).map fun k=>addO (f i k) (g k j)):=by unfold rowD;rw [List.map_map];rfl
  rw [er] at e1
  have mkl:∀ q (s:Sto),mk .list q s=.ok (.ref s.length) (s++[.lst q]):=fun _ _=>rfl
  have el:=least_ok (P:=P) n (s:=s1++[O.lst (rowD ((List.range m).map fun k=>addO (f i k) (g k j)))]) (q:=s1.length) (l:=(List.range m).map fun k=>addO (f i k) (g k j)) (by rw [List.getElem?_append_right (Nat.le_refl _)];simp) (by simp;omega)
  simp -implicitDefEqProofs only [d_product_l0]
  simp -implicitDefEqProofs only [zr,zI,ex_asg,ex_ite,ex_ret,ex_ex,ex_for,ex_setIx,ex_und,zy,ev_cst,ev_bin,ev_not,ev_cmp,ev_and,ev_or,ev_ite,ev_tup,ev_lst,ev_ix,ev_call,ev_bi,ev_mk,ev_mkD,ev_mkDs,ev_meth,ev_isN,ev_notN,zQ,zF,evas_nil,evas_ex,evI_seq,qd,evL_seq,Cn_bl,Cn_int,Cn_non,Cn_str,R.bind_ok,zm,bindT_tup,setVs_nil,setVs_cons,qg,zN,unsetV_s,unsetV_0,zz,zD,Option.map_some,Option.bind_some,zV,zt,nxt_ret,fin_ret,fin_next,add_int,sub_int,lt_int,le_int,gt_int,ge_int,eq_int,ne_int,alloc_eq,tru_bl,if_true,if_false,Bool.false_eq_true,decide_true,decide_false,Bool.not_true,Bool.not_false,ql,zH (s:=s1) (i:=(m:Int)) (by unfold W62;omega) (by unfold W62;omega),if_pos (show (qy 0 (m:Int)).length<=LIM by rw [zL];unfold LIM;omega),show zx [some (D.int (i:Int)),some (D.int (j:Int)),some (D.int (m:Int)),some (gdO m f),some (gdO m g)] [none,some 3,some 0,some 4,some 1]=[none,some (gdO m f),some (.int i),some (gdO m g),some (.int j)] from rfl,e1,mkl,el]
  exact zO (zZ _) (encO_ref _))
 rw [e0,show (List.map some [gdO m f,gdO m g]++List.replicate d_product.vs none)=[some (gdO m f),some (gdO m g),none] from rfl]
 simp -implicitDefEqProofs only [d_product]
 simp -implicitDefEqProofs only [zr,zI,ex_asg,ex_ite,ex_ret,ex_ex,ex_for,ex_setIx,ex_und,zy,ev_cst,ev_bin,ev_not,ev_cmp,ev_and,ev_or,ev_ite,ev_tup,ev_lst,ev_ix,ev_call,ev_bi,ev_mk,ev_mkD,ev_mkDs,ev_meth,ev_isN,ev_notN,zQ,zF,evas_nil,evas_ex,evI_seq,qd,evL_seq,Cn_bl,Cn_int,Cn_non,Cn_str,R.bind_ok,zm,bindT_tup,setVs_nil,setVs_cons,qg,zN,unsetV_s,unsetV_0,zz,zD,Option.map_some,Option.bind_some,zV,zt,nxt_ret,fin_ret,fin_next,add_int,sub_int,lt_int,le_int,gt_int,ge_int,eq_int,ne_int,alloc_eq,tru_bl,if_true,if_false,Bool.false_eq_true,decide_true,decide_false,Bool.not_true,Bool.not_false,gdO_len,ev_callC]
 rw [evas_lam (cs:=[.int m,gdO m f,gdO m g]) _ rfl]
 have e:gdD m (fun i j=>qc (prO m f g i j))=gdO m (prO m f g):=rfl
 simp -implicitDefEqProofs only [zr,zI,ex_asg,ex_ite,ex_ret,ex_ex,ex_for,ex_setIx,ex_und,zy,ev_cst,ev_bin,ev_not,ev_cmp,ev_and,ev_or,ev_ite,ev_tup,ev_lst,ev_ix,ev_call,ev_bi,ev_mk,ev_mkD,ev_mkDs,ev_meth,ev_isN,ev_notN,zQ,zF,evas_nil,evas_ex,evI_seq,qd,evL_seq,Cn_bl,Cn_int,Cn_non,Cn_str,R.bind_ok,zm,bindT_tup,setVs_nil,setVs_cons,qg,zN,unsetV_s,unsetV_0,zz,zD,Option.map_some,Option.bind_some,zV,zt,nxt_ret,fin_ret,fin_next,add_int,sub_int,lt_int,le_int,gt_int,ge_int,eq_int,ne_int,alloc_eq,tru_bl,if_true,if_false,Bool.false_eq_true,decide_true,decide_false,Bool.not_true,Bool.not_false,hg,e,if_pos (show ((gdO m (prO m f g)).ncl&&s.all O.ncl)=true by rw [gdO_ncl,hs];rfl)]
 exact zo gdO_bnd (by nofun)
end
end DV
end
noncomputable section
namespace DV
theorem Least.low {S:Int->Prop}{l:List Int}(h1:∀ x∈l,S x)(h2:∀ c,S c->∃ x∈l,x<=c):Least S (minI l):=by
 have h:=minI_least l
 cases e:minI l with
 | none =>
  rw [e] at h
  exact fun c hc=>by obtain ⟨x,hx,_⟩:=h2 c hc;exact h x hx
 | some i =>
  rw [e] at h
  refine ⟨h1 i h.1,fun c hc=>?_⟩
  obtain ⟨x,hx,hle⟩:=h2 c hc
  exact Int.le_trans (h.2 x hx) hle
theorem prO_least {m:Nat}{A B:Nat->Nat->Int->Prop}{f g:Nat->Nat->Option Int}(hf:∀ i j,i<m->j<m->Least (A i j) (f i j))(hg:∀ i j,i<m->j<m->Least (B i j) (g i j)){i j:Nat}(hi:i<m)(hj:j<m) :
  Least (fun c=>∃ k,k<m/\∃ a b,A i k a/\B k j b/\c=a+b) (prO m f g i j):=by
 unfold prO
 refine Least.low (fun x hx=>?_) fun c hc=>?_
 ·obtain ⟨o,ho,e⟩:=List.mem_filterMap.mp hx
  obtain ⟨k,hk,rfl⟩:=List.mem_map.mp ho
  have hk:=List.mem_range.mp hk
  have h1:=hf i k hi hk
  have h2:=hg k j hk hj
  cases e1:f i k with
  | none=>rw [e1] at e;cases e
  | some a =>
   cases e2:g k j with
   | none=>rw [e1,e2] at e;cases e
   | some b =>
    rw [e1] at h1;rw [e2] at h2
    rw [e1,e2] at e
    cases e
    exact ⟨k,hk,a,b,h1.1,h2.1,rfl⟩
 ·obtain ⟨k,hk,a,b,ha,hb,rfl⟩:=hc
  have h1:=hf i k hi hk
  have h2:=hg k j hk hj
  cases e1:f i k with
  | none=>rw [e1] at h1;exact absurd ha (h1 a)
  | some a' =>
   cases e2:g k j with
   | none=>rw [e2] at h2;exact absurd hb (h2 b)
   | some b' =>
    rw [e1] at h1;rw [e2] at h2
    refine ⟨a'+b',List.mem_filterMap.mpr ⟨some (a'+b'),List.mem_map.mpr ⟨k,List.mem_range.mpr hk,by rw [e1,e2];rfl⟩,rfl⟩,?_⟩
    have:=h1.2 a ha
    have:=h2.2 b hb
    omega
noncomputable def TabW (m:Mc)(w:List Nat)(f:Nat->Nat->Option Int):Prop:=∀ i j,i<m.R->j<m.R->Least (Wk m.ds w i j) (f i j)
theorem Wk_app {ds:List Dr}:∀ {v w:List Nat} {p q:Nat} {c:Int},Wk ds (v++w) p q c↔∃ k a b,Wk ds v p k a/\Wk ds w k q b/\c=a+b
 | [],w,p,q,c=>by
  constructor
  ·intro h;exact ⟨p,0,c,⟨rfl,rfl⟩,h,by omega⟩
  ·rintro ⟨k,a,b,⟨rfl,rfl⟩,h,e⟩
   have:c=b:=by omega
   rw [this];exact h
 | x::v,w,p,q,c=>by
  show (∃ d∈ds,_)↔_
  constructor
  ·rintro ⟨d,hd,h1,h2,c',h3,e⟩
   obtain ⟨k,a,b,h4,h5,e2⟩:=Wk_app.mp h3
   exact ⟨k,a+d.t,b,⟨d,hd,h1,h2,a,h4,by omega⟩,h5,by omega⟩
  ·rintro ⟨k,a,b,⟨d,hd,h1,h2,a',h4,e⟩,h5,e2⟩
   exact ⟨d,hd,h1,h2,a'+b,Wk_app.mpr ⟨k,a',b,h4,h5,rfl⟩,by omega⟩
theorem Wk_lt {m:Mc}(hm:m.Ok):∀ {w:List Nat} {p q:Nat} {c:Int},p<m.R->Wk m.ds w p q c->q<m.R
 | [],p,q,c,hp,h=>by obtain ⟨rfl,_⟩:=h;exact hp
 | x::w,p,q,c,hp,h=>by
  obtain ⟨d,hd,_,_,c',h3,_⟩:=h
  exact Wk_lt hm (hm.ds.1 d hd).b h3
theorem TabW.nil {m:Mc}:TabW m [] fun i j=>if i=j then some 0 else none:=fun i j hi hj=>by
 show Least (Wk m.ds [] i j) (if i=j then some 0 else none)
 by_cases h:i=j
 ·rw [if_pos h];exact ⟨⟨h,rfl⟩,fun c hc=>by have:=hc.2;omega⟩
 ·rw [if_neg h];exact fun c hc=>h hc.1
theorem TabW.mul {m:Mc}(hm:m.Ok){v w:List Nat}{f g:Nat->Nat->Option Int}(h:TabW m v f)(h':TabW m w g):TabW m (v++w) (prO m.R f g):=fun i j hi hj=>(prO_least h h' hi hj).congr fun c=>by
 rw [Wk_app]
 constructor
 ·rintro ⟨k,_,a,b,h1,h2,e⟩;exact ⟨k,a,b,h1,h2,e⟩
 ·rintro ⟨k,a,b,h1,h2,e⟩;exact ⟨k,Wk_lt hm hi h1,a,b,h1,h2,e⟩
noncomputable def ltF (ds:List Dr)(c i j:Nat):Option Int:=minI (ds.filterMap fun d=>if d.a=i/\d.l=c/\d.b=j then some (d.t:Int) else none)
theorem Wk_one {ds:List Dr}{x p q:Nat}{c:Int}:Wk ds [x] p q c↔∃ d∈ds,d.l=x/\d.a=p/\d.b=q/\c=d.t:=by
 constructor
 ·rintro ⟨d,hd,h1,h2,c',⟨h3,h4⟩,e⟩;exact ⟨d,hd,h2,h1,h3,by omega⟩
 ·rintro ⟨d,hd,h1,h2,h3,e⟩;exact ⟨d,hd,h2,h1,0,⟨h3,rfl⟩,by omega⟩
theorem TabW.letter {m:Mc}(c:Nat):TabW m [c] (ltF m.ds c):=fun i j hi hj=>by
 unfold ltF
 refine Least.low (fun x hx=>?_) fun x hx=>?_
 ·obtain ⟨d,hd,e⟩:=List.mem_filterMap.mp hx
  split at e
  ·rename_i h;cases e;exact Wk_one.mpr ⟨d,hd,h.2.1,h.1,h.2.2,rfl⟩
  ·cases e
 ·obtain ⟨d,hd,h1,h2,h3,e⟩:=Wk_one.mp hx
  exact ⟨x,List.mem_filterMap.mpr ⟨d,hd,by rw [if_pos ⟨h2,h1,h3⟩,e]⟩,Int.le_refl _⟩
theorem eq_trip {a b i j l c:Nat}{s:Sto}:qi .eq (.tup [.int (a:Int),.str [l],.int (b:Int)]) (.tup [.int (i:Int),.str [c],.int (j:Int)]) s=.ok (.bl (decide (a=i/\l=c/\b=j))) s:=by
 have:eqv s DEEP (.tup [.int (a:Int),.str [l],.int (b:Int)]) (.tup [.int (i:Int),.str [c],.int (j:Int)])=some (((a:Int)==(i:Int))&&(([l]==[c])&&(((b:Int)==(j:Int))&&true))):=rfl
 show (match eqv s DEEP (.tup [.int (a:Int),.str [l],.int (b:Int)]) (.tup [.int (i:Int),.str [c],.int (j:Int)]) with | some r=>R.ok (D.bl r) s | none=>.bad)=_
 rw [this]
 show R.ok (D.bl _) s=_
 congr 2
 rw [Bool.eq_iff_iff]
 simp
 omega
section
variable {P:Pr} [Has P d_grid] [Has P d_least] [Has P d_rooms_of] [Has P d_doors_of] [Has P d_letter_table] [HasL P d_letter_table_l0]
theorem mc_ncl {m:Mc}:m.d.ncl=true:=by
 unfold Mc.d Mc.ps D.ncl
 simp only [D.nclL,D.ncl,nats_ncl,Bool.true_and,Bool.and_true]
 exact zB fun d hd=>by obtain ⟨x,_,rfl⟩:=List.mem_map.mp hd;rfl
theorem letter_table_ok (n:Nat){m:Mc}(hm:m.Ok)(c:Nat){s:Sto}(hs:s.all O.ncl=true) :
  (callN P (n+4)).call "letter_table" [m.d,.str [c]] s=.ok (gdO m.R (ltF m.ds c)) s:=by
 have e0:(callN P (n+4)).call "letter_table" [m.d,.str [c]] s=_:=zg d_letter_table (n:=n+3) rfl
 have hR:=hm.R5
 have hD:=hm.ds.2
 have hg:=grid_ok (P:=P) (n+2) (m:=m.R) (by omega) (d:=.clo "letter_table.least_fee" [m.d,.str [c]]) (s:=s) (W:=fun i j=>qc (ltF m.ds c i j)) (fun _ _ n=>zZ _ n) (fun i j hi hj=>by
  generalize hS:s++[O.lst ((List.range i).map fun i=>D.tup ((List.range m.R).map fun j=>qc (ltF m.ds c i j)))]=S
  have nS:S.all O.ncl=true:=by rw [<-hS];exact rows_ncl hs (W:=fun i j=>qc (ltF m.ds c i j)) (fun _ _=>encO_ncl _)
  refine (lam_def d_letter_table_l0 (n:=n+1) rfl rfl (by rw [nS];simp [D.nclL,D.ncl,mc_ncl])).trans ?_
  show (ev (callN P (n+1)) d_letter_table_l0.body [some (.int i),some (.int j),some m.d,some (.str [c])] S).bind (zA S)=_
  obtain ⟨ρ1,s1,e1,rfl,_⟩:=comp_inv (ok:=fun s1=>chk S s1 []) (g:=turnI (callN P (n+1)) (.tup [0,1,2,3]) (.cmp .eq (.tup (.cons (.var 0) (.cons (.var 1) (.cons (.var 2) .nil)))) (.tup (.cons (.var 4) (.cons (.var 5) (.cons (.var 6) .nil))))) (.var 3)) (fun ρ u=>u=S/\∃ x0 x1 x2 x3,ρ=[x0,x1,x2,x3,some (.int (i:Int)),some (.str [c]),some (.int (j:Int))]) (fun d=>match d with | .tup [.int a,.str [l],.int b,.int t]=>if a=i/\l=c/\b=j then some (.int t) else none | _=>none) (m.ds.map Dr.d) [none,none,none,none,some (.int (i:Int)),some (.str [c]),some (.int (j:Int))] S ⟨rfl,none,none,none,none,rfl⟩ (fun _ _ _=>rfl) (by
   rintro d hd ρ u ⟨rfl,x0,x1,x2,x3,rfl⟩
   obtain ⟨x,_,rfl⟩:=List.mem_map.mp hd
   refine ⟨[some (.int x.a),some (.str [x.l]),some (.int x.b),some (.int x.t),some (.int i),some (.str [c]),some (.int j)],u,?_,rfl,_,_,_,_,rfl⟩
   unfold turnI Dr.d
   by_cases h:x.a=i/\x.l=c/\x.b=j
   ·simp -implicitDefEqProofs only [zr,zI,ex_asg,ex_ite,ex_ret,ex_ex,ex_for,ex_setIx,ex_und,zy,ev_cst,ev_bin,ev_not,ev_cmp,ev_and,ev_or,ev_ite,ev_tup,ev_lst,ev_ix,ev_call,ev_bi,ev_mk,ev_mkD,ev_mkDs,ev_meth,ev_isN,ev_notN,zQ,zF,evas_nil,evas_ex,evI_seq,qd,evL_seq,Cn_bl,Cn_int,Cn_non,Cn_str,R.bind_ok,zm,bindT_tup,setVs_nil,setVs_cons,qg,zN,unsetV_s,unsetV_0,zz,zD,Option.map_some,Option.bind_some,zV,zt,nxt_ret,fin_ret,fin_next,add_int,sub_int,lt_int,le_int,gt_int,ge_int,eq_int,ne_int,alloc_eq,tru_bl,if_true,if_false,Bool.false_eq_true,decide_true,decide_false,Bool.not_true,Bool.not_false,eq_trip,h]
    simp
   ·have h2:¬ ((x.a:Int)=(i:Int)/\x.l=c/\(x.b:Int)=(j:Int)):=by omega
    simp -implicitDefEqProofs only [zr,zI,ex_asg,ex_ite,ex_ret,ex_ex,ex_for,ex_setIx,ex_und,zy,ev_cst,ev_bin,ev_not,ev_cmp,ev_and,ev_or,ev_ite,ev_tup,ev_lst,ev_ix,ev_call,ev_bi,ev_mk,ev_mkD,ev_mkDs,ev_meth,ev_isN,ev_notN,zQ,zF,evas_nil,evas_ex,evI_seq,qd,evL_seq,Cn_bl,Cn_int,Cn_non,Cn_str,R.bind_ok,zm,bindT_tup,setVs_nil,setVs_cons,qg,zN,unsetV_s,unsetV_0,zz,zD,Option.map_some,Option.bind_some,zV,zt,nxt_ret,fin_ret,fin_next,add_int,sub_int,lt_int,le_int,gt_int,ge_int,eq_int,ne_int,alloc_eq,tru_bl,if_true,if_false,Bool.false_eq_true,decide_true,decide_false,Bool.not_true,Bool.not_false,eq_trip,h,if_neg h2])
  have er:(m.ds.map Dr.d).filterMap (fun d=>match d with | .tup [.int a,.str [l],.int b,.int t]=>if a=i/\l=c/\b=j then some (D.int t) else none | _=>none)=rowD ((m.ds.filterMap fun d=>if d.a=i/\d.l=c/\d.b=j then some (d.t:Int) else none).map some):=by
   unfold rowD
   rw [List.map_map,List.filterMap_map,List.map_filterMap]
   refine filterMap_cg fun x _=>?_
   unfold Dr.d
   simp only [Function.comp]
   by_cases h:x.a=i/\x.l=c/\x.b=j
   ·rw [if_pos h,if_pos (by omega)];rfl
   ·rw [if_neg h,if_neg (by omega)];rfl
  rw [er] at e1
  generalize hL:(m.ds.filterMap fun d=>if d.a=i/\d.l=c/\d.b=j then some (d.t:Int) else none)=L at e1
  have hLl:L.length<=75:=by rw [<-hL];exact Nat.le_trans (List.length_filterMap_le _ _) hD
  have mkl:∀ q (s:Sto),mk .list q s=.ok (.ref s.length) (s++[.lst q]):=fun _ _=>rfl
  have el:=least_ok (P:=P) n (s:=s1++[O.lst (rowD (L.map some))]) (q:=s1.length) (l:=L.map some) (by rw [List.getElem?_append_right (Nat.le_refl _)];simp) (by simp;omega)
  have eL:(L.map some).filterMap id=L:=by rw [List.filterMap_map];exact List.filterMap_some
  rw [eL] at el
  simp -implicitDefEqProofs only [d_letter_table_l0]
  simp -implicitDefEqProofs only [zr,zI,ex_asg,ex_ite,ex_ret,ex_ex,ex_for,ex_setIx,ex_und,zy,ev_cst,ev_bin,ev_not,ev_cmp,ev_and,ev_or,ev_ite,ev_tup,ev_lst,ev_ix,ev_call,ev_bi,ev_mk,ev_mkD,ev_mkDs,ev_meth,ev_isN,ev_notN,zQ,zF,evas_nil,evas_ex,evI_seq,qd,evL_seq,Cn_bl,Cn_int,Cn_non,Cn_str,R.bind_ok,zm,bindT_tup,setVs_nil,setVs_cons,qg,zN,unsetV_s,unsetV_0,zz,zD,Option.map_some,Option.bind_some,zV,zt,nxt_ret,fin_ret,fin_next,add_int,sub_int,lt_int,le_int,gt_int,ge_int,eq_int,ne_int,alloc_eq,tru_bl,if_true,if_false,Bool.false_eq_true,decide_true,decide_false,Bool.not_true,Bool.not_false,doors_of_ok n,tup_seq,qA,if_pos (show (m.ds.map Dr.d).length<=LIM by rw [List.length_map];unfold LIM;omega),show zx [some (D.int (i:Int)),some (D.int (j:Int)),some m.d,some (D.str [c])] [none,none,none,none,some 0,some 3,some 1]=[none,none,none,none,some (.int (i:Int)),some (.str [c]),some (.int (j:Int))] from rfl,e1,mkl,el]
  rw [<-hL]
  exact zO (zZ _) (encO_ref _))
 rw [e0,show (List.map some [m.d,D.str [c]]++List.replicate d_letter_table.vs none)=[some m.d,some (D.str [c]),none] from rfl]
 simp -implicitDefEqProofs only [d_letter_table]
 simp -implicitDefEqProofs only [zr,zI,ex_asg,ex_ite,ex_ret,ex_ex,ex_for,ex_setIx,ex_und,zy,ev_cst,ev_bin,ev_not,ev_cmp,ev_and,ev_or,ev_ite,ev_tup,ev_lst,ev_ix,ev_call,ev_bi,ev_mk,ev_mkD,ev_mkDs,ev_meth,ev_isN,ev_notN,zQ,zF,evas_nil,evas_ex,evI_seq,qd,evL_seq,Cn_bl,Cn_int,Cn_non,Cn_str,R.bind_ok,zm,bindT_tup,setVs_nil,setVs_cons,qg,zN,unsetV_s,unsetV_0,zz,zD,Option.map_some,Option.bind_some,zV,zt,nxt_ret,fin_ret,fin_next,add_int,sub_int,lt_int,le_int,gt_int,ge_int,eq_int,ne_int,alloc_eq,tru_bl,if_true,if_false,Bool.false_eq_true,decide_true,decide_false,Bool.not_true,Bool.not_false,ev_callC,rooms_of_ok (n+2)]
 rw [evas_lam (cs:=[m.d,.str [c]]) _ rfl]
 have e:gdD m.R (fun i j=>qc (ltF m.ds c i j))=gdO m.R (ltF m.ds c):=rfl
 simp -implicitDefEqProofs only [zr,zI,ex_asg,ex_ite,ex_ret,ex_ex,ex_for,ex_setIx,ex_und,zy,ev_cst,ev_bin,ev_not,ev_cmp,ev_and,ev_or,ev_ite,ev_tup,ev_lst,ev_ix,ev_call,ev_bi,ev_mk,ev_mkD,ev_mkDs,ev_meth,ev_isN,ev_notN,zQ,zF,evas_nil,evas_ex,evI_seq,qd,evL_seq,Cn_bl,Cn_int,Cn_non,Cn_str,R.bind_ok,zm,bindT_tup,setVs_nil,setVs_cons,qg,zN,unsetV_s,unsetV_0,zz,zD,Option.map_some,Option.bind_some,zV,zt,nxt_ret,fin_ret,fin_next,add_int,sub_int,lt_int,le_int,gt_int,ge_int,eq_int,ne_int,alloc_eq,tru_bl,if_true,if_false,Bool.false_eq_true,decide_true,decide_false,Bool.not_true,Bool.not_false,hg,e,if_pos (show ((gdO m.R (ltF m.ds c)).ncl&&s.all O.ncl)=true by rw [gdO_ncl,hs];rfl)]
 exact zo gdO_bnd (by nofun)
end
end DV
end
noncomputable section
namespace DV
theorem getL {s:Sto}{o:O}:(s++[o])[s.length]?=some o:=by rw [List.getElem?_append_right (Nat.le_refl _)];simp
theorem nats_len (a:List Nat):(nats a).length=a.length:=by unfold nats;exact List.length_map _
theorem sg_len (a:List Nat):(sg a).length=a.length:=by unfold sg;exact List.length_map _
end DV
end
noncomputable section
namespace DV
theorem look_app (k a v:D):∀ l:List (D×D),look k (l++[(a,v)])=match look k l with | some x=>some x | none=>if a=k then some v else none
 | []=>by unfold look;rfl
 | (b,u)::l=>by
  rw [List.cons_append]
  unfold look
  by_cases h:b=k
  ·rw [if_pos h,if_pos h]
  ·rw [if_neg h,if_neg h];exact look_app k a v l
theorem notin_dic {s:Sto}{r:Nat}{l:List (D×D)}{k:D}(h:s[r]?=some (.dic l))(hk:k.key=true):qi .notin k (.ref r) s=.ok (.bl (!(look k l).isSome)) s:=by
 show (inM k (.ref r) s).bind (fun r s=>R.ok (D.bl (!r)) s)=_
 simp only [inM,h,hk,if_true,R.bind_ok]
theorem ix_dic {s:Sto}{r:Nat}{l:List (D×D)}{k v:D}(h:s[r]?=some (.dic l))(hk:k.key=true)(hv:look k l=some v):ixM (.ref r) k s=.ok v s:=by
 simp only [ixM,h,hk,if_true,hv]
theorem set_dic {s:Sto}{r:Nat}{l:List (D×D)}{k v:D}(h:s[r]?=some (.dic l))(hk:k.key=true)(hl:l.length<LIM):setIx (.ref r) k v s=.ok () (s.set r (.dic (putD k v l))):=by
 simp [setIx,h,hk,hl]
theorem ev_dic0 {F:Fns}{ρ:Env}{s:Sto}:ev F (.dic .nil .nil) ρ s=.ok (.ref s.length) (s++[.dic []]):=rfl
theorem put_new {k v:D}{l:List (D×D)}(h:look k l=none):putD k v l=l++[(k,v)]:=by unfold putD;rw [h];rfl
theorem set_tail {s:Sto}{o p:O}:(s++[o]).set s.length p=s++[p]:=by rw [List.set_append_right _ _ (Nat.le_refl _)];simp
section
variable {P:Pr} [Has P d_grid] [Has P d_least] [Has P d_added] [Has P d_rooms_of] [Has P d_doors_of] [Has P d_letter_table] [HasL P d_letter_table_l0] [Has P d_plain] [HasL P d_plain_l0] [Has P d_product] [HasL P d_product_l0] [Has P d_word_table]
noncomputable def DicW (m:Mc)(l:List (D×D)):Prop:=(∀ c v,look (.str [c]) l=some v->v=gdO m.R (ltF m.ds c))/\∀ p∈l,p.2.ncl=true
theorem DicW.nil {m:Mc}:DicW m []:=⟨fun c v h=>(by cases h),fun p hp=>(by cases hp)⟩
theorem qk (n:Nat){m:Mc}(hm:m.Ok)(w:List Nat)(hw:w.length<=5000){s:Sto}(hs:s.all O.ncl=true) :
  ∃ f,TabW m w f/\(callN P (n+5)).call "word_table" [m.d,.str w] s=.ok (gdO m.R f) s:=by
 have e0:(callN P (n+5)).call "word_table" [m.d,.str w] s=_:=zg d_word_table (n:=n+4) rfl
 have hR:=hm.R5
 have nd:∀ l:List (D×D),DicW m l->(s++[O.dic l]).all O.ncl=true:=fun l h=>all_snoc hs (zB fun d hd=>by
  obtain ⟨p,hp,rfl⟩:=List.mem_map.mp hd;exact h.2 p hp)
 have key:=qI (ok:=fun s1=>chk (s++[O.dic []]) s1 []) (g:=turn (callN P (n+4)) (.one 4) (.cons (.ite (.cmp .notin (.var 4) (.var 2)) (.cons (.setIx (.var 2) (.var 4) (.call "letter_table" (.ex (.var 0) (.ex (.var 4) .nil)))) .nil) .nil) (.cons (.asg (.one 3) (.call "product" (.ex (.var 3) (.ex (.ix (.var 2) (.var 4)) .nil)))) .nil)))
  (fun k ρ t=>∃ f l x,TabW m (w.take k) f/\DicW m l/\l.length<=k/\ρ=[some m.d,some (.str w),some (.ref s.length),some (gdO m.R f),x]/\t=s++[.dic l]) (sg w) 0 [some m.d,some (.str w),some (.ref s.length),some (gdO m.R fun i j=>if i=j then some 0 else none),none] (s++[O.dic []])
  ⟨_,[],none,by rw [List.take_zero];exact TabW.nil,DicW.nil,Nat.le_refl _,rfl,rfl⟩ (fun _ _ _ _ _=>rfl) (by
  rintro k d ρ t hk ⟨f,l,x,hf,hl,hll,rfl,rfl⟩
  rw [Nat.zero_add] at hf hll ⊢
  unfold sg at hk
  rw [List.getElem?_map] at hk
  obtain ⟨c,hc,rfl⟩:=Option.map_eq_some_iff.mp hk
  have hkl:=(List.getElem?_eq_some_iff.mp hc).1
  have hg:∀ l:List (D×D),(s++[O.dic l])[s.length]?=some (.dic l):=fun l=>by rw [List.getElem?_append_right (Nat.le_refl _)];simp
  have e1:=letter_table_ok (P:=P) n hm c (nd l hl)
  have hT:TabW m (w.take (k+1)) (prO m.R f (ltF m.ds c)):=by
   rw [take_snoc hc];exact TabW.mul hm hf (TabW.letter c)
  cases hlk:look (.str [c]) l with
  | none =>
   have hl2:DicW m (l++[(.str [c],gdO m.R (ltF m.ds c))]):=by
    refine ⟨fun c' v hv=>?_,fun p hp=>?_⟩
    ·rw [look_app] at hv
     cases q:look (.str [c']) l with
     | none =>
      rw [q] at hv
      simp only at hv
      split at hv
      ·rename_i e;cases e;cases hv;rfl
      ·cases hv
     | some v'=>rw [q] at hv;cases hv;exact hl.1 c' v q
    ·rcases List.mem_append.mp hp with h | h
     ·exact hl.2 p h
     ·rw [List.mem_singleton.mp h];exact gdO_ncl
   have e2:=productO_ok (P:=P) n hR f (ltF m.ds c) (nd _ hl2)
   have e3:=ix_dic (hg (l++[(.str [c],gdO m.R (ltF m.ds c))])) (k:=.str [c]) rfl (v:=gdO m.R (ltF m.ds c)) (by rw [look_app,hlk];simp)
   have e4:=set_dic (v:=gdO m.R (ltF m.ds c)) (hg l) (k:=.str [c]) rfl (by unfold LIM;omega)
   rw [put_new hlk,set_tail] at e4
   refine ⟨_,_,.inl ?_,_,_,some (.str [c]),hT,hl2,by simp;omega,rfl,rfl⟩
   unfold turn
   simp -implicitDefEqProofs only [zr,zI,ex_asg,ex_ite,ex_ret,ex_ex,ex_for,ex_setIx,ex_und,zy,ev_cst,ev_bin,ev_not,ev_cmp,ev_and,ev_or,ev_ite,ev_tup,ev_lst,ev_ix,ev_call,ev_bi,ev_mk,ev_mkD,ev_mkDs,ev_meth,ev_isN,ev_notN,zQ,zF,evas_nil,evas_ex,evI_seq,qd,evL_seq,Cn_bl,Cn_int,Cn_non,Cn_str,R.bind_ok,zm,bindT_tup,setVs_nil,setVs_cons,qg,zN,unsetV_s,unsetV_0,zz,zD,Option.map_some,Option.bind_some,zV,zt,nxt_ret,fin_ret,fin_next,add_int,sub_int,lt_int,le_int,gt_int,ge_int,eq_int,ne_int,alloc_eq,tru_bl,if_true,if_false,Bool.false_eq_true,decide_true,decide_false,Bool.not_true,Bool.not_false,notin_dic (hg l) (k:=.str [c]) rfl,hlk,Option.isSome_none,e1,e4,e3,e2]
  | some v =>
   have hv:=hl.1 c v hlk
   have e2:=productO_ok (P:=P) n hR f (ltF m.ds c) (nd _ hl)
   have e3:=ix_dic (hg l) (k:=.str [c]) rfl hlk
   rw [hv] at e3
   refine ⟨_,_,.inl ?_,_,_,some (.str [c]),hT,hl,by omega,rfl,rfl⟩
   unfold turn
   simp -implicitDefEqProofs only [zr,zI,ex_asg,ex_ite,ex_ret,ex_ex,ex_for,ex_setIx,ex_und,zy,ev_cst,ev_bin,ev_not,ev_cmp,ev_and,ev_or,ev_ite,ev_tup,ev_lst,ev_ix,ev_call,ev_bi,ev_mk,ev_mkD,ev_mkDs,ev_meth,ev_isN,ev_notN,zQ,zF,evas_nil,evas_ex,evI_seq,qd,evL_seq,Cn_bl,Cn_int,Cn_non,Cn_str,R.bind_ok,zm,bindT_tup,setVs_nil,setVs_cons,qg,zN,unsetV_s,unsetV_0,zz,zD,Option.map_some,Option.bind_some,zV,zt,nxt_ret,fin_ret,fin_next,add_int,sub_int,lt_int,le_int,gt_int,ge_int,eq_int,ne_int,alloc_eq,tru_bl,if_true,if_false,Bool.false_eq_true,decide_true,decide_false,Bool.not_true,Bool.not_false,notin_dic (hg l) (k:=.str [c]) rfl,hlk,Option.isSome_some,e3,e2])
 obtain ⟨ρ',s',ek,f,l,x,hf,hl,_,rfl,rfl⟩:=key
 rw [Nat.zero_add,sg_len,List.take_length] at hf
 refine ⟨f,hf,?_⟩
 have e1:=plain_ok (P:=P) (n+1) hR (nd [] DicW.nil)
 have h2:∀ t,seqM (.str w) t=.ok ⟨sg w,[]⟩ t:=fun _=>rfl
 rw [e0,show (List.map some [m.d,D.str w]++List.replicate d_word_table.vs none)=[some m.d,some (D.str w),none,none,none] from rfl]
 simp -implicitDefEqProofs only [d_word_table]
 simp -implicitDefEqProofs only [zr,zI,ex_asg,ex_ite,ex_ret,ex_ex,ex_for,ex_setIx,ex_und,zy,ev_cst,ev_bin,ev_not,ev_cmp,ev_and,ev_or,ev_ite,ev_tup,ev_lst,ev_ix,ev_call,ev_bi,ev_mk,ev_mkD,ev_mkDs,ev_meth,ev_isN,ev_notN,zQ,zF,evas_nil,evas_ex,evI_seq,qd,evL_seq,Cn_bl,Cn_int,Cn_non,Cn_str,R.bind_ok,zm,bindT_tup,setVs_nil,setVs_cons,qg,zN,unsetV_s,unsetV_0,zz,zD,Option.map_some,Option.bind_some,zV,zt,nxt_ret,fin_ret,fin_next,add_int,sub_int,lt_int,le_int,gt_int,ge_int,eq_int,ne_int,alloc_eq,tru_bl,if_true,if_false,Bool.false_eq_true,decide_true,decide_false,Bool.not_true,Bool.not_false,ev_dic0,rooms_of_ok (n+3),e1,h2]
 rw [ek]
 simp -implicitDefEqProofs only [zr,zI,ex_asg,ex_ite,ex_ret,ex_ex,ex_for,ex_setIx,ex_und,zy,ev_cst,ev_bin,ev_not,ev_cmp,ev_and,ev_or,ev_ite,ev_tup,ev_lst,ev_ix,ev_call,ev_bi,ev_mk,ev_mkD,ev_mkDs,ev_meth,ev_isN,ev_notN,zQ,zF,evas_nil,evas_ex,evI_seq,qd,evL_seq,Cn_bl,Cn_int,Cn_non,Cn_str,R.bind_ok,zm,bindT_tup,setVs_nil,setVs_cons,qg,zN,unsetV_s,unsetV_0,zz,zD,Option.map_some,Option.bind_some,zV,zt,nxt_ret,fin_ret,fin_next,add_int,sub_int,lt_int,le_int,gt_int,ge_int,eq_int,ne_int,alloc_eq,tru_bl,if_true,if_false,Bool.false_eq_true,decide_true,decide_false,Bool.not_true,Bool.not_false]
 exact zO gdO_bnd (by nofun)
end
end DV
end
noncomputable section
namespace DV
end DV
end
noncomputable section
namespace DV
end DV
end
noncomputable section
namespace DV
end DV
end
noncomputable section
namespace DV
end DV
end
noncomputable section
namespace DV
theorem ext_lst {S:Sto}{k:Nat}{l m:List D}(h:S[k]?=some (.lst l))(hl:l.length+m.length<=LIM):extM (.ref k) m S=.ok .non (S.set k (.lst (l++m))):=by
 simp only [extM,h,hl,if_true]
theorem abc_sl {L:Nat}(h3:L<=3)(s:Sto):slM (.str [97,98,99]) none (some (L:Int)) s=.ok (.str ([97,98,99].take L)) s:=by
 show R.ok (D.str (cutL [97,98,99] none (some (L:Int)))) s=_
 unfold cutL
 simp only [loB,hiB,sbd,List.drop_zero,Nat.sub_zero]
 rw [if_pos (by omega),Int.toNat_natCast]
 show R.ok (D.str (List.take (min L 3) [97,98,99])) s=_
 rw [Nat.min_eq_left h3]
end DV
end
noncomputable section
namespace DV
section
variable {P:Pr} [Has P d_grid] [Has P d_least] [Has P d_added] [Has P d_rooms_of] [Has P d_doors_of] [Has P d_letter_table] [HasL P d_letter_table_l0] [Has P d_plain] [HasL P d_plain_l0] [Has P d_product] [HasL P d_product_l0] [Has P d_word_table]
 [Has P w_bag] [Has P w_take] [Has P w_rooms] [Has P w_machine] [Has P w_word] [Has P w_same_2] [Has P w_from_room] [Has P w_law_k10]
end
end DV
end
noncomputable section
namespace DV
section
variable {P:Pr} [Has P d_begins_of] [Has P d_ends_of] [Has P d_at_begins_and_ends]
noncomputable def beW (m:Mc)(W:Nat->Nat->D):List D:=m.bg.flatMap fun p=>m.en.map fun q=>W p q
theorem bg_len {m:Mc}(hm:m.Ok):m.bg.length<=5:=by
 have nd:m.bg.Nodup:=hm.bg.2.imp (fun h=>Nat.ne_of_lt h)
 have:=List.Nodup.length_le_of_subset (l₂:=List.range m.R) nd (fun x hx=>List.mem_range.mpr (hm.bg.1 x hx))
 have:=hm.R5
 simp at *;omega
theorem en_len {m:Mc}(hm:m.Ok):m.en.length<=5:=by
 have nd:m.en.Nodup:=hm.en.2.imp (fun h=>Nat.ne_of_lt h)
 have:=List.Nodup.length_le_of_subset (l₂:=List.range m.R) nd (fun x hx=>List.mem_range.mpr (hm.en.1 x hx))
 have:=hm.R5
 simp at *;omega
theorem flat_len {α β:Type}{f:α->List β}{B:Nat}:∀ {l:List α},(∀ x∈l,(f x).length<=B)->(l.flatMap f).length<=l.length*B
 | [],_=>by simp
 | a::l,h=>by
  rw [List.flatMap_cons,List.length_append,List.length_cons,Nat.add_mul]
  have h1:=h a (List.mem_cons_self ..)
  have h2:=flat_len (f:=f) (l:=l) fun x hx=>h x (List.mem_cons_of_mem _ hx)
  omega
theorem abe_ok (n:Nat){m:Mc}(hm:m.Ok){W:Nat->Nat->D}(hW:∀ i j n,(W i j).bnd n=true)(s:Sto) :
  (callN P (n+2)).call "at_begins_and_ends" [m.d,gdD m.R W] s=.ok (.ref s.length) (s++[.lst (beW m W)]):=by
 have e0:(callN P (n+2)).call "at_begins_and_ends" [m.d,gdD m.R W] s=_:=zg d_at_begins_and_ends (n:=n+1) rfl
 have hb:=bg_len hm
 have he:=en_len hm
 have key:=qI (ok:=fun s1=>chk (s++[O.lst []]) s1 []) (g:=turn (callN P (n+1)) (.one 3) (.cons (.ex (.ext (.var 2) (.comp (.one 0) (.seq (.call "ends_of" (.ex (.var 0) .nil))) (.ix (.ix (.var 1) (.var 2)) (.var 0)) [none,some 1,some 3]))) .nil)) (fun k ρ t=>∃ x,ρ=[some m.d,some (gdD m.R W),some (.ref s.length),x]/\t=s++[.lst ((m.bg.take k).flatMap fun p=>m.en.map fun q=>W p q)]) (nats m.bg) 0 [some m.d,some (gdD m.R W),some (.ref s.length),none] (s++[O.lst []]) ⟨none,rfl,by rw [List.take_zero];rfl⟩ (fun _ _ _ _ _=>rfl) (by
  rintro k d ρ t hk ⟨x,rfl,rfl⟩
  rw [Nat.zero_add]
  unfold nats at hk
  rw [List.getElem?_map] at hk
  obtain ⟨p,hp,rfl⟩:=Option.map_eq_some_iff.mp hk
  have hpR:=hm.bg.1 p (List.mem_of_getElem? hp)
  have hix:∀ s,ixM (gdD m.R W) (.int (p:Int)) s=.ok (.tup ((List.range m.R).map fun j=>W p j)) s:=fun s=>ix_tup (by rw [List.getElem?_map,List.getElem?_range hpR];rfl)
  generalize hS:s++[O.lst ((m.bg.take k).flatMap fun p=>m.en.map fun q=>W p q)]=S
  obtain ⟨ρ1,s1,e1,rfl,_⟩:=comp_map (ok:=fun s1=>chk S s1 []) (g:=zW (callN P (n+1)) (.one 0) (.ix (.ix (.var 1) (.var 2)) (.var 0))) (fun ρ u=>u=S/\∃ x,ρ=[x,some (gdD m.R W),some (.int (p:Int))]) (fun d=>match d with | .int q=>W p q.toNat | d=>d) (nats m.en) [none,some (gdD m.R W),some (.int (p:Int))] S ⟨rfl,none,rfl⟩ (fun _ _ _=>rfl) (by
   rintro d hd ρ u ⟨rfl,x,rfl⟩
   obtain ⟨q,hq,rfl⟩:=List.mem_map.mp hd
   have hqR:=hm.en.1 q hq
   have hi2:∀ s,ixM (.tup ((List.range m.R).map fun j=>W p j)) (.int (q:Int)) s=.ok (W p q) s:=fun s=>ix_tup (by rw [List.getElem?_map,List.getElem?_range hqR];rfl)
   refine ⟨[some (.int (q:Int)),some (gdD m.R W),some (.int (p:Int))],u,?_,rfl,_,rfl⟩
   unfold zW
   simp -implicitDefEqProofs only [zr,zI,ex_asg,ex_ite,ex_ret,ex_ex,ex_for,ex_setIx,ex_und,zy,ev_cst,ev_bin,ev_not,ev_cmp,ev_and,ev_or,ev_ite,ev_tup,ev_lst,ev_ix,ev_call,ev_bi,ev_mk,ev_mkD,ev_mkDs,ev_meth,ev_isN,ev_notN,zQ,zF,evas_nil,evas_ex,evI_seq,qd,evL_seq,Cn_bl,Cn_int,Cn_non,Cn_str,R.bind_ok,zm,bindT_tup,setVs_nil,setVs_cons,qg,zN,unsetV_s,unsetV_0,zz,zD,Option.map_some,Option.bind_some,zV,zt,nxt_ret,fin_ret,fin_next,add_int,sub_int,lt_int,le_int,gt_int,ge_int,eq_int,ne_int,alloc_eq,tru_bl,if_true,if_false,Bool.false_eq_true,decide_true,decide_false,Bool.not_true,Bool.not_false,hix,hi2,Int.toNat_natCast])
  have er:(nats m.en).map (fun d=>match d with | .int q=>W p q.toNat | d=>d)=m.en.map fun q=>W p q:=by
   unfold nats;rw [List.map_map];rfl
  rw [er] at e1
  have hl:((m.bg.take k).flatMap fun p=>m.en.map fun q=>W p q).length<=25:=by
   refine Nat.le_trans (flat_len (B:=5) fun x hx=>by simpa using he) ?_
   have:(m.bg.take k).length<=5:=by rw [List.length_take];omega
   omega
  have ex:extM (.ref s.length) (m.en.map fun q=>W p q) s1=.ok .non (s++[.lst ((m.bg.take (k+1)).flatMap fun p=>m.en.map fun q=>W p q)]):=by
   rw [<-hS,ext_lst getL (by unfold LIM;simp at *;omega),set_tail,take_snoc hp,List.flatMap_append]
   simp
  have h2:∀ t,seqM (.tup (nats m.en)) t=.ok ⟨nats m.en,[]⟩ t:=fun _=>rfl
  refine ⟨_,_,.inl ?_,some (.int (p:Int)),rfl,rfl⟩
  unfold turn
  simp -implicitDefEqProofs only [zr,zI,ex_asg,ex_ite,ex_ret,ex_ex,ex_for,ex_setIx,ex_und,zy,ev_cst,ev_bin,ev_not,ev_cmp,ev_and,ev_or,ev_ite,ev_tup,ev_lst,ev_ix,ev_call,ev_bi,ev_mk,ev_mkD,ev_mkDs,ev_meth,ev_isN,ev_notN,zQ,zF,evas_nil,evas_ex,evI_seq,qd,evL_seq,Cn_bl,Cn_int,Cn_non,Cn_str,R.bind_ok,zm,bindT_tup,setVs_nil,setVs_cons,qg,zN,unsetV_s,unsetV_0,zz,zD,Option.map_some,Option.bind_some,zV,zt,nxt_ret,fin_ret,fin_next,add_int,sub_int,lt_int,le_int,gt_int,ge_int,eq_int,ne_int,alloc_eq,tru_bl,if_true,if_false,Bool.false_eq_true,decide_true,decide_false,Bool.not_true,Bool.not_false,ev_ext,ql,ends_of_ok n,h2,if_pos (show (nats m.en).length<=LIM by rw [nats_len];unfold LIM;omega),show zx [some m.d,some (gdD m.R W),some (D.ref s.length),some (D.int (p:Int))] [none,some 1,some 3]=[none,some (gdD m.R W),some (.int (p:Int))] from rfl,e1,ex])
 obtain ⟨ρ',s',ek,x,rfl,rfl⟩:=key
 rw [Nat.zero_add,nats_len,List.take_length] at ek
 have h2:∀ t,seqM (.tup (nats m.bg)) t=.ok ⟨nats m.bg,[]⟩ t:=fun _=>rfl
 rw [e0,show (List.map some [m.d,gdD m.R W]++List.replicate d_at_begins_and_ends.vs none)=[some m.d,some (gdD m.R W),none,none] from rfl]
 simp -implicitDefEqProofs only [d_at_begins_and_ends]
 simp -implicitDefEqProofs only [zr,zI,ex_asg,ex_ite,ex_ret,ex_ex,ex_for,ex_setIx,ex_und,zy,ev_cst,ev_bin,ev_not,ev_cmp,ev_and,ev_or,ev_ite,ev_tup,ev_lst,ev_ix,ev_call,ev_bi,ev_mk,ev_mkD,ev_mkDs,ev_meth,ev_isN,ev_notN,zQ,zF,evas_nil,evas_ex,evI_seq,qd,evL_seq,Cn_bl,Cn_int,Cn_non,Cn_str,R.bind_ok,zm,bindT_tup,setVs_nil,setVs_cons,qg,zN,unsetV_s,unsetV_0,zz,zD,Option.map_some,Option.bind_some,zV,zt,nxt_ret,fin_ret,fin_next,add_int,sub_int,lt_int,le_int,gt_int,ge_int,eq_int,ne_int,alloc_eq,tru_bl,if_true,if_false,Bool.false_eq_true,decide_true,decide_false,Bool.not_true,Bool.not_false,begins_of_ok n,h2]
 rw [ek]
 simp -implicitDefEqProofs only [zr,zI,ex_asg,ex_ite,ex_ret,ex_ex,ex_for,ex_setIx,ex_und,zy,ev_cst,ev_bin,ev_not,ev_cmp,ev_and,ev_or,ev_ite,ev_tup,ev_lst,ev_ix,ev_call,ev_bi,ev_mk,ev_mkD,ev_mkDs,ev_meth,ev_isN,ev_notN,zQ,zF,evas_nil,evas_ex,evI_seq,qd,evL_seq,Cn_bl,Cn_int,Cn_non,Cn_str,R.bind_ok,zm,bindT_tup,setVs_nil,setVs_cons,qg,zN,unsetV_s,unsetV_0,zz,zD,Option.map_some,Option.bind_some,zV,zt,nxt_ret,fin_ret,fin_next,add_int,sub_int,lt_int,le_int,gt_int,ge_int,eq_int,ne_int,alloc_eq,tru_bl,if_true,if_false,Bool.false_eq_true,decide_true,decide_false,Bool.not_true,Bool.not_false]
 exact canon_one (by
  unfold O.bnd
  refine zT (fun d hd n=>?_) _
  obtain ⟨p,_,h⟩:=List.mem_flatMap.mp hd
  obtain ⟨q,_,rfl⟩:=List.mem_map.mp h
  exact hW p q n)
variable [Has P d_grid] [Has P d_least] [Has P d_added] [Has P d_rooms_of] [Has P d_doors_of] [Has P d_letter_table] [HasL P d_letter_table_l0] [Has P d_plain] [HasL P d_plain_l0] [Has P d_product] [HasL P d_product_l0] [Has P d_word_table] [Has P d_price]
noncomputable def beO (m:Mc)(f:Nat->Nat->Option Int):List (Option Int):=m.bg.flatMap fun p=>m.en.map fun q=>f p q
theorem beO_least {m:Mc}(hm:m.Ok){w:List Nat}{f:Nat->Nat->Option Int}(hf:TabW m w f):Least (m.Wk w) (minI ((beO m f).filterMap id)):=by
 unfold beO
 refine Least.low (fun x hx=>?_) fun c hc=>?_
 ·obtain ⟨o,ho,e⟩:=List.mem_filterMap.mp hx
  obtain ⟨p,hp,h⟩:=List.mem_flatMap.mp ho
  obtain ⟨q,hq,rfl⟩:=List.mem_map.mp h
  have h1:=hf p q (hm.bg.1 p hp) (hm.en.1 q hq)
  rw [show f p q=some x from e] at h1
  exact ⟨p,hp,q,hq,h1.1⟩
 ·obtain ⟨p,hp,q,hq,hw⟩:=hc
  have h1:=hf p q (hm.bg.1 p hp) (hm.en.1 q hq)
  cases e:f p q with
  | none=>rw [e] at h1;exact absurd hw (h1 c)
  | some y =>
   rw [e] at h1
   exact ⟨y,List.mem_filterMap.mpr ⟨some y,List.mem_flatMap.mpr ⟨p,hp,List.mem_map.mpr ⟨q,hq,e⟩⟩,rfl⟩,h1.2 c hw⟩
theorem beO_len {m:Mc}(hm:m.Ok)(f:Nat->Nat->Option Int):(beO m f).length<=25:=by
 have hb:=bg_len hm
 refine Nat.le_trans (flat_len (B:=5) fun x hx=>by simpa using en_len hm) ?_
 omega
theorem beW_enc (m:Mc)(f:Nat->Nat->Option Int):beW m (fun i j=>qc (f i j))=rowD (beO m f):=by
 unfold beW beO rowD
 rw [List.map_flatMap]
 congr 1
 funext p
 rw [List.map_map];rfl
theorem tab_price_ok (n:Nat){m:Mc}(hm:m.Ok)(f:Nat->Nat->Option Int)(s:Sto) :
  (callN P (n+2)).call "at_begins_and_ends" [m.d,gdO m.R f] s=.ok (.ref s.length) (s++[.lst (rowD (beO m f))])/\(callN P (n+2)).call "least" [.ref s.length] (s++[.lst (rowD (beO m f))])=.ok (qc (minI ((beO m f).filterMap id))) (s++[.lst (rowD (beO m f))]):=by
 have e1:=abe_ok (P:=P) n hm (W:=fun i j=>qc (f i j)) (fun i j n=>zZ _ n) s
 rw [beW_enc] at e1
 exact ⟨e1,least_ok (P:=P) (n+1) getL (by have:=beO_len hm f;omega)⟩
theorem price_ok (n:Nat){m:Mc}(hm:m.Ok)(w:List Nat)(hw:w.length<=5000){s:Sto}(hs:s.all O.ncl=true) :
  ∃ o,Least (m.Wk w) o/\(callN P (n+6)).call "price" [m.d,.str w] s=.ok (qc o) s:=by
 have e0:(callN P (n+6)).call "price" [m.d,.str w] s=_:=zg d_price (n:=n+5) rfl
 obtain ⟨f,hf,e1⟩:=qk (P:=P) n hm w hw hs
 obtain ⟨e2,e3⟩:=tab_price_ok (P:=P) (n+3) hm f s
 refine ⟨_,beO_least hm hf,?_⟩
 rw [e0,show (List.map some [m.d,D.str w]++List.replicate d_price.vs none)=[some m.d,some (D.str w)] from rfl]
 simp -implicitDefEqProofs only [d_price]
 simp -implicitDefEqProofs only [zr,zI,ex_asg,ex_ite,ex_ret,ex_ex,ex_for,ex_setIx,ex_und,zy,ev_cst,ev_bin,ev_not,ev_cmp,ev_and,ev_or,ev_ite,ev_tup,ev_lst,ev_ix,ev_call,ev_bi,ev_mk,ev_mkD,ev_mkDs,ev_meth,ev_isN,ev_notN,zQ,zF,evas_nil,evas_ex,evI_seq,qd,evL_seq,Cn_bl,Cn_int,Cn_non,Cn_str,R.bind_ok,zm,bindT_tup,setVs_nil,setVs_cons,qg,zN,unsetV_s,unsetV_0,zz,zD,Option.map_some,Option.bind_some,zV,zt,nxt_ret,fin_ret,fin_next,add_int,sub_int,lt_int,le_int,gt_int,ge_int,eq_int,ne_int,alloc_eq,tru_bl,if_true,if_false,Bool.false_eq_true,decide_true,decide_false,Bool.not_true,Bool.not_false,e1,e2,e3]
 exact zO (zZ _) (encO_ref _)
end
end DV
end
noncomputable section
namespace DV
noncomputable def Stdy (m:Nat)(f:Nat->Nat->Int):Prop:=EqG m (pr m f f) f
section
variable {P:Pr} [Has P d_grid] [Has P d_sign_product] [HasL P d_sign_product_l0] [Has P qE]
variable [Has P d_round_of] [Has P d_sharpened] [HasL P qD] [HasC P "FREE" (.int 0)] [HasC P "UNBOUND" (.int 2)] [HasC P "NONE" (.int 3)]
end
section
variable {P:Pr} [Has P d_grid] [Has P d_sign_product] [HasL P d_sign_product_l0] [Has P qE] [Has P qC]
end
end DV
end
noncomputable section
namespace DV
section
variable {P:Pr} [Has P w_draw]
variable [Has P w_signs]
end
end DV
end
noncomputable section
namespace DV
section
variable {m:Nat} (hm:1<=m) {g:Nat->Nat->Int} (hg:InG m g) (hst:Stdy m g)
include hm hg hst
end
theorem range_inv {m j:Nat}{f:Nat->D}{d:D}(h:((List.range m).map f)[j]?=some d):j<m/\d=f j:=by
 have hj:=(List.getElem?_eq_some_iff.mp h).1
 simp at hj
 rw [List.getElem?_map,List.getElem?_range hj] at h
 exact ⟨hj,(Option.some.inj h).symm⟩
theorem ne_gdE {s:Sto}{m:Nat}{f g:Nat->Nat->Int}(h:EqG m f g):qi .ne (gd m f) (gd m g) s=.ok (.bl false) s:=by
 obtain ⟨b,e,hb⟩:=ne_gd (s:=s) (m:=m) (f:=f) (g:=g)
 rw [e,hb.mpr h];rfl
section
variable {P:Pr} [Has P w_draw] [Has P d_grid] [Has P d_sign_product] [HasL P d_sign_product_l0] [Has P qE] [Has P d_round_of] [Has P d_sharpened] [HasL P qD] [HasC P "FREE" (.int 0)] [HasC P "UNBOUND" (.int 2)] [HasC P "NONE" (.int 3)] [Has P qC] [Has P w_goes_with] [Has P w_right]
variable [Has P w_box] [Has P w_signs] [Has P w_law_k25]
end
end DV
end
noncomputable section
namespace DV
noncomputable def un (i j:Nat):Int:=if i=j then 0 else 3
section
variable {m:Nat} (hm:1<=m)
end
section
variable {P:Pr} [Has P d_grid] [Has P d_plain_signs] [HasL P qr] [HasC P "FREE" (.int 0)] [HasC P "NONE" (.int 3)]
variable [Has P d_raised] [Has P d_sign_product] [HasL P d_sign_product_l0]
variable [Has P d_sign_power] [HasC P "sign_product" (.fn "sign_product")]
end
end DV
end
noncomputable section
namespace DV
theorem unit_ok {P:Pr}[Has P w_unit](n:Nat){m:Nat}(hm5:m<=5)(s:Sto):(callN P (n+1)).call "_law_unit" [.int m] s=.ok (gd m un) s:=by
 have e0:(callN P (n+1)).call "_law_unit" [.int m] s=_:=zg w_unit (n:=n) rfl
 have hl:(qy 0 (m:Int)).length<=LIM:=by rw [zL];unfold LIM;omega
 have hr:∀ s:Sto,rng1M (.int (m:Int)) s=.ok ⟨qy 0 (m:Int),[]⟩ s:=fun s=>zH (by unfold W62;omega) (by unfold W62;omega)
 have inner:∀ i,i<m->∀ x,qt (fun s1=>chk s s1 []) (zW (callN P n) (.one 0) (.bin .mul (.cst (.int 3)) (.bi .int (.cons (.cmp .ne (.var 1) (.var 0)) .nil)))) (qy 0 (m:Int)) (zx [some (.int (i:Int)),x] [none,some 0]) s=.ok (row m (un i)) s:=fun i hi x=>by
  obtain ⟨ρ1,s1,e1,h1⟩:=qo (ok:=fun s1=>chk s s1 []) (g:=zW (callN P n) (.one 0) (.bin .mul (.cst (.int 3)) (.bi .int (.cons (.cmp .ne (.var 1) (.var 0)) .nil)))) (fun ρ u=>u=s/\∃ x,ρ=[x,some (.int i)]) (fun j=>.int (un i j)) m (zx [some (.int (i:Int)),x] [none,some 0]) s ⟨rfl,none,rfl⟩ (fun _ _ _=>rfl) (by
   rintro j hj ρ u ⟨rfl,x,rfl⟩
   refine ⟨[some (.int j),some (.int i)],u,?_,rfl,_,rfl⟩
   have mo:∀ a:Int,mulOk 3 a=true:=fun a=>mulOk_l (by decide)
   unfold zW
   by_cases h:(i:Int)=(j:Int)
   ·have e:un i j=0:=by unfold un;rw [if_pos (by omega)]
    simp -implicitDefEqProofs only [zm,zN,ev_bin,ev_cst,Cn_int,ev_bi,zF,zQ,ev_cmp,zy,zz,zD,R.bind_ok,ne_int,h,decide_true,Bool.not_true,int_bl,mul_int (mo _)]
    rw [e];rfl
   ·have e:un i j=3:=by unfold un;rw [if_neg (by omega)]
    simp -implicitDefEqProofs only [zm,zN,ev_bin,ev_cst,Cn_int,ev_bi,zF,zQ,ev_cmp,zy,zz,zD,R.bind_ok,ne_int,h,decide_false,Bool.not_false,int_bl,mul_int (mo _)]
    rw [e];rfl)
  obtain ⟨rfl,_⟩:=h1
  exact e1
 obtain ⟨ρ1,s1,e1,h1⟩:=qo (ok:=fun s1=>chk s s1 []) (g:=zW (callN P n) (.one 0) (.mk .tuple (.comp (.one 0) (.rng1 (.var 1)) (.bin .mul (.cst (.int 3)) (.bi .int (.cons (.cmp .ne (.var 1) (.var 0)) .nil))) [none,some 0]))) (fun ρ u=>u=s/\∃ x,ρ=[x,some (.int m)]) (fun i=>.tup (row m (un i))) m (zx [some (.int (m:Int))] [none,some 0]) s ⟨rfl,none,rfl⟩ (fun _ _ _=>rfl) (by
  rintro i hi ρ u ⟨rfl,x,rfl⟩
  refine ⟨[some (.int i),some (.int m)],u,?_,rfl,_,rfl⟩
  unfold zW
  simp -implicitDefEqProofs only [zm,zN,ev_mk,ql,qd,zy,zz,zD,R.bind_ok,hr,if_pos hl]
  rw [inner i hi]
  rfl)
 obtain ⟨rfl,_⟩:=h1
 rw [e0,show (List.map some [D.int m]++List.replicate w_unit.vs none)=[some (.int m)] from rfl]
 simp -implicitDefEqProofs only [w_unit,zr,zI,ex_ret,ev_mk,ql,qd,zy,zz,R.bind_ok,hr,if_pos hl]
 rw [e1]
 simp -implicitDefEqProofs only [R.bind_ok,mk,nxt_ret,fin_ret]
 exact zo (d:=gd m un) gd_bnd (by nofun)
section
variable {P:Pr} [Has P w_product_2] [Has P w_unit] [Has P w_round]
end
noncomputable def fi22:Ss:=(.cons (.ite (.or (.not (.bi .isInt (.cons (.var 3) .nil))) (.bi .isBool (.cons (.var 3) .nil))) (.cons (.ret (.cst (.bl false))) .nil) .nil) .nil)
noncomputable def ft22:Ss:=(.cons (.ite (.or (.not (.bi .isTup (.cons (.var 2) .nil))) (.cmp .ne (.bi .len (.cons (.var 2) .nil)) (.var 1))) (.cons (.ret (.cst (.bl false))) .nil) .nil) (.cons (.for_ (.one 3) (.seq (.var 2)) fi22) .nil))
theorem form_ok {P:Pr}[Has P w_form](n:Nat){m:Nat}(f:Nat->Nat->Int)(s:Sto):(callN P (n+1)).call "_law_form" [gd m f,.int m] s=.ok (.bl true) s:=by
 have e0:(callN P (n+1)).call "_law_form" [gd m f,.int m] s=_:=zg w_form (n:=n) rfl
 have body:w_form.body=.cons (.ite (.or (.not (.bi .isTup (.cons (.var 0) .nil))) (.cmp .ne (.bi .len (.cons (.var 0) .nil)) (.var 1))) (.cons (.ret (.cst (.bl false))) .nil) .nil) (.cons (.for_ (.one 2) (.seq (.var 0)) ft22) (.cons (.ret (.cst (.bl true))) .nil)):=rfl
 have it:∀ (l:List D) (s:Sto),bi .isTup [.tup l] s=.ok (.bl true) s:=fun _ _=>rfl
 have it2:bi .isTup [gd m f] s=.ok (.bl true) s:=rfl
 have inner:∀ i,i<m->∀ x2 x3,∃ ρ' s',forL (fun s1=>chk s s1 []) (turn (callN P n) (.one 3) fi22) (row m (f i)) [some (gd m f),some (.int m),x2,x3] s=.ok (.next ρ') s'/\∃ x3,ρ'=[some (gd m f),some (.int m),x2,x3]/\s'=s:=fun i hi x2 x3=>by
  refine qI (fun _ ρ t=>∃ x3,ρ=[some (gd m f),some (.int m),x2,x3]/\t=s) _ 0 _ _ ⟨x3,rfl,rfl⟩ (fun _ _ _ _ _=>rfl) ?_
  rintro j d ρ t hj ⟨x3,rfl,rfl⟩
  obtain ⟨hj5,rfl⟩:=row_inv hj
  refine ⟨[some (gd m f),some (.int m),x2,some (.int (f i j))],t,.inl ?_,_,rfl,rfl⟩
  unfold turn fi22
  simp -implicitDefEqProofs only [zm,qg,zN,Option.map_some,zr,zI,ex_ite,ev_or,ev_not,ev_bi,zF,zQ,zy,zz,zD,R.bind_ok,isInt_int,isBool_int,tru_bl,Bool.not_true,if_false,Bool.false_eq_true,zt]
 have outer:=qI (ok:=fun s1=>chk s s1 []) (g:=turn (callN P n) (.one 2) ft22) (fun _ ρ t=>∃ x2 x3,ρ=[some (gd m f),some (.int m),x2,x3]/\t=s) ((List.range m).map fun i=>.tup (row m (f i))) 0 [some (gd m f),some (.int m),none,none] s ⟨none,none,rfl,rfl⟩ (fun _ _ _ _ _=>rfl) (by
  rintro i d ρ t hi ⟨x2,x3,rfl,rfl⟩
  obtain ⟨hi5,rfl⟩:=range_inv hi
  obtain ⟨ρ',s',e,y3,rfl,rfl⟩:=inner i hi5 (some (.tup (row m (f i)))) x3
  refine ⟨[some (gd m f),some (.int m),some (.tup (row m (f i))),y3],s',.inl ?_,_,_,rfl,rfl⟩
  unfold turn ft22
  simp -implicitDefEqProofs only [zm,qg,zN,Option.map_some,zr,zI,ex_ite,ev_or,ev_not,ev_bi,zF,zQ,zy,zz,zD,R.bind_ok,it,tru_bl,Bool.not_true,if_false,Bool.false_eq_true,ev_cmp,len_tup,row_len,ne_int,decide_true,zt,ex_for,evI_seq,tup_seq]
  rw [e]
  rfl)
 obtain ⟨ρ',s',e,x2,x3,rfl,rfl⟩:=outer
 rw [e0,body,show (List.map some [gd m f,D.int m]++List.replicate w_form.vs none)=[some (gd m f),some (.int m),none,none] from rfl]
 simp -implicitDefEqProofs only [zr,zI,ex_ite,ev_or,ev_not,ev_bi,zF,zQ,zy,zz,zD,R.bind_ok,it2,tru_bl,Bool.not_true,if_false,Bool.false_eq_true,ev_cmp,len_gd,ne_int,decide_true,zt,ex_for,evI_seq,gd_seq]
 rw [e]
 simp -implicitDefEqProofs only [R.bind_ok,zt,zr,zI,ex_ret,ev_cst,Cn_bl,nxt_ret,fin_ret]
 exact canon_bl
end DV
end
noncomputable section
namespace DV
section
variable {P:Pr} [Has P w_box] [Has P w_draw] [Has P w_signs] [Has P w_form] [Has P w_product_2] [Has P w_unit] [Has P w_round] [Has P w_due_2] [Has P w_law_k22] [Has P d_grid] [Has P d_raised] [Has P d_plain_signs] [HasL P qr] [Has P d_sign_product] [HasL P d_sign_product_l0] [Has P d_sign_power] [HasC P "FREE" (.int 0)] [HasC P "NONE" (.int 3)] [HasC P "sign_product" (.fn "sign_product")]
end
end DV
end
noncomputable section
namespace DV
noncomputable def sgn:Option Int->Int
 | none=>3
 | some i=>if i=0 then 0 else 1
theorem sgn_in (o:Option Int):0<=sgn o/\sgn o<=3/\sgn o≠2:=by
 cases o with
 | none=>exact ⟨by decide,by decide,by decide⟩
 | some i=>unfold sgn;simp only;split<;>exact ⟨by decide,by decide,by decide⟩
theorem Wk_nn {ds:List Dr}:∀ {w:List Nat} {p q:Nat} {c:Int},Wk ds w p q c->0<=c
 | [],p,q,c,h=>by have:=h.2;omega
 | x::w,p,q,c,h=>by
  obtain ⟨d,hd,_,_,c',h3,e⟩:=h
  have:=Wk_nn h3
  omega
structure SgW1 (S:Int->Prop)(x:Int):Prop where
 lo:0<=x
 hi:x<=3
 n2:x≠2
 z:x=0↔S 0
 t:x=3↔∀ c,¬ S c
theorem SgW1.eq {S:Int->Prop}{x y:Int}(h:SgW1 S x)(g:SgW1 S y):x=y:=by
 have h1:=h.z.trans g.z.symm
 have h2:=h.t.trans g.t.symm
 have:=h.lo;have:=h.hi;have:=h.n2;have:=g.lo;have:=g.hi;have:=g.n2
 by_cases a:x=0
 ·rw [a,h1.mp a]
 ·by_cases b:x=3
  ·rw [b,h2.mp b]
  ·have a':¬ y=0:=fun z=>a (h1.mpr z)
   have b':¬ y=3:=fun z=>b (h2.mpr z)
   omega
theorem sgn_least {S:Int->Prop}{o:Option Int}(h:Least S o)(nn:∀ c,S c->0<=c):SgW1 S (sgn o):=by
 obtain ⟨h0,h3,h2⟩:=sgn_in o
 refine ⟨h0,h3,h2,?_,?_⟩
 ·cases o with
  | none=>exact ⟨fun z=>(by cases z),fun z=>absurd z (h 0)⟩
  | some i =>
   show (if i=0 then (0:Int) else 1)=0↔_
   constructor
   ·intro z
    split at z
    ·rename_i e;rw [<-e];exact h.1
    ·cases z
   ·intro z
    have h1:=h.2 0 z
    have h2:=nn i h.1
    rw [if_pos (by omega)]
 ·cases o with
  | none=>exact ⟨fun _=>h,fun _=>rfl⟩
  | some i =>
   show (if i=0 then (0:Int) else 1)=3↔_
   constructor
   ·intro z;split at z<;>cases z
   ·intro z;exact absurd h.1 (z i)
noncomputable def SgW (m:Mc)(w:List Nat)(g:Nat->Nat->Int):Prop:=∀ i j,i<m.R->j<m.R->SgW1 (Wk m.ds w i j) (g i j)
theorem TabW.sg {m:Mc}{w:List Nat}{f:Nat->Nat->Option Int}(h:TabW m w f):SgW m w fun i j=>sgn (f i j):=fun i j hi hj=>sgn_least (h i j hi hj) fun c hc=>Wk_nn hc
theorem SgW.eqG {m:Mc}{w:List Nat}{f g:Nat->Nat->Int}(h:SgW m w f)(h':SgW m w g):EqG m.R f g:=fun i j hi hj=>(h i j hi hj).eq (h' i j hi hj)
theorem SgW.inG {m:Mc}{w:List Nat}{f:Nat->Nat->Int}(h:SgW m w f):InG m.R f:=fun i j hi hj=>⟨(h i j hi hj).lo,(h i j hi hj).hi⟩
theorem SgW.mul {m:Mc}(hm:m.Ok){v w:List Nat}{f g:Nat->Nat->Int}(h:SgW m v f)(h':SgW m w g):SgW m (v++w) (pr m.R f g):=fun i j hi hj=>by
 have hin:=pr_in hm.R1 h.inG h'.inG i j hi hj
 have le:∀ x:Int,pr m.R f g i j<=x↔∃ l,l<m.R/\f i l<=x/\g l j<=x:=fun x=>pr_leA hm.R1 h.inG h'.inG hi hj
 refine ⟨hin.1,hin.2,fun e=>?_,?_,?_⟩
 ·obtain ⟨l,hl,h1,h2⟩:=(le 2).mp (by omega)
  have a:=h i l hi hl
  have b:=h' l j hl hj
  have:=(le 1).mpr ⟨l,hl,by have:=a.n2;omega,by have:=b.n2;omega⟩
  omega
 ·constructor
  ·intro e
   obtain ⟨l,hl,h1,h2⟩:=(le 0).mp (by omega)
   have a:=h i l hi hl
   have b:=h' l j hl hj
   exact Wk_app.mpr ⟨l,0,0,a.z.mp (by have:=a.lo;omega),b.z.mp (by have:=b.lo;omega),rfl⟩
  ·intro e
   obtain ⟨l,a,b,h1,h2,e2⟩:=Wk_app.mp e
   have:=Wk_nn h1
   have:=Wk_nn h2
   have ea:a=0:=by omega
   have eb:b=0:=by omega
   subst ea eb
   have hl:=Wk_lt hm hi h1
   have:=(le 0).mpr ⟨l,hl,by rw [(h i l hi hl).z.mpr h1];exact Int.le_refl _,by rw [(h' l j hl hj).z.mpr h2];exact Int.le_refl _⟩
   omega
 ·constructor
  ·intro e c hc
   obtain ⟨l,a,b,h1,h2,_⟩:=Wk_app.mp hc
   have hl:=Wk_lt hm hi h1
   have x:=h i l hi hl
   have y:=h' l j hl hj
   have n1:f i l≠3:=fun z=>x.t.mp z a h1
   have n2:g l j≠3:=fun z=>y.t.mp z b h2
   have:=(le 2).mpr ⟨l,hl,by have:=x.hi;omega,by have:=y.hi;omega⟩
   omega
  ·intro e
   refine Classical.byContradiction fun n=>?_
   obtain ⟨l,hl,h1,h2⟩:=(le 2).mp (by have:=hin.2;omega)
   have x:=h i l hi hl
   have y:=h' l j hl hj
   obtain ⟨a,ha⟩:∃ a,Wk m.ds v i l a:=Classical.byContradiction fun n=>by have:=x.t.mpr fun c hc=>n ⟨c,hc⟩;omega
   obtain ⟨b,hb⟩:∃ a,Wk m.ds w l j a:=Classical.byContradiction fun n=>by have:=y.t.mpr fun c hc=>n ⟨c,hc⟩;omega
   exact e _ (Wk_app.mpr ⟨l,a,b,ha,hb,rfl⟩)
theorem sgF_spec (ds:List Dr)(c i j:Nat):∀ k,k<=ds.length->(sgF ds c i j k=3/\∀ d∈ds.take k,¬ (d.l=c/\d.a=i/\d.b=j))\/(sgF ds c i j k=1/\(∃ d∈ds.take k,d.l=c/\d.a=i/\d.b=j)/\∀ d∈ds.take k,d.l=c/\d.a=i/\d.b=j->d.t≠0)\/(sgF ds c i j k=0/\∃ d∈ds.take k,(d.l=c/\d.a=i/\d.b=j)/\d.t=0)
 | 0,_=>.inl ⟨rfl,fun d hd=>by rw [List.take_zero] at hd;cases hd⟩
 | k+1,hk=>by
  have ih:=sgF_spec ds c i j k (by omega)
  have hx:=List.getElem?_eq_getElem (show k<ds.length by omega)
  have hkeep:∀ d,d∈ds.take (k+1)↔d∈ds.take k\/d=ds[k]:=fun d=>by rw [take_snoc hx,List.mem_append,List.mem_singleton]
  have key:sgF ds c i j (k+1)=if ds[k].l=c/\i=ds[k].a/\j=ds[k].b then (if (if 0<ds[k].t then (1:Int) else 0)<sgF ds c i j k then (if 0<ds[k].t then (1:Int) else 0) else sgF ds c i j k) else sgF ds c i j k:=by
   conv=>lhs;unfold sgF
   rw [hx]
  rw [key]
  generalize hx':ds[k]=x at *
  by_cases hc:x.l=c/\i=x.a/\j=x.b
  ·rw [if_pos hc]
   have hc':x.l=c/\x.a=i/\x.b=j:=⟨hc.1,hc.2.1.symm,hc.2.2.symm⟩
   by_cases ht:0<x.t
   ·rw [if_pos ht]
    rcases ih with ⟨e,h⟩ | ⟨e,h1,h2⟩ | ⟨e,d,hd,h1⟩
    ·rw [e,if_pos (by decide)]
     refine .inr (.inl ⟨rfl,⟨x,(hkeep x).mpr (.inr rfl),hc'⟩,fun d hd hh=>?_⟩)
     rcases (hkeep d).mp hd with z | z
     ·exact absurd hh (h d z)
     ·rw [z];omega
    ·rw [e,if_neg (by decide)]
     refine .inr (.inl ⟨rfl,⟨x,(hkeep x).mpr (.inr rfl),hc'⟩,fun d hd hh=>?_⟩)
     rcases (hkeep d).mp hd with z | z
     ·exact h2 d z hh
     ·rw [z];omega
    ·rw [e,if_neg (by decide)]
     exact .inr (.inr ⟨rfl,d,(hkeep d).mpr (.inl hd),h1⟩)
   ·rw [if_neg ht]
    have hz:x.t=0:=by omega
    rcases ih with ⟨e,h⟩ | ⟨e,h1,h2⟩ | ⟨e,d,hd,h1⟩
    ·rw [e,if_pos (by decide)];exact .inr (.inr ⟨rfl,x,(hkeep x).mpr (.inr rfl),hc',hz⟩)
    ·rw [e,if_pos (by decide)];exact .inr (.inr ⟨rfl,x,(hkeep x).mpr (.inr rfl),hc',hz⟩)
    ·rw [e,if_neg (by decide)];exact .inr (.inr ⟨rfl,x,(hkeep x).mpr (.inr rfl),hc',hz⟩)
  ·rw [if_neg hc]
   have hc':¬ (x.l=c/\x.a=i/\x.b=j):=fun z=>hc ⟨z.1,z.2.1.symm,z.2.2.symm⟩
   rcases ih with ⟨e,h⟩ | ⟨e,⟨d,hd,h1⟩,h2⟩ | ⟨e,d,hd,h1⟩
   ·refine .inl ⟨e,fun d hd hh=>?_⟩
    rcases (hkeep d).mp hd with z | z
    ·exact h d z hh
    ·rw [z] at hh;exact hc' hh
   ·refine .inr (.inl ⟨e,⟨d,(hkeep d).mpr (.inl hd),h1⟩,fun d hd hh=>?_⟩)
    rcases (hkeep d).mp hd with z | z
    ·exact h2 d z hh
    ·rw [z] at hh;exact absurd hh hc'
   ·exact .inr (.inr ⟨e,d,(hkeep d).mpr (.inl hd),h1⟩)
theorem SgW.letter (m:Mc)(c:Nat):SgW m [c] (sgM m c):=fun i j hi hj=>by
 have h:=sgF_spec m.ds c i j m.ds.length (Nat.le_refl _)
 rw [List.take_length] at h
 unfold sgM
 rcases h with ⟨e,h⟩ | ⟨e,⟨d,hd,h1⟩,h2⟩ | ⟨e,d,hd,h1,h3⟩
 ·rw [e]
  refine ⟨by decide,by decide,by decide,⟨fun z=>(by cases z),fun z=>?_⟩,⟨fun _ x hx=>?_,fun _=>rfl⟩⟩
  ·obtain ⟨d,hd,a,b,c',_⟩:=Wk_one.mp z;exact absurd ⟨a,b,c'⟩ (h d hd)
  ·obtain ⟨d,hd,a,b,c',_⟩:=Wk_one.mp hx;exact h d hd ⟨a,b,c'⟩
 ·rw [e]
  refine ⟨by decide,by decide,by decide,⟨fun z=>(by cases z),fun z=>?_⟩,⟨fun z=>(by cases z),fun z=>?_⟩⟩
  ·obtain ⟨d,hd,a,b,c',e2⟩:=Wk_one.mp z;have:=h2 d hd ⟨a,b,c'⟩;omega
  ·exact absurd (Wk_one.mpr ⟨d,hd,h1.1,h1.2.1,h1.2.2,rfl⟩) (z _)
 ·rw [e]
  refine ⟨by decide,by decide,by decide,⟨fun _=>Wk_one.mpr ⟨d,hd,h1.1,h1.2.1,h1.2.2,by rw [h3];rfl⟩,fun _=>rfl⟩,⟨fun z=>(by cases z),fun z=>?_⟩⟩
  exact absurd (Wk_one.mpr ⟨d,hd,h1.1,h1.2.1,h1.2.2,rfl⟩) (z _)
theorem SgW.unit (m:Mc):SgW m [] un:=fun i j hi hj=>by
 by_cases h:i=j
 ·have e:un i j=0:=by unfold un;rw [if_pos h]
  rw [e]
  exact ⟨by decide,by decide,by decide,⟨fun _=>⟨h,rfl⟩,fun _=>rfl⟩,⟨fun z=>(by cases z),fun z=>absurd ⟨h,rfl⟩ (z 0)⟩⟩
 ·have e:un i j=3:=by unfold un;rw [if_neg h]
  rw [e]
  exact ⟨by decide,by decide,by decide,⟨fun z=>(by cases z),fun z=>absurd z.1 h⟩,⟨fun _ c hc=>h hc.1,fun _=>rfl⟩⟩
section
variable {P:Pr} [HasC P "FREE" (.int 0)] [HasC P "SOME" (.int 1)] [HasC P "NONE" (.int 3)] [Has P d_sign_of]
theorem sign_of_ok (n:Nat)(o:Option Int)(s:Sto):(callN P (n+1)).call "sign_of" [qc o] s=.ok (.int (sgn o)) s:=by
 have e0:(callN P (n+1)).call "sign_of" [qc o] s=_:=zg d_sign_of (n:=n) rfl
 have g3:=fun ρ s=>(ev_glob (P:=P) (n:=n) (x := "NONE") (v:=.int 3) (ρ:=ρ) (s:=s))
 have g0:=fun ρ s=>(ev_glob (P:=P) (n:=n) (x := "FREE") (v:=.int 0) (ρ:=ρ) (s:=s))
 have g1:=fun ρ s=>(ev_glob (P:=P) (n:=n) (x := "SOME") (v:=.int 1) (ρ:=ρ) (s:=s))
 rw [e0,show (List.map some [qc o]++List.replicate d_sign_of.vs none)=[some (qc o)] from rfl]
 simp -implicitDefEqProofs only [d_sign_of]
 cases o with
 | none=>simp -implicitDefEqProofs only [zr,zI,ex_asg,ex_ite,ex_ret,ex_ex,ex_for,ex_setIx,ex_und,zy,ev_cst,ev_bin,ev_not,ev_cmp,ev_and,ev_or,ev_ite,ev_tup,ev_lst,ev_ix,ev_call,ev_bi,ev_mk,ev_mkD,ev_mkDs,ev_meth,ev_isN,ev_notN,zQ,zF,evas_nil,evas_ex,evI_seq,qd,evL_seq,Cn_bl,Cn_int,Cn_non,Cn_str,R.bind_ok,zm,bindT_tup,setVs_nil,setVs_cons,qg,zN,unsetV_s,unsetV_0,zz,zD,Option.map_some,Option.bind_some,zV,zt,nxt_ret,fin_ret,fin_next,add_int,sub_int,lt_int,le_int,gt_int,ge_int,eq_int,ne_int,alloc_eq,tru_bl,if_true,if_false,Bool.false_eq_true,decide_true,decide_false,Bool.not_true,Bool.not_false,encO_none,g3];exact z6
 | some i =>
  by_cases h:i=0
  ·subst h;simp -implicitDefEqProofs only [zr,zI,ex_asg,ex_ite,ex_ret,ex_ex,ex_for,ex_setIx,ex_und,zy,ev_cst,ev_bin,ev_not,ev_cmp,ev_and,ev_or,ev_ite,ev_tup,ev_lst,ev_ix,ev_call,ev_bi,ev_mk,ev_mkD,ev_mkDs,ev_meth,ev_isN,ev_notN,zQ,zF,evas_nil,evas_ex,evI_seq,qd,evL_seq,Cn_bl,Cn_int,Cn_non,Cn_str,R.bind_ok,zm,bindT_tup,setVs_nil,setVs_cons,qg,zN,unsetV_s,unsetV_0,zz,zD,Option.map_some,Option.bind_some,zV,zt,nxt_ret,fin_ret,fin_next,add_int,sub_int,lt_int,le_int,gt_int,ge_int,eq_int,ne_int,alloc_eq,tru_bl,if_true,if_false,Bool.false_eq_true,decide_true,decide_false,Bool.not_true,Bool.not_false,qv,show (D.int 0=D.non)=False from eq_false (by nofun),g0,sgn];exact z6
  ·simp -implicitDefEqProofs only [zr,zI,ex_asg,ex_ite,ex_ret,ex_ex,ex_for,ex_setIx,ex_und,zy,ev_cst,ev_bin,ev_not,ev_cmp,ev_and,ev_or,ev_ite,ev_tup,ev_lst,ev_ix,ev_call,ev_bi,ev_mk,ev_mkD,ev_mkDs,ev_meth,ev_isN,ev_notN,zQ,zF,evas_nil,evas_ex,evI_seq,qd,evL_seq,Cn_bl,Cn_int,Cn_non,Cn_str,R.bind_ok,zm,bindT_tup,setVs_nil,setVs_cons,qg,zN,unsetV_s,unsetV_0,zz,zD,Option.map_some,Option.bind_some,zV,zt,nxt_ret,fin_ret,fin_next,add_int,sub_int,lt_int,le_int,gt_int,ge_int,eq_int,ne_int,alloc_eq,tru_bl,if_true,if_false,Bool.false_eq_true,decide_true,decide_false,Bool.not_true,Bool.not_false,qv,show (D.int i=D.non)=False from eq_false (by nofun),h,g1,sgn];exact z6
variable [Has P d_grid] [Has P d_reading] [HasL P d_reading_l0]
theorem reading_ok (n:Nat){m:Nat}(hm:m<=5)(f:Nat->Nat->Option Int){s:Sto}(hs:s.all O.ncl=true) :
  (callN P (n+4)).call "reading" [gdO m f] s=.ok (gd m fun i j=>sgn (f i j)) s:=by
 have e0:(callN P (n+4)).call "reading" [gdO m f] s=_:=zg d_reading (n:=n+3) rfl
 have hg:=grid_ok (P:=P) (n+2) (m:=m) (by omega) (d:=.clo "reading.0" [gdO m f]) (s:=s) (W:=fun i j=>.int (sgn (f i j))) (fun _ _ n=>rfl) (fun i j hi hj=>by
  generalize hS:s++[O.lst ((List.range i).map fun i=>D.tup ((List.range m).map fun j=>.int (sgn (f i j))))]=S
  have nS:S.all O.ncl=true:=by rw [<-hS];exact rows_ncl hs (W:=fun i j=>.int (sgn (f i j))) (fun _ _=>rfl)
  refine (lam_def d_reading_l0 (n:=n+1) rfl rfl (by rw [nS];simp [D.nclL,D.ncl,gdO_ncl])).trans ?_
  show (ev (callN P (n+1)) d_reading_l0.body [some (.int i),some (.int j),some (gdO m f)] S).bind (zA S)=_
  simp -implicitDefEqProofs only [d_reading_l0]
  simp -implicitDefEqProofs only [zr,zI,ex_asg,ex_ite,ex_ret,ex_ex,ex_for,ex_setIx,ex_und,zy,ev_cst,ev_bin,ev_not,ev_cmp,ev_and,ev_or,ev_ite,ev_tup,ev_lst,ev_ix,ev_call,ev_bi,ev_mk,ev_mkD,ev_mkDs,ev_meth,ev_isN,ev_notN,zQ,zF,evas_nil,evas_ex,evI_seq,qd,evL_seq,Cn_bl,Cn_int,Cn_non,Cn_str,R.bind_ok,zm,bindT_tup,setVs_nil,setVs_cons,qg,zN,unsetV_s,unsetV_0,zz,zD,Option.map_some,Option.bind_some,zV,zt,nxt_ret,fin_ret,fin_next,add_int,sub_int,lt_int,le_int,gt_int,ge_int,eq_int,ne_int,alloc_eq,tru_bl,if_true,if_false,Bool.false_eq_true,decide_true,decide_false,Bool.not_true,Bool.not_false,gdO_ix hi,rowO_ix hj,sign_of_ok n]
  exact z6)
 rw [e0,show (List.map some [gdO m f]++List.replicate d_reading.vs none)=[some (gdO m f)] from rfl]
 simp -implicitDefEqProofs only [d_reading]
 simp -implicitDefEqProofs only [zr,zI,ex_asg,ex_ite,ex_ret,ex_ex,ex_for,ex_setIx,ex_und,zy,ev_cst,ev_bin,ev_not,ev_cmp,ev_and,ev_or,ev_ite,ev_tup,ev_lst,ev_ix,ev_call,ev_bi,ev_mk,ev_mkD,ev_mkDs,ev_meth,ev_isN,ev_notN,zQ,zF,evas_nil,evas_ex,evI_seq,qd,evL_seq,Cn_bl,Cn_int,Cn_non,Cn_str,R.bind_ok,zm,bindT_tup,setVs_nil,setVs_cons,qg,zN,unsetV_s,unsetV_0,zz,zD,Option.map_some,Option.bind_some,zV,zt,nxt_ret,fin_ret,fin_next,add_int,sub_int,lt_int,le_int,gt_int,ge_int,eq_int,ne_int,alloc_eq,tru_bl,if_true,if_false,Bool.false_eq_true,decide_true,decide_false,Bool.not_true,Bool.not_false,ev_callC,gdO_len]
 rw [evas_lam (cs:=[gdO m f]) _ rfl]
 have e:gdD m (fun i j=>.int (sgn (f i j)))=gd m (fun i j=>sgn (f i j)):=rfl
 simp -implicitDefEqProofs only [zr,zI,ex_asg,ex_ite,ex_ret,ex_ex,ex_for,ex_setIx,ex_und,zy,ev_cst,ev_bin,ev_not,ev_cmp,ev_and,ev_or,ev_ite,ev_tup,ev_lst,ev_ix,ev_call,ev_bi,ev_mk,ev_mkD,ev_mkDs,ev_meth,ev_isN,ev_notN,zQ,zF,evas_nil,evas_ex,evI_seq,qd,evL_seq,Cn_bl,Cn_int,Cn_non,Cn_str,R.bind_ok,zm,bindT_tup,setVs_nil,setVs_cons,qg,zN,unsetV_s,unsetV_0,zz,zD,Option.map_some,Option.bind_some,zV,zt,nxt_ret,fin_ret,fin_next,add_int,sub_int,lt_int,le_int,gt_int,ge_int,eq_int,ne_int,alloc_eq,tru_bl,if_true,if_false,Bool.false_eq_true,decide_true,decide_false,Bool.not_true,Bool.not_false,hg,e,if_pos (show ((gd m fun i j=>sgn (f i j)).ncl&&s.all O.ncl)=true by rw [gd_ncl,hs];rfl)]
 exact zo gd_bnd (by nofun)
variable [Has P d_least] [Has P d_added] [Has P d_rooms_of] [Has P d_doors_of] [Has P d_letter_table] [HasL P d_letter_table_l0] [Has P d_plain] [HasL P d_plain_l0] [Has P d_product] [HasL P d_product_l0] [Has P d_word_table] [Has P d_word_signs]
theorem qp (n:Nat){m:Mc}(hm:m.Ok)(w:List Nat)(hw:w.length<=5000){s:Sto}(hs:s.all O.ncl=true) :
  ∃ g,SgW m w g/\(callN P (n+6)).call "word_signs" [m.d,.str w] s=.ok (gd m.R g) s:=by
 have e0:(callN P (n+6)).call "word_signs" [m.d,.str w] s=_:=zg d_word_signs (n:=n+5) rfl
 obtain ⟨f,hf,e1⟩:=qk (P:=P) n hm w hw hs
 refine ⟨_,hf.sg,?_⟩
 rw [e0,show (List.map some [m.d,D.str w]++List.replicate d_word_signs.vs none)=[some m.d,some (D.str w)] from rfl]
 simp -implicitDefEqProofs only [d_word_signs]
 simp -implicitDefEqProofs only [zr,zI,ex_asg,ex_ite,ex_ret,ex_ex,ex_for,ex_setIx,ex_und,zy,ev_cst,ev_bin,ev_not,ev_cmp,ev_and,ev_or,ev_ite,ev_tup,ev_lst,ev_ix,ev_call,ev_bi,ev_mk,ev_mkD,ev_mkDs,ev_meth,ev_isN,ev_notN,zQ,zF,evas_nil,evas_ex,evI_seq,qd,evL_seq,Cn_bl,Cn_int,Cn_non,Cn_str,R.bind_ok,zm,bindT_tup,setVs_nil,setVs_cons,qg,zN,unsetV_s,unsetV_0,zz,zD,Option.map_some,Option.bind_some,zV,zt,nxt_ret,fin_ret,fin_next,add_int,sub_int,lt_int,le_int,gt_int,ge_int,eq_int,ne_int,alloc_eq,tru_bl,if_true,if_false,Bool.false_eq_true,decide_true,decide_false,Bool.not_true,Bool.not_false,e1,reading_ok (P:=P) (n+1) hm.R5 f hs]
 exact zo gd_bnd (by nofun)
variable [Has P d_begins_of] [Has P d_ends_of] [Has P d_at_begins_and_ends] [Has P d_end_sign]
noncomputable def esM (m:Mc)(g:Nat->Nat->Int):Int:=(minI (m.bg.flatMap fun p=>m.en.map fun q=>g p q)).getD 3
theorem beW_ints (m:Mc)(g:Nat->Nat->Int):beW m (fun i j=>.int (g i j))=(m.bg.flatMap fun p=>m.en.map fun q=>g p q).map D.int:=by
 unfold beW
 rw [List.map_flatMap]
 congr 1
 funext p
 rw [List.map_map];rfl
theorem end_sign_ok (n:Nat){m:Mc}(hm:m.Ok)(g:Nat->Nat->Int)(s:Sto):(callN P (n+3)).call "end_sign" [m.d,gd m.R g] s=.ok (.int (esM m g)) s:=by
 have e0:(callN P (n+3)).call "end_sign" [m.d,gd m.R g] s=_:=zg d_end_sign (n:=n+2) rfl
 have g3:=fun ρ s=>(ev_glob (P:=P) (n:=n+2) (x := "NONE") (v:=.int 3) (ρ:=ρ) (s:=s))
 have e1:(callN P (n+2)).call "at_begins_and_ends" [m.d,gd m.R g] s=_:=abe_ok (P:=P) n hm (W:=fun i j=>.int (g i j)) (fun i j n=>rfl) s
 rw [beW_ints] at e1
 have h2:lstR (.ref s.length) (s++[O.lst ((m.bg.flatMap fun p=>m.en.map fun q=>g p q).map D.int)])=.ok ((m.bg.flatMap fun p=>m.en.map fun q=>g p q).map D.int) (s++[O.lst ((m.bg.flatMap fun p=>m.en.map fun q=>g p q).map D.int)]):=by simp only [lstR,getL]
 have h3:∀ s,mkD .min ((m.bg.flatMap fun p=>m.en.map fun q=>g p q).map D.int) (.int 3) s=.ok (.int (esM m g)) s:=fun s=>by
  unfold mkD esM
  simp only [intsOf_enc]
  cases minI (m.bg.flatMap fun p=>m.en.map fun q=>g p q)<;>rfl
 rw [e0,show (List.map some [m.d,gd m.R g]++List.replicate d_end_sign.vs none)=[some m.d,some (gd m.R g)] from rfl]
 simp -implicitDefEqProofs only [d_end_sign]
 simp -implicitDefEqProofs only [zr,zI,ex_asg,ex_ite,ex_ret,ex_ex,ex_for,ex_setIx,ex_und,zy,ev_cst,ev_bin,ev_not,ev_cmp,ev_and,ev_or,ev_ite,ev_tup,ev_lst,ev_ix,ev_call,ev_bi,ev_mk,ev_mkD,ev_mkDs,ev_meth,ev_isN,ev_notN,zQ,zF,evas_nil,evas_ex,evI_seq,qd,evL_seq,Cn_bl,Cn_int,Cn_non,Cn_str,R.bind_ok,zm,bindT_tup,setVs_nil,setVs_cons,qg,zN,unsetV_s,unsetV_0,zz,zD,Option.map_some,Option.bind_some,zV,zt,nxt_ret,fin_ret,fin_next,add_int,sub_int,lt_int,le_int,gt_int,ge_int,eq_int,ne_int,alloc_eq,tru_bl,if_true,if_false,Bool.false_eq_true,decide_true,decide_false,Bool.not_true,Bool.not_false,e1,h2,g3,h3]
 exact zO (fun _=>rfl) (by nofun)
theorem esM_ok {m:Mc}(hm:m.Ok){w:List Nat}{g:Nat->Nat->Int}(h:SgW m w g):SgW1 (m.Wk w) (esM m g):=by
 have hl:=minI_least (m.bg.flatMap fun p=>m.en.map fun q=>g p q)
 have mem:∀ x,x∈(m.bg.flatMap fun p=>m.en.map fun q=>g p q)↔∃ p∈m.bg,∃ q∈m.en,g p q=x:=fun x=>by
  rw [List.mem_flatMap]
  constructor
  ·rintro ⟨p,hp,hx⟩
   obtain ⟨q,hq,e⟩:=List.mem_map.mp hx
   exact ⟨p,hp,q,hq,e⟩
  ·rintro ⟨p,hp,q,hq,e⟩;exact ⟨p,hp,List.mem_map.mpr ⟨q,hq,e⟩⟩
 unfold esM
 cases e:minI (m.bg.flatMap fun p=>m.en.map fun q=>g p q) with
 | none =>
  rw [e] at hl
  refine ⟨by decide,by decide,by decide,⟨fun z=>(by cases z),fun ⟨p,hp,q,hq,_⟩=>absurd ((mem _).mpr ⟨p,hp,q,hq,rfl⟩) (hl _)⟩,⟨fun _ c ⟨p,hp,q,hq,_⟩=>hl _ ((mem _).mpr ⟨p,hp,q,hq,rfl⟩),fun _=>rfl⟩⟩
 | some y =>
  rw [e] at hl
  obtain ⟨p,hp,q,hq,ey⟩:=(mem y).mp hl.1
  have hy:=h p q (hm.bg.1 p hp) (hm.en.1 q hq)
  rw [ey] at hy
  refine ⟨hy.lo,hy.hi,hy.n2,⟨fun z=>⟨p,hp,q,hq,hy.z.mp z⟩,fun ⟨p',hp',q',hq',hw⟩=>?_⟩,⟨fun z c ⟨p',hp',q',hq',hw⟩=>?_,fun z=>hy.t.mpr fun c hc=>z c ⟨p,hp,q,hq,hc⟩⟩⟩
  ·have h1:=h p' q' (hm.bg.1 p' hp') (hm.en.1 q' hq')
   have h2:=hl.2 _ ((mem _).mpr ⟨p',hp',q',hq',rfl⟩)
   rw [h1.z.mpr hw] at h2
   have:=hy.lo
   show y=0
   omega
  ·have h1:=h p' q' (hm.bg.1 p' hp') (hm.en.1 q' hq')
   have h2:=hl.2 _ ((mem _).mpr ⟨p',hp',q',hq',rfl⟩)
   have z':y=3:=z
   have:g p' q'=3:=by have:=h1.hi;omega
   exact h1.t.mp this c hw
end
end DV
end
noncomputable section
namespace DV
structure Gx (ns:List Int)(r:Nat)(u:Sto):Prop where
 scr:u[0]?=some (.ro (ns.map D.int))
 ncl:u.all O.ncl=true
 box:∃ b,u[r]?=some (qu b)
 r0:r≠0
theorem Gx.put {ns:List Int}{r:Nat}{u:Sto}(h:Gx ns r u)(b:Int):Gx ns r (u.set r (qu b)):=⟨by rw [List.getElem?_set_ne h.r0];exact h.scr,all_set h.ncl rfl,box_set (box_lt h.box),h.r0⟩
theorem Gx.snoc {ns:List Int}{r:Nat}{u:Sto}(h:Gx ns r u){o:O}(ho:o.ncl=true):Gx ns r (u++[o]):=⟨get_app h.scr,all_snoc h.ncl ho,by obtain ⟨b,hb⟩:=h.box;exact ⟨b,get_app hb⟩,h.r0⟩
section
variable {P:Pr} [HasC P "FREE" (.int 0)] [HasC P "SOME" (.int 1)] [HasC P "NONE" (.int 3)] [Has P d_sign_of] [Has P d_grid] [Has P d_reading] [HasL P d_reading_l0] [Has P d_least] [Has P d_added] [Has P d_rooms_of] [Has P d_doors_of] [Has P d_letter_table] [HasL P d_letter_table_l0] [Has P d_plain] [HasL P d_plain_l0] [Has P d_product] [HasL P d_product_l0] [Has P d_word_table] [Has P d_word_signs] [Has P d_begins_of] [Has P d_ends_of] [Has P d_at_begins_and_ends] [Has P d_end_sign] [Has P d_price] [Has P d_sign_product] [HasL P d_sign_product_l0]
 [Has P w_box] [Has P w_draw] [Has P w_form] [Has P w_product_2] [Has P w_unit] [Has P w_machine_3] [Has P w_letter_signs] [Has P w_law_k26]
noncomputable def lp26:Ss:=(.cons (.asg (.one 9) (.call "_law_draw" (.ex (.var 2) (.ex (.ix (.var 3) (.cst (.int 0))) .nil)))) (.cons (.asg (.one 5) (.bin .add (.var 5) (.ix (.cst (.str [97,98,99])) (.var 9)))) (.cons (.asg (.one 6) (.call "_law_product" (.ex (.var 6) (.ex (.ix (.var 7) (.var 9)) .nil)))) .nil)))
noncomputable def tl26:Ss:=(.cons (.asg (.one 10) (.call "word_signs" (.ex (.var 3) (.ex (.var 5) .nil)))) (.cons (.ite (.or (.not (.call "_law_form" (.ex (.var 10) (.ex (.ix (.var 3) (.cst (.int 1))) .nil)))) (.or (.cmp .ne (.var 10) (.var 6)) (.cmp .ne (.call "reading" (.ex (.call "word_table" (.ex (.var 3) (.ex (.var 5) .nil))) .nil)) (.var 6)))) (.cons (.ret (.cst (.bl false))) .nil) .nil) (.cons (.asg (.one 11) (.call "_law_draw" (.ex (.var 2) (.ex (.bin .add (.var 4) (.cst (.int 1))) .nil)))) (.cons (.ite (.cmp .ne (.call "sign_product" (.ex (.call "word_signs" (.ex (.var 3) (.ex (.slU (.var 5) (.var 11)) .nil))) (.ex (.call "word_signs" (.ex (.var 3) (.ex (.slL (.var 5) (.var 11)) .nil))) .nil))) (.var 6)) (.cons (.ret (.cst (.bl false))) .nil) .nil) (.cons (.ite (.cmp .ne (.call "end_sign" (.ex (.var 3) (.ex (.var 10) .nil))) (.call "sign_of" (.ex (.call "price" (.ex (.var 3) (.ex (.var 5) .nil))) .nil))) (.cons (.ret (.cst (.bl false))) .nil) .nil) .nil)))))
noncomputable def if26:S:=(.ite (.and (.cmp .eq (.call "_law_draw" (.ex (.var 2) (.ex (.cst (.int 8)) .nil))) (.cst (.int 3))) (.cmp .eq (.var 1) (.cst (.int 0)))) (.cons (.asg (.one 4) (.call "_law_draw" (.ex (.var 2) (.ex (.cst (.int 201)) .nil)))) .nil) .nil)
theorem body26:w_law_k26.body=(.cons (.for_ (.one 1) (.rng1 (.bin .add (.bi .min2 (.cons (.cst (.int 3)) (.cons (.bi .len (.cons (.var 0) .nil)) .nil))) (.cst (.int 1)))) (.cons (.asg (.one 2) (.call "_law_box" (.ex (.var 0) (.ex (.var 1) .nil)))) (.cons (.asg (.one 3) (.call "_law_machine" (.ex (.var 2) .nil))) (.cons (.asg (.one 4) (.call "_law_draw" (.ex (.var 2) (.ex (.cst (.int 61)) .nil)))) (.cons if26 (.cons (.asg (.one 5) (.cst (.str []))) (.cons (.asg (.one 6) (.call "_law_unit" (.ex (.ix (.var 3) (.cst (.int 1))) .nil))) (.cons (.asg (.one 7) (.mk .list (.comp (.one 0) (.seq (.slU (.cst (.str [97,98,99])) (.ix (.var 3) (.cst (.int 0))))) (.call "_law_letter_signs" (.ex (.var 1) (.ex (.var 0) .nil))) [none,some 3]))) (.cons (.for_ (.one 8) (.rng1 (.var 4)) lp26) tl26))))))))) (.cons (.ret (.cst (.bl true))) .nil)):=rfl
theorem if26_ok (n:Nat){ns:List Int}{r:Nat}{u:Sto}(h:Gx ns r u){v:Nat}(hv:v<=200)(j:Nat)(x0 x3 x5 x6 x7 x8 x9 x10 x11:Option D) :
  ∃ (v':Nat) (u':Sto),v'<=200/\Gx ns r u'/\ex (callN P (n+1)) if26 [x0,some (.int (j:Int)),some (.ref r),x3,some (.int (v:Int)),x5,x6,x7,x8,x9,x10,x11] u=.ok (.next [x0,some (.int (j:Int)),some (.ref r),x3,some (.int (v':Int)),x5,x6,x7,x8,x9,x10,x11]) u':=by
 obtain ⟨q,b1,hq,e1⟩:=z7 (P:=P) n h.box 8 (by decide) (by decide)
 have h1:=h.put b1
 by_cases h3:(q:Int)=3
 ·by_cases hj:(j:Int)=0
  ·obtain ⟨w,b2,hw,e2⟩:=z7 (P:=P) n h1.box 201 (by decide) (by decide)
   refine ⟨w,_,by omega,h1.put b2,?_⟩
   unfold if26
   simp -implicitDefEqProofs only [zr,zI,ex_asg,ex_ite,ex_ret,ex_ex,ex_for,ex_setIx,ex_und,zy,ev_cst,ev_bin,ev_not,ev_cmp,ev_and,ev_or,ev_ite,ev_tup,ev_lst,ev_ix,ev_call,ev_bi,ev_mk,ev_mkD,ev_mkDs,ev_meth,ev_isN,ev_notN,zQ,zF,evas_nil,evas_ex,evI_seq,qd,evL_seq,Cn_bl,Cn_int,Cn_non,Cn_str,R.bind_ok,zm,bindT_tup,setVs_nil,setVs_cons,qg,zN,unsetV_s,unsetV_0,zz,zD,Option.map_some,Option.bind_some,zV,zt,nxt_ret,fin_ret,fin_next,add_int,sub_int,lt_int,le_int,gt_int,ge_int,eq_int,ne_int,alloc_eq,tru_bl,if_true,if_false,Bool.false_eq_true,decide_true,decide_false,Bool.not_true,Bool.not_false,e1,h3,hj,e2]
  ·refine ⟨v,_,hv,h1,?_⟩
   unfold if26
   simp -implicitDefEqProofs only [zr,zI,ex_asg,ex_ite,ex_ret,ex_ex,ex_for,ex_setIx,ex_und,zy,ev_cst,ev_bin,ev_not,ev_cmp,ev_and,ev_or,ev_ite,ev_tup,ev_lst,ev_ix,ev_call,ev_bi,ev_mk,ev_mkD,ev_mkDs,ev_meth,ev_isN,ev_notN,zQ,zF,evas_nil,evas_ex,evI_seq,qd,evL_seq,Cn_bl,Cn_int,Cn_non,Cn_str,R.bind_ok,zm,bindT_tup,setVs_nil,setVs_cons,qg,zN,unsetV_s,unsetV_0,zz,zD,Option.map_some,Option.bind_some,zV,zt,nxt_ret,fin_ret,fin_next,add_int,sub_int,lt_int,le_int,gt_int,ge_int,eq_int,ne_int,alloc_eq,tru_bl,if_true,if_false,Bool.false_eq_true,decide_true,decide_false,Bool.not_true,Bool.not_false,e1,h3,hj]
 ·refine ⟨v,_,hv,h1,?_⟩
  unfold if26
  simp -implicitDefEqProofs only [zr,zI,ex_asg,ex_ite,ex_ret,ex_ex,ex_for,ex_setIx,ex_und,zy,ev_cst,ev_bin,ev_not,ev_cmp,ev_and,ev_or,ev_ite,ev_tup,ev_lst,ev_ix,ev_call,ev_bi,ev_mk,ev_mkD,ev_mkDs,ev_meth,ev_isN,ev_notN,zQ,zF,evas_nil,evas_ex,evI_seq,qd,evL_seq,Cn_bl,Cn_int,Cn_non,Cn_str,R.bind_ok,zm,bindT_tup,setVs_nil,setVs_cons,qg,zN,unsetV_s,unsetV_0,zz,zD,Option.map_some,Option.bind_some,zV,zt,nxt_ret,fin_ret,fin_next,add_int,sub_int,lt_int,le_int,gt_int,ge_int,eq_int,ne_int,alloc_eq,tru_bl,if_true,if_false,Bool.false_eq_true,decide_true,decide_false,Bool.not_true,Bool.not_false,e1,h3]
theorem abc_seq {L:Nat}(h:L<=3)(s:Sto):seqM (.str ([97,98,99].take L)) s=.ok ⟨(List.range L).map fun k=>D.str [97+k],[]⟩ s:=by
 rcases (by omega:L=0\/L=1\/L=2\/L=3) with rfl | rfl | rfl | rfl<;>rfl
theorem sgs26_ok (n:Nat){m:Mc}(hm:m.Ok)(s:Sto)(x0 x1 x2 x4 x5 x6 x7 x8 x9 x10 x11:Option D) :
  ev (callN P (n+1)) (.mk .list (.comp (.one 0) (.seq (.slU (.cst (.str [97,98,99])) (.ix (.var 3) (.cst (.int 0))))) (.call "_law_letter_signs" (.ex (.var 1) (.ex (.var 0) .nil))) [none,some 3])) [x0,x1,x2,some m.d,x4,x5,x6,x7,x8,x9,x10,x11] s=.ok (.ref s.length) (s++[.lst ((List.range m.L).map fun k=>gd m.R (sgM m (97+k)))]):=by
 have hL:=hm.L3
 obtain ⟨ρ1,s1,e1,rfl,_⟩:=comp_map (ok:=fun s1=>chk s s1 []) (g:=zW (callN P (n+1)) (.one 0) (.call "_law_letter_signs" (.ex (.var 1) (.ex (.var 0) .nil)))) (fun ρ u=>u=s/\∃ x,ρ=[x,some m.d]) (fun d=>match d with | .str [c]=>gd m.R (sgM m c) | d=>d) ((List.range m.L).map fun k=>D.str [97+k]) [none,some m.d] s ⟨rfl,none,rfl⟩ (fun _ _ _=>rfl) (by
  rintro d hd ρ u ⟨rfl,x,rfl⟩
  obtain ⟨k,_,rfl⟩:=List.mem_map.mp hd
  refine ⟨[some (.str [97+k]),some m.d],u,?_,rfl,_,rfl⟩
  unfold zW
  simp -implicitDefEqProofs only [zr,zI,ex_asg,ex_ite,ex_ret,ex_ex,ex_for,ex_setIx,ex_und,zy,ev_cst,ev_bin,ev_not,ev_cmp,ev_and,ev_or,ev_ite,ev_tup,ev_lst,ev_ix,ev_call,ev_bi,ev_mk,ev_mkD,ev_mkDs,ev_meth,ev_isN,ev_notN,zQ,zF,evas_nil,evas_ex,evI_seq,qd,evL_seq,Cn_bl,Cn_int,Cn_non,Cn_str,R.bind_ok,zm,bindT_tup,setVs_nil,setVs_cons,qg,zN,unsetV_s,unsetV_0,zz,zD,Option.map_some,Option.bind_some,zV,zt,nxt_ret,fin_ret,fin_next,add_int,sub_int,lt_int,le_int,gt_int,ge_int,eq_int,ne_int,alloc_eq,tru_bl,if_true,if_false,Bool.false_eq_true,decide_true,decide_false,Bool.not_true,Bool.not_false,letter_signs_ok (P:=P) n hm])
 rw [List.map_map] at e1
 have mkl:∀ q (s:Sto),mk .list q s=.ok (.ref s.length) (s++[.lst q]):=fun _ _=>rfl
 simp -implicitDefEqProofs only [zr,zI,ex_asg,ex_ite,ex_ret,ex_ex,ex_for,ex_setIx,ex_und,zy,ev_cst,ev_bin,ev_not,ev_cmp,ev_and,ev_or,ev_ite,ev_tup,ev_lst,ev_ix,ev_call,ev_bi,ev_mk,ev_mkD,ev_mkDs,ev_meth,ev_isN,ev_notN,zQ,zF,evas_nil,evas_ex,evI_seq,qd,evL_seq,Cn_bl,Cn_int,Cn_non,Cn_str,R.bind_ok,zm,bindT_tup,setVs_nil,setVs_cons,qg,zN,unsetV_s,unsetV_0,zz,zD,Option.map_some,Option.bind_some,zV,zt,nxt_ret,fin_ret,fin_next,add_int,sub_int,lt_int,le_int,gt_int,ge_int,eq_int,ne_int,alloc_eq,tru_bl,if_true,if_false,Bool.false_eq_true,decide_true,decide_false,Bool.not_true,Bool.not_false,ixL,ev_slU,abc_sl hL,abc_seq hL,ql,if_pos (show ((List.range m.L).map fun k=>D.str [97+k]).length<=LIM by simp;unfold LIM;omega),show zx [x0,x1,x2,some m.d,x4,x5,x6,x7,x8,x9,x10,x11] [none,some 3]=[none,some m.d] from rfl,e1,mkl]
 rfl
theorem sgs_ncl {m:Mc}:(O.lst ((List.range m.L).map fun k=>gd m.R (sgM m (97+k)))).ncl=true:=zB fun d hd=>by obtain ⟨x,_,rfl⟩:=List.mem_map.mp hd;exact gd_ncl
theorem lp26_ok (n:Nat){ns:List Int}{r:Nat}{u:Sto}(h:Gx ns r u){m:Mc}(hm:m.Ok){v:Nat}(hv:v<=200){q:Nat}(hq:u[q]?=some (.lst ((List.range m.L).map fun k=>gd m.R (sgM m (97+k)))))(hqr:q≠r)(x0 x1 x8 x9 x10 x11:Option D) :
  ∃ (w:List Nat) (g:Nat->Nat->Int) (u':Sto) (y8 y9:Option D),w.length=v/\SgW m w g/\Gx ns r u'/\forL (fun s1=>chk u s1 []) (turn (callN P (n+1)) (.one 8) lp26) (qy 0 (v:Int)) [x0,x1,some (.ref r),some m.d,some (.int (v:Int)),some (.str []),some (gd m.R un),some (.ref q),x8,x9,x10,x11] u=.ok (.next [x0,x1,some (.ref r),some m.d,some (.int (v:Int)),some (.str w),some (gd m.R g),some (.ref q),y8,y9,x10,x11]) u':=by
 have hR:=hm.R5
 have hL:=hm.L3
 have hL1:=hm.L1
 have key:=qI (ok:=fun s1=>chk u s1 []) (g:=turn (callN P (n+1)) (.one 8) lp26) (fun k ρ t=>∃ (w:List Nat) (g:Nat->Nat->Int) (y8 y9:Option D),w.length=k/\SgW m w g/\Gx ns r t/\t[q]?=some (.lst ((List.range m.L).map fun k=>gd m.R (sgM m (97+k))))/\ρ=[x0,x1,some (.ref r),some m.d,some (.int (v:Int)),some (.str w),some (gd m.R g),some (.ref q),y8,y9,x10,x11]) (qy 0 (v:Int)) 0 [x0,x1,some (.ref r),some m.d,some (.int (v:Int)),some (.str []),some (gd m.R un),some (.ref q),x8,x9,x10,x11] u ⟨[],un,x8,x9,rfl,SgW.unit m,h,hq,rfl⟩ (fun _ _ _ _ _=>rfl) (by
  rintro k d ρ t hk ⟨w,g,y8,y9,hw,hg,ht,hq',rfl⟩
  have hk5:=(rngL_at hk).1
  rw [(rngL_at hk).2]
  rw [Nat.zero_add] at hw ⊢
  obtain ⟨c,b1,hc,e1⟩:=z7 (P:=P) n ht.box (m.L:Int) (by omega) (qh (by omega))
  have h1:=ht.put b1
  have hq2:(t.set r (qu b1))[q]?=some (.lst ((List.range m.L).map fun k=>gd m.R (sgM m (97+k)))):=by rw [List.getElem?_set_ne (Ne.symm hqr)];exact hq'
  have hix:=ix_lst hq2 (j:=c) (d:=gd m.R (sgM m (97+c))) (by rw [List.getElem?_map,List.getElem?_range (by omega)];rfl)
  have e2:=product_ok (P:=P) n hR g (sgM m (97+c)) (t.set r (qu b1))
  have ea:∀ s,binop .add (.str w) (.str [97+c]) s=.ok (.str (w++[97+c])) s:=fun s=>add_str (by unfold LIM;simp;omega)
  refine ⟨_,_,.inl ?_,w++[97+c],pr m.R g (sgM m (97+c)),some (.int (k:Int)),some (.int (c:Int)),by simp [hw],SgW.mul hm hg (SgW.letter m _),h1,hq2,rfl⟩
  unfold turn lp26
  simp -implicitDefEqProofs only [zr,zI,ex_asg,ex_ite,ex_ret,ex_ex,ex_for,ex_setIx,ex_und,zy,ev_cst,ev_bin,ev_not,ev_cmp,ev_and,ev_or,ev_ite,ev_tup,ev_lst,ev_ix,ev_call,ev_bi,ev_mk,ev_mkD,ev_mkDs,ev_meth,ev_isN,ev_notN,zQ,zF,evas_nil,evas_ex,evI_seq,qd,evL_seq,Cn_bl,Cn_int,Cn_non,Cn_str,R.bind_ok,zm,bindT_tup,setVs_nil,setVs_cons,qg,zN,unsetV_s,unsetV_0,zz,zD,Option.map_some,Option.bind_some,zV,zt,nxt_ret,fin_ret,fin_next,add_int,sub_int,lt_int,le_int,gt_int,ge_int,eq_int,ne_int,alloc_eq,tru_bl,if_true,if_false,Bool.false_eq_true,decide_true,decide_false,Bool.not_true,Bool.not_false,ixL,e1,abc_ix (show c<3 by omega),ea,hix,e2])
 obtain ⟨ρ',u',ek,w,g,y8,y9,hw,hg,ht,_,rfl⟩:=key
 exact ⟨w,g,u',y8,y9,by rw [hw,zL];omega,hg,ht,ek⟩
theorem tl26_ok (n:Nat){ns:List Int}{r:Nat}{u:Sto}(h:Gx ns r u){m:Mc}(hm:m.Ok){w:List Nat}(hw:w.length<=200){g:Nat->Nat->Int}(hg:SgW m w g)(x0 x1 x7 x8 x9 x10 x11:Option D) :
  ∃ (u':Sto) (y10 y11:Option D),Gx ns r u'/\exs (callN P (n+6)) tl26 [x0,x1,some (.ref r),some m.d,some (.int (w.length:Int)),some (.str w),some (gd m.R g),x7,x8,x9,x10,x11] u=.ok (.next [x0,x1,some (.ref r),some m.d,some (.int (w.length:Int)),some (.str w),some (gd m.R g),x7,x8,x9,y10,y11]) u':=by
 have hR:=hm.R5
 obtain ⟨g1,hg1,e1⟩:=qp (P:=P) n hm w (by omega) h.ncl
 obtain ⟨f,hf,e2⟩:=qk (P:=P) (n+1) hm w (by omega) h.ncl
 have e3:=reading_ok (P:=P) (n+2) hR f h.ncl
 obtain ⟨a,b1,ha,e4⟩:=z7 (P:=P) (n+5) h.box ((w.length:Int)+1) (by omega) (qh (by omega))
 have h1:=h.put b1
 have hcut:∀ s,slM (.str w) none (some (a:Int)) s=.ok (.str (w.take a)) s:=fun s=>by
  show R.ok (D.str (cutL w none (some (a:Int)))) s=_
  congr 2
  unfold cutL loB hiB sbd
  dsimp only
  rw [if_pos (by omega),Nat.sub_zero,List.drop_zero,Int.toNat_natCast,Nat.min_eq_left (by omega)]
 have hcut2:∀ s,slM (.str w) (some (a:Int)) none s=.ok (.str (w.drop a)) s:=fun s=>by
  show R.ok (D.str (cutL w (some (a:Int)) none)) s=_
  congr 2
  unfold cutL loB hiB sbd
  dsimp only
  rw [if_pos (by omega),Int.toNat_natCast,Nat.min_eq_left (by omega)]
  exact List.take_of_length_le (by rw [List.length_drop];exact Nat.le_refl _)
 obtain ⟨g2,hg2,e5⟩:=qp (P:=P) n hm (w.take a) (by rw [List.length_take];omega) h1.ncl
 obtain ⟨g3,hg3,e6⟩:=qp (P:=P) n hm (w.drop a) (by rw [List.length_drop];omega) h1.ncl
 have e7:=sign_product_ok (P:=P) (n+3) hm.R1 hR hg2.inG hg3.inG h1.ncl
 have hg4:SgW m w (pr m.R g2 g3):=by have:=SgW.mul hm hg2 hg3;rwa [List.take_append_drop] at this
 have e8:=end_sign_ok (P:=P) (n+3) hm g1 (u.set r (qu b1))
 obtain ⟨o,ho,e9⟩:=price_ok (P:=P) n hm w (by omega) h1.ncl
 have e10:=sign_of_ok (P:=P) (n+5) o (u.set r (qu b1))
 have es:esM m g1=sgn o:=(esM_ok hm hg1).eq (sgn_least ho fun c hc=>by obtain ⟨_,_,_,_,z⟩:=hc;exact Wk_nn z)
 have n1:=fun s=>ne_gdE (s:=s) (hg1.eqG hg)
 have n2:=fun s=>ne_gdE (s:=s) (hf.sg.eqG hg)
 have n3:=fun s=>ne_gdE (s:=s) (hg4.eqG hg)
 refine ⟨_,some (gd m.R g1),some (.int (a:Int)),h1,?_⟩
 unfold tl26
 simp -implicitDefEqProofs only [zr,zI,ex_asg,ex_ite,ex_ret,ex_ex,ex_for,ex_setIx,ex_und,zy,ev_cst,ev_bin,ev_not,ev_cmp,ev_and,ev_or,ev_ite,ev_tup,ev_lst,ev_ix,ev_call,ev_bi,ev_mk,ev_mkD,ev_mkDs,ev_meth,ev_isN,ev_notN,zQ,zF,evas_nil,evas_ex,evI_seq,qd,evL_seq,Cn_bl,Cn_int,Cn_non,Cn_str,R.bind_ok,zm,bindT_tup,setVs_nil,setVs_cons,qg,zN,unsetV_s,unsetV_0,zz,zD,Option.map_some,Option.bind_some,zV,zt,nxt_ret,fin_ret,fin_next,add_int,sub_int,lt_int,le_int,gt_int,ge_int,eq_int,ne_int,alloc_eq,tru_bl,if_true,if_false,Bool.false_eq_true,decide_true,decide_false,Bool.not_true,Bool.not_false,e1,ixR,form_ok (P:=P) (n+5),n1,e2,e3,n2,e4,ev_slU,ev_slL,hcut,hcut2,e5,e6,e7,n3,e8,e9,e10,es,show (sgn o=sgn o)=True from eq_self _]
theorem law26 (n:Nat):LawOk P (n+7):=by
 intro ns hl
 have e0:(callN P (n+7)).call "law" [.ref 0] [.ro (ns.map D.int)]=_:=zg w_law_k26 (n:=n+6) rfl
 rw [e0,body26,show (List.map some [D.ref 0]++List.replicate w_law_k26.vs none)=[some (.ref 0),none,none,none,none,none,none,none,none,none,none,none] from rfl]
 have hs0:([.ro (ns.map D.int)]:Sto)[0]?=some (.ro (ns.map D.int)):=rfl
 have hlen:bi .len [.ref 0] [.ro (ns.map D.int)]=.ok (.int ns.length) [.ro (ns.map D.int)]:=by rw [len_ro hs0,List.length_map]
 have hk:(if (ns.length:Int)<3 then (ns.length:Int) else 3)+1=((min ns.length 3+1:Nat):Int):=by omega
 simp -implicitDefEqProofs only [zr,zI,ex_asg,ex_ite,ex_ret,ex_ex,ex_for,ex_setIx,ex_und,zy,ev_cst,ev_bin,ev_not,ev_cmp,ev_and,ev_or,ev_ite,ev_tup,ev_lst,ev_ix,ev_call,ev_bi,ev_mk,ev_mkD,ev_mkDs,ev_meth,ev_isN,ev_notN,zQ,zF,evas_nil,evas_ex,evI_seq,qd,evL_seq,Cn_bl,Cn_int,Cn_non,Cn_str,R.bind_ok,zm,bindT_tup,setVs_nil,setVs_cons,qg,zN,unsetV_s,unsetV_0,zz,zD,Option.map_some,Option.bind_some,zV,zt,nxt_ret,fin_ret,fin_next,add_int,sub_int,lt_int,le_int,gt_int,ge_int,eq_int,ne_int,alloc_eq,tru_bl,if_true,if_false,Bool.false_eq_true,decide_true,decide_false,Bool.not_true,Bool.not_false,hlen,min2_int,hk]
 rw [zH (by unfold W62;omega) (by unfold W62;omega)]
 simp only [R.bind_ok]
 rw [R.bind_assoc]
 refine for_want (W:=Yes) (fun j ρ t=>t[0]?=some (.ro (ns.map D.int))/\t.all O.ncl=true/\∃ x1 x2 x3 x4 x5 x6 x7 x8 x9 x10 x11,ρ=[some (.ref 0),x1,x2,x3,x4,x5,x6,x7,x8,x9,x10,x11]) ⟨rfl,by
   simp only [List.all_cons,List.all_nil,Bool.and_true];exact ints_ncl,_,_,_,_,_,_,_,_,_,_,_,rfl⟩ (fun _ _ _ _ _=>rfl) ?_ ?_
 ·rintro j d ρ t hj ⟨ht,hn,x1,x2,x3,x4,x5,x6,x7,x8,x9,x10,x11,rfl⟩
  have hd:=(rngL_at hj).2
  subst hd
  have ht0:0<t.length:=(List.getElem?_eq_some_iff.mp ht).1
  obtain ⟨N0,hbox⟩:=box_ex (P:=P) (n+5) ns j ht
  have G0:Gx ns t.length (t++[qu N0]):=⟨get_app ht,all_snoc hn rfl,⟨_,getL⟩,by omega⟩
  generalize t++[qu N0]=S at hbox G0
  generalize t.length=r at hbox G0
  obtain ⟨m,b1,hm,em⟩:=machine3_mc (P:=P) (n+4) G0.box
  have G1:=G0.put b1
  obtain ⟨v0,b2,hv0,ev0⟩:=z7 (P:=P) (n+5) G1.box 61 (by decide) (by decide)
  have G2:=G1.put b2
  obtain ⟨v,u3,hv,G3,e3⟩:=if26_ok (P:=P) (n+5) G2 (v:=v0) (by omega) j (some (.ref 0)) (some m.d) x5 x6 x7 x8 x9 x10 x11
  have e4:=unit_ok (P:=P) (n+5) hm.R5 u3
  have e5:=sgs26_ok (P:=P) (n+5) hm u3 (some (.ref 0)) (some (.int (j:Int))) (some (.ref r)) (some (.int (v:Int))) (some (.str [])) (some (gd m.R un)) x7 x8 x9 x10 x11
  have G4:=G3.snoc (sgs_ncl (m:=m))
  obtain ⟨w,g,u6,y8,y9,hw,hg,G6,e6⟩:=lp26_ok (P:=P) (n+5) G4 hm hv getL (by have:=box_lt G3.box;omega) (some (.ref 0)) (some (.int (j:Int))) x8 x9 x10 x11
  obtain ⟨u7,y10,y11,G7,e7⟩:=tl26_ok (P:=P) n G6 hm (by omega) hg (some (.ref 0)) (some (.int (j:Int))) (some (.ref u3.length)) y8 y9 x10 x11
  rw [hw] at e7
  refine Nx_of (ρ:=[some (.ref 0),some (.int (j:Int)),some (.ref r),some m.d,some (.int (v:Int)),some (.str w),some (gd m.R g),some (.ref u3.length),y8,y9,y10,y11]) (s:=u7) ?_ ⟨G7.scr,G7.ncl,_,_,_,_,_,_,_,_,_,_,_,rfl⟩
  unfold turn
  simp -implicitDefEqProofs only [zm,qg,zN,Option.map_some,zr,ex_asg,ev_call,evas_ex,evas_nil,zy,zz,zD,R.bind_ok,hbox,em,zV,zt,ev_cst,Cn_int,Cn_str,ev0,e3,ev_ix,ixR,e4]
  rw [e5]
  simp -implicitDefEqProofs only [R.bind_ok,zm,qg,zN,Option.map_some,zV,zt,zr,ex_for,qd,zy,zz,zD]
  rw [zH (by unfold W62;omega) (by unfold W62;omega)]
  simp -implicitDefEqProofs only [R.bind_ok]
  rw [e6]
  simp -implicitDefEqProofs only [R.bind_ok,zt]
  exact e7
 ·rintro ρ t ⟨ht,hn,x1,x2,x3,x4,x5,x6,x7,x8,x9,x10,x11,rfl⟩
  simp -implicitDefEqProofs only [zr,zI,ex_asg,ex_ite,ex_ret,ex_ex,ex_for,ex_setIx,ex_und,zy,ev_cst,ev_bin,ev_not,ev_cmp,ev_and,ev_or,ev_ite,ev_tup,ev_lst,ev_ix,ev_call,ev_bi,ev_mk,ev_mkD,ev_mkDs,ev_meth,ev_isN,ev_notN,zQ,zF,evas_nil,evas_ex,evI_seq,qd,evL_seq,Cn_bl,Cn_int,Cn_non,Cn_str,R.bind_ok,zm,bindT_tup,setVs_nil,setVs_cons,qg,zN,unsetV_s,unsetV_0,zz,zD,Option.map_some,Option.bind_some,zV,zt,nxt_ret,fin_ret,fin_next,add_int,sub_int,lt_int,le_int,gt_int,ge_int,eq_int,ne_int,alloc_eq,tru_bl,if_true,if_false,Bool.false_eq_true,decide_true,decide_false,Bool.not_true,Bool.not_false]
  exact Yes_canon _ _
end
end DV
end
local macro_rules | `(tactic| walk_at "sc") => `(tactic| exact ⟨rfl, rfl, rfl, by decide +kernel, rfl, by decide +kernel, by decide +kernel⟩)
local macro_rules | `(tactic| walk_at "df") => `(tactic| (dsimp only; exact ⟨_, _, _, _, _, _, _, _, _, _, by k_is, by k_is, by k_is, by k_is⟩))
noncomputable section
namespace My
open PySem L2
noncomputable def top (i:Nat):Stmt:=PySem.Challenge.pw_leasttolls_k26_signs_of_words.main.body.getD i (.Pass ⟨0,0,0,0⟩)
theorem bd_0:BindG ["i", "j"]:=fun params h _ _ _ _ _ _ _ _ us hl=>by
 obtain ⟨args,rfl,ha⟩:=lamArgs_inv h
 match args,us,ha,hl with
 | [⟨a0,_,_⟩,⟨a1,_,_⟩],[u0,u1],ha,_ =>
  simp only [List.map_cons,List.map_nil,List.cons.injEq,and_true] at ha
  obtain ⟨rfl,rfl⟩:=ha
  exact ⟨rfl,fun _ _=>rfl⟩
noncomputable def tabN:List Str:=["plain", "product", "letter_table", "reading", "sign_product"]
noncomputable abbrev s_rooms_of:Stmt:=top 1
noncomputable abbrev s_begins_of:Stmt:=top 2
noncomputable abbrev s_ends_of:Stmt:=top 3
noncomputable abbrev s_doors_of:Stmt:=top 4
noncomputable abbrev s_grid:Stmt:=top 6
noncomputable abbrev s_at_begins_and_ends:Stmt:=top 7
noncomputable abbrev s_least:Stmt:=top 9
noncomputable abbrev s_added:Stmt:=top 10
noncomputable abbrev s_plain:Stmt:=top 11
noncomputable abbrev s_product:Stmt:=top 12
noncomputable abbrev s_letter_table:Stmt:=top 13
noncomputable abbrev s_word_table:Stmt:=top 14
noncomputable abbrev s_price:Stmt:=top 15
noncomputable abbrev s_sign_of:Stmt:=top 20
noncomputable abbrev s_reading:Stmt:=top 21
noncomputable abbrev s_sign_product:Stmt:=top 22
noncomputable abbrev s_word_signs:Stmt:=top 23
noncomputable abbrev s_end_sign:Stmt:=top 24
noncomputable abbrev s__law_box:Stmt:=top 26
noncomputable abbrev s__law_draw:Stmt:=top 27
noncomputable abbrev s__law_form:Stmt:=top 28
noncomputable abbrev s__law_product:Stmt:=top 29
noncomputable abbrev s__law_unit:Stmt:=top 30
noncomputable abbrev s__law_machine:Stmt:=top 31
noncomputable abbrev s__law_letter_signs:Stmt:=top 32
noncomputable abbrev s_law:Stmt:=top 33
noncomputable def tb:List (String×DV.Df×Stmt):=[("rooms_of",DV.d_rooms_of,s_rooms_of),("begins_of",DV.d_begins_of,s_begins_of),("ends_of",DV.d_ends_of,s_ends_of),("doors_of",DV.d_doors_of,s_doors_of),("grid",DV.d_grid,s_grid),("at_begins_and_ends",DV.d_at_begins_and_ends,s_at_begins_and_ends),("least",DV.d_least,s_least),("added",DV.d_added,s_added),("plain",DV.d_plain,s_plain),("product",DV.d_product,s_product),("letter_table",DV.d_letter_table,s_letter_table),("word_table",DV.d_word_table,s_word_table),("price",DV.d_price,s_price),("sign_of",DV.d_sign_of,s_sign_of),("reading",DV.d_reading,s_reading),("sign_product",DV.d_sign_product,s_sign_product),("word_signs",DV.d_word_signs,s_word_signs),("end_sign",DV.d_end_sign,s_end_sign),("_law_box",DV.w_box,s__law_box),("_law_draw",DV.w_draw,s__law_draw),("_law_form",DV.w_form,s__law_form),("_law_product",DV.w_product_2,s__law_product),("_law_unit",DV.w_unit,s__law_unit),("_law_machine",DV.w_machine_3,s__law_machine),("_law_letter_signs",DV.w_letter_signs,s__law_letter_signs),("law",DV.w_law_k26,s_law)]
noncomputable def ctbl:List (String×DV.D):=[("FREE",.int (0)),("SOME",.int (1)),("NONE",.int (3))]
noncomputable def ltbl:List (String×DV.Lm):=[("plain.0",DV.d_plain_l0),("product.0",DV.d_product_l0),("letter_table.least_fee",DV.d_letter_table_l0),("reading.0",DV.d_reading_l0),("sign_product.0",DV.d_sign_product_l0)]
noncomputable def tbl:List (String×DV.Df):=tb.map fun p=>(p.1,p.2.1)
noncomputable def P:DV.Pr:=⟨fun f=>tbl.lookup f,fun f=>ltbl.lookup f,fun x=>ctbl.lookup x⟩
noncomputable instance:DV.HasL P DV.d_plain_l0:=⟨rfl⟩
noncomputable instance:DV.HasL P DV.d_product_l0:=⟨rfl⟩
noncomputable instance:DV.HasL P DV.d_letter_table_l0:=⟨rfl⟩
noncomputable instance:DV.HasL P DV.d_reading_l0:=⟨rfl⟩
noncomputable instance:DV.HasL P DV.d_sign_product_l0:=⟨rfl⟩
noncomputable instance:DV.HasC P "FREE" (.int (0)):=⟨rfl⟩
noncomputable instance:DV.HasC P "SOME" (.int (1)):=⟨rfl⟩
noncomputable instance:DV.HasC P "NONE" (.int (3)):=⟨rfl⟩
noncomputable instance:DV.Has P DV.d_rooms_of:=⟨rfl⟩
noncomputable instance:DV.Has P DV.d_begins_of:=⟨rfl⟩
noncomputable instance:DV.Has P DV.d_ends_of:=⟨rfl⟩
noncomputable instance:DV.Has P DV.d_doors_of:=⟨rfl⟩
noncomputable instance:DV.Has P DV.d_grid:=⟨rfl⟩
noncomputable instance:DV.Has P DV.d_at_begins_and_ends:=⟨rfl⟩
noncomputable instance:DV.Has P DV.d_least:=⟨rfl⟩
noncomputable instance:DV.Has P DV.d_added:=⟨rfl⟩
noncomputable instance:DV.Has P DV.d_plain:=⟨rfl⟩
noncomputable instance:DV.Has P DV.d_product:=⟨rfl⟩
noncomputable instance:DV.Has P DV.d_letter_table:=⟨rfl⟩
noncomputable instance:DV.Has P DV.d_word_table:=⟨rfl⟩
noncomputable instance:DV.Has P DV.d_price:=⟨rfl⟩
noncomputable instance:DV.Has P DV.d_sign_of:=⟨rfl⟩
noncomputable instance:DV.Has P DV.d_reading:=⟨rfl⟩
noncomputable instance:DV.Has P DV.d_sign_product:=⟨rfl⟩
noncomputable instance:DV.Has P DV.d_word_signs:=⟨rfl⟩
noncomputable instance:DV.Has P DV.d_end_sign:=⟨rfl⟩
noncomputable instance:DV.Has P DV.w_box:=⟨rfl⟩
noncomputable instance:DV.Has P DV.w_draw:=⟨rfl⟩
noncomputable instance:DV.Has P DV.w_form:=⟨rfl⟩
noncomputable instance:DV.Has P DV.w_product_2:=⟨rfl⟩
noncomputable instance:DV.Has P DV.w_unit:=⟨rfl⟩
noncomputable instance:DV.Has P DV.w_machine_3:=⟨rfl⟩
noncomputable instance:DV.Has P DV.w_letter_signs:=⟨rfl⟩
noncomputable instance:DV.Has P DV.w_law_k26:=⟨rfl⟩
theorem t_rooms_of:DT tabN P "rooms_of" DV.d_rooms_of s_rooms_of:=⟨["machine"],["machine"],by walk_at "sc",rfl,rfl,fun _ _ _ _ _ _ us hl=>match us,hl with | [_],_=>rfl,.inl (by decide +kernel)⟩
theorem t_begins_of:DT tabN P "begins_of" DV.d_begins_of s_begins_of:=⟨["machine"],["machine"],by walk_at "sc",rfl,rfl,fun _ _ _ _ _ _ us hl=>match us,hl with | [_],_=>rfl,.inl (by decide +kernel)⟩
theorem t_ends_of:DT tabN P "ends_of" DV.d_ends_of s_ends_of:=⟨["machine"],["machine"],by walk_at "sc",rfl,rfl,fun _ _ _ _ _ _ us hl=>match us,hl with | [_],_=>rfl,.inl (by decide +kernel)⟩
theorem t_doors_of:DT tabN P "doors_of" DV.d_doors_of s_doors_of:=⟨["machine"],["machine"],by walk_at "sc",rfl,rfl,fun _ _ _ _ _ _ us hl=>match us,hl with | [_],_=>rfl,.inl (by decide +kernel)⟩
theorem t_grid:DT tabN P "grid" DV.d_grid s_grid:=⟨["size", "entry", "rows", "i"],["size", "entry"],by walk_at "sc",rfl,rfl,fun _ _ _ _ _ _ us hl=>match us,hl with | [_,_],_=>rfl,.inl (by decide +kernel)⟩
theorem qB:DT tabN P "at_begins_and_ends" DV.d_at_begins_and_ends s_at_begins_and_ends:=⟨["machine", "table", "found", "start"],["machine", "table"],by walk_at "sc",rfl,rfl,fun _ _ _ _ _ _ us hl=>match us,hl with | [_,_],_=>rfl,.inl (by decide +kernel)⟩
theorem t_least:DT tabN P "least" DV.d_least s_least:=⟨["prices"],["prices"],by walk_at "sc",rfl,rfl,fun _ _ _ _ _ _ us hl=>match us,hl with | [_],_=>rfl,.inl (by decide +kernel)⟩
theorem t_added:DT tabN P "added" DV.d_added s_added:=⟨["one", "other"],["one", "other"],by walk_at "sc",rfl,rfl,fun _ _ _ _ _ _ us hl=>match us,hl with | [_,_],_=>rfl,.inl (by decide +kernel)⟩
theorem t_plain:DT tabN P "plain" DV.d_plain s_plain:=⟨["n"],["n"],by walk_at "sc",rfl,rfl,fun _ _ _ _ _ _ us hl=>match us,hl with | [_],_=>rfl,.inr ⟨by decide,[("plain.0",DV.d_plain_l0,["i", "j"],[])],by decide +kernel,by decide +kernel,fun p hp=>by
 simp only [List.mem_cons,List.not_mem_nil,or_false] at hp
 rcases hp with rfl
 ·exact ⟨rfl,bd_0⟩⟩⟩
theorem t_product:DT tabN P "product" DV.d_product s_product:=⟨["one", "other", "size"],["one", "other"],by walk_at "sc",rfl,rfl,fun _ _ _ _ _ _ us hl=>match us,hl with | [_,_],_=>rfl,.inr ⟨by decide,[("product.0",DV.d_product_l0,["i", "j"],["size", "one", "other"])],by decide +kernel,by decide +kernel,fun p hp=>by
 simp only [List.mem_cons,List.not_mem_nil,or_false] at hp
 rcases hp with rfl
 ·exact ⟨rfl,bd_0⟩⟩⟩
theorem t_letter_table:DT tabN P "letter_table" DV.d_letter_table s_letter_table:=⟨["machine", "letter", "least_fee"],["machine", "letter"],by walk_at "sc",rfl,rfl,fun _ _ _ _ _ _ us hl=>match us,hl with | [_,_],_=>rfl,.inr ⟨by decide,[("letter_table.least_fee",DV.d_letter_table_l0,["i", "j"],["machine", "letter"])],by decide +kernel,by decide +kernel,fun p hp=>by
 simp only [List.mem_cons,List.not_mem_nil,or_false] at hp
 rcases hp with rfl
 ·exact ⟨rfl,bd_0⟩⟩⟩
theorem t_word_table:DT tabN P "word_table" DV.d_word_table s_word_table:=⟨["machine", "word", "made", "table", "letter"],["machine", "word"],by walk_at "sc",rfl,rfl,fun _ _ _ _ _ _ us hl=>match us,hl with | [_,_],_=>rfl,.inl (by decide +kernel)⟩
theorem t_price:DT tabN P "price" DV.d_price s_price:=⟨["machine", "word"],["machine", "word"],by walk_at "sc",rfl,rfl,fun _ _ _ _ _ _ us hl=>match us,hl with | [_,_],_=>rfl,.inl (by decide +kernel)⟩
theorem t_sign_of:DT tabN P "sign_of" DV.d_sign_of s_sign_of:=⟨["price"],["price"],by walk_at "sc",rfl,rfl,fun _ _ _ _ _ _ us hl=>match us,hl with | [_],_=>rfl,.inl (by decide +kernel)⟩
theorem t_reading:DT tabN P "reading" DV.d_reading s_reading:=⟨["table"],["table"],by walk_at "sc",rfl,rfl,fun _ _ _ _ _ _ us hl=>match us,hl with | [_],_=>rfl,.inr ⟨by decide,[("reading.0",DV.d_reading_l0,["i", "j"],["table"])],by decide +kernel,by decide +kernel,fun p hp=>by
 simp only [List.mem_cons,List.not_mem_nil,or_false] at hp
 rcases hp with rfl
 ·exact ⟨rfl,bd_0⟩⟩⟩
theorem t_sign_product:DT tabN P "sign_product" DV.d_sign_product s_sign_product:=⟨["one", "other", "size"],["one", "other"],by walk_at "sc",rfl,rfl,fun _ _ _ _ _ _ us hl=>match us,hl with | [_,_],_=>rfl,.inr ⟨by decide,[("sign_product.0",DV.d_sign_product_l0,["i", "j"],["size", "one", "other"])],by decide +kernel,by decide +kernel,fun p hp=>by
 simp only [List.mem_cons,List.not_mem_nil,or_false] at hp
 rcases hp with rfl
 ·exact ⟨rfl,bd_0⟩⟩⟩
theorem t_word_signs:DT tabN P "word_signs" DV.d_word_signs s_word_signs:=⟨["machine", "word"],["machine", "word"],by walk_at "sc",rfl,rfl,fun _ _ _ _ _ _ us hl=>match us,hl with | [_,_],_=>rfl,.inl (by decide +kernel)⟩
theorem t_end_sign:DT tabN P "end_sign" DV.d_end_sign s_end_sign:=⟨["machine", "signs"],["machine", "signs"],by walk_at "sc",rfl,rfl,fun _ _ _ _ _ _ us hl=>match us,hl with | [_,_],_=>rfl,.inl (by decide +kernel)⟩
theorem t__law_box:DT tabN P "_law_box" DV.w_box s__law_box:=⟨["_law_script", "_law_at", "_law_cell", "_law_number", "_law_j", "_law_part"],["_law_script", "_law_at"],by walk_at "sc",rfl,rfl,fun _ _ _ _ _ _ us hl=>match us,hl with | [_,_],_=>rfl,.inl (by decide +kernel)⟩
theorem t__law_draw:DT tabN P "_law_draw" DV.w_draw s__law_draw:=⟨["_law_box_here", "_law_many", "_law_found"],["_law_box_here", "_law_many"],by walk_at "sc",rfl,rfl,fun _ _ _ _ _ _ us hl=>match us,hl with | [_,_],_=>rfl,.inl (by decide +kernel)⟩
theorem t__law_form:DT tabN P "_law_form" DV.w_form s__law_form:=⟨["_law_found", "_law_size", "_law_line", "_law_sign"],["_law_found", "_law_size"],by walk_at "sc",rfl,rfl,fun _ _ _ _ _ _ us hl=>match us,hl with | [_,_],_=>rfl,.inl (by decide +kernel)⟩
theorem t__law_product:DT tabN P "_law_product" DV.w_product_2 s__law_product:=⟨["_law_one", "_law_other", "_law_found", "_law_line", "_law_new", "_law_k"],["_law_one", "_law_other"],by walk_at "sc",rfl,rfl,fun _ _ _ _ _ _ us hl=>match us,hl with | [_,_],_=>rfl,.inl (by decide +kernel)⟩
theorem t__law_unit:DT tabN P "_law_unit" DV.w_unit s__law_unit:=⟨["_law_size"],["_law_size"],by walk_at "sc",rfl,rfl,fun _ _ _ _ _ _ us hl=>match us,hl with | [_],_=>rfl,.inl (by decide +kernel)⟩
theorem t__law_machine:DT tabN P "_law_machine" DV.w_machine_3 s__law_machine:=⟨["_law_box_here", "_law_letters", "_law_rooms", "_law_many", "_law_high", "_law_doors", "_law_k", "_law_start", "_law_goal", "_law_letter", "_law_bits", "_law_begins", "_law_ends"],["_law_box_here"],by walk_at "sc",rfl,rfl,fun _ _ _ _ _ _ us hl=>match us,hl with | [_],_=>rfl,.inl (by decide +kernel)⟩
theorem qG:DT tabN P "_law_letter_signs" DV.w_letter_signs s__law_letter_signs:=⟨["_law_machine_here", "_law_letter", "_law_rooms", "_law_lines", "_law_start", "_law_sign", "_law_goal", "_law_cost"],["_law_machine_here", "_law_letter"],by walk_at "sc",rfl,rfl,fun _ _ _ _ _ _ us hl=>match us,hl with | [_,_],_=>rfl,.inl (by decide +kernel)⟩
theorem sc_law:FnScope ["_law_script", "_law_k", "_law_box_here", "_law_machine_here", "_law_many", "_law_word", "_law_due", "_law_signs", "_law_turn", "_law_letter", "_law_found", "_law_at"] ["_law_script"] (defScope s_law):=by walk_at "sc"
theorem m_law:mSs ⟨["_law_script", "_law_k", "_law_box_here", "_law_machine_here", "_law_many", "_law_word", "_law_due", "_law_signs", "_law_turn", "_law_letter", "_law_found", "_law_at"],defScope s_law,fun _ _ _=>false⟩ DV.w_law_k26.body (zK s_law)=true:=by decide +kernel
theorem b_law:BdOk "law" s_law ["_law_script"]:=fun _ _ _ _ _ _ us hl=>match us,hl with | [_],_=>rfl
theorem t_law:DT tabN P "law" DV.w_law_k26 s_law:=⟨_,_,sc_law,rfl,rfl,b_law,.inl m_law⟩
theorem t_all:∀ p∈tb,DT tabN P p.1 p.2.1 p.2.2:=by
 intro p hp
 unfold tb at hp
 simp only [List.mem_cons,List.not_mem_nil,or_false] at hp
 rcases hp with rfl | rfl | rfl | rfl | rfl | rfl | rfl | rfl | rfl | rfl | rfl | rfl | rfl | rfl | rfl | rfl | rfl | rfl | rfl | rfl | rfl | rfl | rfl | rfl | rfl | rfl
 ·exact t_rooms_of
 ·exact t_begins_of
 ·exact t_ends_of
 ·exact t_doors_of
 ·exact t_grid
 ·exact qB
 ·exact t_least
 ·exact t_added
 ·exact t_plain
 ·exact t_product
 ·exact t_letter_table
 ·exact t_word_table
 ·exact t_price
 ·exact t_sign_of
 ·exact t_reading
 ·exact t_sign_product
 ·exact t_word_signs
 ·exact t_end_sign
 ·exact t__law_box
 ·exact t__law_draw
 ·exact t__law_form
 ·exact t__law_product
 ·exact t__law_unit
 ·exact t__law_machine
 ·exact qG
 ·exact t_law
theorem all_mk {l:PySem.W.OpenLaw}{w:World}{K:PySem.W.Frag}{h:Heap}{mg:Str->Option Value}{fa:Addr}(X:K.In h)(G:h.Ns mainGlobals mg)(hfa:mg "law"=some (.ref fa))(hD:∀ p∈tb,DfIn K p.1 p.2.2)(hz:∀ x∈bNames,PySem.W.nsIn K mainGlobals x=some none)
  {tk_FREE:Tok} (gc_FREE:PySem.W.nsIn K mainGlobals "FREE"=some (some (.int (0) tk_FREE)))
  {tk_SOME:Tok} (gc_SOME:PySem.W.nsIn K mainGlobals "SOME"=some (some (.int (1) tk_SOME)))
  {tk_NONE:Tok} (gc_NONE:PySem.W.nsIn K mainGlobals "NONE"=some (some (.int (3) tk_NONE)))
  (hT:∀ x∈tabN,(PySem.W.tabIn K x).isSome=true) (tnd:decide (((tabsT tabN K).map (·.1)).Nodup)=true)
  : ∃ fd:FuncData,(∀ (s:Shared) (v:Value),BindsTo s fd ⟨[v],[]⟩ [("_law_script",v)])/\∀ base:Heap,K.In base->base.Ns mainGlobals mg->BM mg base->Codes K tabN base->FnOk l.prog w K mg base CX0 45 fa fd ["_law_script"] (spB tabN K):=by
 have hP:PrOk (gmOf tabN P K) (cdsT tabN K) P mg:=by
  refine ⟨fun f d h=>good_tbl (tbl:=tbl) (fun p hp=>?_) f d h,fun x d h=>con_tbl (tbl:=ctbl) ?_ x d h,fun x hx=>PySem.W.mg_none_of X G (hz x hx),fa_ok X G,lg_ok,of_decide_eq_true tnd⟩
  ·obtain ⟨r,hr,rfl⟩:=List.mem_map.mp hp
   exact good_of X G hT (hD r hr) (t_all r hr)
  ·intro p hp
   unfold ctbl at hp
   simp only [List.mem_cons,List.not_mem_nil,or_false] at hp
   rcases hp with rfl | rfl | rfl
   ·exact con_int (PySem.W.mg_of X G gc_FREE)
   ·exact con_int (PySem.W.mg_of X G gc_SOME)
   ·exact con_int (PySem.W.mg_of X G gc_NONE)
 obtain ⟨f,od,an,sl,oc,kV,dc,pm,cd,ct,a,l0,c,k⟩:=hD ("law",DV.w_law_k26,s_law) (by unfold tb;simp)
 have e:=hfa.symm.trans (PySem.W.mg_of X G a)
 cases e
 have F:=fun_mk (st:=s_law) l0 c k
 refine ⟨_,fun s v=>.of_eq rfl,fun base _ _ bm hk=>(fn_ok hP (cds_ok hT bm hk) 13 (call_ok hP (cds_ok hT bm hk) 13) (d:=DV.w_law_k26) (f := "law") rfl ⟨F,PySem.W.mg_of X G a,F.binds b_law⟩ sc_law rfl rfl m_law lkOk_no).imp (fun vs H Q E q=>spT_of (fun ns h=>DV.law26 (P:=P) 7 ns h) vs H Q E (spT_of_B hT q))⟩
noncomputable def nmS:Stmt->Bool
 | .Assign [.Name x _] _ _=>decide (x=("__name__":Str))
 | _=>false
noncomputable def vq:Program:={ PySem.Challenge.pw_leasttolls_k26_signs_of_words with main:={ (PySem.Challenge.pw_leasttolls_k26_signs_of_words).main with body:=(PySem.Challenge.pw_leasttolls_k26_signs_of_words).main.body.filter fun s=>!nmS s } }
end My
end
open PySem PySem.W PyProof.Rows
local macro_rules | `(tactic| o_head $H) => `(tactic| refine L2.head_of (q := My.vq) (loose := []) (H := $H) (N := 4000) (fun w => by kernel_rfl) (by rfl) (by rfl) (by rfl) rfl (by assumption) (by decide +kernel) ⟨rfl, rfl, rfl, rfl, rfl, by decide +kernel⟩ ?_ ?_)
set_option maxRecDepth 100000 in
set_option maxHeartbeats 0 in
theorem PySem.Challenge.cw_leasttolls_k26_signs_of_words_holds : PySem.Challenge.rw_leasttolls_k26_signs_of_words.Holds := by
 w_on;o_law;k_head;(focus w_witness2)
 k_fill
 refine L2.walk_ofT2 (l:=PySem.Challenge.rw_leasttolls_k26_signs_of_words) (n:=63) (k:=45) (x := "_law_script") (sp:=L2.spB My.tabN) My.tabN rfl (by decide) rfl ⟨rfl,by decide,by decide⟩ (fun w h Y=>⟨PySem.W.km_in_of Y,PySem.W.km_tabs_of Y⟩) (fun w=>?R) (fun w=>?NT) ?F (fun K H a ns hl hB hS hF=>L2.spB_mk hl hB hS hF)
 case R=>kernel_rfl
 case NT=>kernel_rfl
 case F =>
  intro w mg fa h KX G hmg
  refine' My.all_mk KX G hmg ?hD ?hz ?gc_FREE ?gc_SOME ?gc_NONE ?hT ?tnd
  case hD =>
   intro p hp
   unfold My.tb at hp
   simp only [List.mem_cons,List.not_mem_nil,or_false] at hp
   rcases hp with rfl | rfl | rfl | rfl | rfl | rfl | rfl | rfl | rfl | rfl | rfl | rfl | rfl | rfl | rfl | rfl | rfl | rfl | rfl | rfl | rfl | rfl | rfl | rfl | rfl | rfl
   ·walk_at "df"
   ·walk_at "df"
   ·walk_at "df"
   ·walk_at "df"
   ·walk_at "df"
   ·walk_at "df"
   ·walk_at "df"
   ·walk_at "df"
   ·walk_at "df"
   ·walk_at "df"
   ·walk_at "df"
   ·walk_at "df"
   ·walk_at "df"
   ·walk_at "df"
   ·walk_at "df"
   ·walk_at "df"
   ·walk_at "df"
   ·walk_at "df"
   ·walk_at "df"
   ·walk_at "df"
   ·walk_at "df"
   ·walk_at "df"
   ·walk_at "df"
   ·walk_at "df"
   ·walk_at "df"
   ·walk_at "df"
  case hz =>
   intro x hx
   unfold L2.bNames at hx
   simp only [List.mem_cons,List.not_mem_nil,or_false] at hx
   rcases hx with rfl | rfl | rfl | rfl | rfl | rfl | rfl | rfl | rfl | rfl | rfl | rfl | rfl | rfl | rfl | rfl | rfl | rfl<;>k_is
  (case gc_FREE=>k_is)
  (case gc_SOME=>k_is)
  (case gc_NONE=>k_is)
  case hT =>
   intro x hx
   simp only [My.tabN,List.mem_cons,List.not_mem_nil,or_false] at hx
   rcases hx with rfl | rfl | rfl | rfl | rfl<;>kernel_rfl
  (case tnd=>kernel_rfl)
