import PyProof.Rows.All
import Wide.All
import OpenK.AllK
import Wide.FinOn
import Lean
import PyProof.EqAt
import PyProof.EqKinds
import PyProof.TupleCall
import PyProof.MinMaxWalk
import PyProof.WalkInts
import PyProof.NeKinds
import PyProof.SliceStr2
import PyProof.StrBlockI
import PyProof.MaxThree
import PyProof.ZipIter
import PyProof.Draws
import PyProof.EnumMake
import PyProof.ListMulRoad
import PyProof.Rows.StrRev
import KE.IntBitsLaws
import PySem.Challenge.RW_leasttolls_k38_lengths_and_letters_of_lo
set_option Elab.async false
set_option linter.all false
set_option maxRecDepth 100000
/-! THE HAND LAYER, for ints, bools, texts, own classes, LISTS and tuples (index, slices, in, append, pop ..), calls, loops. Paste it whole ahead of your own text; what your proof does not reach may be deleted. -/
noncomputable section
namespace L2
open PySem PySem.Spec PyProof.Rows

/-- a key: an int or a str -/
noncomputable abbrev Key := Sum Int Str
noncomputable def keyIs : Key → Value → Bool
  | .inl k, v => Value.isInt k v
  | .inr x, v => Value.isStrOf x v
noncomputable def keyH (w : World) : Key → Int
  | .inl k => hashInt k
  | .inr x => hashStr w x
theorem keyIs_shape : ∀ {k : Key} {v : Value}, keyIs k v = true → (∃ i t, k = Sum.inl i ∧ v = Value.int i t) ∨ (∃ x t, k = Sum.inr x ∧ v = Value.str x t)
  | .inl i, v, h => by
    obtain ⟨t, e⟩ := Value.isInt_shape (k := i) (v := v) h
    exact .inl ⟨i, t, rfl, e⟩
  | .inr x, v, h => by
    obtain ⟨t, e⟩ := Value.isStrOf_shape (x := x) (v := v) h
    exact .inr ⟨x, t, rfl, e⟩
theorem key_ll (a b : Int) : decide ((Sum.inl a : Key) = Sum.inl b) = (a == b) := by
  by_cases e : a = b
  · subst e; simp
  · have h : ¬ (Sum.inl a : Key) = Sum.inl b := fun q => e (Sum.inl.inj q)
    rw [decide_eq_false h]
    exact (beq_eq_false_iff_ne.mpr e).symm
theorem key_rr (a b : Str) : decide ((Sum.inr a : Key) = Sum.inr b) = decide (a = b) := by
  by_cases e : a = b
  · subst e; simp
  · have h : ¬ (Sum.inr a : Key) = Sum.inr b := fun q => e (Sum.inr.inj q)
    rw [decide_eq_false h, decide_eq_false e]
theorem key_lr (a : Int) (b : Str) : decide ((Sum.inl a : Key) = Sum.inr b) = false := decide_eq_false (fun q => nomatch q)
theorem key_rl (a : Str) (b : Int) : decide ((Sum.inr a : Key) = Sum.inl b) = false := decide_eq_false (fun q => nomatch q)

noncomputable def mixKind (prog : Program) (w : World) : PySem.KeyKind prog w Key where
  is := keyIs
  hash := keyH w
  inj := fun v a b ha hb => by
    rcases keyIs_shape ha with ⟨i, t, rfl, rfl⟩ | ⟨x, t, rfl, rfl⟩
    · rcases keyIs_shape hb with ⟨j, u, rfl, e⟩ | ⟨y, u, rfl, e⟩
      · injection e with e1 _; rw [e1]
      · exact nomatch e
    · rcases keyIs_shape hb with ⟨j, u, rfl, e⟩ | ⟨y, u, rfl, e⟩
      · exact nomatch e
      · injection e with e1 _; rw [e1]
  byValue := fun k v h => by
    rcases keyIs_shape h with ⟨i, t, rfl, rfl⟩ | ⟨x, t, rfl, rfl⟩ <;> rfl
  pyHash := fun hv h => by
    rcases keyIs_shape hv with ⟨i, t, rfl, rfl⟩ | ⟨x, t, rfl, rfl⟩
    · exact wpAny_pyHash_int h
    · exact wpAny_pyHash_str h
  eqBool := fun hu hv h => by
    rcases keyIs_shape hu with ⟨i, t, rfl, rfl⟩ | ⟨x, t, rfl, rfl⟩
    · rcases keyIs_shape hv with ⟨j, u, rfl, rfl⟩ | ⟨y, u, rfl, rfl⟩
      · rw [key_ll] at h; exact wpAny_eqBool_int h
      · rw [key_lr] at h; exact SeqAt.EqAt.int_str i t y u _ _ _ _ h
    · rcases keyIs_shape hv with ⟨j, u, rfl, rfl⟩ | ⟨y, u, rfl, rfl⟩
      · rw [key_rl] at h; exact SeqAt.EqAt.str_int x t j u _ _ _ _ h
      · rw [key_rr] at h; exact wpAny_eqBool_str h
  «strs» := fun k x t v h => by
    rcases keyIs_shape h with ⟨i, u, rfl, e⟩ | ⟨y, u, rfl, e⟩
    · exact nomatch e
    · injection e with e1 _
      subst e1
      cases v <;> rfl

end L2
end

noncomputable section
namespace L2
open PySem PySem.Spec PyProof.Rows

/-- a value, without the heap -/
inductive V where
  | non | bl (b : Bool) | int (i : Int) | str (x : Str) | byt (b : Array UInt8) | flt (b : UInt64) | ref (a : Addr) | ty (n : String)
  deriving DecidableEq

noncomputable def RelV : V → Value → Prop
  | .non, u => u = Value.none
  | .bl b, u => u = Value.bool b
  | .int i, u => ∃ t, u = Value.int i t
  | .str x, u => ∃ t, u = Value.str x t
  | .byt b, u => ∃ t, u = Value.bytes b t
  | .flt b, u => ∃ t, u = Value.float b t
  | .ref a, u => u = Value.ref a
  | .ty n, u => u = Value.type n

noncomputable abbrev Vals : List V → List Value → Prop := Paired RelV
theorem Vals.length {xs : List V} {us : List Value} (r : Vals xs us) : xs.length = us.length := Paired.length r
theorem Vals.get : ∀ {xs : List V} {us : List Value} {i : Nat} {x : V}, Vals xs us → xs[i]? = some x → ∃ u, us[i]? = some u ∧ RelV x u
  | _, _, _, _, .nil, e => by simp at e
  | _, _, 0, _, .cons r _, e => by simp at e; subst e; exact ⟨_, rfl, r⟩
  | _, _, i + 1, x, .cons _ t, e => by
    obtain ⟨u, h1, h2⟩ := Vals.get (i := i) (x := x) t (by simpa using e)
    exact ⟨u, by simpa using h1, h2⟩
theorem Vals.set {x : V} {u : Value} (r : RelV x u) : ∀ {xs : List V} {us : List Value} (i : Nat), Vals xs us → Vals (xs.set i x) (us.set i u)
  | _, _, _, .nil => .nil
  | _, _, 0, .cons _ t => .cons r t
  | _, _, i + 1, .cons q t => .cons q (Vals.set r i t)
theorem Vals.append : ∀ {xs ys : List V} {us ws : List Value}, Vals xs us → Vals ys ws → Vals (xs ++ ys) (us ++ ws)
  | _, _, _, _, .nil, s => s
  | _, _, _, _, .cons r t, s => .cons r (Vals.append t s)
theorem Vals.take : ∀ {xs : List V} {us : List Value} (n : Nat), Vals xs us → Vals (xs.take n) (us.take n)
  | _, _, 0, _ => .nil
  | _, _, _ + 1, .nil => .nil
  | _, _, n + 1, .cons r t => .cons r (Vals.take n t)
theorem Vals.drop : ∀ {xs : List V} {us : List Value} (n : Nat), Vals xs us → Vals (xs.drop n) (us.drop n)
  | _, _, 0, r => r
  | _, _, _ + 1, .nil => .nil
  | _, _, n + 1, .cons _ t => Vals.drop n t
noncomputable def RelO : Option V → Option Value → Prop
  | some v, some u => RelV v u
  | none, none => True
  | _, _ => False
noncomputable def KV {κ : Type} : List (κ × V) → List (κ × Value) → Prop := Paired fun (p : κ × V) (q : κ × Value) => p.1 = q.1 ∧ RelV p.2 q.2

/-- a key of a dict (00_mix): an int or a text -/
noncomputable def kV : Key → V
  | .inl i => .int i
  | .inr x => .str x

/-- what stands at a tracked address -/
inductive HO where
  /-- a list -/
  | lst (xs : List V)
  /-- a tuple (never changes) -/
  | tup (xs : List V)
  /-- a dict whose keys are ints and texts; one whose keys are tuples of ints and texts (the empty one is both) -/
  | dK (kvs : List (Key × V)) | dT (kvs : List (List Key × V))
  /-- a set of ints: its members, its size -/
  | set (S : Int → Bool) (n : Nat)
  /-- an instance of the class at C, its dict at dx, its attributes -/
  | ins (C dx : Addr) (fs : List (Str × V))
  /-- the dict of the instance at x -/
  | own (x : Addr)
  /-- the dict of an exception -/
  | xd (fs : List (Str × V))
  /-- a bound method, f of x -/
  | met (f x : Addr)
  /-- a range object lo, lo + 1, .. below hi -/
  | rng (lo hi : Int)
  /-- a thing that is known to the object (the script; a dict while a loop walks it): read, never written while it is so -/
  | frz (o : Obj) (u : HO)
  /-- a code object's table -/
  | tbl (ps : Array Value)
  /-- any other thing, by what is true of its one object (a def of one's own: SetO a S n := HO.ext fun h => ..) -/
  | ext (φ : Heap → Prop)

noncomputable abbrev Hp := Addr → Option HO
noncomputable def upd (H : Hp) (a : Addr) (o : HO) : Hp := fun b => if b = a then some o else H b
theorem upd_same {H : Hp} {a : Addr} {o : HO} : upd H a o a = some o := by unfold upd; rw [if_pos rfl]
theorem upd_ne {H : Hp} {a b : Addr} {o : HO} (h : b ≠ a) : upd H a o b = H b := by unfold upd; rw [if_neg h]
theorem ne_of_none {H : Hp} {a b : Addr} {o : HO} (h : H a = some o) (h' : H b = none) : a ≠ b := by
  intro e; subst e; rw [h] at h'; cases h'

section
variable (P : Program) (w : World)
noncomputable def ObjOk (H : Hp) (h : Heap) (a : Addr) : HO → Prop
  | .lst xs => xs.length ≤ sizeLine ∧ ∃ (its : List Value) (n : Nat), Vals xs its ∧ h.get? a = some { cls := .type "list", data := .seq its.toArray n }
  | .tup xs => xs.length ≤ sizeLine ∧ ∃ its : List Value, Vals xs its ∧ IsTup h a its.toArray
  | .dK kvs => kvs.length ≤ sizeLine ∧ (a == sysModules) = false ∧ ∃ vs, KV kvs vs ∧ h.DictOf (mixKind P w) a vs
  | .dT kvs => kvs.length ≤ sizeLine ∧ (a == sysModules) = false ∧ ∃ xs : List (List Key × Addr × Value),
      Paired (fun (p : List Key × V) (q : List Key × Addr × Value) => p.1 = q.1 ∧ H q.2.1 = some (.tup (p.1.map kV)) ∧ RelV p.2 q.2.2) kvs xs ∧
      ∃ o es ep, h.get? a = some o ∧ o.ExactDict ∧ o.data = .dict es ep ∧ es.toList = xs.map (entryOfKey (tupleKind (mixKind P w))) ∧ (xs.map (·.1)).Nodup
  | .set S n => h.SetOf (intKind P w) a S n
  | .ins C dx fs => H dx = some (.own a) ∧ fs.length ≤ 1000 ∧ dx ≠ a ∧ h.get? a = some (PySem.W.instObj C dx) ∧
      ∃ mA, h.Ns1 dx mA ∧ (∀ f, RelO (fs.lookup f) (mA f)) ∧ PySem.Within mA (fs.map (·.1))
  | .own _ => ∃ o, h.get? a = some o
  | .xd fs => ∃ mA, h.Ns1 a mA ∧ ∀ f, RelO (fs.lookup f) (mA f)
  | .rng lo hi => ∃ t u v, h.get? a = some { cls := .type "range", data := .fields #[.int lo t, .int hi u, .int 1 v] }
  | .frz o u => h.get? a = some o ∧ ObjOk H h a u
  | .tbl ps => h.get? a = some { cls := .none, data := .fields ps }
  | .met f x => h.get? a = some (PySem.W.methodObj (.ref f) (.ref x))
  | .ext φ => φ h ∧ (∃ o, h.get? a = some o) ∧ ∀ h1 h2 : Heap, φ h1 → (∀ o, h1.get? a = some o → h2.get? a = some o) → φ h2
/-- the abstract heap is held -/
noncomputable def HOk (H : Hp) (h : Heap) : Prop := ∀ a o, H a = some o → ObjOk P w H h a o
end

section
variable {P : Program} {w : World} {H H' : Hp} {h h' : Heap} {a : Addr} {o : HO}
theorem ObjOk.lt (x : ObjOk P w H h a o) : a < h.objs.size := by
  cases o with
  | lst xs => obtain ⟨_, _, _, _, e⟩ := x; exact Heap.lt_size e
  | tup xs => obtain ⟨_, _, _, p⟩ := x; exact p.lt
  | dK kvs => obtain ⟨_, _, _, _, o, _, _, e, _⟩ := x; exact Heap.lt_size e
  | dT kvs => obtain ⟨_, _, _, _, o, _, _, e, _⟩ := x; exact Heap.lt_size e
  | set S n => obtain ⟨o, _, _, _, e, _⟩ := x; exact Heap.lt_size e
  | ins C dx fs => obtain ⟨_, _, _, e, _⟩ := x; exact Heap.lt_size e
  | own y => obtain ⟨_, e⟩ := x; exact Heap.lt_size e
  | xd fs => obtain ⟨_, ⟨_, _, _, e, _⟩, _⟩ := x; exact Heap.lt_size e
  | rng lo hi => obtain ⟨_, _, _, e⟩ := x; exact Heap.lt_size e
  | frz ob u => obtain ⟨e, _⟩ := x; exact Heap.lt_size e
  | tbl ps => exact Heap.lt_size (show h.get? a = some _ from x)
  | met f y => exact Heap.lt_size (show h.get? a = some _ from x)
  | ext φ => obtain ⟨_, ⟨_, e⟩, _⟩ := x; exact Heap.lt_size e
theorem Paired.mapP {α β : Type} {F G : α → β → Prop} : ∀ {l₁ : List α} {l₂ : List β}, Paired F l₁ l₂ → (∀ a b, F a b → G a b) → Paired G l₁ l₂
  | _, _, .nil, _ => .nil
  | _, _, .cons r t, f => .cons (f _ _ r) (Paired.mapP t f)
/-- what an object's description leans on: its own object, its own dict, the tuples -/
theorem ObjOk.stay (x : ObjOk P w H h a o) (k : ∀ b u, (b = a ∨ H b = some (.own a)) → h.get? b = some u → h'.get? b = some u)
    (ho : ∀ b, H b = some (.own a) → H' b = some (.own a)) (ht : ∀ b xs, H b = some (.tup xs) → H' b = some (.tup xs)) : ObjOk P w H' h' a o := by
  induction o with
  | lst xs => obtain ⟨z, its, n, r, e⟩ := x; exact ⟨z, its, n, r, k _ _ (.inl rfl) e⟩
  | tup xs => obtain ⟨z, its, r, ob, e, c⟩ := x; exact ⟨z, its, r, ob, k _ _ (.inl rfl) e, c⟩
  | dK kvs => obtain ⟨z, y, vs, r, ob, es, ep, e, c⟩ := x; exact ⟨z, y, vs, r, ob, es, ep, k _ _ (.inl rfl) e, c⟩
  | dT kvs =>
    obtain ⟨z, y, xs, r, ob, es, ep, e, c⟩ := x
    exact ⟨z, y, xs, Paired.mapP r fun p q z => ⟨z.1, ht _ _ z.2.1, z.2.2⟩, ob, es, ep, k _ _ (.inl rfl) e, c⟩
  | set S n => obtain ⟨ob, es, ep, t, e, c⟩ := x; exact ⟨ob, es, ep, t, k _ _ (.inl rfl) e, c⟩
  | ins C dx fs =>
    obtain ⟨d, z, ne, e, mA, ⟨od, es, ep, e2, c⟩, r⟩ := x
    exact ⟨ho _ d, z, ne, k _ _ (.inl rfl) e, mA, ⟨od, es, ep, k _ _ (.inr d) e2, c⟩, r⟩
  | own y => obtain ⟨ob, e⟩ := x; exact ⟨ob, k _ _ (.inl rfl) e⟩
  | xd fs => obtain ⟨mA, ⟨od, es, ep, e, c⟩, r⟩ := x; exact ⟨mA, ⟨od, es, ep, k _ _ (.inl rfl) e, c⟩, r⟩
  | rng lo hi => obtain ⟨t, u, v, e⟩ := x; exact ⟨t, u, v, k _ _ (.inl rfl) e⟩
  | frz ob u ih => obtain ⟨e, q⟩ := x; exact ⟨k _ _ (.inl rfl) e, ih q⟩
  | tbl ps =>
    have e : h.get? a = some { cls := .none, data := .fields ps } := x
    show h'.get? a = some { cls := .none, data := .fields ps }
    exact k a _ (.inl rfl) e
  | met f y =>
    have e : h.get? a = some (PySem.W.methodObj (.ref f) (.ref y)) := x
    show h'.get? a = some (PySem.W.methodObj (.ref f) (.ref y))
    exact k a _ (.inl rfl) e
  | ext φ => obtain ⟨p, ⟨o, e⟩, st⟩ := x; exact ⟨st _ _ p fun o q => k _ _ (.inl rfl) q, ⟨o, k _ _ (.inl rfl) e⟩, st⟩
theorem HOk.lt (x : HOk P w H h) (e : H a = some o) : a < h.objs.size := (x a o e).lt
theorem HOk.fresh (x : HOk P w H h) (e : h.objs.size ≤ a) : H a = none := by
  cases q : H a with
  | none => rfl
  | some u => exact absurd (Nat.lt_of_lt_of_le (x.lt q) e) (Nat.lt_irrefl _)
/-- every object of the heap is kept -/
theorem HOk.kept (x : HOk P w H h) (k : ∀ b u, h.get? b = some u → h'.get? b = some u) : HOk P w H h' := fun a o e =>
  (x a o e).stay (fun b u _ q => k b u q) (fun _ q => q) fun _ _ q => q
/-- a new object is laid and tracked -/
theorem HOk.laid (x : HOk P w H h) (k : ∀ b u, h.get? b = some u → h'.get? b = some u) (hp : h.objs.size ≤ a) (new : ObjOk P w (upd H a o) h' a o) : HOk P w (upd H a o) h' := fun b u e => by
  have hn := x.fresh hp
  by_cases hb : b = a
  · subst hb; rw [upd_same] at e; cases e; exact new
  · rw [upd_ne hb] at e
    exact (x b u e).stay (fun c v _ q => k c v q) (fun c q => by rw [upd_ne (ne_of_none q hn)]; exact q) fun c xs q => by rw [upd_ne (ne_of_none q hn)]; exact q
end

/-- what may be read as u: it is u, or a known u -/
noncomputable def Rd (H : Hp) (a : Addr) (u : HO) : Prop := H a = some u ∨ ∃ o, H a = some (.frz o u)
theorem Rd.ok {P : Program} {w : World} {H : Hp} {h : Heap} {a : Addr} {u : HO} (r : Rd H a u) (x : HOk P w H h) : ObjOk P w H h a u := by
  rcases r with r | ⟨o, r⟩
  · exact x a u r
  · obtain ⟨_, q⟩ := x a _ r
    exact q
/-- what may be written -/
noncomputable def Mut : Option HO → Prop
  | some (.lst _) => True
  | some (.dK _) => True
  | some (.dT _) => True
  | some (.set _ _) => True
  | some (.ins _ _ _) => True
  | some (.ext _) => True
  | _ => False
section
variable {P : Program} {w : World} {H : Hp} {h h' : Heap} {x e : Addr} {o' : HO}
/-- the object at e is changed: x itself, or the dict of the instance x -/
theorem HOk.write (ok : HOk P w H h) (mu : Mut (H x)) (he : e = x ∨ H e = some (.own x)) (k : ∀ b u, b ≠ e → h.get? b = some u → h'.get? b = some u) (heo : ∃ u, h'.get? e = some u)
    (new : ObjOk P w (upd H x o') h' x o') : HOk P w (upd H x o') h' := fun b u q => by
  have nown : ∀ c y, H c = some (.own y) → c ≠ x := fun c y r z => by subst z; rw [r] at mu; exact mu
  have ntup : ∀ c xs, H c = some (.tup xs) → c ≠ x := fun c xs r z => by subst z; rw [r] at mu; exact mu
  by_cases hb : b = x
  · subst hb; rw [upd_same] at q; cases q; exact new
  · rw [upd_ne hb] at q
    by_cases hbe : b = e
    · have q' : H b = some (.own x) := by
        rcases he with z | z
        · exact absurd (hbe.trans z) hb
        · rw [hbe]; exact z
      rw [q] at q'; cases q'
      obtain ⟨v, hv⟩ := heo
      exact ⟨v, by rw [hbe]; exact hv⟩
    · refine (ok b u q).stay (fun c v hc r => k c v ?_ r) (fun c r => by rw [upd_ne (nown c b r)]; exact r) fun c xs r => by rw [upd_ne (ntup c xs r)]; exact r
      rcases hc with rfl | hc
      · exact hbe
      · rintro rfl
        rcases he with z | z
        · exact nown c b hc z
        · rw [hc] at z; cases z; exact hb rfl
end

/-! ### kept unless tracked; of the frames at fs (the callers') the slots may change (an exception that passes writes there); of the records at ex (iterators) nothing is said -/
structure Un (fs ex : List Addr) (H H' : Hp) (h h' : Heap) : Prop where
  keep : ∀ b o, h.get? b = some o → H b = none → b ∉ fs → b ∉ ex → h'.get? b = some o
  slot : ∀ b o, h.get? b = some o → H b = none → b ∈ fs → b ∉ ex → ∃ sl, h'.get? b = some { o with slots := sl }
  free : ∀ b o, h.get? b = some o → H b = none → b ∉ ex → H' b = none
  there : ∀ b o, h.get? b = some o → b ∉ ex → ∃ o', h'.get? b = some o'
  tups : ∀ b xs, H b = some (.tup xs) → H' b = some (.tup xs)
  frzs : ∀ b o u, H b = some (.frz o u) → H' b = some (.frz o u)
  tbls : ∀ b ps, H b = some (.tbl ps) → ∃ more, H' b = some (.tbl (ps ++ more))
section
variable {fs fs' ex ex' : List Addr} {H H1 H2 : Hp} {h h1 h2 h' : Heap} {a x e : Addr} {o : HO}
theorem Un.any (u : Un fs ex H H1 h h1) {b : Addr} {ob : Obj} (q : h.get? b = some ob) (n : H b = none) (hx : b ∉ ex) : ∃ sl, h1.get? b = some { ob with slots := sl } := by
  by_cases hb : b ∈ fs
  · exact u.slot b ob q n hb hx
  · exact ⟨ob.slots, u.keep b ob q n hb hx⟩
theorem Un.kept (k : ∀ b u, h.get? b = some u → h'.get? b = some u) : Un fs ex H H h h' :=
  ⟨fun b ob q _ _ _ => k b ob q, fun b ob q _ _ _ => ⟨ob.slots, k b ob q⟩, fun _ _ _ n _ => n, fun b ob q _ => ⟨ob, k b ob q⟩, fun _ _ q => q, fun _ _ _ q => q, fun _ ps q => ⟨#[], by rw [q]; simp⟩⟩
theorem Un.refl : Un fs ex H H h h := Un.kept fun _ _ q => q
theorem Un.laid (k : ∀ b u, h.get? b = some u → h'.get? b = some u) (hp : h.objs.size ≤ a) (hn : H a = none) : Un fs ex H (upd H a o) h h' where
  keep := fun b u q _ _ _ => k b u q
  slot := fun b u q _ _ _ => ⟨u.slots, k b u q⟩
  free := fun b u q n _ => by rw [upd_ne (Nat.ne_of_lt (Nat.lt_of_lt_of_le (Heap.lt_size q) hp))]; exact n
  there := fun b u q _ => ⟨u, k b u q⟩
  tups := fun b xs q => by rw [upd_ne (ne_of_none q hn)]; exact q
  frzs := fun b u xs q => by rw [upd_ne (ne_of_none q hn)]; exact q
  tbls := fun b ps q => ⟨#[], by rw [upd_ne (ne_of_none q hn), q]; simp⟩
theorem Un.write (mu : Mut (H x)) (he : e = x ∨ H e = some (.own x)) (k : ∀ b u, b ≠ e → h.get? b = some u → h'.get? b = some u) (heo : ∃ u, h'.get? e = some u) : Un fs ex H (upd H x o) h h' := by
  have hx : ∀ b, H b = none → b ≠ x := fun b n z => by subst z; rw [n] at mu; exact mu
  have hb : ∀ b, H b = none → b ≠ e := fun b n z => by
    subst z
    rcases he with r | r
    · exact hx b n r
    · rw [n] at r; cases r
  have hm : ∀ b u, H b = some u → ¬ Mut (some u) → b ≠ x := fun b u q nm z => by subst z; rw [q] at mu; exact nm mu
  refine ⟨fun b u q n _ _ => k b u (hb b n) q, fun b u q n _ _ => ⟨u.slots, k b u (hb b n) q⟩, fun b u q n _ => by rw [upd_ne (hx b n)]; exact n, fun b u q _ => ?_,
    fun b xs q => by rw [upd_ne (hm b _ q fun z => z)]; exact q, fun b u xs q => by rw [upd_ne (hm b _ q fun z => z)]; exact q, fun b ps q => ⟨#[], by rw [upd_ne (hm b _ q fun z => z), q]; simp⟩⟩
  by_cases hbe : b = e
  · subst hbe; exact heo
  · exact ⟨u, k b u hbe q⟩
end

/-! ### the heap without what is tracked -/
noncomputable def trk (h : Heap) (H : Hp) : List Addr := (List.range h.objs.size).filter fun a => (H a).isSome
noncomputable def hidT (h : Heap) (H : Hp) : Heap := PySem.W.hideAll h (trk h H)
theorem hidT_size (h : Heap) (H : Hp) : (hidT h H).objs.size = h.objs.size := PySem.W.hideAll_size _ _
theorem hidT_get {h : Heap} {H : Hp} {b : Addr} {o : Obj} (e : h.get? b = some o) (n : H b = none) : (hidT h H).get? b = some o :=
  PySem.W.hideAll_get _ e fun hm => by
    have q : (H b).isSome = true := (List.mem_filter.mp hm).2
    rw [n] at q; simp at q
theorem of_hidT {h : Heap} {H : Hp} {b : Addr} {o : Obj} (e : (hidT h H).get? b = some o) : h.get? b = some o ∧ H b = none := by
  have e' : h.get? b = some o := PySem.W.of_hideAll (trk h H) e
  refine ⟨e', ?_⟩
  cases q : H b with
  | none => rfl
  | some x =>
    have hm : b ∈ trk h H := List.mem_filter.mpr ⟨List.mem_range.mpr (Heap.lt_size e'), by simp [q]⟩
    have z : (hidT h H).get? b = none := PySem.W.hideAll_none (trk h H) hm
    rw [z] at e; cases e

/-! ### OpenK's ledger, filled with every new object but one -/
noncomputable def allNews (g h : Heap) (L : Addr) : List (Addr × Obj) := (List.range h.objs.size).filterMap fun a => if a = L ∨ (g.get? a).isSome = true then none else (h.get? a).map fun o => (a, o)
noncomputable def rest (g h : Heap) (L d : Addr) : List (Addr × Obj) := (allNews g h L).filter fun p => decide (p.1 ≠ d)
end L2
end

noncomputable section
namespace L2
open PySem PySem.Spec PyProof.Rows

/-- the module's facts, over the base: the heap at the law's entry without what is tracked there -/
structure Mod (K : PySem.W.Frag) (mg : Str → Option Value) (base : Heap) : Prop where
  kin : K.In base
  glob : base.Ns mainGlobals mg
  blt : ∃ mb, base.Ns builtinsNs mb ∧ ∀ x : Str, x ≠ "__name__" → mb x = bootBuiltins x
  nolimit : base.NoLimit

/-- the context: a def's body (or a comprehension's block) running. base: fixed through the whole law; s₀, H₀: the entry; outer: the frames whose slots others may change (a def's callers); stack: all frames that run;
   ex: iterators that were made ahead of the entry and are walked here (a comprehension's); fn: the names whose cells were made at the entry (a def: all; a comprehension's block: its own); calm: not within an except suite; pn: pins that every state bears; xe: what is wanted of an exception that leaves the code -/
structure Cx where
  prog : Program
  w : World
  K : PySem.W.Frag
  mg : Str → Option Value
  base : Heap
  A : Around
  N : List Str
  s₀ : Shared
  H₀ : Hp
  env : Env
  outer : List Env
  stack : List Env
  ex : List Addr
  fn : Str → Bool
  calm : Bool
  pn : List (Addr × Obj)
  xe : Value → Shared → Prop
/-- the callers' frames -/
noncomputable def frs (l : List Env) : List Addr := l.filterMap (·.frame)
noncomputable abbrev Cx.fs (X : Cx) : List Addr := frs X.outer

noncomputable def Vis (sc : Scope) (x : Str) : Prop := sc.names.lookup x = some .local ∨ sc.names.lookup x = some .cell ∨ sc.names.lookup x = some .free
noncomputable def Loc (sc : Scope) (x : Str) : Prop := sc.names.lookup x = some .local ∨ sc.names.lookup x = some .cell
noncomputable def Look (env : Env) (h : Heap) (m : Str → Option Value) (x : Str) (u : Value) : Prop :=
  (env.kindOf x = some .local ∧ m x = some u) ∨ ((env.kindOf x = some .cell ∨ env.kindOf x = some .free) ∧ ∃ c, env.cells.lookup x = some c ∧ h.IsCell c (some u))

structure Cx.Ok (X : Cx) : Prop where
  mod : Mod X.K X.mg X.base
  kind : X.env.scope.kind = .function
  glob : X.env.globals = mainGlobals
  blt : X.env.builtins = builtinsNs
  above : X.s₀.heap.objs.size ≤ X.env.locals
  inj : ∀ x y c, X.env.cells.lookup x = some c → X.env.cells.lookup y = some c → x = y
  has : ∀ x, (X.env.kindOf x = some .cell ∨ X.env.kindOf x = some .free) → ∃ c, X.env.cells.lookup x = some c
  cab : ∀ x c, X.fn x = true → X.env.cells.lookup x = some c → X.s₀.heap.objs.size ≤ c
  hd : X.calm = true → X.A.handled = none
  frames : X.A.frames = some X.stack
  stk : X.stack = X.outer ∨ (X.stack = X.env :: X.outer ∧ X.env.frame = some X.env.locals)
  exf : ∀ b ∈ X.ex, b ≠ X.env.locals ∧ ∀ x c, X.env.cells.lookup x = some c → c ≠ b
  bs : ∀ b o, X.base.get? b = some o → X.s₀.heap.get? b = some o ∧ X.H₀ b = none
  bsz : X.base.objs.size ≤ X.s₀.heap.objs.size
  noex : ∀ b o, X.base.get? b = some o → b ∉ X.ex
  exfs : ∀ b ∈ X.ex, b ∉ X.fs
  funs : X.s₀.heap.FunFrames X.base X.outer
  frf : ∀ b ∈ X.fs, X.H₀ b = none

structure Inv (X : Cx) (pins : List (Addr × Obj)) (σ : List (Option V)) (H : Hp) (s : Shared) : Prop where
  ok : X.Ok
  os : s.os = X.s₀.os
  bare : AllBare s.gens
  base : Un X.fs X.ex X.H₀ H X.s₀.heap s.heap
  loc : ∃ m, s.heap.Ns X.env.locals m ∧ ∀ (i : Nat) (x : Str) (v : V), X.N[i]? = some x → σ[i]? = some (some v) → Vis X.env.scope x → ∃ u, RelV v u ∧ Look X.env s.heap m x u
  cell : ∀ x c, X.env.cells.lookup x = some c → ∃ v, s.heap.IsCell c v
  free : H X.env.locals = none
  freeC : ∀ x c, X.env.cells.lookup x = some c → H c = none
  pin : ∀ p ∈ X.pn ++ pins, s.heap.get? p.1 = some p.2 ∧ H p.1 = none ∧ p.1 ≠ X.env.locals ∧ p.1 ∉ X.fs ∧ ∀ v, p.2.data ≠ .cell v
  hok : HOk X.prog X.w H s.heap
  len : σ.length = X.N.length

section
variable {X : Cx} {pins : List (Addr × Obj)} {σ : List (Option V)} {H H' : Hp} {s : Shared} {h' : Heap}

theorem Cx.Ok.nofr (ok : X.Ok) {b : Addr} {o : Obj} (e : X.base.get? b = some o) : b ∉ X.fs := fun hb => by
  have := (ok.funs.mem hb).1
  rw [e] at this; cases this
theorem Inv.bs (I : Inv X pins σ H s) : ∀ b o, X.base.get? b = some o → s.heap.get? b = some o ∧ H b = none := fun b o e =>
  ⟨I.base.keep b o (I.ok.bs b o e).1 (I.ok.bs b o e).2 (I.ok.nofr e) (I.ok.noex b o e), I.base.free b o (I.ok.bs b o e).1 (I.ok.bs b o e).2 (I.ok.noex b o e)⟩
theorem Inv.bk (I : Inv X pins σ H s) : ∀ b o, X.base.get? b = some o → s.heap.get? b = some o := fun b o e => (I.bs b o e).1
theorem Inv.mod (I : Inv X pins σ H s) : Mod X.K X.mg X.base := I.ok.mod
theorem Inv.kIn (I : Inv X pins σ H s) : X.K.In s.heap := I.ok.mod.kin.keeps I.bk
theorem Inv.lt (I : Inv X pins σ H s) : X.env.locals < s.heap.objs.size := let ⟨_, hn, _⟩ := I.loc; hn.lt
theorem Inv.sz (I : Inv X pins σ H s) : X.s₀.heap.objs.size ≤ s.heap.objs.size := Nat.le_trans I.ok.above (Nat.le_of_lt I.lt)
theorem Inv.nofs (I : Inv X pins σ H s) {a : Addr} (h : s.heap.objs.size ≤ a) : a ∉ X.fs := fun hb => by
  obtain ⟨_, o, ho, _⟩ := I.ok.funs.mem hb
  exact absurd (Nat.lt_of_lt_of_le (Heap.lt_size ho) (Nat.le_trans I.sz h)) (Nat.lt_irrefl _)
theorem Inv.cne (I : Inv X pins σ H s) : ∀ x c, X.env.cells.lookup x = some c → c ≠ X.env.locals := fun x c e z => by
  obtain ⟨v, o, ho, hd⟩ := I.cell x c e
  obtain ⟨m, ⟨o', es, ep, ho', hd', _⟩, _⟩ := I.loc
  rw [z, ho'] at ho; cases ho; rw [hd'] at hd; cases hd
theorem Inv.funs (I : Inv X pins σ H s) : s.heap.FunFrames X.base X.outer := by
  have all : ∀ (l : List Env), (∀ b ∈ frs l, b ∈ X.fs) → X.s₀.heap.FunFrames X.base l → s.heap.FunFrames X.base l := by
    intro l
    induction l with
    | nil => intro _ _; trivial
    | cons env r ih =>
      intro hs hl
      obtain ⟨hk, ⟨L, o, hf, hn, ho, hd⟩, hr⟩ := hl
      have hL : L ∈ X.fs := hs L (by unfold frs; rw [List.filterMap_cons, hf]; exact List.mem_cons_self)
      obtain ⟨sl, e⟩ := I.base.slot L o ho (I.ok.frf L hL) hL fun z => I.ok.exfs L z hL
      exact ⟨hk, ⟨L, _, hf, hn, e, hd⟩, ih (fun b hb => hs b (by unfold frs; rw [List.filterMap_cons, hf]; exact List.mem_cons_of_mem _ hb)) hr⟩
  exact all X.outer (fun _ hb => hb) I.ok.funs

/-- the frames that run, for a call -/
theorem Inv.stack (I : Inv X pins σ H s) : s.heap.FunFrames X.base X.stack := by
  rcases I.ok.stk with e | ⟨e, hf⟩
  · rw [e]; exact I.funs
  · rw [e]
    obtain ⟨m, hn, _⟩ := I.loc
    refine .cons (by rw [I.ok.kind]; decide) hf hn ?_ I.funs
    exact Heap.get?_none_of_le (Nat.le_trans I.ok.bsz I.ok.above)
theorem Inv.stkSub (I : Inv X pins σ H s) : ∀ b ∈ frs X.stack, b ∈ X.env.locals :: X.fs := fun b hb => by
  rcases I.ok.stk with e | ⟨e, hf⟩
  · rw [e] at hb; exact List.mem_cons_of_mem _ hb
  · rw [e] at hb
    unfold frs at hb
    rw [List.filterMap_cons, hf] at hb
    exact hb
theorem Inv.stkFree (I : Inv X pins σ H s) : ∀ b ∈ frs X.stack, H b = none := fun b hb => by
  rcases List.mem_cons.mp (I.stkSub b hb) with e | hb
  · rw [e]; exact I.free
  · obtain ⟨_, o, ho, _⟩ := I.ok.funs.mem hb
    exact I.base.free b o ho (I.ok.frf b hb) fun z => I.ok.exfs b z hb

/-- THE STEP: the untracked objects but the frame and the records at ch are kept (the callers' frames up to slots), the frame's map is kept, the new abstract heap is held -/
theorem Inv.step {g' : Array GenState} {t' : Nat} {d' : Drawn} {ch : List Addr} (I : Inv X pins σ H s)
    (hch : ∀ b ∈ ch, (b ∈ X.ex ∨ X.s₀.heap.objs.size ≤ b) ∧ b ≠ X.env.locals ∧ (∀ x c, X.env.cells.lookup x = some c → c ≠ b) ∧ ∀ p ∈ X.pn ++ pins, p.1 ≠ b)
    (keep : ∀ b o, b ≠ X.env.locals → b ∉ X.fs → b ∉ ch → s.heap.get? b = some o → H b = none → h'.get? b = some o)
    (slot : ∀ b o, b ≠ X.env.locals → b ∈ X.fs → b ∉ ch → s.heap.get? b = some o → H b = none → ∃ sl, h'.get? b = some { o with slots := sl }) (free : ∀ b o, b ∉ ch → s.heap.get? b = some o → H b = none → H' b = none)
    (there : ∀ b o, b ∉ ch → s.heap.get? b = some o → ∃ o', h'.get? b = some o')
    (tups : ∀ b xs, H b = some (.tup xs) → H' b = some (.tup xs)) (frzs : ∀ b o u, H b = some (.frz o u) → H' b = some (.frz o u)) (tbls : ∀ b ps, H b = some (.tbl ps) → ∃ more, H' b = some (.tbl (ps ++ more)))
    (ns : ∀ m, s.heap.Ns X.env.locals m → h'.Ns X.env.locals m) (hok : HOk X.prog X.w H' h') (hg : AllBare g') :
    Inv X pins σ H' { s with heap := h', gens := g', drawn := d', toks := t' } := by
  have neL : ∀ b o, X.s₀.heap.get? b = some o → b ≠ X.env.locals := fun b o e => Nat.ne_of_lt (Nat.lt_of_lt_of_le (Heap.lt_size e) I.ok.above)
  have neC : ∀ b o, X.s₀.heap.get? b = some o → b ∉ X.ex → b ∉ ch := fun b o e hx hb => by
    rcases (hch b hb).1 with z | z
    · exact hx z
    · exact absurd (Nat.lt_of_lt_of_le (Heap.lt_size e) z) (Nat.lt_irrefl _)
  have cellK : ∀ x c, X.env.cells.lookup x = some c → ∀ v, s.heap.IsCell c v → h'.IsCell c v := fun x c e v ⟨o, ho, hd⟩ => by
    have nch : c ∉ ch := fun z => (hch c z).2.2.1 x c e rfl
    by_cases hc : c ∈ X.fs
    · obtain ⟨sl, q⟩ := slot c o (I.cne x c e) hc nch ho (I.freeC x c e)
      exact ⟨_, q, hd⟩
    · exact ⟨o, keep c o (I.cne x c e) hc nch ho (I.freeC x c e), hd⟩
  refine ⟨I.ok, I.os, hg, ⟨fun b o e n hb hx => ?_, fun b o e n hb hx => ?_, fun b o e n hx => ?_, fun b o e hx => ?_, fun b xs e => tups b xs (I.base.tups b xs e), fun b o xs e => frzs b o xs (I.base.frzs b o xs e), fun b ps e => ?_⟩, ?_, fun x c e => ?_, ?_, fun x c e => ?_, fun p hp => ?_, hok, I.len⟩
  · exact keep b o (neL b o e) hb (neC b o e hx) (I.base.keep b o e n hb hx) (I.base.free b o e n hx)
  · obtain ⟨sl, e1⟩ := I.base.slot b o e n hb hx
    obtain ⟨sl', e2⟩ := slot b _ (neL b o e) hb (neC b o e hx) e1 (I.base.free b o e n hx)
    exact ⟨sl', e2⟩
  · obtain ⟨o', e1⟩ := I.base.there b o e hx
    exact free b o' (neC b o e hx) e1 (I.base.free b o e n hx)
  · obtain ⟨o', e1⟩ := I.base.there b o e hx
    exact there b o' (neC b o e hx) e1
  · obtain ⟨m1, e1⟩ := I.base.tbls b ps e
    obtain ⟨m2, e2⟩ := tbls b _ e1
    exact ⟨m1 ++ m2, by rw [e2, Array.append_assoc]⟩
  · obtain ⟨m, hn, hl⟩ := I.loc
    refine ⟨m, ns m hn, fun i x v e1 e2 e3 => ?_⟩
    obtain ⟨u, r, l⟩ := hl i x v e1 e2 e3
    refine ⟨u, r, ?_⟩
    rcases l with l | ⟨k, c, e, z⟩
    · exact .inl l
    · exact .inr ⟨k, c, e, cellK x c e _ z⟩
  · obtain ⟨v, z⟩ := I.cell x c e
    exact ⟨v, cellK x c e v z⟩
  · obtain ⟨m, ⟨o, _, _, ho, _⟩, _⟩ := I.loc
    exact free _ o (fun z => (hch _ z).2.1 rfl) ho I.free
  · obtain ⟨v, o, ho, hd⟩ := I.cell x c e
    exact free c o (fun z => (hch c z).2.2.1 x c e rfl) ho (I.freeC x c e)
  · obtain ⟨e, n, ne, nf, d⟩ := I.pin p hp
    have nch : p.1 ∉ ch := fun z => (hch p.1 z).2.2.2 p hp rfl
    exact ⟨keep p.1 p.2 ne nf nch e n, free p.1 p.2 nch e n, ne, nf, d⟩
/-- .. where the frame's own object is kept too -/
theorem Inv.un {t' : Nat} (I : Inv X pins σ H s) (u : Un X.fs [] H H' s.heap h') (hok : HOk X.prog X.w H' h') : Inv X pins σ H' { s with heap := h', toks := t' } := by
  obtain ⟨m, ⟨o, es, ep, ho, r⟩, _⟩ := id I.loc
  obtain ⟨sl, hL⟩ := u.any ho I.free (by simp)
  exact I.step (g' := s.gens) (d' := s.drawn) (ch := []) (fun _ z => nomatch z) (fun b o _ hb _ e n => u.keep b o e n hb (by simp)) (fun b o _ hb _ e n => u.slot b o e n hb (by simp)) (fun b o _ e n => u.free b o e n (by simp)) (fun b o _ e => u.there b o e (by simp)) u.tups u.frzs u.tbls (fun m' hm => by
    obtain ⟨o', es', ep', ho', r'⟩ := hm
    rw [ho] at ho'; cases ho'
    exact ⟨_, es', ep', hL, r'⟩) hok I.bare
/-- behind a call (or a comprehension's block): the slots of this frame may have changed too, the records at ch may have turned -/
theorem Inv.call {g' : Array GenState} {t' : Nat} {d' : Drawn} {ch : List Addr} (I : Inv X pins σ H s) (u : Un (frs X.stack) ch H H' s.heap h') (hok : HOk X.prog X.w H' h') (hg : AllBare g')
    (hch : ∀ b ∈ ch, (b ∈ X.ex ∨ X.s₀.heap.objs.size ≤ b) ∧ b ≠ X.env.locals ∧ (∀ x c, X.env.cells.lookup x = some c → c ≠ b) ∧ ∀ p ∈ X.pn ++ pins, p.1 ≠ b) :
    Inv X pins σ H' { s with heap := h', gens := g', drawn := d', toks := t' } := by
  obtain ⟨m, ⟨o, es, ep, ho, r⟩, _⟩ := id I.loc
  obtain ⟨sl, hL⟩ := u.any ho I.free fun z => (hch _ z).2.1 rfl
  exact I.step (ch := ch) hch (fun b o hL hb hc e n => u.keep b o e n (fun z => (List.mem_cons.mp (I.stkSub b z)).elim hL hb) hc) (fun b o _ _ hc e n => u.any e n hc) (fun b o hc e n => u.free b o e n hc) (fun b o hc e => u.there b o e hc) u.tups u.frzs u.tbls (fun m' hm => by
    obtain ⟨o', es', ep', ho', r'⟩ := hm
    rw [ho] at ho'; cases ho'
    exact ⟨_, es', ep', hL, r'⟩) hok hg
/-- an untracked record of ours (an iterator) has turned -/
theorem Inv.turned {t' : Nat} {it : Addr} (I : Inv X pins σ H s) (k : ∀ b o, b ≠ it → s.heap.get? b = some o → h'.get? b = some o) (hn : H it = none) (hL : it ≠ X.env.locals)
    (h1 : it ∈ X.ex ∨ X.s₀.heap.objs.size ≤ it) (h2 : ∀ x c, X.env.cells.lookup x = some c → c ≠ it) (h3 : ∀ p ∈ X.pn ++ pins, p.1 ≠ it) : Inv X pins σ H { s with heap := h', toks := t' } := by
  have nit : ∀ b u, H b = some u → b ≠ it := fun b u e z => by rw [z, hn] at e; cases e
  refine I.step (g' := s.gens) (d' := s.drawn) (ch := [it]) (fun b hb => ?_) (fun b o _ _ hc e _ => k b o (fun z => hc (by simp [z])) e) (fun b o _ _ hc e _ => ⟨o.slots, k b o (fun z => hc (by simp [z])) e⟩) (fun _ _ _ _ n => n)
    (fun b o hc e => ⟨o, k b o (fun z => hc (by simp [z])) e⟩) (fun _ _ e => e) (fun _ _ _ e => e) (fun b ps e => ⟨#[], by rw [e]; simp⟩) (fun m hm => ?_) (fun b u e => ?_) I.bare
  · have e : b = it := by simpa using hb
    subst e
    exact ⟨h1, hL, h2, h3⟩
  · obtain ⟨o, es, ep, ho, r⟩ := hm
    exact ⟨o, es, ep, k _ o (Ne.symm hL) ho, r⟩
  · refine (I.hok b u e).stay (fun c v hc q => k c v ?_ q) (fun _ q => q) fun _ _ q => q
    rcases hc with z | z
    · rw [z]; exact nit b u e
    · exact nit c _ z
theorem Inv.tok (I : Inv X pins σ H s) (t : Nat) : Inv X pins σ H { s with toks := t } := I.un (h' := s.heap) (t' := t) Un.refl I.hok
/-- all objects kept -/
theorem Inv.kept {t' : Nat} (I : Inv X pins σ H s) (k : ∀ b u, s.heap.get? b = some u → h'.get? b = some u) : Inv X pins σ H { s with heap := h', toks := t' } := I.un (Un.kept k) (I.hok.kept k)
/-- a new object laid and tracked -/
theorem Inv.laid {a : Addr} {o : HO} {t' : Nat} (I : Inv X pins σ H s) (k : ∀ b u, s.heap.get? b = some u → h'.get? b = some u) (hp : s.heap.objs.size ≤ a) (new : ObjOk X.prog X.w (upd H a o) h' a o) :
    Inv X pins σ (upd H a o) { s with heap := h', toks := t' } := I.un (Un.laid k hp (I.hok.fresh hp)) (I.hok.laid k hp new)
/-- an object written -/
theorem Inv.write {x e : Addr} {o : HO} {t' : Nat} (I : Inv X pins σ H s) (mu : Mut (H x)) (he : e = x ∨ H e = some (.own x)) (k : ∀ b u, b ≠ e → s.heap.get? b = some u → h'.get? b = some u) (heo : ∃ u, h'.get? e = some u)
    (new : ObjOk X.prog X.w (upd H x o) h' x o) : Inv X pins σ (upd H x o) { s with heap := h', toks := t' } := I.un (Un.write mu he k heo) (I.hok.write mu he k heo new)
theorem Inv.pins_of {pins' : List (Addr × Obj)} (I : Inv X pins σ H s) (h : ∀ p ∈ pins', s.heap.get? p.1 = some p.2 ∧ H p.1 = none ∧ p.1 ≠ X.env.locals ∧ p.1 ∉ X.fs ∧ ∀ v, p.2.data ≠ .cell v) : Inv X pins' σ H s :=
  ⟨I.ok, I.os, I.bare, I.base, I.loc, I.cell, I.free, I.freeC, fun p hp => (List.mem_append.mp hp).elim (fun z => I.pin p (List.mem_append_left _ z)) (h p), I.hok, I.len⟩

theorem nodup_ix {N : List Str} (hN : N.Nodup) {i j : Nat} {x : Str} (a : N[i]? = some x) (b : N[j]? = some x) : i = j := by
  obtain ⟨h1, e1⟩ := List.getElem?_eq_some_iff.mp a
  obtain ⟨h2, e2⟩ := List.getElem?_eq_some_iff.mp b
  exact (List.getElem_inj hN).mp (e1.trans e2.symm)

/-- a name is stored; what changed -/
theorem store_ok2 {M : Model} {A : Around} {E : Value → Shared → Prop} {i : Nat} {x : Str} {v : V} {u : Value} {Q : Unit → Shared → Prop} (I : Inv X pins σ H s) (hN : X.N.Nodup) (hi : X.N[i]? = some x) (hx : Loc X.env.scope x) (r : RelV v u)
    (h : ∀ s', Inv X pins (σ.set i (some v)) H s' → (∃ a, Heap.SameBut a s.heap s'.heap ∧ (a = X.env.locals ∨ X.env.cells.lookup x = some a)) → Q () s') (hf : X.fn x = true ∨ X.env.scope.names.lookup x = some .local := by first | exact .inl rfl | exact .inr rfl | assumption) : wpAny M A (storeName X.env x u) Q E s := by
  obtain ⟨m, hn, hl⟩ := id I.loc
  have hcls : (X.env.scope.kind == .class || (X.env.scope.kind == .module && X.env.locals != X.env.globals)) = false := by rw [I.ok.kind]; rfl
  have hiσ : i < σ.length := by rw [I.len]; exact (List.getElem?_eq_some_iff.mp hi).1
  have cne := I.cne
  have tracked : ∀ {a : Addr} {h' : Heap}, (∃ o, s.heap.get? a = some o ∧ H a = none) → Heap.SameBut a s.heap h' → HOk X.prog X.w H h' := fun {a h'} ha hs b ob e => by
    obtain ⟨_, _, hfree⟩ := ha
    refine (I.hok b ob e).stay (fun c w' hc q => (hs.2 c ?_).trans q) (fun _ q => q) fun _ _ q => q
    rintro rfl
    rcases hc with rfl | hc
    · rw [hfree] at e; cases e
    · rw [hfree] at hc; cases hc
  rcases hx with hk | hk
  · refine wpAny_storeName_local hk hn (fun h' hn' hs => ?_) hcls
    obtain ⟨oL, _, _, hoL, _⟩ := id hn
    refine h _ ⟨I.ok, I.os, I.bare, ⟨fun b o e n hb hx => ?_, fun b o e n hb hx => ?_, I.base.free, fun b o e hx => ?_, I.base.tups, I.base.frzs, I.base.tbls⟩, ⟨_, hn', fun j y v' e1 e2 e3 => ?_⟩, fun y c e => ?_, I.free, I.freeC, fun p hp => ?_, tracked ⟨oL, hoL, I.free⟩ hs, by simpa using I.len⟩ ⟨_, hs, .inl rfl⟩
    · exact (hs.2 b (Nat.ne_of_lt (Nat.lt_of_lt_of_le (Heap.lt_size e) I.ok.above))).trans (I.base.keep b o e n hb hx)
    · obtain ⟨sl, e1⟩ := I.base.slot b o e n hb hx
      exact ⟨sl, (hs.2 b (Nat.ne_of_lt (Nat.lt_of_lt_of_le (Heap.lt_size e) I.ok.above))).trans e1⟩
    · obtain ⟨o', e1⟩ := I.base.there b o e hx
      exact ⟨o', (hs.2 b (Nat.ne_of_lt (Nat.lt_of_lt_of_le (Heap.lt_size e) I.ok.above))).trans e1⟩
    · by_cases hj : j = i
      · subst hj
        rw [hi] at e1; cases e1
        rw [List.getElem?_set_self hiσ] at e2
        cases e2
        exact ⟨u, r, .inl ⟨hk, by simp⟩⟩
      · rw [List.getElem?_set_ne (Ne.symm hj)] at e2
        obtain ⟨u', r', q⟩ := hl j y v' e1 e2 e3
        refine ⟨u', r', ?_⟩
        rcases q with ⟨k, e⟩ | ⟨k, c, e, z⟩
        · refine .inl ⟨k, ?_⟩
          have : y ≠ x := fun e => hj (nodup_ix hN e1 (e ▸ hi))
          simp [this, e]
        · exact .inr ⟨k, c, e, z.sameBut hs (cne y c e)⟩
    · obtain ⟨w', z⟩ := I.cell y c e
      exact ⟨w', z.sameBut hs (cne y c e)⟩
    · obtain ⟨e, n, ne, nf, d⟩ := I.pin p hp
      exact ⟨(hs.2 p.1 ne).trans e, n, ne, nf, d⟩
  · have hfn : X.fn x = true := by
      rcases hf with z | z
      · exact z
      · rw [z] at hk; cases hk
    obtain ⟨c, hc⟩ := I.ok.has x (.inl hk)
    obtain ⟨w', z⟩ := I.cell x c hc
    refine wpAny_storeName_cell I.ok.kind hk hc z (fun h' hc' hs => ?_)
    obtain ⟨oc, hoc, hocd⟩ := id z
    refine h { s with heap := h' } ⟨I.ok, I.os, I.bare, ⟨fun b o e n hb hx => ?_, fun b o e n hb hx => ?_, I.base.free, fun b o e hx => ?_, I.base.tups, I.base.frzs, I.base.tbls⟩, ⟨m, hn.sameBut hs (Ne.symm (cne x c hc)), fun j y v' e1 e2 e3 => ?_⟩, fun y c' e => ?_, I.free, I.freeC, fun p hp => ?_, tracked ⟨oc, hoc, I.freeC x c hc⟩ hs, by simpa using I.len⟩ ⟨c, hs, .inr hc⟩
    · exact (hs.2 b (Nat.ne_of_lt (Nat.lt_of_lt_of_le (Heap.lt_size e) (I.ok.cab x c hfn hc)))).trans (I.base.keep b o e n hb hx)
    · obtain ⟨sl, e1⟩ := I.base.slot b o e n hb hx
      exact ⟨sl, (hs.2 b (Nat.ne_of_lt (Nat.lt_of_lt_of_le (Heap.lt_size e) (I.ok.cab x c hfn hc)))).trans e1⟩
    · obtain ⟨o', e1⟩ := I.base.there b o e hx
      exact ⟨o', (hs.2 b (Nat.ne_of_lt (Nat.lt_of_lt_of_le (Heap.lt_size e) (I.ok.cab x c hfn hc)))).trans e1⟩
    · by_cases hj : j = i
      · subst hj
        rw [hi] at e1; cases e1
        rw [List.getElem?_set_self hiσ] at e2
        cases e2
        exact ⟨u, r, .inr ⟨.inl hk, c, hc, hc'⟩⟩
      · rw [List.getElem?_set_ne (Ne.symm hj)] at e2
        obtain ⟨u', r', q⟩ := hl j y v' e1 e2 e3
        refine ⟨u', r', ?_⟩
        rcases q with q | ⟨k, c', e, z'⟩
        · exact .inl q
        · refine .inr ⟨k, c', e, z'.sameBut hs ?_⟩
          rintro rfl
          exact hj (nodup_ix hN e1 (I.ok.inj _ _ _ e hc ▸ hi))
    · by_cases hcc : c' = c
      · subst hcc; exact ⟨_, hc'⟩
      · obtain ⟨w2, z2⟩ := I.cell y c' e
        exact ⟨w2, z2.sameBut hs hcc⟩
    · obtain ⟨e, n, ne, nf, d⟩ := I.pin p hp
      refine ⟨(hs.2 p.1 ?_).trans e, n, ne, nf, d⟩
      intro q
      rw [q, hoc] at e
      have q' : oc = p.2 := Option.some.inj e
      exact d w' (by rw [← q']; exact hocd)
theorem store_ok {M : Model} {A : Around} {E : Value → Shared → Prop} {i : Nat} {x : Str} {v : V} {u : Value} {Q : Unit → Shared → Prop} (I : Inv X pins σ H s) (hN : X.N.Nodup) (hi : X.N[i]? = some x) (hx : Loc X.env.scope x) (r : RelV v u)
    (h : ∀ s', Inv X pins (σ.set i (some v)) H s' → Q () s') (hf : X.fn x = true ∨ X.env.scope.names.lookup x = some .local := by first | exact .inl rfl | exact .inr rfl | assumption) : wpAny M A (storeName X.env x u) Q E s :=
  store_ok2 I hN hi hx r (fun s' I' _ => h s' I') hf
/-- behind a call or a block, the state as it is -/
theorem Inv.call' {s' : Shared} {ch : List Addr} (I : Inv X pins σ H s) (ho : s'.os = s.os) (u : Un (frs X.stack) ch H H' s.heap s'.heap) (hok : HOk X.prog X.w H' s'.heap) (hg : AllBare s'.gens)
    (hch : ∀ b ∈ ch, (b ∈ X.ex ∨ X.s₀.heap.objs.size ≤ b) ∧ b ≠ X.env.locals ∧ (∀ x c, X.env.cells.lookup x = some c → c ≠ b) ∧ ∀ p ∈ X.pn ++ pins, p.1 ≠ b) : Inv X pins σ H' s' := by
  obtain ⟨h', g', d', t', o'⟩ := s'
  have e : o' = s.os := ho
  subst e
  exact I.call (g' := g') (t' := t') (d' := d') u hok hg hch
end

/-! ### the judgements -/
/-- an exception: its class, its own dict's address (where it has one), the abstract heap behind it -/
noncomputable abbrev XK := Value → Option Addr → Hp → Prop
noncomputable abbrev St := List (Option V)
noncomputable abbrev VK := V → Hp → Prop
/-- an expression's reading; a test's; an argument list's -/
noncomputable abbrev TE := St → Hp → VK → Prop
noncomputable abbrev TT := St → Hp → (Bool → Hp → Prop) → Prop
noncomputable abbrev TA := St → Hp → (List V → Hp → Prop) → Prop
/-- what is wanted behind a statement -/
structure Ends where
  nx : St → Hp → Prop
  rt : VK
  bk : St → Hp → Prop := fun _ _ => False
  ct : St → Hp → Prop := fun _ _ => False
noncomputable abbrev TS := Ends → St → Hp → Prop

noncomputable def EP (X : Cx) (pins : List (Addr × Obj)) (σ : St) (Q : VK) (u : Value) (s' : Shared) : Prop := ∃ v H', Inv X pins σ H' s' ∧ RelV v u ∧ Q v H'
noncomputable def TP (X : Cx) (pins : List (Addr × Obj)) (σ : St) (Q : Bool → Hp → Prop) (b : Bool) (s' : Shared) : Prop := ∃ H', Inv X pins σ H' s' ∧ Q b H'
noncomputable def AP (X : Cx) (pins : List (Addr × Obj)) (σ : St) (Q : List V → Hp → Prop) (us : List Value) (s' : Shared) : Prop := ∃ vs H', Inv X pins σ H' s' ∧ Vals vs us ∧ Q vs H'
noncomputable def SP (X : Cx) (pins : List (Addr × Obj)) (D : Ends) (f : Flow) (s' : Shared) : Prop :=
  match f with
  | .next => ∃ σ' H', Inv X pins σ' H' s' ∧ D.nx σ' H'
  | .brk => ∃ σ' H', Inv X pins σ' H' s' ∧ D.bk σ' H'
  | .cont => ∃ σ' H', Inv X pins σ' H' s' ∧ D.ct σ' H'
  | .ret u => ∃ v σ' H', Inv X pins σ' H' s' ∧ RelV v u ∧ D.rt v H'

noncomputable def PE (X : Cx) (e : Expr) (t : TE) : Prop :=
  ∀ (pins : List (Addr × Obj)) (s : Shared) (σ : St) (H : Hp) (Q : VK), Inv X pins σ H s → t σ H Q → wpAny (model X.prog X.w) X.A (eval e X.env) (EP X pins σ Q) X.xe s
noncomputable def PT (X : Cx) (e : Expr) (t : TT) : Prop :=
  ∀ (pins : List (Addr × Obj)) (s : Shared) (σ : St) (H : Hp) (Q : Bool → Hp → Prop), Inv X pins σ H s → t σ H Q → wpAny (model X.prog X.w) X.A (isTrue e X.env (eval e X.env)) (TP X pins σ Q) X.xe s
/-- a test whatever its 'whole' is (and, or) -/
noncomputable def PW (X : Cx) (e : Expr) (t : TT) : Prop :=
  ∀ (whole : Sem Value) (pins : List (Addr × Obj)) (s : Shared) (σ : St) (H : Hp) (Q : Bool → Hp → Prop), Inv X pins σ H s → t σ H Q → wpAny (model X.prog X.w) X.A (isTrue e X.env whole) (TP X pins σ Q) X.xe s
theorem PW.pt {X : Cx} {e : Expr} {t : TT} (h : PW X e t) : PT X e t := h _
/-- an argument list (no star), from the left -/
noncomputable def PA (X : Cx) (es : List Expr) (t : TA) : Prop :=
  ∀ (pos : Pos) (pins : List (Addr × Obj)) (s : Shared) (σ : St) (H : Hp) (Q : List V → Hp → Prop), Inv X pins σ H s → t σ H Q → wpAny (model X.prog X.w) X.A (spliced (backTo pos (starEach es X.env))) (AP X pins σ Q) X.xe s
noncomputable def PS (X : Cx) (st : Stmt) (t : TS) : Prop :=
  ∀ (pins : List (Addr × Obj)) (s : Shared) (σ : St) (H : Hp) (D : Ends), Inv X pins σ H s → t D σ H → wpAny (model X.prog X.w) X.A (exec st X.env) (SP X pins D) X.xe s
noncomputable def PSs (X : Cx) (st : List Stmt) (t : TS) : Prop :=
  ∀ (pins : List (Addr × Obj)) (s : Shared) (σ : St) (H : Hp) (D : Ends), Inv X pins σ H s → t D σ H → wpAny (model X.prog X.w) X.A (execs st X.env) (SP X pins D) X.xe s
/-- weaken the end -/
theorem thn {α : Type} {t : Sem α} {Q Q' : α → Shared → Prop} {M : Model} {A : Around} {E : Value → Shared → Prop} {s : Shared} (h : wpAny M A t Q E s) (hQ : ∀ a s, Q a s → Q' a s) : wpAny M A t Q' E s := wpAny_mono h hQ fun _ _ x => x
end L2
end

noncomputable section
namespace L2
open PySem PySem.Spec PyProof.Rows
section
variable {X : Cx}

/-- two expressions in a row -/
theorem bin {a b : Expr} {ta tb : TE} (ha : PE X a ta) (hb : PE X b tb) {pins : List (Addr × Obj)} {s : Shared} {σ : St} {H : Hp} {R : V → V → Hp → Prop} (I : Inv X pins σ H s) (h : ta σ H fun x H1 => tb σ H1 fun y H2 => R x y H2)
    {α : Type} {Q : α → Shared → Prop} {f : Value → Value → Sem α}
    (hf : ∀ v u s2 x y H2, Inv X pins σ H2 s2 → RelV x v → RelV y u → R x y H2 → wpAny (model X.prog X.w) X.A (f v u) Q X.xe s2) :
    wpAny (model X.prog X.w) X.A (eval a X.env) (fun v s₁ => wpAny (model X.prog X.w) X.A (eval b X.env) (fun u s₂ => wpAny (model X.prog X.w) X.A (f v u) Q X.xe s₂) X.xe s₁) X.xe s := by
  refine thn (ha pins s σ H _ I h) fun v s1 ⟨x, H1, I1, r1, q1⟩ => ?_
  refine thn (hb pins s1 σ H1 _ I1 q1) fun u s2 ⟨y, H2, I2, r2, q2⟩ => ?_
  exact hf v u s2 x y H2 I2 r1 r2 q2

/-! ### names and constants -/
noncomputable def tVar (i : Nat) : TE := fun σ H Q => ∃ v, σ[i]? = some (some v) ∧ Q v H
noncomputable def tC (v : V) : TE := fun _ H Q => Q v H
theorem pe_var {i : Nat} {x : Str} {pos : Pos} (hN : X.N[i]? = some x) (hv : Vis X.env.scope x) (hd : (x == ("__debug__" : Str)) = false := by decide) (hcd : (x == ("__classdict__" : Str)) = false := by decide) : PE X (.Name x pos) (tVar i) := by
  intro pins s σ H Q I h
  obtain ⟨v, e, h⟩ := h
  obtain ⟨m, hn, hl⟩ := I.loc
  obtain ⟨u, r, l⟩ := hl i x v hN e hv
  have fin : EP X pins σ Q u s := ⟨v, H, I, r, h⟩
  rcases l with ⟨hk, hm⟩ | ⟨hk, c, hc, hcell⟩
  · exact wpAny_Name (wpAny_loadName_local I.ok.kind hk hn hm fin) hd
  · rcases hk with hk | hk
    · exact wpAny_Name (wpAny_loadName_cell I.ok.kind hk hc hcell fin) hd
    · exact wpAny_Name (wpAny_loadName_free I.ok.kind hk hc hcell fin hcd) hd
theorem pe_int {i j pos} : PE X (.Constant (.int i) j pos) (tC (.int i)) := fun _ _ _ H _ I h => wpAny_Constant_int ⟨.int i, H, I.tok _, ⟨_, rfl⟩, h⟩
theorem pe_bl {b j pos} : PE X (.Constant (.bool b) j pos) (tC (.bl b)) := fun _ _ _ H _ I h => Constant_bool ⟨.bl b, H, I, rfl, h⟩
theorem pe_non {j pos} : PE X (.Constant .none j pos) (tC .non) := fun _ _ _ H _ I h => Constant_none ⟨.non, H, I, rfl, h⟩
theorem pe_str {x j pos} : PE X (.Constant (.str x) j pos) (tC (.str x)) := fun _ _ _ H _ I h => Calls.Constant_str ⟨.str x, H, I.tok _, ⟨_, rfl⟩, h⟩

/-- a global name of the def -/
noncomputable def Gl (X : Cx) (x : Str) : Prop := X.env.kindOf x = some .globalImplicit
theorem ld_glob {E : Value → Shared → Prop} {pins : List (Addr × Obj)} {s : Shared} {σ : St} {H : Hp} {x : Str} {u : Value} {pos : Pos} {Q : Value → Shared → Prop} (I : Inv X pins σ H s) (hg : Gl X x) (hm : X.mg x = some u) (h : Q u s)
    (hd : (x == ("__debug__" : Str)) = false := by decide) : wpAny (model X.prog X.w) X.A (eval (.Name x pos) X.env) Q E s :=
  Calls.Name_function_global I.ok.kind hg (Calls.loadGlobal_global (by rw [I.ok.glob]; exact I.mod.glob.keeps I.bk) hm h) hd
theorem ld_blt {E : Value → Shared → Prop} {pins : List (Addr × Obj)} {s : Shared} {σ : St} {H : Hp} {x : Str} {u : Value} {pos : Pos} {Q : Value → Shared → Prop} (I : Inv X pins σ H s) (hg : Gl X x) (hm : X.mg x = none) (hv : bootBuiltins x = some u) (h : Q u s)
    (hn : x ≠ "__name__" := by decide) (hd : (x == ("__debug__" : Str)) = false := by decide) : wpAny (model X.prog X.w) X.A (eval (.Name x pos) X.env) Q E s := by
  obtain ⟨mb, h1, h2⟩ := I.mod.blt
  exact Calls.Name_function_global I.ok.kind hg (Calls.loadGlobal_builtin (by rw [I.ok.glob]; exact I.mod.glob.keeps I.bk) hm (by rw [I.ok.blt]; exact h1.keeps I.bk) ((h2 x hn).trans hv) h) hd
/-- a module's constant, a class, a function, as a value -/
theorem pe_glob {x : Str} {v : V} {u : Value} {pos : Pos} (hg : Gl X x) (hm : X.mg x = some u) (r : RelV v u) (hd : (x == ("__debug__" : Str)) = false := by decide) : PE X (.Name x pos) (tC v) :=
  fun _ _ _ H _ I h => ld_glob I hg hm ⟨v, H, I, r, h⟩ hd
theorem pe_bltn {x : Str} {v : V} {u : Value} {pos : Pos} (hg : Gl X x) (hm : X.mg x = none) (hv : bootBuiltins x = some u) (r : RelV v u) (hn : x ≠ "__name__" := by decide) (hd : (x == ("__debug__" : Str)) = false := by decide) : PE X (.Name x pos) (tC v) :=
  fun _ _ _ H _ I h => ld_blt I hg hm hv ⟨v, H, I, r, h⟩ hn hd

/-! ### arithmetic -/
variable {a b : Expr} {ta tb : TE} {pos : Pos}
/-! ### comparisons -/
/-- a comparison as a value, as a test -/
noncomputable def tB (t : TE) : TT := fun σ H Q => t σ H fun x H1 => ∃ c, x = .bl c ∧ Q c H1
/-- an expression whose value is a bool, as a test -/
theorem pt_val {e : Expr} {t : TE} (h : PE X e t) (he : ∀ whole, isTrue e X.env whole = (do let v ← whole; standAt e.pos; holding [v] (truthy v)) := by intro _; rfl) : PT X e (tB t) := by
  intro pins s σ H Q I hw
  refine isTrue_plain (thn (h pins s σ H _ I hw) fun v s1 ⟨x, H1, I1, r1, q1⟩ => ?_) (he _)
  obtain ⟨d, rfl, q⟩ := q1
  cases r1
  exact wpAny_truthy_bool ⟨H1, I1, q⟩

/-! ### and, or, not -/
variable {tA tB' : TT} {rest : List Expr}
noncomputable def tAnd (t u : TT) : TT := fun σ H Q => t σ H fun c H1 => if c = true then u σ H1 Q else Q false H1
noncomputable def tOr (t u : TT) : TT := fun σ H Q => t σ H fun c H1 => if c = true then Q true H1 else u σ H1 Q
noncomputable def tNot (t : TT) : TT := fun σ H Q => t σ H fun c H1 => Q (!c) H1
theorem pw_and1 (ha : PT X a tA) : PW X (.BoolOp .And [a] pos) tA := by
  intro wh pins s σ H Q I h
  refine isTrue_and (thn (ha pins s σ H Q I h) fun c s1 e => ?_)
  cases c with
  | true => exact isTrue_and_nil e
  | false => exact e
theorem pw_or1 (ha : PT X a tA) : PW X (.BoolOp .Or [a] pos) tA := by
  intro wh pins s σ H Q I h
  refine isTrue_or (thn (ha pins s σ H Q I h) fun c s1 e => ?_)
  cases c with
  | false => exact isTrue_or_nil e
  | true => exact e
theorem pw_and (ha : PT X a tA) (hb : PW X (.BoolOp .And (b :: rest) pos) tB') : PW X (.BoolOp .And (a :: b :: rest) pos) (tAnd tA tB') := by
  intro wh pins s σ H Q I h
  refine isTrue_and (thn (ha pins s σ H _ I h) fun c s1 ⟨H1, I1, q1⟩ => ?_)
  cases c with
  | true => exact hb wh pins s1 σ H1 Q I1 q1
  | false => exact ⟨H1, I1, q1⟩
theorem pw_or (ha : PT X a tA) (hb : PW X (.BoolOp .Or (b :: rest) pos) tB') : PW X (.BoolOp .Or (a :: b :: rest) pos) (tOr tA tB') := by
  intro wh pins s σ H Q I h
  refine isTrue_or (thn (ha pins s σ H _ I h) fun c s1 ⟨H1, I1, q1⟩ => ?_)
  cases c with
  | true => exact ⟨H1, I1, q1⟩
  | false => exact hb wh pins s1 σ H1 Q I1 q1
theorem pt_not (ha : PT X a tA) : PT X (.UnaryOp .Not a pos) (tNot tA) := by
  intro pins s σ H Q I h
  exact isTrue_not (ha pins s σ H (fun c H1 => Q (!c) H1) I h)
/-- .. as values (bools) -/
noncomputable def tAndV (ta tb : TE) : TE := fun σ H Q => ta σ H fun x H1 => ∃ c, x = .bl c ∧ if c = true then tb σ H1 Q else Q (.bl false) H1
noncomputable def tOrV (ta tb : TE) : TE := fun σ H Q => ta σ H fun x H1 => ∃ c, x = .bl c ∧ if c = true then Q (.bl true) H1 else tb σ H1 Q
noncomputable def tNotV (ta : TE) : TE := fun σ H Q => ta σ H fun x H1 => ∃ c, x = .bl c ∧ Q (.bl (!c)) H1
theorem pe_one {op} {t : TE} (h : PE X a t) : PE X (.BoolOp op [a] pos) t := fun pins s σ H Q I hw => BoolOp_one (h pins s σ H Q I hw)
theorem pe_and (ha : PE X a ta) (hb : PE X (.BoolOp .And (b :: rest) pos) tb) : PE X (.BoolOp .And (a :: b :: rest) pos) (tAndV ta tb) := by
  intro pins s σ H Q I h
  refine BoolOp_and (thn (ha pins s σ H _ I h) fun v s1 ⟨x, H1, I1, r1, q1⟩ => ?_)
  obtain ⟨c, rfl, q1⟩ := q1
  cases r1
  refine wpAny_truthy_bool ?_
  cases c with
  | true => exact hb pins s1 σ H1 Q I1 q1
  | false => exact ⟨.bl false, H1, I1, rfl, q1⟩
theorem pe_or (ha : PE X a ta) (hb : PE X (.BoolOp .Or (b :: rest) pos) tb) : PE X (.BoolOp .Or (a :: b :: rest) pos) (tOrV ta tb) := by
  intro pins s σ H Q I h
  refine BoolOp_or (thn (ha pins s σ H _ I h) fun v s1 ⟨x, H1, I1, r1, q1⟩ => ?_)
  obtain ⟨c, rfl, q1⟩ := q1
  cases r1
  refine wpAny_truthy_bool ?_
  cases c with
  | false => exact hb pins s1 σ H1 Q I1 q1
  | true => exact ⟨.bl true, H1, I1, rfl, q1⟩
theorem pe_not (ha : PE X a ta) : PE X (.UnaryOp .Not a pos) (tNotV ta) := by
  intro pins s σ H Q I h
  refine UnaryOp_ (thn (ha pins s σ H _ I h) fun v s1 ⟨x, H1, I1, r1, q1⟩ => ?_)
  obtain ⟨c, rfl, q1⟩ := q1
  cases r1
  exact not_of (wpAny_truthy_bool ⟨.bl (!c), H1, I1, rfl, q1⟩)
/-- a if t else b -/
noncomputable def tIf (t : TT) (ta tb : TE) : TE := fun σ H Q => t σ H fun c H1 => if c = true then ta σ H1 Q else tb σ H1 Q
theorem pe_ifExp {c : Expr} (hc : PT X c tA) (ha : PE X a ta) (hb : PE X b tb) : PE X (.IfExp c a b pos) (tIf tA ta tb) := by
  intro pins s σ H Q I h
  refine wpAny_IfExp (thn (hc pins s σ H _ I h) fun d s1 ⟨H1, I1, q1⟩ => ?_)
  cases d with
  | true => exact ha pins s1 σ H1 Q I1 q1
  | false => exact hb pins s1 σ H1 Q I1 q1
end
end L2
end

noncomputable section
namespace L2
open PySem PySem.Spec PyProof.Rows

/-! ### a list, a tuple that is read: tracked, frozen, or an object of the module -/
noncomputable def SqL (K : PySem.W.Frag) (H : Hp) (a : Addr) (xs : List V) : Prop :=
  Rd H a (.lst xs) ∨
    ∃ (o : Obj) (its : Array Value) (n : Nat), K.lookup a = some o ∧ o.cls = .type "list" ∧ o.dict = none ∧ o.data = .seq its n ∧ its.size ≤ sizeLine ∧ Vals xs its.toList
noncomputable def SqT (K : PySem.W.Frag) (H : Hp) (a : Addr) (xs : List V) : Prop :=
  Rd H a (.tup xs) ∨
    ∃ (o : Obj) (its : Array Value) (n : Nat), K.lookup a = some o ∧ o.cls = .type "tuple" ∧ o.data = .seq its n ∧ its.size ≤ sizeLine ∧ Vals xs its.toList
noncomputable def absV : Value → Option V
  | .none => some .non
  | .bool b => some (.bl b)
  | .int i _ => some (.int i)
  | .str x _ => some (.str x)
  | .bytes b _ => some (.byt b)
  | .float b _ => some (.flt b)
  | .ref a => some (.ref a)
  | .type n => some (.ty n)
  | _ => none
theorem RelV.abs {x : V} {u : Value} (r : RelV x u) : absV u = some x := by
  cases x with
  | non => cases r; rfl
  | bl _ => cases r; rfl
  | int _ => obtain ⟨t, rfl⟩ := r; rfl
  | str _ => obtain ⟨t, rfl⟩ := r; rfl
  | byt _ => obtain ⟨t, rfl⟩ := r; rfl
  | flt _ => obtain ⟨t, rfl⟩ := r; rfl
  | ref _ => cases r; rfl
  | ty _ => cases r; rfl
theorem RelV.inj {x y : V} {u : Value} (r : RelV x u) (q : RelV y u) : x = y := Option.some.inj (r.abs.symm.trans q.abs)
theorem Vals.inj : ∀ {xs ys : List V} {us : List Value}, Vals xs us → Vals ys us → xs = ys
  | _, _, _, .nil, .nil => rfl
  | _, _, _, .cons r t, .cons r' t' => by rw [r.inj r', Vals.inj t t']
section
variable {X : Cx} {pins : List (Addr × Obj)} {σ : St} {H : Hp} {s : Shared} {a : Addr} {xs ys : List V}
theorem SqL.of {K : PySem.W.Frag} (h : H a = some (.lst xs)) : SqL K H a xs := .inl (.inl h)
theorem SqT.of {K : PySem.W.Frag} (h : H a = some (.tup xs)) : SqT K H a xs := .inl (.inl h)
theorem Inv.list (I : Inv X pins σ H s) (h : SqL X.K H a xs) : ∃ its : List Value, Vals xs its ∧ PlainL s.heap a its.toArray ∧ xs.length ≤ sizeLine := by
  rcases h with h | ⟨o, its, n, hk, hc, hd, hs, hz, r⟩
  · obtain ⟨z, its, n, r, e⟩ := h.ok I.hok
    exact ⟨its, r, ⟨_, n, e, rfl, rfl, rfl⟩, z⟩
  · refine ⟨its.toList, r, ⟨o, n, I.kIn a o hk, hc, hd, by simpa using hs⟩, ?_⟩
    have e := r.length
    simp only [Array.length_toList] at e
    omega
theorem Inv.tuple (I : Inv X pins σ H s) (h : SqT X.K H a xs) : ∃ its : List Value, Vals xs its ∧ IsTup s.heap a its.toArray ∧ xs.length ≤ sizeLine := by
  rcases h with h | ⟨o, its, n, hk, hc, hs, hz, r⟩
  · obtain ⟨z, its, r, p⟩ := h.ok I.hok
    exact ⟨its, r, p, z⟩
  · refine ⟨its.toList, r, ⟨o, I.kIn a o hk, hc, n, by simpa using hs⟩, ?_⟩
    have e := r.length
    simp only [Array.length_toList] at e
    omega
theorem Inv.list_inj (I : Inv X pins σ H s) (h : SqL X.K H a xs) (h' : SqL X.K H a ys) : xs = ys := by
  obtain ⟨its, r, ⟨o, n, e, _, _, d⟩, _⟩ := I.list h
  obtain ⟨its', r', ⟨o', n', e', _, _, d'⟩, _⟩ := I.list h'
  rw [e] at e'; cases e'
  rw [d] at d'
  injection d' with d1 _
  have : its = its' := by simpa using congrArg Array.toList d1
  subst this
  exact r.inj r'
theorem Inv.tuple_inj (I : Inv X pins σ H s) (h : SqT X.K H a xs) (h' : SqT X.K H a ys) : xs = ys := by
  obtain ⟨its, r, ⟨o, e, _, n, d⟩, _⟩ := I.tuple h
  obtain ⟨its', r', ⟨o', e', _, n', d'⟩, _⟩ := I.tuple h'
  rw [e] at e'; cases e'
  rw [d] at d'
  injection d' with d1 _
  have : its = its' := by simpa using congrArg Array.toList d1
  subst this
  exact r.inj r'
end

/-! ### another wish about exceptions -/
noncomputable abbrev Cx.wish (X : Cx) (E : Value → Shared → Prop) : Cx := { X with xe := E }
/-- no exception leaves -/
noncomputable abbrev Cx.nox (X : Cx) : Cx := X.wish fun _ _ => False
theorem Cx.Ok.wish {X : Cx} (ok : X.Ok) (E : Value → Shared → Prop) : (X.wish E).Ok :=
  ⟨ok.mod, ok.kind, ok.glob, ok.blt, ok.above, ok.inj, ok.has, ok.cab, ok.hd, ok.frames, ok.stk, ok.exf, ok.bs, ok.bsz, ok.noex, ok.exfs, ok.funs, ok.frf⟩
theorem Cx.Ok.unwish {X : Cx} {E : Value → Shared → Prop} (ok : (X.wish E).Ok) : X.Ok :=
  ⟨ok.mod, ok.kind, ok.glob, ok.blt, ok.above, ok.inj, ok.has, ok.cab, ok.hd, ok.frames, ok.stk, ok.exf, ok.bs, ok.bsz, ok.noex, ok.exfs, ok.funs, ok.frf⟩
section
variable {X : Cx} {pins : List (Addr × Obj)} {σ : St} {H : Hp} {s : Shared} {E : Value → Shared → Prop}
theorem Inv.wish (I : Inv X pins σ H s) (E : Value → Shared → Prop) : Inv (X.wish E) pins σ H s := ⟨I.ok.wish E, I.os, I.bare, I.base, I.loc, I.cell, I.free, I.freeC, I.pin, I.hok, I.len⟩
theorem Inv.unwish (I : Inv (X.wish E) pins σ H s) : Inv X pins σ H s := ⟨I.ok.unwish, I.os, I.bare, I.base, I.loc, I.cell, I.free, I.freeC, I.pin, I.hok, I.len⟩
theorem SP.unwish {D : Ends} {f : Flow} {s' : Shared} (h : SP (X.wish E) pins D f s') : SP X pins D f s' := by
  cases f with
  | next => obtain ⟨σ', H', I, q⟩ := h; exact ⟨σ', H', I.unwish, q⟩
  | brk => obtain ⟨σ', H', I, q⟩ := h; exact ⟨σ', H', I.unwish, q⟩
  | cont => obtain ⟨σ', H', I, q⟩ := h; exact ⟨σ', H', I.unwish, q⟩
  | ret u => obtain ⟨v, σ', H', I, r, q⟩ := h; exact ⟨v, σ', H', I.unwish, r, q⟩
theorem PSs.nox {st : List Stmt} {t : TS} (h : PSs X.nox st t) : PSs X st t := fun pins s σ H D I hw =>
  wpAny_mono (h pins s σ H D (I.wish _) hw) (fun _ _ q => q.unwish) fun _ _ z => False.elim z
end

/-! ### blocks and small statements -/
section
variable {X : Cx} {st : Stmt} {rest : List Stmt} {t u : TS} {e : Expr} {te : TE} {pos : Pos}
noncomputable def tNext : TS := fun D σ H => D.nx σ H
noncomputable def tSeq (t u : TS) : TS := fun D σ H => t { D with nx := u D } σ H
theorem pss_nil : PSs X [] tNext := fun _ _ σ H _ I h => wpAny_execs_nil ⟨σ, H, I, h⟩
theorem pss_cons (h1 : PS X st t) (h2 : PSs X rest u) : PSs X (st :: rest) (tSeq t u) := by
  intro pins s σ H D I h
  refine wpAny_execs_cons (thn (h1 pins s σ H { D with nx := u D } I h) fun f s1 q => ?_)
  cases f with
  | next =>
    obtain ⟨σ', H', I', q⟩ := q
    exact h2 pins s1 σ' H' D I' q
  | ret v => exact q
  | brk => exact q
  | cont => exact q
/-- in a def's body nothing is shown -/
theorem Inv.quiet {pins : List (Addr × Obj)} {σ : St} {H : Hp} {s : Shared} (I : Inv X pins σ H s) : interactive X.env = false := by simp [interactive, I.ok.kind]
/-- an expression whose value is dropped -/
noncomputable def tDrop (te : TE) : TS := fun D σ H => te σ H fun _ H1 => D.nx σ H1
theorem ps_expr (he : PE X e te) (hs : swapsWith e none pos.line X.env = pure false := by rfl) : PS X (.Expr e pos) (tDrop te) := by
  intro pins s σ H D I h
  exact wpAny_Expr_any (thn (he pins s σ H _ I h) fun v s1 ⟨x, H1, I1, r1, q1⟩ => ⟨σ, H1, I1, q1⟩) I.quiet hs
noncomputable def tRet (te : TE) : TS := fun D σ H => te σ H D.rt
theorem ps_ret (he : PE X e te) : PS X (.Return (some e) pos) (tRet te) := by
  intro pins s σ H D I h
  exact wpAny_Return_some (thn (he pins s σ H _ I h) fun v s1 ⟨x, H1, I1, r1, q1⟩ => ⟨x, σ, H1, I1, r1, q1⟩)
noncomputable def tIfS (c : TT) (t u : TS) : TS := fun D σ H => c σ H fun b H1 => if b = true then t D σ H1 else u D σ H1
theorem ps_if {c : Expr} {a b : List Stmt} {tc : TT} (hc : PT X c tc) (ha : PSs X a t) (hb : PSs X b u) : PS X (.If c a b pos) (tIfS tc t u) := by
  intro pins s σ H D I h
  refine wpAny_If (thn (hc pins s σ H _ I h) fun d s1 ⟨H1, I1, q1⟩ => ?_)
  cases d with
  | true => exact ha pins s1 σ H1 D I1 q1
  | false => exact hb pins s1 σ H1 D I1 q1
/-- code that the proof never comes to -/
noncomputable def tNever : TS := fun _ _ _ => False
theorem ps_never : PS X st tNever := fun _ _ _ _ _ _ h => h.elim
end

/-! ### targets -/
noncomputable abbrev TG := V → St → Hp → (St → Hp → Prop) → Prop
noncomputable abbrev TGs := List V → St → Hp → (St → Hp → Prop) → Prop
noncomputable def PG (X : Cx) (target : Expr) (t : TG) : Prop :=
  ∀ (pins : List (Addr × Obj)) (s : Shared) (σ : St) (H : Hp) (v : V) (u : Value) (Q : St → Hp → Prop), Inv X pins σ H s → RelV v u → t v σ H Q →
    wpAny (model X.prog X.w) X.A (assign target X.env u) (fun _ s' => ∃ σ' H', Inv X pins σ' H' s' ∧ Q σ' H') X.xe s
/-- several targets, one after another -/
noncomputable def PGs (X : Cx) (ts : List Expr) (t : TGs) : Prop :=
  ∀ (pins : List (Addr × Obj)) (s : Shared) (σ : St) (H : Hp) (vs : List V) (us : List Value) (Q : St → Hp → Prop), Inv X pins σ H s → Vals vs us → t vs σ H Q →
    wpAny (model X.prog X.w) X.A (assignInOrder ((assignEach ts X.env).map (·.2)) us) (fun _ s' => ∃ σ' H', Inv X pins σ' H' s' ∧ Q σ' H') X.xe s
/-- o[i] = v, by values -/
noncomputable abbrev TSet := V → V → V → Hp → (Hp → Prop) → Prop
noncomputable def PSet (X : Cx) (t : TSet) : Prop :=
  ∀ (pins : List (Addr × Obj)) (s : Shared) (σ : St) (H : Hp) (o i v : V) (ov iv u : Value) (Q : Hp → Prop), Inv X pins σ H s → RelV o ov → RelV i iv → RelV v u → t o i v H Q →
    wpAny (model X.prog X.w) X.A (setItem ov iv u) (fun _ s' => ∃ H', Inv X pins σ H' s' ∧ Q H') X.xe s
section
variable {X : Cx} {pos : Pos}
noncomputable def gName (i : Nat) : TG := fun v σ H Q => Q (σ.set i (some v)) H
theorem pg_name {i : Nat} {x : Str} (hN : X.N.Nodup) (hi : X.N[i]? = some x) (hx : Loc X.env.scope x) (hf : X.fn x = true ∨ X.env.scope.names.lookup x = some .local := by first | exact .inl rfl | exact .inr rfl | assumption) : PG X (.Name x pos) (gName i) := by
  intro pins s σ H v u Q I r h
  exact wpAny_assign_Name (store_ok I hN hi hx r (fun s' I' => ⟨_, H, I', h⟩) hf)
noncomputable def gNil : TGs := fun vs σ H Q => vs = [] ∧ Q σ H
noncomputable def gCons (t : TG) (u : TGs) : TGs := fun vs σ H Q => ∃ v r, vs = v :: r ∧ t v σ H fun σ' H' => u r σ' H' Q
theorem pgs_nil : PGs X [] gNil := by
  intro pins s σ H vs us Q I r h
  obtain ⟨e, h⟩ := h
  subst e
  cases r
  exact assignInOrder_nil ⟨σ, H, I, h⟩
theorem pgs_cons {e : Expr} {es : List Expr} {t : TG} {u : TGs} (h1 : PG X e t) (h2 : PGs X es u)
    (hs : (assignEach (e :: es) X.env).map (·.2) = assign e X.env :: (assignEach es X.env).map (·.2) := by rfl) : PGs X (e :: es) (gCons t u) := by
  intro pins s σ H vs us Q I r h
  obtain ⟨v, vr, e1, h⟩ := h
  subst e1
  cases r with
  | cons r rr =>
    rw [hs]
    refine assignInOrder_cons (thn (h1 pins s σ H _ _ _ I r h) fun _ s1 ⟨σ1, H1, I1, q1⟩ => ?_)
    exact h2 pins s1 σ1 H1 _ _ Q I1 rr q1
/-- (a, b, ..) = a tuple of that length -/
noncomputable def gTup (K : PySem.W.Frag) (n : Nat) (t : TGs) : TG := fun v σ H Q => ∃ a xs, v = .ref a ∧ SqT K H a xs ∧ xs.length = n ∧ t xs σ H Q
theorem pg_tup {es : List Expr} {k : Nat} {t : TGs} {n : Nat} (hc : X.calm = true) (h : PGs X es t)
    (hn : (assignEach es X.env).length = n := by rfl) (hst : (assignEach es X.env).findIdx? (·.1) = none := by rfl) : PG X (.Tuple es k pos) (gTup X.K n t) := by
  intro pins s σ H v u Q I r hw
  obtain ⟨a, xs, e1, hq, hl, hw⟩ := hw
  subst e1
  cases r
  obtain ⟨its, rv, ht, hz⟩ := I.tuple hq
  refine assign_Tuple_tuple (I.ok.hd hc) ht (by simp [hn, ← hl, rv.length]) hst fun h' hx => ?_
  have I1 : Inv X pins σ H { s with heap := h' } := I.kept (t' := s.toks) fun b o e => hx b o (Nat.ne_of_lt (Heap.lt_size e)) e
  exact h pins _ σ H xs _ Q I1 (by simpa using rv) hw
/-- o[i] = .. -/
noncomputable def gSub (to ti : TE) (t : TSet) : TG := fun v σ H Q => to σ H fun o H1 => ti σ H1 fun i H2 => t o i v H2 fun H3 => Q σ H3
theorem pg_sub {o i : Expr} {to ti : TE} {t : TSet} (ho : PE X o to) (hi : PE X i ti) (hs : PSet X t)
    (ha : ∀ v, assign (.Subscript o i pos) X.env v = (do
      let ov ← holding [v] (eval o X.env)
      let iv ← holding [v, ov] (eval i X.env)
      standAt pos
      holding [v, ov, iv] (setItem ov iv v)
      release [v, ov, iv] []) := by intro _; rfl) : PG X (.Subscript o i pos) (gSub to ti t) := by
  intro pins s σ H v u Q I r h
  rw [ha]
  refine wpAny_bind (wpAny_holding (thn (ho pins s σ H _ I h) fun ov s1 ⟨x, H1, I1, r1, q1⟩ => ?_))
  refine wpAny_bind (wpAny_holding (thn (hi pins s1 σ H1 _ I1 q1) fun iv s2 ⟨y, H2, I2, r2, q2⟩ => ?_))
  refine wpAny_bind (wpAny_standAt (wpAny_bind (wpAny_holding (thn (hs pins s2 σ H2 x y v ov iv u _ I2 r1 r2 r q2) fun _ s3 ⟨H3, I3, q3⟩ => ?_))))
  exact wpAny_release ⟨σ, H3, I3, q3⟩
/-- target = value -/
noncomputable def tAsg (te : TE) (g : TG) : TS := fun D σ H => te σ H fun x H1 => g x σ H1 D.nx
theorem ps_asg {tg e : Expr} {te : TE} {g : TG} (he : PE X e te) (hg : PG X tg g) (hs : swapsWithSole [tg] e pos.line X.env = pure false := by rfl) (hw : swappedStores [tg] e X.env = pure none := by rfl)
    (h1 : (assignEach [tg] X.env).map (·.2) = [assign tg X.env] := by rfl) : PS X (.Assign [tg] e pos) (tAsg te g) := by
  intro pins s σ H D I h
  refine wpAny_Assign_stores (thn (he pins s σ H _ I h) fun v s1 ⟨x, H1, I1, r1, q1⟩ => ?_) hs hw
  rw [h1]
  exact thn (hg pins s1 σ H1 x v _ I1 r1 q1) fun _ s2 q => q
/-- name = value -/
theorem ps_set {i : Nat} {x : Str} {e : Expr} {te : TE} {pos' : Pos} (hN : X.N.Nodup) (hi : X.N[i]? = some x) (hx : Loc X.env.scope x) (he : PE X e te) (hs : swapsWith e (some (.Name x pos')) pos.line X.env = pure false := by rfl) (hf : X.fn x = true ∨ X.env.scope.names.lookup x = some .local := by first | exact .inl rfl | exact .inr rfl | assumption) :
    PS X (.Assign [.Name x pos'] e pos) (tAsg te (gName i)) := by
  intro pins s σ H D I h
  refine wpAny_Assign_Name (thn (he pins s σ H _ I h) fun v s1 ⟨y, H1, I1, r1, q1⟩ => ?_) hs
  exact store_ok I1 hN hi hx r1 (fun s2 I2 => ⟨_, H1, I2, q1⟩) hf
end

/-! ### while -/
section
variable {X : Cx} {pos : Pos}
/-- the invariant W with its measure -/
noncomputable def tWhile (c : TT) (tb : TS) : TS := fun D σ H => ∃ W : Nat → St → Hp → Prop, (∃ m, W m σ H) ∧ ∀ m σ H, W m σ H →
  c σ H fun b H1 => if b = true then ∃ N : St → Hp → Prop, (∀ σ' H', N σ' H' → ∃ m', m' < m ∧ W m' σ' H') ∧ tb { D with nx := N, ct := N, bk := D.nx } σ H1 else D.nx σ H1
theorem ps_while {c : Expr} {body : List Stmt} {tc : TT} {tb : TS} (hp : PassesOwn (model X.prog X.w) X.A X.env X.xe) (hc : PT X c tc) (hb : PSs X body tb) : PS X (.While c body [] pos) (tWhile tc tb) := by
  intro pins s σ H D I h
  obtain ⟨W, ⟨m0, w0⟩, turn⟩ := h
  refine wpAny_While (codeAny_whileLoop (fun n s' => ∃ σ' H', Inv X pins σ' H' s' ∧ W n σ' H') ?_ m0 ⟨σ, H, I, w0⟩)
  rintro n s1 ⟨σ1, H1, I1, w1⟩
  refine wpAny_passesOwn hp (thn (hc pins s1 σ1 H1 _ I1 (turn n σ1 H1 w1)) fun b s2 ⟨H2, I2, q2⟩ => ?_)
  cases b with
  | true =>
    obtain ⟨N, hN, q2⟩ := q2
    rw [if_pos rfl]
    refine wpAny_passesOwn hp (thn (hb pins s2 σ1 H2 _ I2 q2) fun f s3 q3 => ?_)
    cases f with
    | next =>
      obtain ⟨σ3, H3, I3, n3⟩ := q3
      obtain ⟨m', hm, w3⟩ := hN σ3 H3 n3
      exact ⟨m', hm, σ3, H3, I3, w3⟩
    | cont =>
      obtain ⟨σ3, H3, I3, n3⟩ := q3
      obtain ⟨m', hm, w3⟩ := hN σ3 H3 n3
      exact ⟨m', hm, σ3, H3, I3, w3⟩
    | brk => exact q3
    | ret v => exact q3
  | false =>
    rw [if_neg Bool.false_ne_true]
    exact wpAny_execs_nil ⟨σ1, H2, I2, q2⟩
end

/-! ### what a loop or a comprehension walks -/
/-- at turn i: it yields x (the heap may grow), or it stops -/
structure It where
  go : Nat → Hp → Prop
  yld : Nat → Hp → V → Hp → Prop
  stop : Nat → Hp → Prop
/-- the iterator's own objects may turn: they are not the frame's, not pinned, younger than the entry (or a comprehension's own) -/
noncomputable def FpOk (X : Cx) (pins : List (Addr × Obj)) (H : Hp) (b : Addr) : Prop :=
  H b = none ∧ b ≠ X.env.locals ∧ b ∉ X.fs ∧ (b ∈ X.ex ∨ X.s₀.heap.objs.size ≤ b) ∧ (∀ x c, X.env.cells.lookup x = some c → c ≠ b) ∧ ∀ p ∈ X.pn ++ pins, p.1 ≠ b
theorem Inv.fpOk {X : Cx} {pins : List (Addr × Obj)} {σ : St} {H H' : Hp} {s : Shared} {b : Addr} (I : Inv X pins σ H s) (hb : s.heap.objs.size ≤ b) (hn : H' b = none) : FpOk X pins H' b := by
  refine ⟨hn, Nat.ne_of_gt (Nat.lt_of_lt_of_le I.lt hb), I.nofs hb, .inr (Nat.le_trans I.sz hb), fun x c e z => ?_, fun p hp z => ?_⟩
  · obtain ⟨v, q⟩ := I.cell x c e
    exact absurd (Nat.lt_of_lt_of_le q.lt (by rw [z]; exact hb)) (Nat.lt_irrefl _)
  · exact absurd (Nat.lt_of_lt_of_le (Heap.lt_size (I.pin p hp).1) (by rw [z]; exact hb)) (Nat.lt_irrefl _)
structure Turn (P : Program) (w : World) (K : PySem.W.Frag) (tg : Expr) (J : It) (fp : List Addr) (it : Addr) (tn : Nat → Heap → Prop) : Prop where
  mem : it ∈ fp
  obj : ∀ i h, tn i h → ∀ b ∈ fp, ∃ o, h.get? b = some o ∧ ∀ v, o.data ≠ .cell v
  keep : ∀ i h h', tn i h → (∀ b ∈ fp, ∀ o, h.get? b = some o → h'.get? b = some o) → tn i h'
  item : ∀ (X : Cx), X.prog = P → X.w = w → X.K = K → X.calm = true → ∀ (i : Nat) (pins : List (Addr × Obj)) (s : Shared) (σ : St) (H : Hp) (E : Value → Shared → Prop), Inv X pins σ H s → (∀ b ∈ fp, FpOk X pins H b) → tn i s.heap → J.go i H →
    wpAny (model P w) X.A (pyNext (.ref it)) (fun r s1 => ∃ u, r = some u ∧
      wpAny (model P w) X.A (letOwnedTupleGo tg (.ref it) u) (fun _ s2 => ∃ x H', Inv X pins σ H' s2 ∧ RelV x u ∧ J.yld i H x H' ∧ tn (i + 1) s2.heap ∧ ∀ b ∈ fp, H' b = none) E s1) E s
  done : ∀ (X : Cx), X.prog = P → X.w = w → X.K = K → X.calm = true → ∀ (i : Nat) (pins : List (Addr × Obj)) (s : Shared) (σ : St) (H : Hp) (E : Value → Shared → Prop), Inv X pins σ H s → (∀ b ∈ fp, FpOk X pins H b) → tn i s.heap → J.stop i H →
    wpAny (model P w) X.A (pyNext (.ref it)) (fun r s1 => r = none ∧ Inv X pins σ H s1) E s
  self : ∀ (A : Around) (i : Nat) (s : Shared) (Q : Value → Shared → Prop) (E : Value → Shared → Prop), tn i s.heap → Q (.ref it) s → wpAny (model P w) A (pyIter (.ref it)) Q E s
noncomputable abbrev TI := St → Hp → (It → Hp → Prop) → Prop
/-- an iterator has come -/
noncomputable def PIE (X : Cx) (pins : List (Addr × Obj)) (σ : St) (tg : Expr) (R : It → Hp → Prop) (itv : Value) (s2 : Shared) : Prop :=
  ∃ (it : Addr) (fp : List Addr) (tn : Nat → Heap → Prop) (J : It) (H' : Hp), itv = .ref it ∧ Inv X pins σ H' s2 ∧ Turn X.prog X.w X.K tg J fp it tn ∧ tn 0 s2.heap ∧ (∀ b ∈ fp, FpOk X pins H' b) ∧ R J H'
noncomputable def PI (X : Cx) (tg iter : Expr) (wi : TI) : Prop :=
  ∀ (pins : List (Addr × Obj)) (s : Shared) (σ : St) (H : Hp) (R : It → Hp → Prop), Inv X pins σ H s → wi σ H R →
    wpAny (model X.prog X.w) X.A (eval iter X.env) (fun v s1 => wpAny (model X.prog X.w) X.A (pyIter v) (PIE X pins σ tg R) X.xe s1) X.xe s

/-- the step ahead of the store is nothing for an iterator that keeps no tuple -/
theorem go_of {M : Model} {A : Around} {E : Value → Shared → Prop} {s : Shared} {tg : Expr} {it : Addr} {u : Value} {o : Obj} {n : String} {vs : Array Value} {Q : Unit → Shared → Prop} (ho : s.heap.get? it = some o) (hc : o.cls = .type n) (hd : o.data = .fields vs)
    (hn : ["enumerate", "zip", "dict_itemiterator", "dict_reverseitemiterator", "odict_iterator", "itertools.zip_longest", "itertools.pairwise"].contains n = false) (hQ : Q () s) : wpAny M A (letOwnedTupleGo tg (.ref it) u) Q E s := by
  unfold letOwnedTupleGo
  cases tg <;> first
    | exact wpAny_pure hQ
    | (cases u <;> first
        | exact wpAny_pure hQ
        | (refine wpAny_bind (wpAny_load ho ?_)
           rw [hc, hd]
           show wpAny M A (if (["enumerate", "zip", "dict_itemiterator", "dict_reverseitemiterator", "odict_iterator", "itertools.zip_longest", "itertools.pairwise"].contains n && vs[0]? == some (rawInt _)) = true then _ else _) Q E s
           rw [if_neg (by intro h; rw [hn, Bool.false_and] at h; cases h)]
           exact wpAny_pure hQ))

/-- the list at a, as it stands at each turn (a loop may append to it) -/
noncomputable def Itl (K : PySem.W.Frag) (a : Addr) : It :=
  ⟨fun i H => ∃ xs x, SqL K H a xs ∧ xs[i]? = some x, fun i H x H' => H' = H ∧ ∀ xs, SqL K H a xs → xs[i]? = some x, fun i H => ∃ xs, SqL K H a xs ∧ xs.length ≤ i⟩
noncomputable def Itt (K : PySem.W.Frag) (a : Addr) : It :=
  ⟨fun i H => ∃ xs x, SqT K H a xs ∧ xs[i]? = some x, fun i H x H' => H' = H ∧ ∀ xs, SqT K H a xs → xs[i]? = some x, fun i H => ∃ xs, SqT K H a xs ∧ xs.length ≤ i⟩
/-- lo, lo + 1, .. (n of them) -/
noncomputable def Itr (lo : Int) (n : Nat) : It := ⟨fun i _ => i < n, fun i H x H' => H' = H ∧ x = .int (lo + i), fun i _ => n ≤ i⟩
theorem turn_list {P : Program} {w : World} {K : PySem.W.Frag} {tg : Expr} (a it : Addr) : Turn P w K tg (Itl K a) [it] it (fun i h => h.IsListIter it a i) where
  mem := by simp
  obj := fun i h st b hb => by
    have e : b = it := by simpa using hb
    subst e
    obtain ⟨o, e, c, d⟩ := st
    exact ⟨o, e, fun v z => by rw [d] at z; cases z⟩
  keep := fun i h h' st k => st.at fun o e => k it (by simp) o e
  item := by
    intro X hP hw hK hc i pins s σ H E I hf st hg
    subst hP hw hK
    obtain ⟨xs, x, hq, hx⟩ := hg
    obtain ⟨its, rv, p, hz⟩ := I.list hq
    obtain ⟨u, hu, ru⟩ := rv.get hx
    obtain ⟨f0, f1, f2, f3, f4, f5⟩ := hf it (by simp)
    refine wpAny_pyNext_list_item st p.isList (x := u) (by simpa using hu) fun h' st' sb => ?_
    have I1 : Inv X pins σ H { s with heap := h' } := I.turned (t' := s.toks) (fun b o hb e => (sb.2 b hb).trans e) f0 f1 f3 f4 f5
    obtain ⟨o, e, c, d⟩ := id st'
    exact ⟨u, rfl, go_of (s := { s with heap := h' }) e c d (by decide) ⟨x, H, I1, ru, ⟨rfl, fun ys hy => by rw [I.list_inj hy hq]; exact hx⟩, st', fun b hb => (hf b hb).1⟩⟩
  done := by
    intro X hP hw hK hc i pins s σ H E I hf st hg
    subst hP hw hK
    obtain ⟨xs, hq, hx⟩ := hg
    obtain ⟨its, rv, p, hz⟩ := I.list hq
    obtain ⟨f0, f1, f2, f3, f4, f5⟩ := hf it (by simp)
    have hl := rv.length
    exact wpAny_pyNext_list_end (I.ok.hd hc) st p.isList (by simp; omega) fun h' eb => ⟨rfl, I.turned (t' := s.toks) (fun b o hb e => eb b o hb e) f0 f1 f3 f4 f5⟩
  self := fun _ _ _ _ _ st h => wpAny_pyIter_listiter st h
theorem turn_tuple {P : Program} {w : World} {K : PySem.W.Frag} {tg : Expr} (a it : Addr) : Turn P w K tg (Itt K a) [it] it (fun i h => h.IsTupleIter it a i) where
  mem := by simp
  obj := fun i h st b hb => by
    have e : b = it := by simpa using hb
    subst e
    obtain ⟨o, e, c, d⟩ := st
    exact ⟨o, e, fun v z => by rw [d] at z; cases z⟩
  keep := fun i h h' st k => st.at fun o e => k it (by simp) o e
  item := by
    intro X hP hw hK hc i pins s σ H E I hf st hg
    subst hP hw hK
    obtain ⟨xs, x, hq, hx⟩ := hg
    obtain ⟨its, rv, p, hz⟩ := I.tuple hq
    obtain ⟨u, hu, ru⟩ := rv.get hx
    obtain ⟨f0, f1, f2, f3, f4, f5⟩ := hf it (by simp)
    refine wpAny_pyNext_tuple_item st (show s.heap.IsTuple a its.toArray from p) (x := u) (by simpa using hu) fun h' st' sb => ?_
    have I1 : Inv X pins σ H { s with heap := h' } := I.turned (t' := s.toks) (fun b o hb e => (sb.2 b hb).trans e) f0 f1 f3 f4 f5
    obtain ⟨o, e, c, d⟩ := id st'
    exact ⟨u, rfl, go_of (s := { s with heap := h' }) e c d (by decide) ⟨x, H, I1, ru, ⟨rfl, fun ys hy => by rw [I.tuple_inj hy hq]; exact hx⟩, st', fun b hb => (hf b hb).1⟩⟩
  done := by
    intro X hP hw hK hc i pins s σ H E I hf st hg
    subst hP hw hK
    obtain ⟨xs, hq, hx⟩ := hg
    obtain ⟨its, rv, p, hz⟩ := I.tuple hq
    obtain ⟨f0, f1, f2, f3, f4, f5⟩ := hf it (by simp)
    have hl := rv.length
    exact wpAny_pyNext_tuple_end (I.ok.hd hc) st (show s.heap.IsTuple a its.toArray from p) (by simp; omega) fun h' eb => ⟨rfl, I.turned (t' := s.toks) (fun b o hb e => eb b o hb e) f0 f1 f3 f4 f5⟩
  self := fun _ _ _ _ _ st h => wpAny_pyIter_tupleiter st h
theorem turn_range {P : Program} {w : World} {K : PySem.W.Frag} {tg : Expr} (it : Addr) (lo : Int) (n : Nat) : Turn P w K tg (Itr lo n) [it] it (fun i h => IsRangeIter h it (lo + (i : Nat) * 1) ((n : Int) - (i : Nat)) 1) where
  mem := by simp
  obj := fun i h st b hb => by
    have e : b = it := by simpa using hb
    subst e
    exact ⟨_, st, fun v z => by
      have z' : Data.fields _ = Data.cell v := z
      cases z'⟩
  keep := fun i h h' st k => k it (by simp) _ st
  item := by
    intro X hP hw hK hc i pins s σ H E I hf st hg
    subst hP hw hK
    obtain ⟨f0, f1, f2, f3, f4, f5⟩ := hf it (by simp)
    have W := Walks.range (prog := X.prog) (w := X.w) (I.ok.hd hc) it lo 1 n
    refine W.item i s _ _ hg st fun v h' tk hv st' kk => ?_
    obtain ⟨t, rfl⟩ := hv
    have I1 : Inv X pins σ H { s with heap := h', toks := tk } := I.turned (fun b o hb e => kk b o (by simpa using hb) e) f0 f1 f3 f4 f5
    refine ⟨_, rfl, go_of (s := { s with heap := h', toks := tk }) (n := "range_iterator") st' rfl rfl (by decide) ⟨.int (lo + i), H, I1, ⟨t, ?_⟩, ⟨rfl, rfl⟩, st', fun b hb => (hf b hb).1⟩⟩
    rw [Int.mul_one]
  done := by
    intro X hP hw hK hc i pins s σ H E I hf st hg
    subst hP hw hK
    obtain ⟨f0, f1, f2, f3, f4, f5⟩ := hf it (by simp)
    exact wpAny_pyNext_range_end (I.ok.hd hc) st (by have : n ≤ i := hg; omega) fun h' eb => ⟨rfl, I.turned (t' := s.toks) (fun b o hb e => eb b o hb e) f0 f1 f3 f4 f5⟩
  self := fun _ _ _ _ _ st h => wpAny_pyIter_rangeiter st h
end L2
end

noncomputable section
namespace L2
open PySem PySem.Spec PyProof.Rows
section
variable {X : Cx} {tg : Expr}
noncomputable def iList (K : PySem.W.Frag) (tl : TE) : TI := fun σ H R => tl σ H fun x H1 => ∃ a, x = .ref a ∧ (∃ xs, SqL K H1 a xs) ∧ R (Itl K a) H1
noncomputable def iTup (K : PySem.W.Frag) (tl : TE) : TI := fun σ H R => tl σ H fun x H1 => ∃ a, x = .ref a ∧ (∃ xs, SqT K H1 a xs) ∧ R (Itt K a) H1
theorem pi_list {l : Expr} {tl : TE} (hl : PE X l tl) : PI X tg l (iList X.K tl) := by
  intro pins s σ H R I h
  refine thn (hl pins s σ H _ I h) fun v s1 ⟨x, H1, I1, r1, q1⟩ => ?_
  obtain ⟨a, e, ⟨xs, hq⟩, q⟩ := q1
  subst e
  cases r1
  obtain ⟨its, rv, p, hz⟩ := I1.list hq
  refine wpAny_pyIter_list p.isList ?_
  refine ⟨s1.heap.objs.size, [s1.heap.objs.size], _, _, H1, rfl, I1.kept (t' := s1.toks) fun b o e => Heap.get?_push_of_some _ e, turn_list a _, ⟨_, Heap.get?_push_size _ rfl, rfl, rfl⟩, fun b hb => ?_, q⟩
  have e : b = s1.heap.objs.size := by simpa using hb
  subst e
  exact I1.fpOk (Nat.le_refl _) (I1.hok.fresh (Nat.le_refl _))
theorem pi_tup {l : Expr} {tl : TE} (hl : PE X l tl) : PI X tg l (iTup X.K tl) := by
  intro pins s σ H R I h
  refine thn (hl pins s σ H _ I h) fun v s1 ⟨x, H1, I1, r1, q1⟩ => ?_
  obtain ⟨a, e, ⟨xs, hq⟩, q⟩ := q1
  subst e
  cases r1
  obtain ⟨its, rv, p, hz⟩ := I1.tuple hq
  refine wpAny_pyIter_tuple (show s1.heap.IsTuple a its.toArray from p) ?_
  refine ⟨s1.heap.objs.size, [s1.heap.objs.size], _, _, H1, rfl, I1.kept (t' := s1.toks) fun b o e => Heap.get?_push_of_some _ e, turn_tuple a _, ⟨_, Heap.get?_push_size _ rfl, rfl, rfl⟩, fun b hb => ?_, q⟩
  have e : b = s1.heap.objs.size := by simpa using hb
  subst e
  exact I1.fpOk (Nat.le_refl _) (I1.hok.fresh (Nat.le_refl _))
/-- a range object just made, walked -/
theorem range_it {pins : List (Addr × Obj)} {σ : St} {H : Hp} {s : Shared} {R : It → Hp → Prop} {E : Value → Shared → Prop} {lo hi : Int} {t u v : Tok} {tk : Nat} (I : Inv X pins σ H s) (h1 : -(2 ^ 62) ≤ lo) (h2 : lo < 2 ^ 62) (h3 : -(2 ^ 62) ≤ hi) (h4 : hi < 2 ^ 62)
    (q : R (Itr lo (hi - lo).toNat) H) : wpAny (model X.prog X.w) X.A (pyIter (.ref s.heap.objs.size)) (PIE X pins σ tg R) E { s with heap := s.heap.push { cls := .type "range", data := .fields #[.int lo t, .int hi u, .int 1 v] }, toks := tk } := by
  refine wpAny_pyIter_range (IsRange.new ..) (small_one h1 h2 h3 h4) ?_
  have I1 : Inv X pins σ H { s with heap := s.heap.push { cls := .type "range", data := .fields #[.int lo t, .int hi u, .int 1 v] }, toks := tk } := I.kept fun b o e => Heap.get?_push_of_some _ e
  refine ⟨(s.heap.push { cls := .type "range", data := .fields #[.int lo t, .int hi u, .int 1 v] }).objs.size, [(s.heap.push { cls := .type "range", data := .fields #[.int lo t, .int hi u, .int 1 v] }).objs.size], _, _, H, rfl,
    I1.kept (t' := tk) fun b o e => Heap.get?_push_of_some _ e, turn_range _ lo (hi - lo).toNat, ?_, fun b hb => ?_, q⟩
  · have e1 : lo + ((0 : Nat) : Int) * 1 = lo := by simp
    have e2 : (((hi - lo).toNat : Nat) : Int) - ((0 : Nat) : Int) = Builtin.Range.rangeSize lo hi 1 := by rw [rangeSize_one]; split <;> omega
    show IsRangeIter _ _ (lo + ((0 : Nat) : Int) * 1) ((((hi - lo).toNat : Nat) : Int) - ((0 : Nat) : Int)) 1
    rw [e1, e2]
    exact Heap.get?_push_size _ rfl
  · have e : b = (s.heap.push { cls := .type "range", data := .fields #[.int lo t, .int hi u, .int 1 v] }).objs.size := by simpa using hb
    subst e
    exact I1.fpOk (Nat.le_refl _) (I1.hok.fresh (Nat.le_refl _))
noncomputable def iRng1 (ta : TA) : TI := fun σ H R => ta σ H fun vs H1 => ∃ j : Int, vs = [.int j] ∧ -(2 ^ 62) ≤ j ∧ j < 2 ^ 62 ∧ R (Itr 0 j.toNat) H1
theorem pi_range1 {a : Expr} {ta : TA} {p pos : Pos} (hg : Gl X "range") (hm : X.mg "range" = none) (ha : PA X [a] ta) (hs : starEach [a] X.env = [(false, eval a X.env)] := by rfl) : PI X tg (.Call (.Name "range" p) [a] [] pos) (iRng1 ta) := by
  intro pins s σ H R I h
  refine Call_ (ld_blt I hg hm boot_range (PyProof.Rows.callWith_type1 (thn (ha pos pins s σ H _ I h) fun us s1 ⟨vs, H1, I1, r1, q1⟩ => ?_) hs rfl))
  obtain ⟨j, e, q1, q2, q⟩ := q1
  subst e
  cases r1 with
  | cons r rr =>
    cases rr
    obtain ⟨t, rfl⟩ := r
    exact call_range_1 (range_it I1 (by omega) (by omega) q1 q2 (by simpa using q))
/-! ### for -/
/-- W: the invariant by the turn and a measure; N: what the body is to reach -/
noncomputable def tFor (wi : TI) (g : TG) (tb : TS) : TS := fun D σ H => wi σ H fun J H1 => ∃ W : Nat → Nat → St → Hp → Prop, (∃ m, W 0 m σ H1) ∧ ∀ i m σ H, W i m σ H →
  (J.stop i H ∧ D.nx σ H) ∨ (J.go i H ∧ ∃ N : St → Hp → Prop, (∀ σ' H', N σ' H' → ∃ m', m' < m ∧ W (i + 1) m' σ' H') ∧ ∀ x H', J.yld i H x H' → g x σ H' fun σ2 H2 => tb { D with nx := N, ct := N, bk := D.nx } σ2 H2)
/-- the records at fp as they stand -/
noncomputable def pinsAt (fp : List Addr) (h : Heap) : List (Addr × Obj) := fp.filterMap fun b => (h.get? b).map fun o => (b, o)
theorem mem_pinsAt {fp : List Addr} {h : Heap} {b : Addr} {o : Obj} (hb : b ∈ fp) (e : h.get? b = some o) : (b, o) ∈ pinsAt fp h := List.mem_filterMap.mpr ⟨b, hb, by rw [e]; rfl⟩
theorem of_pinsAt {fp : List Addr} {h : Heap} {p : Addr × Obj} (hp : p ∈ pinsAt fp h) : p.1 ∈ fp ∧ h.get? p.1 = some p.2 := by
  obtain ⟨b, hb, e⟩ := List.mem_filterMap.mp hp
  cases q : h.get? b with
  | none => rw [q] at e; cases e
  | some o =>
    rw [q] at e
    have e' : (b, o) = p := Option.some.inj e
    subst e'
    exact ⟨hb, q⟩
theorem Inv.pinned {pins : List (Addr × Obj)} {σ : St} {H : Hp} {s : Shared} {fp : List Addr} (I : Inv X pins σ H s) (hf : ∀ b ∈ fp, FpOk X pins H b) (ho : ∀ b ∈ fp, ∃ o, s.heap.get? b = some o ∧ ∀ v, o.data ≠ .cell v) : Inv X (pins ++ pinsAt fp s.heap) σ H s :=
  I.pins_of fun p hp => (List.mem_append.mp hp).elim (fun z => I.pin p (List.mem_append_right _ z)) fun z => by
    obtain ⟨hb, e⟩ := of_pinsAt z
    obtain ⟨f0, f1, f2, _⟩ := hf p.1 hb
    obtain ⟨o, e', d⟩ := ho p.1 hb
    rw [e] at e'; cases e'
    exact ⟨e, f0, f1, f2, d⟩
theorem Inv.unpinned {pins pl : List (Addr × Obj)} {σ : St} {H : Hp} {s : Shared} (I : Inv X (pins ++ pl) σ H s) : Inv X pins σ H s := I.pins_of fun p hp => I.pin p (List.mem_append_right _ (List.mem_append_left _ hp))
theorem ps_for {iter : Expr} {body : List Stmt} {wi : TI} {g : TG} {tb : TS} {pos : Pos} (hp : PassesOwn (model X.prog X.w) X.A X.env X.xe) (hc : X.calm = true) (hi : PI X tg iter wi) (hg : PG X tg g) (hb : PSs X body tb)
    (hs : ∀ x, foldedSetIterable iter X.env x = pure x := by intro _; rfl) : PS X (.For tg iter body [] pos) (tFor wi g tb) := by
  intro pins s σ H D I h
  refine wpAny_For (thn (hi pins s σ H _ I h) fun v s1 h1 => thn h1 fun itv s2 h2 => ?_) hs
  obtain ⟨it, fp, tn, J, H2, e, I2, T, st2, f2, W, ⟨m0, w0⟩, turn⟩ := h2
  subst e
  -- what stays true of the iterator's objects through the loop
  have stat : ∀ {H' : Hp}, (∀ b ∈ fp, H' b = none) → ∀ b ∈ fp, FpOk X pins H' b := fun hn b hb => ⟨hn b hb, (f2 b hb).2⟩
  refine codeAny_forLoop_any (fun n s' => ∃ i σ' H', Inv X pins σ' H' s' ∧ tn i s'.heap ∧ (∀ b ∈ fp, H' b = none) ∧ W i n σ' H') ?_ m0 ⟨0, σ, H2, I2, st2, fun b hb => (f2 b hb).1, w0⟩
  rintro n s3 ⟨i, σ3, H3, I3, st3, fr3, w3⟩
  rcases turn i n σ3 H3 w3 with ⟨stop, qn⟩ | ⟨go, N, hN, step⟩
  · refine wpAny_passesOwn hp (thn (T.done X rfl rfl rfl hc i pins s3 σ3 H3 X.xe I3 (stat fr3) st3 stop) fun r s4 ⟨hr, I4⟩ => ?_)
    subst hr
    exact wpAny_execs_nil ⟨σ3, H3, I4, qn⟩
  · refine wpAny_passesOwn hp (thn (T.item X rfl rfl rfl hc i pins s3 σ3 H3 X.xe I3 (stat fr3) st3 go) fun r s4 ⟨u, hr, h4⟩ => ?_)
    subst hr
    refine wpAny_passesOwn hp (thn h4 fun _ s5 ⟨x, H5, I5, r5, y5, st5, fr5⟩ => ?_)
    have I5' := I5.pinned (stat fr5) (T.obj _ _ st5)
    refine wpAny_passesOwn hp (thn (hg _ s5 σ3 H5 x u _ I5' r5 (step x H5 y5)) fun _ s6 ⟨σ6, H6, I6, q6⟩ => ?_)
    refine wpAny_passesOwn hp (thn (hb _ s6 σ6 H6 _ I6 q6) fun f s7 q7 => ?_)
    have again : ∀ {σ7 : St} {H7 : Hp}, Inv X (pins ++ pinsAt fp s5.heap) σ7 H7 s7 → N σ7 H7 → ∃ m, m < n ∧ ∃ i σ' H', Inv X pins σ' H' s7 ∧ tn i s7.heap ∧ (∀ b ∈ fp, H' b = none) ∧ W i m σ' H' := fun {σ7 H7} I7 n7 => by
      obtain ⟨m', hm, w7⟩ := hN σ7 H7 n7
      refine ⟨m', hm, i + 1, σ7, H7, I7.unpinned, T.keep _ _ _ st5 fun b hb o e => (I7.pin (b, o) (List.mem_append_right _ (List.mem_append_right _ (mem_pinsAt hb e)))).1, fun b hb => ?_, w7⟩
      obtain ⟨o, e, d⟩ := T.obj _ _ st5 b hb
      exact (I7.pin (b, o) (List.mem_append_right _ (List.mem_append_right _ (mem_pinsAt hb e)))).2.1
    cases f with
    | next => obtain ⟨σ7, H7, I7, n7⟩ := q7; exact again I7 n7
    | cont => obtain ⟨σ7, H7, I7, n7⟩ := q7; exact again I7 n7
    | brk => obtain ⟨σ7, H7, I7, q7⟩ := q7; exact ⟨σ7, H7, I7.unpinned, q7⟩
    | ret v => obtain ⟨x7, σ7, H7, I7, r7, q7⟩ := q7; exact ⟨x7, σ7, H7, I7.unpinned, r7, q7⟩
end

/-! ### the forms one uses -/
end L2
end

noncomputable section
namespace L2
open PySem PySem.Spec PyProof.Rows

noncomputable abbrev R2 := V → V → Hp → VK → Prop
/-- a two-place operation on values: f is binaryOp op, inplaceOp op or compareOp op -/
noncomputable def OpR (X : Cx) (f : Value → Value → Sem Value) (r : R2) : Prop :=
  ∀ (pins : List (Addr × Obj)) (s : Shared) (σ : St) (H : Hp) (x y : V) (v u : Value) (Q : VK), Inv X pins σ H s → RelV x v → RelV y u → r x y H Q →
    wpAny (model X.prog X.w) X.A (f v u) (EP X pins σ Q) X.xe s
/-- a one-place operation -/
noncomputable def UnR (X : Cx) (f : Value → Sem Value) (r : V → Hp → VK → Prop) : Prop :=
  ∀ (pins : List (Addr × Obj)) (s : Shared) (σ : St) (H : Hp) (x : V) (v : Value) (Q : VK), Inv X pins σ H s → RelV x v → r x H Q →
    wpAny (model X.prog X.w) X.A (f v) (EP X pins σ Q) X.xe s
/-- a call of a value that is known (a builtin, a type) with values -/
noncomputable def CallR (X : Cx) (f : Value) (r : List V → Hp → VK → Prop) : Prop :=
  ∀ (pins : List (Addr × Obj)) (s : Shared) (σ : St) (H : Hp) (xs : List V) (us : List Value) (Q : VK), Inv X pins σ H s → Vals xs us → r xs H Q →
    wpAny (model X.prog X.w) X.A (call f us) (EP X pins σ Q) X.xe s
noncomputable def tOp (r : R2) (ta tb : TE) : TE := fun σ H Q => ta σ H fun x H1 => tb σ H1 fun y H2 => r x y H2 Q
noncomputable def tUn (r : V → Hp → VK → Prop) (ta : TE) : TE := fun σ H Q => ta σ H fun x H1 => r x H1 Q
/-- ints in, under C, and a value out -/
noncomputable def rI (C : Int → Int → Prop) (g : Int → Int → V) : R2 := fun x y H Q => ∃ i j, x = .int i ∧ y = .int j ∧ C i j ∧ Q (g i j) H
noncomputable def rI0 (g : Int → Int → V) : R2 := fun x y H Q => ∃ i j, x = .int i ∧ y = .int j ∧ Q (g i j) H
noncomputable def rU (g : Int → V) : V → Hp → VK → Prop := fun x H Q => ∃ i, x = .int i ∧ Q (g i) H

section
variable {X : Cx} {a b c : Expr} {ta tb tc : TE} {pos : Pos}

theorem binT (ha : PE X a ta) (hb : PE X b tb) {pins : List (Addr × Obj)} {s : Shared} {σ : St} {H : Hp} {R : V → V → Hp → Prop} (I : Inv X pins σ H s)
    (h : ta σ H fun x H1 => tb σ H1 fun y H2 => R x y H2) {Q : Value → Shared → Prop} {f : Value → Value → Sem Value}
    (hf : ∀ v u s2 x y H2, Inv X pins σ H2 s2 → RelV x v → RelV y u → R x y H2 → wpAny (model X.prog X.w) X.A (f v u) Q X.xe s2) :
    wpAny (model X.prog X.w) X.A (eval a X.env) (fun v s₁ => wpAny (model X.prog X.w) X.A (eval b X.env) (fun u s₂ => wpAny (model X.prog X.w) X.A (f v u) Q X.xe s₂) X.xe s₁) X.xe s := by
  refine thn (ha pins s σ H _ I h) fun v s1 ⟨x, H1, I1, r1, q1⟩ => ?_
  refine thn (hb pins s1 σ H1 _ I1 q1) fun u s2 ⟨y, H2, I2, r2, q2⟩ => ?_
  exact hf v u s2 x y H2 I2 r1 r2 q2

theorem pe_op {op : Operator} {r : R2} (ho : OpR X (binaryOp op) r) (ha : PE X a ta) (hb : PE X b tb) : PE X (.BinOp a op b pos) (tOp r ta tb) := by
  intro pins s σ H Q I h
  exact wpAny_BinOp (binT ha hb I h fun v u s2 x y H2 I2 rx ry q => ho pins s2 σ H2 x y v u Q I2 rx ry q)
theorem pe_un {op : UnaryOp} {r : V → Hp → VK → Prop} (ho : UnR X (unaryOp op) r) (ha : PE X a ta) : PE X (.UnaryOp op a pos) (tUn r ta) := by
  intro pins s σ H Q I h
  exact UnaryOp_ (thn (ha pins s σ H _ I h) fun v s1 ⟨x, H1, I1, r1, q1⟩ => ho pins s1 σ H1 x v Q I1 r1 q1)
/-! ### ints -/
theorem opI {f : Value → Value → Sem Value} {C : Int → Int → Prop} {g : Int → Int → Int}
    (rule : ∀ (i j : Int) (t u : Tok) (s : Shared) (Q : Value → Shared → Prop) (E : Value → Shared → Prop), C i j → Q (.int (g i j) s.toks) { s with toks := s.toks + 1 } → wpAny (model X.prog X.w) X.A (f (.int i t) (.int j u)) Q E s) :
    OpR X f (rI C fun i j => .int (g i j)) := by
  intro pins s σ H x y v u Q I rx ry h
  obtain ⟨i, j, rfl, rfl, hc, q⟩ := h
  obtain ⟨t, rfl⟩ := rx
  obtain ⟨t', rfl⟩ := ry
  exact rule i j t t' s _ _ hc ⟨.int (g i j), H, I.tok _, ⟨_, rfl⟩, q⟩
theorem opI0 {f : Value → Value → Sem Value} {g : Int → Int → Int}
    (rule : ∀ (i j : Int) (t u : Tok) (s : Shared) (Q : Value → Shared → Prop) (E : Value → Shared → Prop), Q (.int (g i j) s.toks) { s with toks := s.toks + 1 } → wpAny (model X.prog X.w) X.A (f (.int i t) (.int j u)) Q E s) :
    OpR X f (rI0 fun i j => .int (g i j)) := by
  intro pins s σ H x y v u Q I rx ry h
  obtain ⟨i, j, rfl, rfl, q⟩ := h
  obtain ⟨t, rfl⟩ := rx
  obtain ⟨t', rfl⟩ := ry
  exact rule i j t t' s _ _ ⟨.int (g i j), H, I.tok _, ⟨_, rfl⟩, q⟩
theorem opB0 {f : Value → Value → Sem Value} {g : Int → Int → Bool}
    (rule : ∀ (i j : Int) (t u : Tok) (s : Shared) (Q : Value → Shared → Prop) (E : Value → Shared → Prop), Q (.bool (g i j)) s → wpAny (model X.prog X.w) X.A (f (.int i t) (.int j u)) Q E s) :
    OpR X f (rI0 fun i j => .bl (g i j)) := by
  intro pins s σ H x y v u Q I rx ry h
  obtain ⟨i, j, rfl, rfl, q⟩ := h
  obtain ⟨t, rfl⟩ := rx
  obtain ⟨t', rfl⟩ := ry
  exact rule i j t t' s _ _ ⟨.bl (g i j), H, I, rfl, q⟩

noncomputable def CPow (i j : Int) : Prop := 0 ≤ j ∧ j ≤ 1000000 ∧ i.natAbs < 2 ^ 64
noncomputable def CMul (i j : Int) : Prop := (-(2 ^ 64) < i ∧ i < 2 ^ 64) ∨ (-(2 ^ 64) < j ∧ j < 2 ^ 64)
theorem CMul.ok {i j : Int} (h : CMul i j) : IntMulOk i j := by
  rcases h with ⟨h1, h2⟩ | ⟨h1, h2⟩
  · exact .of_left (intBits_le_64 h1 h2)
  · exact .of_right (intBits_le_64 h1 h2)
theorem two_pow_nn (k : Nat) : (0 : Int) ≤ 2 ^ k := by
  rw [two_pow_cast]
  exact Int.natCast_nonneg _

theorem op_add : OpR X (binaryOp .Add) (rI0 fun i j => .int (i + j)) := opI0 fun _ _ _ _ _ _ _ q => add_int q
theorem op_sub : OpR X (binaryOp .Sub) (rI0 fun i j => .int (i - j)) := opI0 fun _ _ _ _ _ _ _ q => sub_int q
/-- % by a positive divisor of any size -/
theorem op_mod : OpR X (binaryOp .Mod) (rI (fun _ j => 0 < j) fun i j => .int (i % j)) := opI fun i j _ _ _ _ _ hc q => by
  have h1 : (0 : Int) < j := hc
  exact mod_int' (by omega) (by rw [Int.fmod_eq_emod_of_nonneg i (by omega)]; exact q)
theorem op_pow : OpR X (binaryOp .Pow) (rI CPow fun i j => .int (i ^ j.toNat)) := opI fun _ _ _ _ _ _ _ hc q => pow_int_small hc.1 hc.2.1 hc.2.2 q
theorem op_shl : OpR X (binaryOp .LShift) (rI CPow fun i j => .int (i * 2 ^ j.toNat)) := opI fun _ _ _ _ _ _ _ hc q => lshift_int_small hc.1 hc.2.1 hc.2.2 q
theorem op_shr : OpR X (binaryOp .RShift) (rI (fun _ j => 0 ≤ j) fun i j => .int (i / 2 ^ j.toNat)) := opI fun i j _ _ _ _ _ hc q =>
  rshift_int hc (by rw [Int.fdiv_eq_ediv_of_nonneg i (two_pow_nn _)]; exact q)
theorem unI {f : Value → Sem Value} {g : Int → Int}
    (rule : ∀ (i : Int) (t : Tok) (s : Shared) (Q : Value → Shared → Prop) (E : Value → Shared → Prop), Q (.int (g i) s.toks) { s with toks := s.toks + 1 } → wpAny (model X.prog X.w) X.A (f (.int i t)) Q E s) :
    UnR X f (rU fun i => .int (g i)) := by
  intro pins s σ H x v Q I rx h
  obtain ⟨i, rfl, q⟩ := h
  obtain ⟨t, rfl⟩ := rx
  exact rule i t s _ _ ⟨.int (g i), H, I.tok _, ⟨_, rfl⟩, q⟩
theorem un_neg : UnR X (unaryOp .USub) (rU fun i => .int (-i)) := unI fun _ _ _ _ _ q => neg_int q
/-! ### bools among ints: n += (a < b) -/
end

/-! ### comparisons -/
section
variable {X : Cx} {a b c : Expr} {ta tb tc : TE} {pos : Pos}
theorem op_lt : OpR X (compareOp .Lt) (rI0 fun i j => .bl (decide (i < j))) := opB0 fun _ _ _ _ _ _ _ q => lt_int q
theorem op_le : OpR X (compareOp .LtE) (rI0 fun i j => .bl (decide (i ≤ j))) := opB0 fun _ _ _ _ _ _ _ q => le_int q
theorem op_gt : OpR X (compareOp .Gt) (rI0 fun i j => .bl (decide (j < i))) := opB0 fun _ _ _ _ _ _ _ q => gt_int q
theorem op_ge : OpR X (compareOp .GtE) (rI0 fun i j => .bl (decide (j ≤ i))) := opB0 fun _ _ _ _ _ _ _ q => ge_int q
theorem nomark (b : Expr) {op : CmpOp} (h : op ≠ .In := by decide) (h2 : op ≠ .NotIn := by decide) : behindInMarks op b = false := by
  have e1 : (op == CmpOp.In) = false := by cases op <;> first | rfl | exact absurd rfl h
  have e2 : (op == CmpOp.NotIn) = false := by cases op <;> first | rfl | exact absurd rfl h2
  cases b <;> simp [behindInMarks, e1, e2]
/-- a comparison as a value; hm: nomark b, or (for in, not in) by with_unfolding_all rfl -/
theorem pe_cmpR {op : CmpOp} {r : R2} (ho : OpR X (compareOp op) r) (ha : PE X a ta) (hb : PE X b tb) (hm : behindInMarks op b = false) : PE X (.Compare a [op] [b] pos) (tOp r ta tb) := by
  intro pins s σ H Q I h
  exact wpAny_Compare1 (binT ha hb I h fun v u s2 x y H2 I2 rx ry q => ho pins s2 σ H2 x y v u Q I2 rx ry q) hm
/-- a reading of a value as a test -/
noncomputable def tTest (t : TE) : TT := fun σ H Q => t σ H fun x H' => ∃ k, x = .bl k ∧ Q k H'
theorem pt_cmpR {op : CmpOp} {r : R2} (ho : OpR X (compareOp op) r) (ha : PE X a ta) (hb : PE X b tb) (hm : behindInMarks op b = false) : PT X (.Compare a [op] [b] pos) (tTest (tOp r ta tb)) := by
  intro pins s σ H Q I h
  refine wpAny_isTrue_Compare1 (thn (ha pins s σ H _ I h) fun v s1 ⟨x, H1, I1, r1, q1⟩ => thn (hb pins s1 σ H1 _ I1 q1) fun u s2 ⟨y, H2, I2, r2, q2⟩ =>
    thn (ho pins s2 σ H2 x y v u _ I2 r1 r2 q2) fun c s3 ⟨z, H3, I3, r3, k, e, q3⟩ => ?_) hm
  subst e
  cases r3
  exact wpAny_truthy_bool ⟨H3, I3, q3⟩
/-! ### truth -/
theorem line63 : (sizeLine : Nat) < 2 ^ 63 := by rw [sizeLine_eq]; decide
/-! ### strs and bytes -/
theorem op_add_str : OpR X (binaryOp .Add) (fun x y H Q => ∃ i j, x = .str i ∧ y = .str j ∧ i.length + j.length ≤ sizeLine ∧ Q (.str (i ++ j)) H) := by
  intro pins s σ H x y v u Q I rx ry h
  obtain ⟨i, j, rfl, rfl, hz, q⟩ := h
  obtain ⟨t, rfl⟩ := rx
  obtain ⟨t', rfl⟩ := ry
  exact add_str (fun t' tk => ⟨.str (i ++ j), H, I.tok _, ⟨_, rfl⟩, q⟩) hz
/-! ### scalar builtins, by CallR -/
theorem vals1 {x : V} {us : List Value} (r : Vals [x] us) : ∃ u, us = [u] ∧ RelV x u := by
  cases r with
  | cons r1 r2 => cases r2; exact ⟨_, rfl, r1⟩
theorem vals2 {x y : V} {us : List Value} (r : Vals [x, y] us) : ∃ u w', us = [u, w'] ∧ RelV x u ∧ RelV y w' := by
  cases r with
  | cons r1 r2 =>
    cases r2 with
    | cons r3 r4 => cases r4; exact ⟨_, _, rfl, r1, r3⟩
theorem call_abs : CallR X (.builtin "abs") (fun xs H Q => ∃ i, xs = [.int i] ∧ Q (.int (if i < 0 then -i else i)) H) := by
  intro pins s σ H xs us Q I r h
  obtain ⟨i, rfl, q⟩ := h
  obtain ⟨u, rfl, t, rfl⟩ := vals1 r
  exact call_abs_int fun u tk => ⟨.int (if i < 0 then -i else i), H, I.tok _, ⟨_, rfl⟩, q⟩
theorem call_max2 (hc : X.calm = true) : CallR X (.builtin "max") (fun xs H Q => ∃ i j, xs = [.int i, .int j] ∧ Q (.int (if j > i then j else i)) H) := by
  intro pins s σ H xs us Q I r h
  obtain ⟨i, j, rfl, q⟩ := h
  obtain ⟨u, w', rfl, ⟨t, rfl⟩, ⟨t', rfl⟩⟩ := vals2 r
  refine max_two_ints (I.ok.hd hc) fun h' tk k => ⟨_, H, I.kept k, ?_, q⟩
  by_cases hj : j > i
  · rw [if_pos hj, if_pos hj]; exact ⟨_, rfl⟩
  · rw [if_neg hj, if_neg hj]; exact ⟨_, rfl⟩
theorem call_min2 (hc : X.calm = true) : CallR X (.builtin "min") (fun xs H Q => ∃ i j, xs = [.int i, .int j] ∧ Q (.int (if j < i then j else i)) H) := by
  intro pins s σ H xs us Q I r h
  obtain ⟨i, j, rfl, q⟩ := h
  obtain ⟨u, w', rfl, ⟨t, rfl⟩, ⟨t', rfl⟩⟩ := vals2 r
  refine min_two_ints (I.ok.hd hc) fun h' tk k => ⟨_, H, I.kept k, ?_, q⟩
  by_cases hj : j < i
  · rw [if_pos hj, if_pos hj]; exact ⟨_, rfl⟩
  · rw [if_neg hj, if_neg hj]; exact ⟨_, rfl⟩
theorem call_int1 : CallR X (.type "int") (fun xs H Q => (∃ i, xs = [.int i] ∧ Q (.int i) H) ∨ ∃ k, xs = [.bl k] ∧ Q (.int (if k then 1 else 0)) H) := by
  intro pins s σ H xs us Q I r h
  rcases h with ⟨i, rfl, q⟩ | ⟨k, rfl, q⟩
  · obtain ⟨u, rfl, t, rfl⟩ := vals1 r
    exact call_int_int ⟨.int i, H, I, ⟨_, rfl⟩, q⟩
  · obtain ⟨u, rfl, r1⟩ := vals1 r
    cases r1
    exact call_int_bool ⟨.int (if k then 1 else 0), H, I.tok _, ⟨_, rfl⟩, q⟩
end
end L2
end

noncomputable section
namespace L2
open PySem PySem.Spec PyProof.Rows

/-! ### an instance, its attributes a map -/
structure ObjM (h : Heap) (x dx C : Addr) (mA : Str → Option Value) : Prop where
  obj : h.get? x = some (PySem.W.instObj C dx)
  ns : h.Ns1 dx mA
  ne : dx ≠ x

theorem lookIn_ns {h : Heap} {dx : Addr} {mA : Str → Option Value} (n : h.Ns1 dx mA) : ∃ od, h.get? dx = some od ∧ ∀ name, PySem.W.lookIn name od = some (mA name) := by
  obtain ⟨o, es, ep, ho, hd, hk, _, hm⟩ := n
  refine ⟨o, ho, fun name => ?_⟩
  have e := hm name
  unfold nsFind findBy at e
  rw [← Array.find?_toList] at e
  unfold PySem.W.lookIn
  rw [hd]
  dsimp only
  split
  · rename_i y q
    rw [q] at e
    exact congrArg some e
  · rename_i q
    rw [q] at e
    have a : es.toList.any (·.refKey) = false := by
      rw [List.any_eq_false]
      intro y hy
      obtain ⟨z, t, hkey⟩ := hk y (Array.mem_toList_iff.mp hy)
      simp [DictEntry.refKey, hkey]
    have a' : ¬ es.toList.any (·.refKey) = true := by rw [a]; exact Bool.false_ne_true
    rw [if_neg a']
    exact congrArg some e

theorem ObjM.look {h : Heap} {x dx C : Addr} {mA : Str → Option Value} (I : ObjM h x dx C mA) : ∃ od, PySem.W.InstAt h x (PySem.W.instObj C dx) C (some od) ∧ ∀ name, PySem.W.lookIn name od = some (mA name) :=
  let ⟨od, ho, hl⟩ := lookIn_ns I.ns
  ⟨od, ⟨I.obj, rfl, rfl, ho⟩, hl⟩

section
variable {prog : Program} {w : World} {A : Around} {E : Value → Shared → Prop} {s : Shared} {K : PySem.W.Frag} {x dx C f : Addr} {mA : Str → Option Value} {name : Str} {v : Value}

end

/-! ### the attributes as a list of pairs -/
section
variable {P : Program} {w : World} {H H' : Hp} {h h' : Heap} {a C dx : Addr} {fs fs' : List (Str × V)}
theorem ins_get (hok : HOk P w H h) (e : H a = some (.ins C dx fs)) : ∃ mA, ObjM h a dx C mA ∧ (∀ f, RelO (fs.lookup f) (mA f)) ∧ PySem.Within mA (fs.map (·.1)) ∧ fs.length ≤ 1000 ∧ H dx = some (.own a) := by
  obtain ⟨d, z, ne, ob, mA, n, r, q⟩ := (show ObjOk P w H h a (.ins C dx fs) from hok a _ e)
  exact ⟨mA, ⟨ob, n, ne⟩, r, q, z, d⟩
end

/-! ### what of the text a class must have -/
structure Cls (K : PySem.W.Frag) (C : Addr) : Prop where
  pg : PySem.W.plainGet K C Str.empty = true
  hd : PySem.W.hasDictIn K C = true
  po : PySem.W.plainOver K C = true
  sa : PySem.W.findIn K (.ref C) "__setattr__" = some (some (.builtin "object.__setattr__"))
theorem Cls.get {K : PySem.W.Frag} {C : Addr} (c : Cls K C) (f : Str) : PySem.W.plainGet K C f = true := c.pg
section
variable {X : Cx} {pins : List (Addr × Obj)} {σ : St} {H : Hp} {s : Shared} {a C dx : Addr} {fs : List (Str × V)} {f : Str} {v : V} {A : Around} {E : Value → Shared → Prop}

end

/-! ### readings and rules -/
section
variable {X : Cx} {o e value : Expr} {f : Str} {pos pos' tpos : Pos} {ta tv : TE}
end

/-! ### isinstance -/
section
variable {X : Cx} {pins : List (Addr × Obj)} {σ : St} {H : Hp} {s : Shared} {A : Around} {E : Value → Shared → Prop} {Q : Value → Shared → Prop} {c : Value} {b : Bool}
/-- the type of a value, as the fragment's deciders take it; for an instance its class -/
inductive TyOf (K : PySem.W.Frag) (H : Hp) : V → Value → Prop where
  | non : TyOf K H .non (.type "NoneType")
  | bl (x : Bool) : TyOf K H (.bl x) (.type "bool")
  | int (i : Int) : TyOf K H (.int i) (.type "int")
  | str (x : Str) : TyOf K H (.str x) (.type "str")
  | flt (x : UInt64) : TyOf K H (.flt x) (.type "float")
  | lst {a : Addr} {xs : List V} (e : H a = some (.lst xs)) : TyOf K H (.ref a) (.type "list")
  | frz {a : Addr} {o : Obj} {xs : List V} (e : H a = some (.frz o (.lst xs))) : TyOf K H (.ref a) (.type "list")
  | tup {a : Addr} {xs : List V} (e : H a = some (.tup xs)) : TyOf K H (.ref a) (.type "tuple")
  | dK {a : Addr} {kvs : List (Key × V)} (e : H a = some (.dK kvs)) : TyOf K H (.ref a) (.type "dict")
  | dT {a : Addr} {kvs : List (List Key × V)} (e : H a = some (.dT kvs)) : TyOf K H (.ref a) (.type "dict")
  | ins {a C dx : Addr} {fs : List (Str × V)} (e : H a = some (.ins C dx fs)) (cl : Cls K C) (ha : PySem.W.findIn K (.ref C) "__class__" = some (some (.builtin "object.__class__")))
      (hn : PySem.W.specialIn K (.builtin "object.__class__") "__get__" = some (some (.builtin "getset_descriptor.__get__"))) (htk : PySem.W.takesIn K (.builtin "object.__class__") = some true)
      (hm : PySem.W.mroIn K C (.type "object") = some true) : TyOf K H (.ref a) (.ref C)
/-- isinstance(x, c) for one class c, a built-in or an own one: kitOne's answer -/
theorem isinst_ok {x : V} {u t : Value} (I : Inv X pins σ H s) (rx : RelV x u) (ty : TyOf X.K H x t) (e : PySem.W.kitOne X.K t c = some b) (h : ∀ tk, Q (.bool b) { s with toks := tk }) :
    wpAny (model X.prog X.w) A (call (.builtin "isinstance") [u, c]) Q E s := by
  cases ty with
  | non => cases (show u = Value.none from rx); exact PySem.W.kia_one PySem.W.kitx_none I.kIn True.intro e (fun z => nomatch z) h
  | bl y => cases (show u = Value.bool y from rx); exact PySem.W.kia_one PySem.W.kitx_bool I.kIn True.intro e (fun z => nomatch z) h
  | int i => obtain ⟨t, q⟩ := (show ∃ t, u = Value.int i t from rx); cases q; exact PySem.W.kia_one PySem.W.kitx_int I.kIn True.intro e (fun z => nomatch z) h
  | str y => obtain ⟨t, q⟩ := (show ∃ t, u = Value.str y t from rx); cases q; exact PySem.W.kia_one PySem.W.kitx_str I.kIn True.intro e (fun z => nomatch z) h
  | flt y => obtain ⟨t, q⟩ := (show ∃ t, u = Value.float y t from rx); cases q; exact PySem.W.kia_one PySem.W.kitx_float I.kIn True.intro e (fun z => nomatch z) h
  | @lst a xs ea =>
    cases (show u = Value.ref a from rx)
    obtain ⟨_, _, n, _, h1⟩ := (show ObjOk X.prog X.w H s.heap a (.lst xs) from I.hok a _ ea)
    exact PySem.W.kia_one PySem.W.kitx_list I.kIn ⟨_, h1, rfl⟩ e (fun z => nomatch z) h
  | @frz a ob xs ea =>
    cases (show u = Value.ref a from rx)
    obtain ⟨_, _, _, n, _, h1⟩ := (show ObjOk X.prog X.w H s.heap a (.frz ob (.lst xs)) from I.hok a _ ea)
    exact PySem.W.kia_one PySem.W.kitx_list I.kIn ⟨_, h1, rfl⟩ e (fun z => nomatch z) h
  | @tup a xs ea =>
    cases (show u = Value.ref a from rx)
    obtain ⟨_, _, _, p⟩ := (show ObjOk X.prog X.w H s.heap a (.tup xs) from I.hok a _ ea)
    obtain ⟨o, h1, h2, _⟩ := p
    exact PySem.W.kia_one PySem.W.kitx_tuple I.kIn ⟨o, h1, h2⟩ e (fun z => nomatch z) h
  | @dK a kvs ea =>
    cases (show u = Value.ref a from rx)
    obtain ⟨_, _, vs, _, p⟩ := (show ObjOk X.prog X.w H s.heap a (.dK kvs) from I.hok a _ ea)
    obtain ⟨o, es, ep, h1, h2, _⟩ := p
    exact PySem.W.kia_one PySem.W.kitx_dict I.kIn ⟨o, h1, h2.1⟩ e (fun z => nomatch z) h
  | @dT a kvs ea =>
    cases (show u = Value.ref a from rx)
    obtain ⟨_, _, xs, _, o, es, ep, h1, h2, _⟩ := (show ObjOk X.prog X.w H s.heap a (.dT kvs) from I.hok a _ ea)
    exact PySem.W.kia_one PySem.W.kitx_dict I.kIn ⟨o, h1, h2.1⟩ e (fun z => nomatch z) h
  | @ins a C dx fs ea cl ha hn htk hm =>
    cases (show u = Value.ref a from rx)
    obtain ⟨mA, O, _⟩ := ins_get I.hok ea
    obtain ⟨od, J, _⟩ := O.look
    exact PySem.W.kia_one (PySem.W.kitx_own (cl.get _) cl.hd ha hn htk hm) I.kIn J e (fun z => nomatch z) h
end
end L2
end

noncomputable section
namespace L2
open PySem PySem.Spec PyProof.Rows

/-! ### room -/
structure Room (k : Nat) (A : Around) : Prop where
  hd : A.handled = none
  dp : A.depth + 3 * k + 5 < recursionLimit
  un : A.units + 16 * k + 200 < cLine
theorem Room.mono {j k : Nat} {A : Around} (r : Room k A) (h : j ≤ k) : Room j A := ⟨r.hd, by have := r.dp; omega, by have := r.un; omega⟩
theorem Room.deeper {k : Nat} {A : Around} (r : Room (k + 1) A) (env : Env) : Room k (A.deeper env) :=
  ⟨r.hd, by have := r.dp; show A.depth + 1 + 3 * k + 5 < _; omega, by have := r.un; show A.units + 3 + 16 * k + 200 < _; omega⟩
theorem Room.in1 {k : Nat} {A : Around} (r : Room (k + 1) A) : Room k A.in1 :=
  ⟨r.hd, by have := r.dp; show A.depth + 3 * k + 5 < _; omega, by have := r.un; show A.units + 1 + 16 * k + 200 < _; omega⟩
theorem Room.depth {k : Nat} {A : Around} (r : Room k A) : A.depth < recursionLimit := by have := r.dp; omega
theorem Room.units0 {k : Nat} {A : Around} (r : Room k A) : A.units < cLine := by have := r.un; omega

/-! ### argument lists and displays -/
noncomputable def tNil : TA := fun _ H Q => Q [] H
noncomputable def tCons (ta : TE) (tr : TA) : TA := fun σ H Q => ta σ H fun x H1 => tr σ H1 fun xs H2 => Q (x :: xs) H2
section
variable {X : Cx} {e : Expr} {es : List Expr} {te : TE} {t : TA} {pos : Pos}
theorem pa_nil : PA X [] tNil := fun _ _ _ _ H Q I h => Calls.spliced_nil ⟨[], H, I, .nil, h⟩
theorem pa_cons (ha : PE X e te) (hr : PA X es t) (hs : starEach (e :: es) X.env = (false, eval e X.env) :: starEach es X.env := by rfl) : PA X (e :: es) (tCons te t) := by
  intro pos pins s σ H Q I h
  rw [hs]
  show wpAny _ _ (spliced ((false, eval e X.env) :: backTo pos (starEach es X.env))) _ _ s
  refine Calls.spliced_cons (thn (ha pins s σ H _ I h) fun u s1 ⟨x, H1, I1, r1, q1⟩ => ?_)
  exact thn (hr pos pins s1 σ H1 _ I1 q1) fun us s2 ⟨xs, H2, I2, r2, q2⟩ => ⟨x :: xs, H2, I2, .cons r1 r2, q2⟩

/-- a tuple, a list of written items -/
noncomputable def tTup (t : TA) : TE := fun σ H Q => t σ H fun xs H1 => xs.length ≤ sizeLine ∧ ∀ p, H1 p = none → Q (.ref p) (upd H1 p (.tup xs))
noncomputable def tLst (t : TA) : TE := fun σ H Q => t σ H fun xs H1 => xs.length ≤ sizeLine ∧ ∀ p, H1 p = none → Q (.ref p) (upd H1 p (.lst xs))
theorem pe_tup {x1} (h : PA X es t) : PE X (.Tuple es x1 pos) (tTup t) := by
  intro pins s σ H Q I hq
  refine wpAny_Tuple_spliced (thn (h pos pins s σ H _ I hq) fun us s1 ⟨xs, H1, I1, r, z, q⟩ => ⟨by rw [← r.length]; exact z, ?_⟩)
  have hf : H1 s1.heap.objs.size = none := I1.hok.fresh (Nat.le_refl _)
  refine ⟨.ref s1.heap.objs.size, upd H1 s1.heap.objs.size (.tup xs), I1.laid (t' := s1.toks) (fun b u e => Heap.get?_push_of_some _ e) (Nat.le_refl _) ?_, rfl, q _ hf⟩
  exact ⟨z, us, r, ⟨_, Heap.get?_push_size _ rfl, rfl, _, rfl⟩⟩
theorem pe_lst (h : PA X es t) : PE X (.List es pos) (tLst t) := by
  intro pins s σ H Q I hq
  refine wpAny_List_spliced (thn (h pos pins s σ H _ I hq) fun us s1 ⟨xs, H1, I1, r, z, q⟩ => ⟨by rw [← r.length]; exact z, ?_⟩)
  have hf : H1 s1.heap.objs.size = none := I1.hok.fresh (Nat.le_refl _)
  refine ⟨.ref s1.heap.objs.size, upd H1 s1.heap.objs.size (.lst xs), I1.laid (t' := s1.toks) (fun b u e => Heap.get?_push_of_some _ e) (Nat.le_refl _) ?_, rfl, q _ hf⟩
  exact ⟨z, us, 0, r, Heap.get?_push_size _ rfl⟩
end

/-! ### what a def promises -/
/-- a def's promise: the bound arguments in the parameters' order, the heap, the wanted end, the wanted exception -/
noncomputable abbrev Sp := List V → Hp → VK → XK → Prop
/-- how an exception lies behind a call (file 08 gives it): the callers' frames, abstract heap and state ahead of the call, the wish, the exception, the state -/
noncomputable abbrev CXT := List Env → Hp → Shared → XK → Value → Shared → Prop

/-- the state at a call -/
structure Env0 (P : Program) (w : World) (K : PySem.W.Frag) (mg : Str → Option Value) (base : Heap) (A : Around) (outer : List Env) (s : Shared) (H : Hp) : Prop where
  frames : A.frames = some outer
  mod : Mod K mg base
  bs : ∀ b o, base.get? b = some o → s.heap.get? b = some o ∧ H b = none
  bsz : base.objs.size ≤ s.heap.objs.size
  funs : s.heap.FunFrames base outer
  frf : ∀ b ∈ frs outer, H b = none
  hok : HOk P w H s.heap
  bare : AllBare s.gens
/-- a call's end -/
noncomputable def CE (outer : List Env) (P : Program) (w : World) (H : Hp) (s : Shared) (Q : VK) (u : Value) (s' : Shared) : Prop :=
  ∃ v H', s'.os = s.os ∧ AllBare s'.gens ∧ Un (frs outer) [] H H' s.heap s'.heap ∧ HOk P w H' s'.heap ∧ RelV v u ∧ Q v H'
noncomputable def CR (CX : CXT) (outer : List Env) (P : Program) (w : World) (H : Hp) (s : Shared) (Q : VK) (E : XK) (r : Result) (s' : Shared) : Prop :=
  match r with
  | .ok (.ret u) => CE outer P w H s Q u s'
  | .ok _ => False
  | .error e => CX outer H s E e s'
structure FnOk (P : Program) (w : World) (K : PySem.W.Frag) (mg : Str → Option Value) (base : Heap) (CX : CXT) (k : Nat) (f : Addr) (fd : FuncData) (ps : List Str) (sp : Sp) : Prop where
  len : ∀ vs H Q E, sp vs H Q E → vs.length = ps.length
  run : ∀ (A : Around) (outer : List Env) (s : Shared) (H : Hp) (args : Args) (us : List Value) (vs : List V) (Q : VK) (E : XK), Room k A → Env0 P w K mg base A outer s H → BindsTo s fd args (ps.zip us) → Vals vs us → sp vs H Q E →
    codeAny (model P w) A (.call (.ref f) args) (CR CX outer P w H s Q E) s
/-- a weaker promise -/
theorem FnOk.imp {P : Program} {w : World} {K : PySem.W.Frag} {mg : Str → Option Value} {base : Heap} {CX : CXT} {k : Nat} {f : Addr} {fd : FuncData} {ps : List Str} {sp sp' : Sp} (F : FnOk P w K mg base CX k f fd ps sp)
    (h : ∀ vs H Q E, sp' vs H Q E → sp vs H Q E) : FnOk P w K mg base CX k f fd ps sp' :=
  ⟨fun vs H Q E q => F.len vs H Q E (h _ _ _ _ q), fun A outer s H args us vs Q E hr he hb hv hs => F.run A outer s H args us vs Q E hr he hb hv (h _ _ _ _ hs)⟩

section
variable {X : Cx} {pins : List (Addr × Obj)} {σ : St} {H : Hp} {s s' : Shared}
/-- from a body: what a callee wants -/
theorem Inv.env0 (I : Inv X pins σ H s) : Env0 X.prog X.w X.K X.mg X.base X.A X.stack s H :=
  ⟨I.ok.frames, I.ok.mod, I.bs, Nat.le_trans I.ok.bsz I.sz, I.stack, I.stkFree, I.hok, I.bare⟩
/-- behind a call -/
theorem Inv.after {Q : VK} {u : Value} (I : Inv X pins σ H s) (h : CE X.stack X.prog X.w H s Q u s') : EP X pins σ Q u s' := by
  obtain ⟨v, H', os, bare, un, hok, r, q⟩ := h
  obtain ⟨hh, g, d, t, os'⟩ := s'
  obtain rfl : os' = s.os := os
  exact ⟨v, H', I.call (h' := hh) (g' := g) (d' := d) (t' := t) (ch := []) un hok bare (fun b z => absurd z (by simp)), r, q⟩
end

/-! ### calls -/
/-- f(..): the written arguments, then the defaults dvs; E: what is wanted of an exception -/
noncomputable def tCall (sp : Sp) (dvs : List V) (E : XK) (t : TA) : TE := fun σ H Q => t σ H fun vs H1 => sp (vs ++ dvs) H1 Q E
/-- how the parameters are bound: us the positional arguments, kw the keywords' values by name, ds the defaults that fill up -/
noncomputable def Binds (K : PySem.W.Frag) (fd : FuncData) (ps : List Str) (ds : List Value) : Prop :=
  ∀ (s : Shared) (us : List Value), K.In s.heap → (us ++ ds).length = ps.length → BindsTo s fd ⟨us, []⟩ (ps.zip (us ++ ds))
/-- every parameter is given -/
theorem Binds.all {K : PySem.W.Frag} {fd : FuncData} {ps : List Str} (h : ∀ us : List Value, us.length = ps.length → bindArgs fd ⟨us, []⟩ = pure (ps.zip us)) : Binds K fd ps [] := fun s us _ hl => by
  rw [List.append_nil] at hl ⊢
  exact .of_eq (h us hl)

/-- an exception of a callee reaches what this body wants of exceptions -/
noncomputable def Passes (CX : CXT) (X : Cx) (E : XK) : Prop := ∀ (pins : List (Addr × Obj)) (σ : St) (H : Hp) (s : Shared) (e : Value) (s' : Shared), Inv X pins σ H s → CX X.stack H s E e s' → X.xe e s'

section
variable {X : Cx} {CX : CXT} {k : Nat} {f C : Addr} {fd : FuncData} {ps : List Str} {sp : Sp} {dvs : List V} {ds : List Value} {E : XK} {x m : Str} {p pos apos : Pos} {e o : Expr} {es : List Expr} {ta : TE} {t : TA}

/-- the callee runs -/
theorem run_fn {pins : List (Addr × Obj)} {σ : St} {H : Hp} {s : Shared} {Q : VK} {us : List Value} {vs : List V} (F : FnOk X.prog X.w X.K X.mg X.base CX k f fd ps sp) (hr : Room k X.A) (hb : Binds X.K fd ps ds) (hd : Vals dvs ds) (hx : Passes CX X E)
    (I : Inv X pins σ H s) (r : Vals vs us) (h : sp (vs ++ dvs) H Q E) : wpAny (model X.prog X.w) X.A (call (.ref f) us) (EP X pins σ Q) X.xe s := by
  have r2 : Vals (vs ++ dvs) (us ++ ds) := r.append hd
  have hl : (us ++ ds).length = ps.length := by rw [← r2.length]; exact F.len _ _ _ _ h
  refine wpAny_call (codeAny_mono (F.run X.A X.stack s H ⟨us, []⟩ (us ++ ds) (vs ++ dvs) Q E hr I.env0 (hb s us I.kIn hl) r2 h) fun r s' hq => ?_)
  cases r with
  | error e => exact hx pins σ H s e s' I hq
  | ok fl =>
    cases fl with
    | ret u => exact I.after hq
    | next => exact False.elim hq
    | brk => exact False.elim hq
    | cont => exact False.elim hq

theorem pe_call (F : FnOk X.prog X.w X.K X.mg X.base CX k f fd ps sp) (hr : Room k X.A) (hg : Gl X x) (hm : X.mg x = some (.ref f)) (hk : PySem.W.keepIn X.K (.ref f) = true) (hb : Binds X.K fd ps ds) (hd : Vals dvs ds) (hx : Passes CX X E)
    (ha : PA X (e :: es) t) (hdb : (x == ("__debug__" : Str)) = false := by decide) (he : starEach (e :: es) X.env = (false, eval e X.env) :: starEach es X.env := by rfl) (hpl : (backTo pos (starEach es X.env)).any (·.1) = false := by rfl) :
    PE X (.Call (.Name x p) (e :: es) [] pos) (tCall sp dvs E t) := by
  intro pins s σ H Q I h
  refine wpAny_Call_Name_kw (ld_glob I hg hm ?_ hdb)
  refine PySem.W.callWith_K (h₀ := X.base) I.ok.mod.kin hk (thn (ha pos pins s σ H _ I h) fun us s1 ⟨vs, H1, I1, r, q⟩ => ⟨I1.kIn, ?_⟩) he hpl
  exact run_fn F hr hb hd hx I1 r q
theorem pe_call0 (F : FnOk X.prog X.w X.K X.mg X.base CX k f fd ps sp) (hr : Room k X.A) (hg : Gl X x) (hm : X.mg x = some (.ref f)) (hk : PySem.W.keepIn X.K (.ref f) = true) (hb : Binds X.K fd ps ds) (hd : Vals dvs ds) (hx : Passes CX X E)
    (hdb : (x == ("__debug__" : Str)) = false := by decide) : PE X (.Call (.Name x p) [] [] pos) (tCall sp dvs E tNil) := by
  intro pins s σ H Q I h
  refine wpAny_Call_Name_kw (ld_glob I hg hm ?_ hdb)
  exact PySem.W.callWith_K0 I.kIn hk (run_fn (us := []) F hr hb hd hx I .nil h)

/-- what a class must have to be made -/
structure Mk (K : PySem.W.Frag) (C f : Addr) : Prop where
  makes : PySem.W.makesIn K C = true
  init : PySem.W.findIn K (.ref C) "__init__" = some (some (.ref f))
  fn : PySem.W.isFn K (.ref f) = true
  kp : PySem.W.keepIn K (.ref C) = true

end

/-! ### keywords -/
section
variable {X : Cx} {CX : CXT} {k : Nat} {f C : Addr} {fd : FuncData} {ps ks : List Str} {sp : Sp} {E : XK} {x m : Str} {p pos apos kpos : Pos} {e o : Expr} {es : List Expr} {kws : List Keyword} {te ta : TE} {t tk : TA} {nm : Option Str}
variable {g : List Value → List Value → List Value} {gV : List V → List V → List V}
end

/-! ### a def's body keeps its promise -/
/-- names: the parameters first -/
structure FnScope (N P : List Str) (sc : Scope) : Prop where
  kind : sc.kind = .function
  co : sc.isCoroutine = false
  gen : sc.isGenerator = false
  nd : N.Nodup
  pre : N.take P.length = P
  par : ∀ x ∈ P, sc.names.lookup x = some .local ∨ sc.names.lookup x = some .cell
  nofree : ∀ y ∈ sc.names, y.2 ≠ .free

theorem bindL_out {kindOf : Str → Option NameKind} {x : Str} : ∀ {binds : List (Str × Value)} {m : Str → Option Value}, (∀ v, (x, v) ∉ binds) → bindL kindOf binds m x = m x
  | [], _, _ => rfl
  | (n, v) :: r, m, h => by
    unfold bindL
    rw [bindL_out fun w hw => h w (List.mem_cons_of_mem _ hw)]
    split
    · have : x ≠ n := by rintro rfl; exact h v List.mem_cons_self
      simp [this]
    · rfl
theorem bindC_out {kindOf : Str → Option NameKind} {x : Str} : ∀ {binds : List (Str × Value)} {m : Str → Option Value}, (∀ v, (x, v) ∉ binds) → bindC kindOf binds m x = m x
  | [], _, _ => rfl
  | (n, v) :: r, m, h => by
    unfold bindC
    rw [bindC_out fun w hw => h w (List.mem_cons_of_mem _ hw)]
    split
    · rfl
    · have : x ≠ n := by rintro rfl; exact h v List.mem_cons_self
      simp [this]
theorem bindL_get {kindOf : Str → Option NameKind} {x : Str} {v : Value} : ∀ {P : List Str} {vs : List Value} {i : Nat} {m : Str → Option Value}, P.Nodup → P[i]? = some x → vs[i]? = some v → kindOf x = some .local →
    bindL kindOf (P.zip vs) m x = some v
  | [], _, _, _, _, h, _, _ => by simp at h
  | _ :: _, [], _, _, _, _, h, _ => by simp at h
  | p :: P, w :: vs, 0, m, nd, h1, h2, hk => by
    simp at h1 h2; subst h1; subst h2
    show bindL kindOf ((p, w) :: P.zip vs) m p = _
    unfold bindL
    rw [bindL_out fun v hv => (List.nodup_cons.mp nd).1 (List.of_mem_zip hv).1, if_pos hk]
    simp
  | p :: P, w :: vs, i + 1, m, nd, h1, h2, hk => by
    show bindL kindOf ((p, w) :: P.zip vs) m x = _
    unfold bindL
    exact bindL_get (i := i) (List.nodup_cons.mp nd).2 (by simpa using h1) (by simpa using h2) hk
theorem bindC_get {kindOf : Str → Option NameKind} {x : Str} {v : Value} : ∀ {P : List Str} {vs : List Value} {i : Nat} {m : Str → Option Value}, P.Nodup → P[i]? = some x → vs[i]? = some v → kindOf x ≠ some .local →
    bindC kindOf (P.zip vs) m x = some v
  | [], _, _, _, _, h, _, _ => by simp at h
  | _ :: _, [], _, _, _, _, h, _ => by simp at h
  | p :: P, w :: vs, 0, m, nd, h1, h2, hk => by
    simp at h1 h2; subst h1; subst h2
    show bindC kindOf ((p, w) :: P.zip vs) m p = _
    unfold bindC
    rw [bindC_out fun v hv => (List.nodup_cons.mp nd).1 (List.of_mem_zip hv).1, if_neg hk]
    simp
  | p :: P, w :: vs, i + 1, m, nd, h1, h2, hk => by
    show bindC kindOf ((p, w) :: P.zip vs) m x = _
    unfold bindC
    exact bindC_get (i := i) (List.nodup_cons.mp nd).2 (by simpa using h1) (by simpa using h2) hk

/-- the names' values at the entry -/
noncomputable def start (N : List Str) (vs : List V) : St := vs.map some ++ List.replicate (N.length - vs.length) none

/-- the context of a def's body, at its entry; an exception leaves the frame, then lies as CX says -/
noncomputable def cxOf (CX : CXT) (P : Program) (w : World) (K : PySem.W.Frag) (mg : Str → Option Value) (base : Heap) (N : List Str) (qual : Str) (scope : Scope) (f : Addr) (cd : Value) (A : Around) (outer : List Env) (s : Shared) (H : Hp) (E : XK) : Cx where
  prog := P
  w := w
  K := K
  mg := mg
  base := base
  A := A.deeper (envOfC qual scope s.heap.objs.size f cd)
  N := N
  s₀ := s
  H₀ := H
  env := envOfC qual scope s.heap.objs.size f cd
  outer := outer
  stack := envOfC qual scope s.heap.objs.size f cd :: outer
  ex := []
  calm := true
  fn := fun _ => true
  pn := []
  xe := fun e s' => wpAny (model P w) (A.deeper (envOfC qual scope s.heap.objs.size f cd)) (leaving (envOfC qual scope s.heap.objs.size f cd) e) (fun _ s'' => CX outer H s E e s'') (fun e' s'' => CX outer H s E e' s'') s'

theorem cell_has {sc : Scope} {n : Nat} {x : Str} (h : sc.names.lookup x = some .cell) : ∃ c, (cellsFrom n sc.names []).lookup x = some c := by
  have q := PySem.W.cellsFrom_some sc.names n [] (.inl h)
  exact Option.isSome_iff_exists.mp q

theorem inv_start {CX : CXT} {P : Program} {w : World} {K : PySem.W.Frag} {mg : Str → Option Value} {base : Heap} {N ps : List Str} {qual : Str} {scope : Scope} {f : Addr} {cd : Value} {A : Around} {outer : List Env} {s s1 : Shared} {H : Hp} {E : XK} {us : List Value} {vs : List V}
    (S : FnScope N ps scope) (hd : A.handled = none) (e0 : Env0 P w K mg base A outer s H) (hl : vs.length = ps.length) (r : Vals vs us)
    (x : InCallC s s.heap.objs.size (bindL (envOfC qual scope s.heap.objs.size f cd).kindOf (ps.zip us) fun _ => none) (cellsFrom (s.heap.objs.size + 1) scope.names []) (bindC (envOfC qual scope s.heap.objs.size f cd).kindOf (ps.zip us) fun _ => none) s1) :
    Inv (cxOf CX P w K mg base N qual scope f cd A outer s H E) [] (start N vs) H s1 := by
  have hpl : ps.length ≤ N.length := by have := congrArg List.length S.pre; rw [List.length_take] at this; omega
  obtain ⟨h1, tk, rfl, hk⟩ := x.done
  have noA : ∀ b : Addr, b ∉ (cxOf CX P w K mg base N qual scope f cd A outer s H E).ex := fun b z => absurd (show b ∈ ([] : List Addr) from z) (by simp)
  refine ⟨⟨e0.mod, S.kind, rfl, rfl, Nat.le_refl _, fun y z c h1 h2 => ?_, fun y hy => ?_, fun y c _ h => ?_, fun _ => hd, Around.frames_deeper e0.frames, .inr ⟨rfl, rfl⟩, fun b z => absurd z (noA b), e0.bs, e0.bsz, fun b _ _ => noA b, fun b z => absurd z (noA b), e0.funs, e0.frf⟩,
    rfl, e0.bare, Un.kept hk, ⟨_, x.toInCall.ns, fun i y v h1 h2 h3 => ?_⟩, fun y c h => ⟨_, x.cell y c h⟩, e0.hok.fresh (Nat.le_refl _), fun y c h => ?_, fun p hp => absurd (show p ∈ ([] : List (Addr × Obj)) from hp) (by simp), e0.hok.kept hk, ?_⟩
  · exact name_of_addr x.apart (PySem.mem_of_lookup h1) (PySem.mem_of_lookup h2)
  · have hy : scope.names.lookup y = some .cell ∨ scope.names.lookup y = some .free := hy
    rcases hy with hy | hy
    · exact cell_has hy
    · exact absurd rfl (S.nofree _ (PySem.mem_of_lookup hy))
  · exact Nat.le_of_lt (x.above y c (PySem.mem_of_lookup h))
  · have hi : i < vs.length := by
      unfold start at h2
      by_cases hi : i < vs.length
      · exact hi
      · rw [List.getElem?_append_right (by simpa using hi)] at h2
        rw [List.getElem?_replicate] at h2
        split at h2 <;> cases h2
    have ha : vs[i]? = some v := by
      unfold start at h2
      rw [List.getElem?_append_left (by simpa using hi), List.getElem?_map] at h2
      cases e : vs[i]? with
      | none => rw [e] at h2; cases h2
      | some a => rw [e] at h2; cases h2; rfl
    obtain ⟨u, hu, rv⟩ := r.get ha
    have hp : ps[i]? = some y := by
      rw [← S.pre, List.getElem?_take_of_lt (by omega)]; exact h1
    have ndP : ps.Nodup := by rw [← S.pre]; exact S.nd.sublist (List.take_sublist _ _)
    refine ⟨u, rv, ?_⟩
    rcases S.par y (List.mem_of_getElem? hp) with k | k
    · exact .inl ⟨k, bindL_get ndP hp hu k⟩
    · obtain ⟨c, e⟩ := cell_has (n := s.heap.objs.size + 1) k
      refine .inr ⟨.inl k, c, e, ?_⟩
      have q := x.cell y c e
      rw [bindC_get ndP hp hu (by show scope.names.lookup y ≠ _; rw [k]; decide)] at q
      exact q
  · exact e0.hok.fresh (Nat.le_of_lt (x.above y c (PySem.mem_of_lookup h)))
  · unfold start
    show _ = N.length
    rw [List.length_append, List.length_map, List.length_replicate]
    omega

/-- THE RULE: a def (or a method) of the text, by its body. The body's reading t is chosen for each entry; it is run at the parameters' values -/
theorem fn_of {CX : CXT} {P : Program} {w : World} {K : PySem.W.Frag} {mg : Str → Option Value} {base : Heap} {k : Nat} {f : Addr} {name qual : Str} {params : Arguments} {body : List Stmt} {scope : Scope} {dV kV doc pm cdv ct oc : Value} {an od : Option Addr}
    {osl : Array (Option Value)} {N ps : List Str} {sp : Sp} (lk : K.lookup f = some ⟨oc, od, .func (PySem.W.fnOf name qual params body scope dV kV doc pm an cdv ct), osl⟩) (hcd : PySem.W.codeIn K cdv qual = true) (S : FnScope N ps scope)
    (len : ∀ vs H Q E, sp vs H Q E → vs.length = ps.length)
    (hbody : ∀ (A : Around) (outer : List Env) (s : Shared) (H : Hp) (vs : List V) (Q : VK) (E : XK), Room k (A.deeper (envOfC qual scope s.heap.objs.size f cdv)) → sp vs H Q E →
      ∃ t, PSs (cxOf CX P w K mg base N qual scope f cdv A outer s H E) body t ∧ t { nx := fun _ H' => Q .non H', rt := Q } (start N vs) H) :
    FnOk P w K mg base CX (k + 1) f (PySem.W.fnOf name qual params body scope dV kV doc pm an cdv ct) ps sp := by
  refine ⟨len, fun A outer s H args us vs Q E hr e0 hb r hsp => ?_⟩
  have hl := len _ _ _ _ hsp
  have KX : K.In s.heap := e0.mod.kin.keeps fun b o e => (e0.bs b o e).1
  have lim : s.heap.NoLimit := e0.mod.nolimit.keeps fun b o e => (e0.bs b o e).1
  have hkind : ∀ y ∈ ps.zip us, scope.names.lookup y.1 = some .local ∨ (scope.names.lookup y.1 = some .cell ∧ ((cellsFrom (s.heap.objs.size + 1) scope.names []).lookup y.1).isSome = true) := fun ⟨n, v⟩ hy => by
    rcases S.par n (List.of_mem_zip hy).1 with q | q
    · exact .inl q
    · exact .inr ⟨q, PySem.W.cellsFrom_some _ _ _ (.inl q)⟩
  refine codeAny_call_function hr.depth (KX _ _ lk) rfl S.co S.gen rfl (PySem.W.codeRec_of KX hcd) (hb _ _ _ _ ?_)
  refine wpAny_newFunctionEnv_cells S.kind hkind fun env he s1 x => ?_
  subst he
  refine ⟨lim.keeps x.toInCall.keep, codeAny_func ?_⟩
  obtain ⟨t, ht, hq⟩ := hbody A outer s H vs Q E (hr.deeper _) hsp
  have I : Inv (cxOf CX P w K mg base N qual scope f cdv A outer s H E) [] (start N vs) H s1 := inv_start S hr.hd e0 hl r x
  refine wpAny_mono (ht [] s1 (start N vs) H _ I hq) (fun fl s' hs => ?_) fun e s' hs => hs
  have fin : ∀ {σ' : St} {H' : Hp} {v : V} {u : Value}, Inv (cxOf CX P w K mg base N qual scope f cdv A outer s H E) [] σ' H' s' → RelV v u → Q v H' → CE outer P w H s Q u s' :=
    fun {σ' H' v u} J rv q => ⟨v, H', J.os, J.bare, J.base, J.hok, rv, q⟩
  cases fl with
  | ret u =>
    obtain ⟨v, σ', H', J, rv, q⟩ := hs
    exact fin J rv q
  | next =>
    obtain ⟨σ', H', J, q⟩ := hs
    exact fin (v := V.non) (u := Value.none) J rfl q
  | brk =>
    obtain ⟨_, _, _, q⟩ := hs
    exact False.elim q
  | cont =>
    obtain ⟨_, _, _, q⟩ := hs
    exact False.elim q
end L2
end

noncomputable section
namespace L2
open PySem PySem.Spec PyProof.Rows
section
variable {X : Cx} {x : Str} {p pos : Pos} {e : Expr} {es : List Expr} {t : TA} {id T : String} {r : List V → Hp → VK → Prop}

noncomputable def tCB (r : List V → Hp → VK → Prop) (t : TA) : TE := fun σ H Q => t σ H fun vs H1 => r vs H1 Q
/-- f(e, ..), f a built-in function -/
theorem pe_callB (hc : CallR X (.builtin id) r) (hg : Gl X x) (hm : X.mg x = none) (hv : bootBuiltins x = some (.builtin id)) (ha : PA X (e :: es) t) (hn : x ≠ "__name__" := by decide) (hdb : (x == ("__debug__" : Str)) = false := by decide)
    (he : starEach (e :: es) X.env = (false, eval e X.env) :: starEach es X.env := by rfl) (hpl : (backTo pos (starEach es X.env)).any (·.1) = false := by rfl) : PE X (.Call (.Name x p) (e :: es) [] pos) (tCB r t) := by
  intro pins s σ H Q I h
  refine wpAny_Call_Name_kw (ld_blt I hg hm hv ?_ hn hdb)
  exact PyProof.Rows.callWith_builtin1 (thn (ha pos pins s σ H _ I h) fun us s1 ⟨vs, H1, I1, r1, q1⟩ => hc pins s1 σ H1 vs us Q I1 r1 q1) he hpl
/-- T(e, ..), T a built-in type -/
theorem pe_callTy (hc : CallR X (.type T) r) (hg : Gl X x) (hm : X.mg x = none) (hv : bootBuiltins x = some (.type T)) (ha : PA X (e :: es) t) (hn : x ≠ "__name__" := by decide) (hdb : (x == ("__debug__" : Str)) = false := by decide)
    (he : starEach (e :: es) X.env = (false, eval e X.env) :: starEach es X.env := by rfl) (hpl : (backTo pos (starEach es X.env)).any (·.1) = false := by rfl) : PE X (.Call (.Name x p) (e :: es) [] pos) (tCB r t) := by
  intro pins s σ H Q I h
  refine wpAny_Call_Name_kw (ld_blt I hg hm hv ?_ hn hdb)
  exact PyProof.Rows.callWith_type1 (thn (ha pos pins s σ H _ I h) fun us s1 ⟨vs, H1, I1, r1, q1⟩ => hc pins s1 σ H1 vs us Q I1 r1 q1) he hpl
end
end L2
end

noncomputable section
namespace HT
open PySem PyProof.Rows

section
open PySem.SeqAt
open PySem.AutoSeq1 (wpAny_loadPart')
open PySem.MeetsSeq PySem.MeetsSeq2 PySem.MeetsSeq3

end

section
variable {prog : Program} {w : World} {A : Around} {E : Value → Shared → Prop} {s : Shared}

/-- t + u, t not empty -/
theorem cat_tup {t b : Addr} {vs ws : List Value} {Q : Value → Shared → Prop} (ht : IsTup s.heap t vs.toArray) (hb : IsTup s.heap b ws.toArray) (hv : vs ≠ [])
    (h1 : ws = [] → Q (.ref t) s) (h2 : ws ≠ [] → Q (.ref s.heap.objs.size) { s with heap := s.heap.push { cls := .type "tuple", data := .seq (vs ++ ws).toArray } })
    (hsz : vs.length + ws.length ≤ sizeLine) : wpAny (model prog w) A (binaryOp .Add (.ref t) (.ref b)) Q E s := by
  obtain ⟨⟨cls, dd, data, sl⟩, ho, hc, n, hd⟩ := id ht
  obtain ⟨⟨cls2, dd2, data2, sl2⟩, ho2, hc2, n2, hd2⟩ := id hb
  simp only at hc hd hc2 hd2
  subst hc hd hc2 hd2
  have e : vs.toArray ++ ws.toArray = (vs ++ ws).toArray := by simp
  by_cases hw : ws = []
  · exact concat_meets ⟨_, ho, rfl⟩ ⟨_, ho2, rfl⟩ noFill_tuple_add seq_tuple_add PySem.F.slot_tuple_add PySem.F.entry_tuple_add (PySem.F.args_tuple_add_2 _ _)
      (tuple_addW1 t b vs.toArray ws.toArray n n2 dd dd2 sl sl2 (by simpa using hv) (by simp [hw])) ⟨ho, ho2, h1 hw⟩
  · refine concat_meets ⟨_, ho, rfl⟩ ⟨_, ho2, rfl⟩ noFill_tuple_add seq_tuple_add PySem.F.slot_tuple_add PySem.F.entry_tuple_add (PySem.F.args_tuple_add_2 _ _)
      (tuple_addW2 t b vs.toArray ws.toArray n n2 dd dd2 sl sl2 (by simpa using hv) (by simpa using hw) (by rw [List.size_toArray, List.size_toArray]; exact hsz)) ⟨ho, ho2, ?_⟩
    rw [e]
    exact h2 hw

/-! ### t[a:b], not the whole -/
end
end HT

noncomputable section
namespace L2
open PySem PySem.Spec PyProof.Rows

/-! ### the parts of a slice -/
noncomputable abbrev TO := St → Hp → (Option Int → Hp → Prop) → Prop
section
variable {X : Cx} {e : Expr} {te : TE} {lo hi : Option Expr} {tl th : TO} {pos p2 : Pos}

/-! ### t < u, t + u -/
/-- t + u, t not empty: u empty gives t itself -/
noncomputable def rCatT (K : PySem.W.Frag) : R2 := fun x y H Q => ∃ a b xs ys, x = .ref a ∧ y = .ref b ∧ SqT K H a xs ∧ SqT K H b ys ∧ xs ≠ [] ∧ xs.length + ys.length ≤ sizeLine ∧
  (ys = [] → Q (.ref a) H) ∧ (ys ≠ [] → ∀ p, H p = none → Q (.ref p) (upd H p (.tup (xs ++ ys))))
theorem Vals.nil_iff {xs : List V} {us : List Value} (r : Vals xs us) : us = [] ↔ xs = [] := by
  cases r with
  | nil => simp
  | cons _ _ => simp
theorem op_catT : OpR X (binaryOp .Add) (rCatT X.K) := by
  intro pins s σ H x y v u Q I rx ry h
  obtain ⟨a, b, xs, ys, rfl, rfl, ha, hb, hx, hz, q1, q2⟩ := h
  cases rx
  cases ry
  obtain ⟨its, r1, p1, _⟩ := I.tuple ha
  obtain ⟨its2, r2, p2, _⟩ := I.tuple hb
  refine HT.cat_tup p1 p2 (fun z => hx (r1.nil_iff.mp z)) (fun z => ⟨.ref a, H, I, rfl, q1 (r2.nil_iff.mp z)⟩) (fun z => ?_) (by rw [← r1.length, ← r2.length]; exact hz)
  refine ⟨.ref s.heap.objs.size, _, I.laid (t' := s.toks) (o := .tup (xs ++ ys)) (fun b ob q => Heap.get?_push_of_some _ q) (Nat.le_refl _) ?_, rfl, q2 (fun w => z (r2.nil_iff.mpr w)) _ (I.hok.fresh (Nat.le_refl _))⟩
  exact ⟨by rw [List.length_append]; exact hz, _, r1.append r2, IsTup.new _ _⟩
end
end L2
end

noncomputable section
namespace L2
open PySem PySem.Spec PyProof.Rows

/-! ### places -/
/-- the place that an index of any sign means -/
noncomputable def ixN (n : Nat) (i : Int) : Option Nat := if 0 ≤ i then (if i < n then some i.toNat else none) else if -(n : Int) ≤ i then some (i + n).toNat else none
noncomputable def atI {α : Type} (xs : List α) (i : Int) : Option α := (ixN xs.length i).bind fun j => xs[j]?
theorem ixN_seq {n : Nat} {i : Int} {j : Nat} (h : ixN n i = some j) : seqIndex? i n = some j ∧ j < n ∧ -(n : Int) ≤ i ∧ i < n := by
  unfold ixN at h
  by_cases h0 : 0 ≤ i
  · rw [if_pos h0] at h
    by_cases h1 : i < n
    · rw [if_pos h1] at h
      have e : i.toNat = j := Option.some.inj h
      exact ⟨by rw [seqIndex_of h0 h1, e], by omega, by omega, h1⟩
    · rw [if_neg h1] at h; cases h
  · rw [if_neg h0] at h
    by_cases h1 : -(n : Int) ≤ i
    · rw [if_pos h1] at h
      have e : (i + n).toNat = j := Option.some.inj h
      exact ⟨by rw [seqIndex_neg (by omega) h1, e], by omega, h1, by omega⟩
    · rw [if_neg h1] at h; cases h
theorem atI_get {α : Type} {xs : List α} {i : Int} {v : α} (h : atI xs i = some v) : ∃ j, seqIndex? i xs.length = some j ∧ xs[j]? = some v ∧ j < xs.length ∧ -(xs.length : Int) ≤ i ∧ i < xs.length := by
  unfold atI at h
  cases e : ixN xs.length i with
  | none => rw [e] at h; cases h
  | some j =>
    rw [e] at h
    obtain ⟨h1, h2, h3, h4⟩ := ixN_seq e
    exact ⟨j, h1, h, h2, h3, h4⟩
/-! ### what may be subscripted -/
/-- what stands as an index of a plain subscript -/
noncomputable def PlainIx (b : Expr) : Prop := ∀ o i, subscripted b false o i = operate [o, i] (getItem o i)
/-- a subscript by values -/
noncomputable def IxR (X : Cx) (r : R2) : Prop :=
  ∀ (value slice : Expr) (pins : List (Addr × Obj)) (s : Shared) (σ : St) (H : Hp) (x y : V) (v u : Value) (Q : VK), Inv X pins σ H s → RelV x v → RelV y u → r x y H Q →
    subscripted slice false v u = operate [v, u] (getItem v u) → wpAny (model X.prog X.w) X.A (subscriptTail value slice v u) (EP X pins σ Q) X.xe s
/-- a call of a builtin's method by values: the receiver, the arguments -/
noncomputable def MtR (X : Cx) (id : String) (r : V → List V → Hp → VK → Prop) : Prop :=
  ∀ (pins : List (Addr × Obj)) (s : Shared) (σ : St) (H : Hp) (x : V) (xs : List V) (v : Value) (us : List Value) (Q : VK), Inv X pins σ H s → RelV x v → Vals xs us → r x xs H Q →
    wpAny (model X.prog X.w) X.A (call (.builtin id) (v :: us)) (EP X pins σ Q) X.xe s
section
variable {X : Cx} {a b : Expr} {ta tb : TE} {pos : Pos}
/-- a[b] -/
theorem pe_ix {r : R2} (hr : IxR X r) (ha : PE X a ta) (hb : PE X b tb) (hs : PlainIx b) : PE X (.Subscript a b pos) (tOp r ta tb) := by
  intro pins s σ H Q I h
  exact Subscript_ (binT ha hb I h fun v u s2 x y H2 I2 rx ry q => hr a b pins s2 σ H2 x y v u Q I2 rx ry q (hs _ _))

noncomputable def rIxL (K : PySem.W.Frag) : R2 := fun x y H Q => ∃ p xs i v, x = .ref p ∧ y = .int i ∧ SqL K H p xs ∧ atI xs i = some v ∧ Q v H
noncomputable def rIxT (K : PySem.W.Frag) : R2 := fun x y H Q => ∃ p xs i v, x = .ref p ∧ y = .int i ∧ SqT K H p xs ∧ atI xs i = some v ∧ Q v H
noncomputable def rIxS : R2 := fun x y H Q => ∃ z i c, x = .str z ∧ y = .int i ∧ z.length ≤ sizeLine ∧ atI z.cps.toList i = some c ∧ Q (.str ⟨#[c]⟩) H
theorem ix_list : IxR X (rIxL X.K) := by
  intro value slice pins s σ H x y v u Q I rx ry h hs
  obtain ⟨p, xs, i, z, rfl, rfl, hq, he, q⟩ := h
  cases rx
  obtain ⟨t, rfl⟩ := ry
  obtain ⟨its, r, pl, hz⟩ := I.list hq
  obtain ⟨j, h1, h2, h3, h4, h5⟩ := atI_get he
  obtain ⟨w, ew, rw'⟩ := r.get h2
  have hl := r.length
  have hn := line63
  have fin : EP X pins σ Q w s := ⟨z, H, I, rw', q⟩
  by_cases h0 : 0 ≤ i
  · have hj : i.toNat = j := by
      rw [seqIndex_of h0 h5] at h1
      exact Option.some.inj h1
    exact item_listR pl.isList h0 (by omega) (by rw [hj]; simpa using ew) fin hs
  · have hj : (i + (its.toArray.size : Int)).toNat = j := by
      rw [seqIndex_neg (by omega) h4] at h1
      rw [List.size_toArray, ← hl]
      exact Option.some.inj h1
    exact subscriptTail_builtinR (x := w) pl.isList.typeIs slot_list_getitem.lookup
      (wpAny_getItem_list_neg (Q := fun r s' => r = w ∧ EP X pins σ Q r s') pl.isList (by omega) (by rw [List.size_toArray] <;> omega) (by omega) (by rw [hj]; simpa using ew) ⟨rfl, fin⟩) hs
theorem ix_tup : IxR X (rIxT X.K) := by
  intro value slice pins s σ H x y v u Q I rx ry h hs
  obtain ⟨p, xs, i, z, rfl, rfl, hq, he, q⟩ := h
  cases rx
  obtain ⟨t, rfl⟩ := ry
  obtain ⟨its, r, pl, hz⟩ := I.tuple hq
  obtain ⟨j, h1, h2, h3, h4, h5⟩ := atI_get he
  obtain ⟨w, ew, rw'⟩ := r.get h2
  have hl := r.length
  have hn := line63
  have fin : EP X pins σ Q w s := ⟨z, H, I, rw', q⟩
  exact subscriptTail_builtinR (x := w) pl.typeIs slot_tuple_getitem.lookup
    (getItem_tuple (j := j) (Q := fun r s' => r = w ∧ EP X pins σ Q r s') pl (by omega) (by omega) (by rw [List.size_toArray, ← hl]; exact h1) (by simpa using ew) ⟨rfl, fin⟩) hs
theorem ix_str : IxR X rIxS := by
  intro value slice pins s σ H x y v u Q I rx ry h hs
  obtain ⟨z, i, c, rfl, rfl, hz, he, q⟩ := h
  obtain ⟨t, rfl⟩ := rx
  obtain ⟨t', rfl⟩ := ry
  obtain ⟨j, h1, h2, h3, h4, h5⟩ := atI_get he
  have hl : z.cps.toList.length = z.length := by simp [Str.length]
  rw [hl] at h1 h4 h5
  have hn := line63
  exact tail_any (typeIs_str s z t) slot_str_getitem.lookup (getItem_str (c := c) (by
    have e1 : decide (i < -(2 ^ 63 : Int)) = false := decide_eq_false (by omega)
    have e2 : decide (i ≥ 2 ^ 63) = false := decide_eq_false (by omega)
    rw [e1, e2, Bool.or_false]) (by rw [h1]; simpa using h2) ⟨.str ⟨#[c]⟩, H, I.tok _, ⟨_, rfl⟩, q⟩) hs
/-! ### xs[i] = v, any sign -/
/-- the list's object behind a store -/
theorem mapSeq_set (its : List Value) (n j : Nat) (u : Value) : Obj.mapSeq (·.setIfInBounds j u) { cls := .type "list", data := .seq its.toArray n } = { cls := .type "list", data := .seq (its.set j u).toArray n } := by
  simp [Obj.mapSeq]
theorem Inv.lst {pins : List (Addr × Obj)} {σ : St} {H : Hp} {s : Shared} {p : Addr} {xs : List V} (I : Inv X pins σ H s) (h : H p = some (.lst xs)) :
    ∃ (its : List Value) (n : Nat), Vals xs its ∧ s.heap.get? p = some { cls := .type "list", data := .seq its.toArray n } ∧ xs.length ≤ sizeLine := by
  obtain ⟨z, its, n, r, e⟩ := I.hok p _ h
  exact ⟨its, n, r, e, z⟩
/-- the list at p is written by an update of its object -/
theorem Inv.lstUpd {pins : List (Addr × Obj)} {σ : St} {H : Hp} {s : Shared} {p : Addr} {xs ys : List V} {its its' : List Value} {n n' : Nat} {f : Obj → Obj} (I : Inv X pins σ H s) (h : H p = some (.lst xs))
    (ho : s.heap.get? p = some { cls := .type "list", data := .seq its.toArray n }) (hf : f { cls := .type "list", data := .seq its.toArray n } = { cls := .type "list", data := .seq its'.toArray n' }) (r : Vals ys its') (hz : ys.length ≤ sizeLine) (t : Nat) :
    Inv X pins σ (upd H p (.lst ys)) { s with heap := s.heap.update p f, toks := t } := by
  have e : (s.heap.update p f).get? p = some { cls := .type "list", data := .seq its'.toArray n' } := by
    rw [Heap.get?_update_self f ho (by rw [hf] <;> rfl), hf]
  refine I.write (x := p) (e := p) (by rw [h]; trivial) (.inl rfl) (fun b u hb q => (Heap.get?_update_other _ _ (Ne.symm hb)).trans q) ⟨_, e⟩ ?_
  exact ⟨hz, its', n', r, e⟩
noncomputable def rSetL : V → V → V → Hp → (Hp → Prop) → Prop := fun o i v H Q => ∃ p xs k j, o = .ref p ∧ i = .int k ∧ H p = some (.lst xs) ∧ ixN xs.length k = some j ∧ Q (upd H p (.lst (xs.set j v)))
theorem set_list : PSet X rSetL := by
  intro pins s σ H o i v ov iv u Q I ro ri rv h
  obtain ⟨p, xs, k, j, rfl, rfl, hp, hj, q⟩ := h
  cases ro
  obtain ⟨t, rfl⟩ := ri
  obtain ⟨its, n, r, ho, hz⟩ := I.lst hp
  obtain ⟨h1, h2, h3, h4⟩ := ixN_seq hj
  have hl := r.length
  have hn := line63
  have I' : Inv X pins σ (upd H p (.lst (xs.set j v))) { s with heap := s.heap.update p (Obj.mapSeq (·.setIfInBounds j u)) } :=
    I.lstUpd hp ho (mapSeq_set its n j u) (r.set rv j) (by rw [List.length_set]; exact hz) s.toks
  by_cases h0 : 0 ≤ k
  · have hk : k.toNat = j := by
      rw [seqIndex_of h0 h4] at h1
      exact Option.some.inj h1
    exact PySem.W.ki_setAt ho h0 (by omega) (by rw [List.size_toArray, ← hl]; exact h4) (by rw [hk]; exact ⟨_, I', q⟩)
  · have hk : (k + (its.toArray.size : Int)).toNat = j := by
      rw [seqIndex_neg (by omega) h3] at h1
      rw [List.size_toArray, ← hl]
      exact Option.some.inj h1
    exact PySem.W.ki_setBack ho (by omega) (by rw [List.size_toArray, ← hl]; exact h3) (by omega) (by rw [hk]; exact ⟨_, I', q⟩)

/-! ### slices -/
/-! ### in, not in: flat items -/
/-! ### len, list(x), tuple(x) of any list or tuple that is read -/
theorem call_len_seq : CallR X (.builtin "len") (fun xs H Q => ∃ p ys, xs = [.ref p] ∧ (SqL X.K H p ys ∨ SqT X.K H p ys) ∧ Q (.int ys.length) H) := by
  intro pins s σ H xs us Q I r h
  obtain ⟨p, ys, rfl, hq, q⟩ := h
  obtain ⟨u, rfl, rx⟩ := vals1 r
  cases rx
  have hn := line63
  rcases hq with hq | hq
  · obtain ⟨its, r', pl, hz⟩ := I.list hq
    have hlen := r'.length
    exact Calls.call_len_list pl.isList (by simp only [List.size_toArray] <;> omega) ⟨.int ys.length, H, I.tok _, ⟨s.toks + 1, by rw [List.size_toArray, hlen]⟩, q⟩
  · obtain ⟨its, r', pl, hz⟩ := I.tuple hq
    have hlen := r'.length
    exact len_tuple pl (by simp only [List.size_toArray] <;> omega) ⟨.int ys.length, H, I.tok _, ⟨s.toks + 1, by rw [List.size_toArray, hlen]⟩, q⟩
theorem call_len_str : CallR X (.builtin "len") (fun xs H Q => ∃ z, xs = [.str z] ∧ z.length ≤ sizeLine ∧ Q (.int z.length) H) := by
  intro pins s σ H xs us Q I r h
  obtain ⟨z, rfl, hz, q⟩ := h
  obtain ⟨u, rfl, t, rfl⟩ := vals1 r
  have hn := line63
  exact len_str (by omega) ⟨.int z.length, H, I.tok _, ⟨_, rfl⟩, q⟩
theorem CallR.or {f : Value} {r r' : List V → Hp → VK → Prop} (h : CallR X f r) (h' : CallR X f r') : CallR X f (fun xs H Q => r xs H Q ∨ r' xs H Q) := by
  intro pins s σ H xs us Q I rs q
  rcases q with q | q
  · exact h pins s σ H xs us Q I rs q
  · exact h' pins s σ H xs us Q I rs q
theorem call_list_of : CallR X (.type "list") (fun xs H Q => ∃ p ys, xs = [.ref p] ∧ (SqL X.K H p ys ∨ SqT X.K H p ys) ∧ ∀ l, H l = none → Q (.ref l) (upd H l (.lst ys))) := by
  intro pins s σ H xs us Q I r h
  obtain ⟨p, ys, rfl, hq, q⟩ := h
  obtain ⟨u, rfl, rx⟩ := vals1 r
  cases rx
  have fin : ∀ (its : List Value), Vals ys its → ys.length ≤ sizeLine → ∀ (h' : Heap) (c' : Nat), (∀ b o', s.heap.get? b = some o' → h'.get? b = some o') →
      h'.get? s.heap.objs.size = some { cls := .type "list", dict := none, data := .seq its.toArray c', slots := #[] } → EP X pins σ Q (.ref s.heap.objs.size) { s with heap := h' } := fun its r' hz h' c' kp e =>
    ⟨.ref s.heap.objs.size, _, I.laid (t' := s.toks) kp (Nat.le_refl _) (show ObjOk X.prog X.w _ h' _ (.lst ys) from ⟨hz, its, c', r', e⟩), rfl, q _ (I.hok.fresh (Nat.le_refl _))⟩
  rcases hq with hq | hq
  · obtain ⟨its, r', pl, hz⟩ := I.list hq
    have hlen := r'.length
    obtain ⟨o, ho, hc, n, hd⟩ := pl.isList
    exact call_list_seq p (.inl rfl) ho hc hd (fun h' c' kp e => fin its r' hz h' c' kp e) (by simp only [List.size_toArray] <;> omega)
  · obtain ⟨its, r', pl, hz⟩ := I.tuple hq
    have hlen := r'.length
    obtain ⟨o, ho, hc, n, hd⟩ := pl
    exact call_list_seq p (.inr rfl) ho hc hd (fun h' c' kp e => fin its r' hz h' c' kp e) (by simp only [List.size_toArray] <;> omega)
theorem call_tuple_of : CallR X (.type "tuple") (fun xs H Q => ∃ p ys, xs = [.ref p] ∧ ((SqL X.K H p ys ∧ ∀ l, H l = none → Q (.ref l) (upd H l (.tup ys))) ∨ (SqT X.K H p ys ∧ Q (.ref p) H))) := by
  intro pins s σ H xs us Q I r h
  obtain ⟨p, ys, rfl, h⟩ := h
  obtain ⟨u, rfl, rx⟩ := vals1 r
  cases rx
  rcases h with ⟨hq, q⟩ | ⟨hq, q⟩
  · obtain ⟨its, r', pl, hz⟩ := I.list hq
    have hlen := r'.length
    refine call_tuple_list pl.isList (fun h' kp => ?_) (by simp only [List.size_toArray] <;> omega)
    have I1 : Inv X pins σ H { s with heap := h' } := I.kept (t' := s.toks) kp
    have I2 : Inv X pins σ (upd H h'.objs.size (.tup ys)) { s with heap := h'.push { cls := .type "tuple", data := .seq its.toArray } } :=
      I1.laid (t' := s.toks) (fun b o e => Heap.get?_push_of_some _ e) (Nat.le_refl _) (show ObjOk X.prog X.w _ _ _ (.tup ys) from ⟨hz, its, r', IsTup.new _ _⟩)
    exact ⟨.ref h'.objs.size, _, I2, rfl, q _ (I1.hok.fresh (Nat.le_refl _))⟩
  · obtain ⟨its, r', pl, hz⟩ := I.tuple hq
    exact call_tuple_same pl ⟨.ref p, H, I, rfl, q⟩

/-! ### the call of a builtin's method: o.m(..) -/
/-- the value is of that builtin type -/
noncomputable def tyV (K : PySem.W.Frag) (T : String) (x : V) (H : Hp) : Prop := match x with
  | .str _ => T = "str"
  | .int _ => T = "int"
  | .ref p => (T = "list" ∧ ∃ xs, SqL K H p xs) ∨ (T = "tuple" ∧ ∃ o, K.lookup p = some o ∧ o.cls = .type "tuple" ∧ o.dict = none) ∨
      (T = "dict" ∧ ((∃ kvs, H p = some (.dK kvs)) ∨ ∃ kvs, H p = some (.dT kvs))) ∨ (T = "set" ∧ ∃ S n, H p = some (.set S n))
  | _ => False
theorem tyV_is {pins : List (Addr × Obj)} {σ : St} {H : Hp} {s : Shared} {T : String} {x : V} {v : Value} (I : Inv X pins σ H s) (r : RelV x v) (ty : tyV X.K T x H) :
    s.TypeIs v T ∧ ∀ a, v = .ref a → ∃ ob, s.heap.get? a = some ob ∧ ob.dict = none := by
  cases x with
  | str z =>
    obtain ⟨t, rfl⟩ := r
    cases (show T = "str" from ty)
    exact ⟨typeIs_str s z t, fun _ e => nomatch e⟩
  | int i =>
    obtain ⟨t, rfl⟩ := r
    cases (show T = "int" from ty)
    exact ⟨typeIs_int s i t, fun _ e => nomatch e⟩
  | ref p =>
    cases r
    rcases ty with ⟨rfl, xs, hq⟩ | ⟨rfl, o, hk, hc, hd⟩ | ⟨rfl, hk⟩ | ⟨rfl, S, n, hk⟩
    · obtain ⟨its, _, pl, _⟩ := I.list hq
      refine ⟨pl.isList.typeIs, fun a e => ?_⟩
      cases e
      obtain ⟨o, n, e, c, hd, _⟩ := pl
      exact ⟨o, e, hd⟩
    · refine ⟨⟨o, I.kIn p o hk, hc⟩, fun a e => ?_⟩
      cases e
      exact ⟨o, I.kIn _ o hk, hd⟩
    · have z : ∃ o, s.heap.get? p = some o ∧ o.ExactDict := by
        rcases hk with ⟨kvs, hk⟩ | ⟨kvs, hk⟩
        · obtain ⟨_, _, _, _, o, _, _, e, ex, _⟩ := I.hok p _ hk
          exact ⟨o, e, ex⟩
        · obtain ⟨_, _, _, _, o, _, _, e, ex, _⟩ := I.hok p _ hk
          exact ⟨o, e, ex⟩
      obtain ⟨o, e, ex⟩ := z
      refine ⟨⟨o, e, ex.1⟩, fun a e2 => ?_⟩
      cases e2
      exact ⟨o, e, ex.2.1⟩
    · obtain ⟨o, _, _, _, e, ex, _⟩ := I.hok p _ hk
      refine ⟨⟨o, e, ex.1⟩, fun a e2 => ?_⟩
      cases e2
      exact ⟨o, e, ex.2.1⟩
  | _ => exact False.elim ty
noncomputable def tBM0 (K : PySem.W.Frag) (T : String) (r : V → List V → Hp → VK → Prop) (to : TE) : TE := fun σ H Q => to σ H fun x H1 => tyV K T x H1 ∧ r x [] H1 Q
noncomputable def tBM (K : PySem.W.Frag) (T : String) (r : V → List V → Hp → VK → Prop) (to : TE) (t : TA) : TE := fun σ H Q => to σ H fun x H1 => tyV K T x H1 ∧ t σ H1 fun xs H2 => r x xs H2 Q
variable {o e : Expr} {es : List Expr} {to : TE} {t : TA} {name : Str} {apos cpos : Pos} {T id : String} {r : V → List V → Hp → VK → Prop}
theorem pe_bm0 (pa : PlainAttrs T) (slot : Slot T name id) (hty : typeOf (.builtin id) = pure (.type "method_descriptor")) (hm : MtR X id r) (ho : PE X o to)
    (hbase : attributeBase o name X.env (eval o X.env) = eval o X.env := by rfl) (hline : (apos.endLine == cpos.line) = true := by rfl) : PE X (.Call (.Attribute o name apos) [] [] cpos) (tBM0 X.K T r to) := by
  intro pins s σ H Q I h
  refine wpAny_Call_method0_late hbase hline (thn (ho pins s σ H _ I h) fun v s1 ⟨x, H1, I1, r1, ty, q1⟩ => ?_)
  obtain ⟨h1, h2⟩ := tyV_is I1 r1 ty
  exact ⟨T, id, pa, slot, hty, h1, h2, Calls.callWith_builtin rfl (PySem.evalArgs_none (hm pins s1 σ H1 x [] v [] Q I1 r1 .nil q1))⟩
theorem pe_bm (pa : PlainAttrs T) (slot : Slot T name id) (hty : typeOf (.builtin id) = pure (.type "method_descriptor")) (hm : MtR X id r) (ho : PE X o to) (ha : PA X (e :: es) t)
    (hbase : attributeBase o name X.env (eval o X.env) = eval o X.env := by rfl)
    (hfew : ((backTo cpos (starEach (e :: es) X.env)).all (fun x => !x.1) && (backToKw cpos (keywordEach [] X.env)).all (fun x => x.1.isSome)
      && decide ((e :: es).length + ([] : List Keyword).length + (if ([] : List Keyword).isEmpty then 0 else 1) < 30)) = true := by rfl)
    (hline : (apos.endLine == cpos.line) = true := by rfl) (hs : starEach (e :: es) X.env = (false, eval e X.env) :: starEach es X.env := by rfl) (hplain : (backTo cpos (starEach es X.env)).any (·.1) = false := by rfl) :
    PE X (.Call (.Attribute o name apos) (e :: es) [] cpos) (tBM X.K T r to t) := by
  intro pins s σ H Q I h
  refine wpAny_Call_method_late hbase hfew hline rfl (thn (ho pins s σ H _ I h) fun v s1 ⟨x, H1, I1, r1, ty, q1⟩ => ?_)
  obtain ⟨h1, h2⟩ := tyV_is I1 r1 ty
  refine ⟨T, id, pa, slot, hty, h1, h2, ?_⟩
  have hA := ha cpos pins s1 σ H1 _ I1 q1
  rw [hs] at hA ⊢
  refine Calls.callWith_builtin (by show (false || (backTo cpos (starEach es X.env)).any (·.1)) = false; rw [hplain] <;> rfl) (Calls.evalArgs_plain ?_)
  exact thn hA fun us s2 ⟨vs, H2, I2, r2, q2⟩ => hm pins s2 σ H2 x vs v us Q I2 r1 r2 q2
/- xs.append(e), list.index on a module's tuple .. are MtR facts of 06m -/
end
end L2
end

noncomputable section
namespace L2
open PySem PySem.Spec PyProof.Rows

noncomputable def MtM (X : Cx) (id : String) (r : V → List V → Hp → VK → Prop) : Prop :=
  ∀ (pins : List (Addr × Obj)) (s : Shared) (σ : St) (H : Hp) (x : V) (xs : List V) (v : Value) (us : List Value) (Q : VK), Inv X pins σ H s → RelV x v → Vals xs us → r x xs H Q →
    wpAny (model X.prog X.w) X.A (call (.builtin id) (v :: us)) (EP X pins σ Q) X.xe s

/-! ### lists of values -/
theorem Vals.one : ∀ {x : V} {us : List Value}, Vals [x] us → ∃ u, us = [u] ∧ RelV x u
  | _, _, .cons r .nil => ⟨_, rfl, r⟩
theorem Vals.zero : ∀ {us : List Value}, Vals [] us → us = []
  | _, .nil => rfl
theorem Vals.dropLast {xs : List V} {us : List Value} (h : Vals xs us) : Vals xs.dropLast us.dropLast := by
  induction h with
  | nil => exact .nil
  | cons r t ih =>
    cases t with
    | nil => exact .nil
    | cons q t' => exact .cons r ih
theorem Vals.reverse {xs : List V} {us : List Value} (h : Vals xs us) : Vals xs.reverse us.reverse := by
  induction h with
  | nil => exact .nil
  | cons r t ih => rw [List.reverse_cons, List.reverse_cons]; exact Vals.append ih (.cons r .nil)
theorem Vals.rep {xs : List V} {us : List Value} (h : Vals xs us) : ∀ k : Nat, Vals (List.replicate k xs).flatten (List.replicate k us).flatten
  | 0 => .nil
  | k + 1 => by
    rw [List.replicate_succ, List.replicate_succ, List.flatten_cons, List.flatten_cons]
    exact Vals.append h (Vals.rep h k)
theorem erase_last {α : Type} (l : List α) : l.eraseIdx (l.length - 1) = l.dropLast := by
  induction l with
  | nil => rfl
  | cons a r ih =>
    cases r with
    | nil => rfl
    | cons b r =>
      have e : (a :: b :: r).length - 1 = ((b :: r).length - 1) + 1 := by
        have h1 : (a :: b :: r).length = r.length + 2 := rfl
        have h2 : (b :: r).length = r.length + 1 := rfl
        omega
      rw [e, List.eraseIdx_cons_succ, ih]
      all_goals rfl
theorem foldl_rep (its : List Value) : ∀ (k : Nat) (acc : List Value),
    List.foldl (fun x1 x2 => x1 ++ x2) acc.toArray (List.replicate k its.toArray) = (acc ++ (List.replicate k its).flatten).toArray
  | 0, acc => by simp
  | k + 1, acc => by
    have e : acc.toArray ++ its.toArray = (acc ++ its).toArray := by simp
    have e2 : (acc ++ its) ++ (List.replicate k its).flatten = acc ++ (List.replicate (k + 1) its).flatten := by
      rw [List.replicate_succ, List.flatten_cons, List.append_assoc]
    rw [← e2, ← foldl_rep its k (acc ++ its), ← e, List.replicate_succ, List.foldl_cons]

section
variable {X : Cx} {pins : List (Addr × Obj)} {σ : St} {H : Hp} {s : Shared} {l b : Addr} {xs ys zs : List V}

/-! ### the two steps: a tracked list is rewritten, a new list is laid -/
theorem Inv.lset {its its' : List Value} {n : Nat} {f : Array Value → Array Value} {t' : Nat} (I : Inv X pins σ H s) (hH : H l = some (.lst xs))
    (e : s.heap.get? l = some { cls := .type "list", data := .seq its.toArray n }) (hf : f its.toArray = its'.toArray) (hv : Vals ys its') (hz : ys.length ≤ sizeLine) :
    Inv X pins σ (upd H l (.lst ys)) { s with heap := s.heap.update l (Obj.mapSeq f), toks := t' } := by
  have q := PySem.IsL.update e f
  rw [hf] at q
  refine I.write (x := l) (e := l) (by rw [hH]; exact trivial) (.inl rfl) (fun b' u hb hu => (Heap.get?_update_other s.heap (Obj.mapSeq f) (Ne.symm hb)).trans hu) ⟨_, q⟩ ?_
  exact ⟨hz, its', _, hv, q⟩
theorem Inv.lnew {its : List Value} {t' : Nat} (I : Inv X pins σ H s) (hv : Vals ys its) (hz : ys.length ≤ sizeLine) :
    Inv X pins σ (upd H s.heap.objs.size (.lst ys)) { s with heap := s.heap.push { cls := .type "list", data := .seq its.toArray }, toks := t' } :=
  I.laid (fun _ _ q => Heap.get?_push_of_some _ q) (Nat.le_refl _) ⟨hz, its, 0, hv, Heap.get?_push_size _ rfl⟩
theorem Inv.fresh (I : Inv X pins σ H s) : H s.heap.objs.size = none := I.hok.fresh (Nat.le_refl _)
theorem Inv.lstM (I : Inv X pins σ H s) (hH : H l = some (.lst xs)) : xs.length ≤ sizeLine ∧ ∃ (its : List Value) (n : Nat), Vals xs its ∧ xs.length = its.length ∧ s.heap.get? l = some { cls := .type "list", data := .seq its.toArray n } := by
  obtain ⟨z, its, n, r, e⟩ := I.hok l _ hH
  exact ⟨z, its, n, r, r.length, e⟩

theorem notLongL {n : Nat} (h : n ≤ sizeLine) : Builtin.List.listTooLong n = false := by
  unfold Builtin.List.listTooLong
  exact decide_eq_false (by omega)
end

section
variable {X : Cx}

/-! ### methods -/
noncomputable def rAppend : V → List V → Hp → VK → Prop := fun x vs H Q => ∃ l xs y, x = .ref l ∧ vs = [y] ∧ H l = some (.lst xs) ∧ xs.length < sizeLine ∧ Q .non (upd H l (.lst (xs ++ [y])))
theorem mt_append : MtM X "list.append" rAppend := by
  intro pins s σ H x vs v us Q I rx rv h
  obtain ⟨l, xs, y, rfl, rfl, hH, hz, q⟩ := h
  cases rx
  obtain ⟨u, rfl, ru⟩ := rv.one
  obtain ⟨z, its, n, r, hl, e⟩ := I.lstM hH
  refine call_meets F.slot_list_append ⟨_, e, rfl⟩ F.entry_list_append (F.args_list_append_2 _ _) (PySem.list_append l its.toArray n u (by rw [List.size_toArray]; omega)) ⟨e, ?_⟩
  refine ⟨.non, _, I.lset (its' := its ++ [u]) hH e (by simp) (r.append (.cons ru .nil)) ?_, rfl, q⟩
  rw [List.length_append, List.length_singleton]
  omega

noncomputable def rPop : V → List V → Hp → VK → Prop := fun x vs H Q => ∃ l xs y, x = .ref l ∧ vs = [] ∧ H l = some (.lst xs) ∧ xs[xs.length - 1]? = some y ∧ Q y (upd H l (.lst xs.dropLast))
theorem mt_pop : MtM X "list.pop" rPop := by
  intro pins s σ H x vs v us Q I rx rv h
  obtain ⟨l, xs, y, rfl, rfl, hH, hy, q⟩ := h
  cases rx
  have hus := rv.zero
  subst hus
  obtain ⟨z, its, n, r, hl, e⟩ := I.lstM hH
  obtain ⟨u, hu, ru⟩ := r.get hy
  have hy' : its.toArray[its.toArray.size - 1]? = some u := by
    show its.toArray[its.length - 1]? = some u
    rw [← Array.getElem?_toList, ← hl]
    exact hu
  refine call_meets F.slot_list_pop ⟨_, e, rfl⟩ F.entry_list_pop (F.args_list_pop_1 _) (MeetsSeq.list_pop_last l its.toArray n u hy' (by rw [List.size_toArray]; omega)) ⟨e, ?_⟩
  refine ⟨y, _, I.lset (its' := its.dropLast) hH e ?_ r.dropLast ?_, ru, q⟩
  · show its.toArray.eraseIdxIfInBounds (its.toArray.size - 1) = its.dropLast.toArray
    rw [List.size_toArray, List.eraseIdxIfInBounds_toArray, erase_last]
  · rw [List.length_dropLast]
    omega

noncomputable def rReverse : V → List V → Hp → VK → Prop := fun x vs H Q => ∃ l xs, x = .ref l ∧ vs = [] ∧ H l = some (.lst xs) ∧ Q .non (upd H l (.lst xs.reverse))
theorem mt_reverse : MtM X "list.reverse" rReverse := by
  intro pins s σ H x vs v us Q I rx rv h
  obtain ⟨l, xs, rfl, rfl, hH, q⟩ := h
  cases rx
  have hus := rv.zero
  subst hus
  obtain ⟨z, its, n, r, hl, e⟩ := I.lstM hH
  refine call_meets F.slot_list_reverse ⟨_, e, rfl⟩ F.entry_list_reverse (F.args_list_reverse_1 _) (AutoSeq1.list_reverse_list_0 l its.toArray n (by rw [List.size_toArray]; omega)) ⟨e, ?_⟩
  refine ⟨.non, _, I.lset (its' := its.reverse) hH e (by simp) r.reverse ?_, rfl, q⟩
  rw [List.length_reverse]
  omega

noncomputable def rClear : V → List V → Hp → VK → Prop := fun x vs H Q => ∃ l xs, x = .ref l ∧ vs = [] ∧ H l = some (.lst xs) ∧ Q .non (upd H l (.lst []))
theorem mt_clear : MtM X "list.clear" rClear := by
  intro pins s σ H x vs v us Q I rx rv h
  obtain ⟨l, xs, rfl, rfl, hH, q⟩ := h
  cases rx
  have hus := rv.zero
  subst hus
  obtain ⟨z, its, n, r, hl, e⟩ := I.lstM hH
  refine call_meets F.slot_list_clear ⟨_, e, rfl⟩ F.entry_list_clear (F.args_list_clear_1 _) (AutoSeq1.list_clear_list_0 l its.toArray n (by rw [List.size_toArray]; omega)) ⟨e, ?_⟩
  exact ⟨.non, _, I.lset (its' := []) (ys := []) hH e rfl .nil (Nat.zero_le _), rfl, q⟩

/-! ### list + list, list += list, list * int -/
noncomputable def rCat : R2 := fun x y H Q => ∃ l b xs zs, x = .ref l ∧ y = .ref b ∧ H l = some (.lst xs) ∧ H b = some (.lst zs) ∧ xs.length + zs.length ≤ sizeLine ∧ ∀ p, H p = none → Q (.ref p) (upd H p (.lst (xs ++ zs)))
theorem op_cat : OpR X (binaryOp .Add) rCat := by
  intro pins s σ H x y v u Q I rx ry h
  obtain ⟨l, b, xs, zs, rfl, rfl, hH, hB, hz, q⟩ := h
  cases rx
  cases ry
  obtain ⟨z, its, n, r, hl, e⟩ := I.lstM hH
  obtain ⟨z2, its2, n2, r2, hl2, e2⟩ := I.lstM hB
  refine PySem.P.add_list e e2 ?_ (by rw [List.size_toArray, List.size_toArray]; omega)
  have ea : its.toArray ++ its2.toArray = (its ++ its2).toArray := by simp
  rw [ea]
  exact ⟨.ref _, _, I.lnew (t' := s.toks) (r.append r2) (by rw [List.length_append]; omega), rfl, q _ I.fresh⟩
/-- a list times an int (a negative one is nothing) -/
noncomputable def rRep : R2 := fun x y H Q => ∃ l k xs, x = .ref l ∧ y = .int k ∧ H l = some (.lst xs) ∧ -(2 ^ 63) ≤ k ∧ k < 2 ^ 63 ∧ xs.length * k.toNat ≤ sizeLine ∧
  ∀ p, H p = none → Q (.ref p) (upd H p (.lst (List.replicate k.toNat xs).flatten))
theorem len_rep {α : Type} (xs : List α) (k : Nat) : (List.replicate k xs).flatten.length = k * xs.length := by
  induction k with
  | zero => simp
  | succ k ih => rw [List.replicate_succ, List.flatten_cons, List.length_append, ih, Nat.succ_mul, Nat.add_comm]
theorem op_rep : OpR X (binaryOp .Mult) rRep := by
  intro pins s σ H x y v u Q I rx ry h
  obtain ⟨l, k, xs, rfl, rfl, hH, h1, h2, hz, q⟩ := h
  cases rx
  obtain ⟨t, rfl⟩ := ry
  obtain ⟨z, its, n, r, hl, e⟩ := I.lstM hH
  have hlen : its.toArray.size * k.toNat ≤ sizeLine := by rw [List.size_toArray, ← hl]; exact hz
  have hcap : ¬ its.toArray.size * k.toNat > (2 ^ 63 - 1) / 8 := by
    have : (sizeLine : Nat) ≤ (2 ^ 63 - 1) / 8 := by decide
    omega
  have hfit : ¬ (!Builtin.List.listFitsIndex k) = true := by
    rw [fitsIndex_both h1 h2]
    exact Bool.false_ne_true
  have hlong : ¬ Builtin.List.listTooLong (its.toArray.size * k.toNat) = true := by
    rw [notLongL hlen]
    exact Bool.false_ne_true
  have hnew : List.foldl (fun x1 x2 => x1 ++ x2) #[] (List.replicate (if its.toArray.isEmpty = true then 0 else k.toNat) its.toArray) = (List.replicate k.toNat its).flatten.toArray := by
    have f0 : ∀ m : Nat, List.foldl (fun x1 x2 => x1 ++ x2) #[] (List.replicate m its.toArray) = (List.replicate m its).flatten.toArray := fun m => by
      have := foldl_rep its m []
      rw [List.nil_append] at this
      exact this
    rw [f0]
    cases its with
    | nil => simp
    | cons a r' => rw [if_neg (by simp)]
  refine wpAny_binaryOp_repeat_ref (T := "list") (U := "int") (by decide) ⟨_, e, rfl⟩ (fun s' => typeIs_int s' k t) noFill_list_mul F.fills_int_mul F.slot_int_rmul repeat_list F.slot_int_index.lookup
    (call_meets F.slot_int_rmul (typeIs_int s k t) F.entry_int_rmul (F.args_int_rmul_2 _ _) (int___rmul___int_list k t l its.toArray n)
      ⟨e, rfl, ⟨_, e, rfl⟩, call_meets F.slot_list_mul ⟨_, e, rfl⟩ F.entry_list_mul (F.args_list_mul_2 _ _) (AutoListH.list___mul___list_int_3 l its.toArray n k t hfit hcap hlong) ⟨e, ?_⟩⟩)
  rw [hnew]
  exact ⟨.ref _, _, I.lnew (t' := s.toks) (r.rep k.toNat) (by rw [len_rep, Nat.mul_comm]; exact hz), rfl, q _ I.fresh⟩

/-! ### del xs[i] -/
end

/-! ### xs[a:b] = ys -/
section
variable {prog : Program} {w : World} {A : Around} {E : Value → Shared → Prop} {s : Shared}
end

section
variable {X : Cx}
end
end L2
end

noncomputable section
namespace Att
open PySem PySem.W PySem.Calls PyProof.Rows

/-! ### the script -/
theorem ints_of_wellAll {P : Params} {h : Heap} : ∀ (ns : List Int) (vs : List Value), WellAll P h vs (ns.map WData.int) → IntsAre vs ns := by
  intro ns
  induction ns with
  | nil =>
    intro vs w
    rw [List.map_nil] at w
    cases w
    exact .nil
  | cons n ns ih =>
    intro vs w
    rw [List.map_cons] at w
    cases w with
    | cons a b =>
      cases a
      exact .cons _ _ (ih _ b)

theorem script_of {l : OpenLaw} {n : Nat} (hn : l.most = some n) {P : Params} {h : Heap} {args : List WData} {vals : List Value}
    (hpre : l.row.toRowW.claim.pre args = true) (hwl : WellAll P h vals args) :
    ∃ a vs ns, vals = [Value.ref a] ∧ args = [WData.list (ns.map WData.int)] ∧ h.get? a = some { cls := .type "list", data := .seq vs.toArray } ∧ IntsAre vs ns ∧ ns.length ≤ n := by
  have hsh : WShape.hasAll [] args [.list .int] = true := (pre_splitW hpre).1
  have hc : l.pre.holds [] { args := args } = true := (pre_splitW hpre).2
  obtain ⟨d, r, rfl, h1, h2⟩ := hasAllW_cons hsh
  obtain rfl := hasAllW_nil h2
  obtain ⟨xs, rfl, h3⟩ := hasW_list h1
  obtain ⟨ns, rfl⟩ := items_int h3
  have hlen : ns.length ≤ n := by
    unfold OpenLaw.pre at hc
    have h4 : (WTm.not (.lt (.lit (.int (n : Int))) (.len (.arg 0)))).holds [] { args := [.list (ns.map .int)] } = true := by
      have h4 := (holds_andW hc).1
      rw [hn] at h4
      exact h4
    have h5 := condW_of h4 (w_not (w_lt w_lit (w_len_list (w_arg rfl))))
    rw [List.length_map] at h5
    refine Nat.le_of_not_lt fun q => ?_
    have q' : (n : Int) < ((ns.length : Nat) : Int) := by omega
    first
      | (rw [decide_eq_true q'] at h5; exact absurd h5 (by decide))
      | (simp at h5; omega)
  cases hwl with
  | cons w1 w2 =>
    cases w2
    cases w1 with
    | list ho hall => exact ⟨_, _, ns, rfl, rfl, ho, ints_of_wellAll ns _ hall, hlen⟩

theorem post_true (l : OpenLaw) (args : List WData) : l.row.toRowW.claim.post args (.bool true) args = true :=
  postW_of (r := l.row.toRowW) (X := (true == true))
    (show WShape.has [] (.bool true) .bool = true by first | rfl | decide | simp [WShape.has, WShape.arms, WShape.armsAll])
    (show (WTm.eq .res (.lit (.bool true))).value [] { args := args, res := some (.bool true), after := args } = some (.bool (true == true)) from w_eq_bool (w_res rfl) w_lit) rfl

/-! ### the attachment: holds_open's last premise (the goal 'hc' behind k_head) from a wpAny of the law's body -/
/-- the same from a codeAny of the CALL (for a layer whose function contracts speak of calls) -/
theorem attach_call {l : OpenLaw} {n : Nat} {q : Program} {loose : List Str} {XP : (Str → Option Value) → Heap → Prop} {YP : World → Heap → Prop} {d : DefRec}
    (hn : l.most = some n) (hdf : d.params.defaults = [])
    (call : ∀ (w : World) (s₀ s₁ : Shared) (mg mb : Str → Option Value) (fa : Addr) (o : Obj) (pm cd doc : Value) (a : Addr) (vs : List Value) (ns : List Int),
      Ground q loose [] XP w s₀ mg mb s₁.heap → YP w s₁.heap →
      s₁.heap.get? fa = some o → o.data = .func (docDef d.name d.params d.body d.scope pm cd doc) → s₁.heap.CodeRec cd d.name → mg d.name = some (.ref fa) →
      s₁.heap.get? a = some { cls := .type "list", data := .seq vs.toArray } → IntsAre vs ns → ns.length ≤ n → s₁.gens = #[] →
      codeAny (model l.prog w) callerA (.call (.ref fa) ⟨[.ref a], []⟩) (fun r s' => r = .ok (.ret (.bool true)) ∧ OldK s₁.heap s'.heap ∧ s'.os = s₁.os ∧ AllBare s'.gens) s₁) :
    WalkO q loose XP YP l.row.toRowW d [] (fun f vs => PySem.call f vs) := by
  intro w s₀ s₁ mg mb G Y fa o pm cd doc dV kV ho hd hcd hD hmg hg args vals as hpre hlay hrd hwl hlo
  obtain rfl : dV = .none := Dflts.none hD hdf
  obtain rfl : kV = .none := Dflts.noKw hD
  obtain ⟨a, vs, ns, rfl, rfl, hobj, hints, hlen⟩ := script_of hn hpre hwl
  refine enter_call (codeAny_mono (call w s₀ s₁ mg mb fa o pm cd doc a vs ns G Y ho (fd_plain hd) hcd hmg hobj hints hlen hg) fun r s' hq => ?_)
  obtain ⟨rfl, h2, h3, h4⟩ := hq
  exact ⟨.inl ⟨.bool true, .bool true, [], rfl, fun _ => rfl, .bool true, post_true l _, fun _ => ⟨List.Pairwise.nil, fun _ hm => (nomatch hm)⟩⟩, h2, h3, h4⟩

/-! ### rules over ANY heap (no ledger) from facts about the written part K: the library's own take a ledger (News) for what they write -/
section
variable {prog : Program} {w : World} {A : Around} {E : Value → Shared → Prop} {s : Shared} {K : Frag}

/-! the whole heap as the ledger: makes every rule that writes through a ledger a rule over any heap -/
noncomputable def ledger (h : Heap) (L d : Addr) : List (Addr × Obj) := (List.range h.objs.size).filterMap fun a => if a = L ∨ a = d then none else (h.get? a).map fun o => (a, o)
end
end Att

noncomputable section
namespace L2
open PySem PySem.Spec PyProof.Rows

theorem vals_ints : ∀ {vs : List Value} {ns : List Int}, IntsAre vs ns → Vals (ns.map V.int) vs
  | _, _, .nil => .nil
  | _, _, .cons n t h => .cons ⟨t, rfl⟩ (vals_ints h)

end L2
end

noncomputable section
namespace L2
open PySem PySem.Spec PyProof.Rows

end L2
end

/-! SHORT WORDS over the layer: a def of the text, its body, what a loop and a test want. -/
noncomputable section
namespace L2
open PySem PySem.Spec PyProof.Rows

/-! ### the text by places -/
noncomputable def defArgs (s : Stmt) : Arguments := match s with
  | .FunctionDef _ a _ _ _ _ _ _ _ _ => a
  | _ => { posonlyargs := [], args := [], vararg := none, kwonlyargs := [], kw_defaults := [], kwarg := none, defaults := [] }
noncomputable def defBody (s : Stmt) : List Stmt := match s with
  | .FunctionDef _ _ b _ _ _ _ _ _ _ => b
  | _ => []
noncomputable def defScope (s : Stmt) : Scope := match s with
  | .FunctionDef _ _ _ _ _ _ sc _ _ _ => sc
  | _ => { kind := .function, names := [], isGenerator := false, isCoroutine := false }

/-! ### no exception leaves a def -/
noncomputable abbrev CX0 : CXT := fun _ _ _ _ _ _ => False
noncomputable abbrev E0 : XK := fun _ _ _ => False
theorem pass0 {X : Cx} : Passes CX0 X E0 := fun _ _ _ _ _ _ _ h => h.elim

/-! ### a def (or method) of the text as it stands behind the top -/
structure Fun (K : PySem.W.Frag) (x qual : Str) (st : Stmt) (f : Addr) (fd : FuncData) : Prop where
  ex : ∃ (oc : Value) (od : Option Addr) (kV doc pm : Value) (an : Option Addr) (cdv ct : Value) (osl : Array (Option Value)),
    fd = PySem.W.fnOf x qual (defArgs st) (defBody st) (defScope st) .none kV doc pm an cdv ct ∧ K.lookup f = some ⟨oc, od, .func fd, osl⟩ ∧ PySem.W.codeIn K cdv qual = true
  kp : PySem.W.keepIn K (.ref f) = true
section
variable {P : Program} {w : World} {K : PySem.W.Frag} {mg : Str → Option Value} {base : Heap}
/-- THE RULE for a def: its body as a term of rules, and the reading of that term -/
theorem Fun.ok {x qual : Str} {st : Stmt} {f : Addr} {fd : FuncData} {N ps : List Str} {k : Nat} {sp : Sp} (F : Fun K x qual st f fd) (S : FnScope N ps (defScope st)) (len : ∀ vs H Q E, sp vs H Q E → vs.length = ps.length)
    (hbody : ∀ (cdv : Value) (A : Around) (outer : List Env) (s : Shared) (H : Hp) (vs : List V) (Q : VK) (E : XK), Room k (A.deeper (envOfC qual (defScope st) s.heap.objs.size f cdv)) → sp vs H Q E →
      ∃ t, PSs (cxOf CX0 P w K mg base N qual (defScope st) f cdv A outer s H E).nox (defBody st) t ∧ t { nx := fun _ H' => Q .non H', rt := Q } (start N vs) H) : FnOk P w K mg base CX0 (k + 1) f fd ps sp := by
  obtain ⟨oc, od, kV, doc, pm, an, cdv, ct, osl, rfl, lk, hcd⟩ := F.ex
  refine fn_of lk hcd S len fun A outer s H vs Q E hr hsp => ?_
  obtain ⟨t, h, q⟩ := hbody cdv A outer s H vs Q E hr hsp
  exact ⟨t, h.nox, q⟩
/-- how its arguments bind (no defaults): h is «fun _ _ _ _ _ _ us hl => match us, hl with | [_, _], _ => rfl», one _ a parameter -/
theorem Fun.binds {x qual : Str} {st : Stmt} {f : Addr} {fd : FuncData} {ps : List Str} (F : Fun K x qual st f fd)
    (h : ∀ (kV doc pm : Value) (an : Option Addr) (cdv ct : Value) (us : List Value), us.length = ps.length → bindArgs (PySem.W.fnOf x qual (defArgs st) (defBody st) (defScope st) .none kV doc pm an cdv ct) ⟨us, []⟩ = pure (ps.zip us)) : Binds K fd ps [] := by
  obtain ⟨oc, od, kV, doc, pm, an, cdv, ct, osl, rfl, lk, hcd⟩ := F.ex
  exact .all (h kV doc pm an cdv ct)
theorem fun_mk {x qual : Str} {st : Stmt} {f : Addr} {oc : Value} {od an : Option Addr} {osl : Array (Option Value)} {kV doc pm cdv ct : Value} (l : K.lookup f = some ⟨oc, od, .func (PySem.W.fnOf x qual (defArgs st) (defBody st) (defScope st) .none kV doc pm an cdv ct), osl⟩)
    (c : PySem.W.codeIn K cdv qual = true) (k : PySem.W.keepIn K (.ref f) = true) : Fun K x qual st f (PySem.W.fnOf x qual (defArgs st) (defBody st) (defScope st) .none kV doc pm an cdv ct) := ⟨⟨oc, od, kV, doc, pm, an, cdv, ct, osl, rfl, l, c⟩, k⟩
end
/-! ### expressions in short: the name that stands in the i-th slot -/
section
variable {X : Cx}
end

/-! ### tests -/
theorem iteF {A B : Prop} (h : B) : if false = true then A else B := by
  rw [if_neg Bool.false_ne_true]
  exact h
theorem iteT {A B : Prop} (h : A) : if true = true then A else B := by
  rw [if_pos rfl]
  exact h
/-! ### heaps -/
/-- all that was tracked is as it was -/
noncomputable def Same (H H' : Hp) : Prop := ∀ b o, H b = some o → H' b = some o
theorem Same.refl (H : Hp) : Same H H := fun _ _ h => h
end L2
end

set_option Elab.async false
set_option linter.all false
set_option maxRecDepth 100000
set_option maxHeartbeats 4000000
noncomputable section
namespace L2
open PySem PySem.Spec PyProof.Rows

/-! ### comprehensions -/
theorem compLoopT {prog : Program} {w : World} {A : Around} {R : Result → Shared → Prop} {s : Shared} {elt target iter : Expr} {ifs : List Expr} {scope : Scope} {pos : Pos} {it acc : Value} {env : Env} (I : Nat → Shared → Prop)
    (turn : ∀ n s, I n s → wpAny (model prog w) A (pyNext it) (fun r s₁ => match r with
      | none => R (.ok .next) s₁
      | some v => wpAny (model prog w) A (letOwnedTupleGo target it v) (fun _ s₁' => wpAny (model prog w) A (assign target env v) (fun _ s₂ =>
          wpAny (model prog w) A (forIn ifs true fun c r => if r = true then do let ok ← isTrue c env (eval c env); pure (ForInStep.yield ok) else pure (ForInStep.yield r)) (fun ok s₃ =>
            if ok = true then wpAny (model prog w) A (eval elt env) (fun x s₄ =>
              wpAny (model prog w) A (call (.builtin "list.append") [acc, x]) (fun _ s₅ => ∃ m, m < n ∧ I m s₅) (notedBy (model prog w) A env fun e s' => R (.error e) s') s₄) (notedBy (model prog w) A env fun e s' => R (.error e) s') s₃
            else ∃ m, m < n ∧ I m s₃) (notedBy (model prog w) A env fun e s' => R (.error e) s') s₂) (notedBy (model prog w) A env fun e s' => R (.error e) s') s₁') (notedBy (model prog w) A env fun e s' => R (.error e) s') s₁) (notedBy (model prog w) A env fun e s' => R (.error e) s') s)
    (n : Nat) (h : I n s) :
    codeAny (model prog w) A (.compLoop (.ListComp elt [⟨target, iter, ifs, 0⟩] scope pos) 0 it acc env) R s := by
  refine codeAny_loop rfl I (fun n s hI => ?_) n h
  show wpAny _ A ((compTurn (.ListComp elt [⟨target, iter, ifs, 0⟩] scope pos) 0 it acc env).onRaise (fun x => do noteFrame x env; theTreesLotGoes x)) _ _ s
  refine wpAny_noted ?_
  rw [compTurn_list]
  refine wpAny_bind (wpAny_standAt (wpAny_bind (wpAny_mono (turn n s hI) (fun r s₁ h₁ => ?_) fun _ _ h' => h')))
  cases r with
  | none => exact wpAny_pure h₁
  | some v =>
    refine wpAny_bind (wpAny_mono h₁ (fun _ s₁' h₁' => ?_) fun _ _ h' => h')
    refine wpAny_bind (wpAny_mono h₁' (fun _ s₂ h₂ => wpAny_bind (wpAny_mono h₂ (fun ok s₃ h₃ => ?_) fun _ _ h' => h')) fun _ _ h' => h')
    cases ok with
    | false => exact wpAny_pure ⟨rfl, h₃⟩
    | true =>
      exact wpAny_bind (wpAny_bind (wpAny_mono h₃ (fun x s₄ h₄ => wpAny_bind (wpAny_mono h₄ (fun _ s₅ h₅ => wpAny_pure (wpAny_pure ⟨rfl, h₅⟩)) fun _ _ h' => h')) fun _ _ h' => h'))

/-- the closure of a block: its free names' cells -/
noncomputable def clOf (cells : List (Str × Addr)) : List (Str × NameKind) → List (Str × Addr) → List (Str × Addr)
  | [], acc => acc
  | (n, k) :: r, acc => clOf cells r (if k == .free then (match cells.lookup n with | some c => (n, c) :: acc | none => acc) else acc)
theorem closure_forIn {env : Env} : ∀ (names : List (Str × NameKind)) (acc : List (Str × Addr)), (∀ y ∈ names, y.2 = .free → ∃ c, env.cells.lookup y.1 = some c) →
    (forIn names acc fun (x : Str × NameKind) (cs : List (Str × Addr)) => (if x.2 == .free then do let c ← cellOf env x.1; pure (ForInStep.yield ((x.1, c) :: cs)) else pure (ForInStep.yield cs) : Sem (ForInStep (List (Str × Addr))))) = pure (clOf env.cells names acc)
  | [], acc, _ => by rw [List.forIn_nil]; rfl
  | (n, k) :: r, acc, h => by
    have ih := fun a => closure_forIn r a fun y hy => h y (List.mem_cons_of_mem _ hy)
    rw [List.forIn_cons]
    unfold clOf
    cases e : (k == NameKind.free) with
    | false =>
      simp only [Bool.false_eq_true, if_false]
      exact ih acc
    | true =>
      have hk : k = .free := by simpa using e
      obtain ⟨c, hc⟩ := h (n, k) List.mem_cons_self hk
      have e1 : cellOf env n = pure c := by unfold cellOf; rw [hc]
      simp only [if_true, e1, hc]
      exact ih _
theorem closureFor_of {scope : Scope} {env : Env} (h : ∀ y ∈ scope.names, y.2 = .free → ∃ c, env.cells.lookup y.1 = some c) : closureFor scope env = pure (clOf env.cells scope.names []) := by
  have := closure_forIn (env := env) scope.names [] h
  show (forIn scope.names [] (fun (x : Str × NameKind) (cs : List (Str × Addr)) => (if x.2 == .free then do let c ← cellOf env x.1; pure (ForInStep.yield ((x.1, c) :: cs)) else pure (ForInStep.yield cs) : Sem (ForInStep (List (Str × Addr))))) >>= fun cs => pure cs) = _
  rw [this]
  rfl

theorem clOf_mem {cells : List (Str × Addr)} {n : Str} {c : Addr} : ∀ {names : List (Str × NameKind)} {acc : List (Str × Addr)}, (n, c) ∈ clOf cells names acc → cells.lookup n = some c ∨ (n, c) ∈ acc
  | [], _, h => .inr h
  | (m, k) :: r, acc, h => by
    unfold clOf at h
    rcases clOf_mem h with z | z
    · exact .inl z
    · cases e : (k == NameKind.free) with
      | false => simp only [e, Bool.false_eq_true, if_false] at z; exact .inr z
      | true =>
        simp only [e, if_true] at z
        cases q : cells.lookup m with
        | none => rw [q] at z; exact .inr z
        | some d =>
          rw [q] at z
          rcases List.mem_cons.mp z with y | y
          · cases y; exact .inl q
          · exact .inr y
theorem clOf_has {cells : List (Str × Addr)} {n : Str} {c : Addr} (hc : cells.lookup n = some c) : ∀ {names : List (Str × NameKind)} {acc : List (Str × Addr)}, ((n, NameKind.free) ∈ names ∨ (n, c) ∈ acc) → (n, c) ∈ clOf cells names acc
  | [], _, h => by rcases h with h | h; (exact absurd h (by simp)); exact h
  | (m, k) :: r, acc, h => by
    unfold clOf
    refine clOf_has hc ?_
    rcases h with h | h
    · rcases List.mem_cons.mp h with e | h
      · cases e
        right
        simp [hc]
      · exact .inl h
    · right
      cases e : (k == NameKind.free) with
      | false => simpa using h
      | true =>
        simp only [if_true]
        cases q : cells.lookup m with
        | none => exact h
        | some d => exact List.mem_cons_of_mem _ h
theorem lookup_of_mem {α : Type} {n : Str} {c : α} : ∀ {l : List (Str × α)}, (n, c) ∈ l → (∀ d, (n, d) ∈ l → d = c) → l.lookup n = some c
  | (m, d) :: r, h, u => by
    rw [List.lookup_cons]
    cases e : n == m with
    | true =>
      have e' := beq_iff_eq.mp e
      subst e'
      rw [u d List.mem_cons_self]
    | false =>
      rcases List.mem_cons.mp h with z | z
      · cases z; simp at e
      · exact lookup_of_mem z fun d' h' => u d' (List.mem_cons_of_mem _ h')
theorem clOf_lookup {cells : List (Str × Addr)} {n : Str} {c : Addr} {names : List (Str × NameKind)} (hc : cells.lookup n = some c) (h : (n, NameKind.free) ∈ names) : (clOf cells names []).lookup n = some c := by
  refine lookup_of_mem (clOf_has hc (.inl h)) fun d hd => ?_
  rcases clOf_mem hd with z | z
  · rw [hc] at z; exact (Option.some.inj z).symm
  · exact absurd z (by simp)
theorem cellsFrom_append : ∀ (names : List (Str × NameKind)) (n : Nat) (acc : List (Str × Addr)), cellsFrom n names acc = cellsFrom n names [] ++ acc
  | [], _, acc => by simp [cellsFrom]
  | (x, k) :: r, n, acc => by
    unfold cellsFrom
    split
    · rw [cellsFrom_append r (n + 1) ((x, n) :: acc), cellsFrom_append r (n + 1) [(x, n)]]
      simp
    · exact cellsFrom_append r n acc
theorem cellsFrom_name : ∀ {names : List (Str × NameKind)} {n : Nat} {acc : List (Str × Addr)} {x : Str} {c : Addr}, (x, c) ∈ cellsFrom n names acc → (x, NameKind.cell) ∈ names ∨ (x, c) ∈ acc
  | [], _, _, _, _, h => .inr h
  | (y, k) :: r, n, acc, x, c, h => by
    unfold cellsFrom at h
    split at h
    · rename_i hk
      rcases cellsFrom_name h with z | z
      · exact .inl (List.mem_cons_of_mem _ z)
      · rcases List.mem_cons.mp z with e | z
        · cases e
          have : k = .cell := by simpa using hk
          subst this
          exact .inl List.mem_cons_self
        · exact .inr z
    · rcases cellsFrom_name h with z | z
      · exact .inl (List.mem_cons_of_mem _ z)
      · exact .inr z
theorem lookup_app {α : Type} (x : Str) : ∀ (l r : List (Str × α)), (l ++ r).lookup x = (l.lookup x).or (r.lookup x)
  | [], r => by simp
  | (y, v) :: l, r => by
    rw [List.cons_append, List.lookup_cons, List.lookup_cons]
    cases x == y with
    | true => rfl
    | false => exact lookup_app x l r
end L2
end

set_option Elab.async false
set_option linter.all false
set_option maxRecDepth 100000
set_option maxHeartbeats 4000000
noncomputable section
namespace L2
open PySem PySem.Spec PyProof.Rows

noncomputable def compCheck (N' : List Str) (src : List (Option Nat)) (scope : Scope) (XN : List Str) (xs : Scope) : Bool :=
  (scope.kind == .function) &&
  (scope.names.all fun y => !(y.2 == .free) || (xs.names.lookup y.1 == some .cell || xs.names.lookup y.1 == some .free)) &&
  (scope.names.all fun y => !(y.2 == .local) || scope.names.lookup y.1 == some .local) &&
  (scope.names.all fun y => !(y.2 == .cell) || (scope.names.all fun z => !(z.1 == y.1) || z.2 == .cell)) &&
  (src.length == N'.length) &&
  ((N'.zip src).all fun y => match y.2 with | none => true | some j => XN[j]? == some y.1 && scope.names.lookup y.1 == some .free)

structure CompCk (N' : List Str) (src : List (Option Nat)) (scope : Scope) (XN : List Str) (xs : Scope) : Prop where
  kind : scope.kind = .function
  fr : ∀ y ∈ scope.names, y.2 = .free → xs.names.lookup y.1 = some .cell ∨ xs.names.lookup y.1 = some .free
  loc : ∀ y ∈ scope.names, y.2 = .local → scope.names.lookup y.1 = some .local
  cel : ∀ y ∈ scope.names, y.2 = .cell → ∀ z ∈ scope.names, z.1 = y.1 → z.2 = .cell
  len : src.length = N'.length
  sr : ∀ (i j : Nat) (x : Str), src[i]? = some (some j) → N'[i]? = some x → XN[j]? = some x ∧ scope.names.lookup x = some .free
theorem compCk {N' : List Str} {src : List (Option Nat)} {scope : Scope} {XN : List Str} {xs : Scope} (h : compCheck N' src scope XN xs = true) : CompCk N' src scope XN xs := by
  unfold compCheck at h
  simp only [Bool.and_eq_true] at h
  obtain ⟨⟨⟨⟨⟨h1, h2⟩, h3⟩, h4⟩, h5⟩, h6⟩ := h
  refine ⟨by simpa using h1, fun y hy e => ?_, fun y hy e => ?_, fun y hy e z hz ez => ?_, by simpa using h5, fun i j x e1 e2 => ?_⟩
  · have := List.all_eq_true.mp h2 y hy
    simpa [e] using this
  · have := List.all_eq_true.mp h3 y hy
    simpa [e] using this
  · have := List.all_eq_true.mp h4 y hy
    simp only [e, beq_self_eq_true, Bool.not_true, Bool.false_or] at this
    have := List.all_eq_true.mp this z hz
    simpa [ez] using this
  · have hm : (x, some j) ∈ N'.zip src := by
      refine List.mem_of_getElem? (i := i) ?_
      rw [List.getElem?_zip_eq_some]
      exact ⟨e2, e1⟩
    have := List.all_eq_true.mp h6 _ hm
    simpa using this

/-- the context of a comprehension's block -/
noncomputable abbrev cxComp (X : Cx) (N' : List Str) (scope : Scope) (C : Addr) (cells : List (Str × Addr)) (s : Shared) (H : Hp) (ex : List Addr) : Cx where
  prog := X.prog
  w := X.w
  K := X.K
  mg := X.mg
  base := X.base
  A := X.A
  N := N'
  s₀ := s
  H₀ := H
  env := { scope := relabel scope X.env, locals := C, globals := X.env.globals, cells := cells, qual := X.env.qual, func := none, code := X.env.code, frame := X.env.frame, builtins := X.env.builtins }
  outer := X.stack
  stack := X.stack
  ex := ex
  fn := fun x => scope.names.lookup x == some .cell
  calm := X.calm
  pn := []
  xe := fun _ _ => False

/-- the tests of a comprehension -/
noncomputable def PIf (X : Cx) (ifs : List Expr) (t : TT) : Prop :=
  ∀ (pins : List (Addr × Obj)) (s : Shared) (σ : St) (H : Hp) (Q : Bool → Hp → Prop), Inv X pins σ H s → t σ H Q →
    wpAny (model X.prog X.w) X.A (forIn ifs true fun c r => if r = true then do let ok ← isTrue c X.env (eval c X.env); pure (ForInStep.yield ok) else pure (ForInStep.yield r)) (TP X pins σ Q) X.xe s
noncomputable def tYes : TT := fun _ H Q => Q true H
theorem pif_nil {X : Cx} : PIf X [] tYes := fun _ _ _ H _ I h => wpAny_tests_nil ⟨H, I, h⟩
theorem pif_one {X : Cx} {c : Expr} {t : TT} (h : PT X c t) : PIf X [c] t := fun pins s σ H Q I hw => wpAny_tests_one (h pins s σ H Q I hw)

noncomputable def srcSt (src : List (Option Nat)) (σ : St) : St := src.map fun o => match o with | none => none | some j => (σ[j]?).join
noncomputable def tComp (src : List (Option Nat)) (wi : TI) (g : TG) (tc : TT) (te : TE) : TE := fun σ H Q => wi σ H fun J H1 => ∀ D, H1 D = none →
  ∃ W : Nat → Nat → St → Hp → Prop, (∃ m, W 0 m (srcSt src σ) (upd H1 D (.lst []))) ∧ ∀ i m σ' H', W i m σ' H' →
    (J.stop i H' ∧ Q (.ref D) H') ∨ (J.go i H' ∧ ∃ N : St → Hp → Prop, (∀ σ2 H2, N σ2 H2 → ∃ m', m' < m ∧ W (i + 1) m' σ2 H2) ∧
      ∀ x H2, J.yld i H' x H2 → g x σ' H2 fun σ3 H3 => tc σ3 H3 fun b H4 => if b = true then te σ3 H4 fun v H5 => ∃ ys, H5 D = some (.lst ys) ∧ ys.length < sizeLine ∧ N σ3 (upd H5 D (.lst (ys ++ [v]))) else N σ3 H4)

theorem lookup_relabel {env : Env} : ∀ {names : List (Str × NameKind)} {x : Str} {k : NameKind}, names.lookup x = some k →
    (names.map fun (n, k) => if (k == NameKind.free && env.scope.kind == .function && env.kindOf n == some .cell) then (n, NameKind.cell) else (n, k)).lookup x =
      some (if (k == NameKind.free && env.scope.kind == .function && env.kindOf x == some .cell) then NameKind.cell else k)
  | [], _, _, h => by simp at h
  | (n, k) :: r, x, k', h => by
    have ih := @lookup_relabel env r x k'
    show List.lookup x ((if (k == NameKind.free && env.scope.kind == .function && env.kindOf n == some .cell) = true then (n, NameKind.cell) else (n, k)) :: _) = _
    cases hx : x == n with
    | true =>
      have e := beq_iff_eq.mp hx
      subst e
      simp only [List.lookup_cons, hx] at h
      cases h
      by_cases hc : (k == NameKind.free && env.scope.kind == .function && env.kindOf x == some .cell) = true
      · rw [if_pos hc, if_pos hc]; simp only [List.lookup_cons, hx]
      · rw [if_neg hc, if_neg hc]; simp only [List.lookup_cons, hx]
    | false =>
      simp only [List.lookup_cons, hx] at h
      by_cases hc : (k == NameKind.free && env.scope.kind == .function && env.kindOf n == some .cell) = true
      · rw [if_pos hc]; simp only [List.lookup_cons, hx]; exact ih h
      · rw [if_neg hc]; simp only [List.lookup_cons, hx]; exact ih h
theorem lookup_relabel_none {env : Env} : ∀ {names : List (Str × NameKind)} {x : Str}, names.lookup x = none →
    (names.map fun (n, k) => if (k == NameKind.free && env.scope.kind == .function && env.kindOf n == some .cell) then (n, NameKind.cell) else (n, k)).lookup x = none
  | [], _, _ => rfl
  | (n, k) :: r, x, h => by
    have ih := @lookup_relabel_none env r x
    show List.lookup x ((if (k == NameKind.free && env.scope.kind == .function && env.kindOf n == some .cell) = true then (n, NameKind.cell) else (n, k)) :: _) = _
    cases hx : x == n with
    | true => simp only [List.lookup_cons, hx] at h; cases h
    | false =>
      simp only [List.lookup_cons, hx] at h
      by_cases hc : (k == NameKind.free && env.scope.kind == .function && env.kindOf n == some .cell) = true
      · rw [if_pos hc]; simp only [List.lookup_cons, hx]; exact ih h
      · rw [if_neg hc]; simp only [List.lookup_cons, hx]; exact ih h

/-- the entry of the block -/
theorem comp_start {X : Cx} {N' : List Str} {src : List (Option Nat)} {scope : Scope} {pins : List (Addr × Obj)} {σ : St} {H : Hp} {s s4 : Shared} {fp : List Addr}
    (hck : CompCk N' src scope X.N X.env.scope) (I : Inv X pins σ H s) (hf : ∀ b ∈ fp, FpOk X pins H b) (hfl : ∀ b ∈ fp, b < s.heap.objs.size)
    (e4 : ∃ tk, s4 = { s with heap := pushCells (s.heap.push { cls := .type "dict", data := .dict #[] }) scope.names, toks := tk }) :
    Inv (cxComp X N' scope s.heap.objs.size (cellsFrom (s.heap.objs.size + 1) scope.names (clOf X.env.cells scope.names [])) s H fp) [] (srcSt src σ) H s4 := by
  obtain ⟨tk, rfl⟩ := e4
  have hk : ∀ b o, s.heap.get? b = some o → (pushCells (s.heap.push { cls := .type "dict", data := .dict #[] }) scope.names).get? b = some o := fun b o e => pushCells_keeps _ _ b o (Heap.get?_push_of_some _ e)
  have ok := cellsFrom_ok scope.names (s.heap.push { cls := .type "dict", data := .dict #[] }) (s.heap.objs.size + 1) [] ⟨fun _ _ hm => (nomatch hm), List.Pairwise.nil⟩ (by rw [Heap.size_push]; exact Nat.le_refl _)
  rw [Heap.size_push] at ok
  have eapp := cellsFrom_append scope.names (s.heap.objs.size + 1) (clOf X.env.cells scope.names [])
  -- a cell of the block: new, or one of the frame's
  have lk : ∀ x c, (cellsFrom (s.heap.objs.size + 1) scope.names (clOf X.env.cells scope.names [])).lookup x = some c →
      ((x, c) ∈ cellsFrom (s.heap.objs.size + 1) scope.names [] ∧ (x, NameKind.cell) ∈ scope.names) ∨ (X.env.cells.lookup x = some c ∧ (cellsFrom (s.heap.objs.size + 1) scope.names []).lookup x = none) := fun x c e => by
    rw [eapp, lookup_app] at e
    cases q : (cellsFrom (s.heap.objs.size + 1) scope.names []).lookup x with
    | some d =>
      rw [q] at e
      have e' : d = c := Option.some.inj e
      subst e'
      have hm := PySem.mem_of_lookup q
      refine .inl ⟨hm, ?_⟩
      rcases cellsFrom_name hm with z | z
      · exact z
      · exact absurd z (by simp)
    | none =>
      rw [q] at e
      have e' : (clOf X.env.cells scope.names []).lookup x = some c := e
      rcases clOf_mem (PySem.mem_of_lookup e') with z | z
      · exact .inr ⟨z, rfl⟩
      · exact absurd z (by simp)
  have up : ∀ x c, (x, c) ∈ cellsFrom (s.heap.objs.size + 1) scope.names [] → s.heap.objs.size + 1 ≤ c := fun x c h => (ok.empty x c h).2
  have old : ∀ x c, X.env.cells.lookup x = some c → c < s.heap.objs.size := fun x c h => by
    obtain ⟨v, q⟩ := I.cell x c h
    exact q.lt
  have hbelow : ∀ b, b < s.heap.objs.size → b ≠ s.heap.objs.size := fun b h => Nat.ne_of_lt h
  have fpl : ∀ b ∈ fp, H b = none ∧ b ≠ X.env.locals ∧ b ∉ X.fs := fun b hb => ⟨(hf b hb).1, (hf b hb).2.1, (hf b hb).2.2.1⟩
  have hns : (pushCells (s.heap.push { cls := .type "dict", data := .dict #[] }) scope.names).Ns s.heap.objs.size (fun _ => none) := (Heap.Ns.new s.heap (.type "dict")).keeps (pushCells_keeps _ _)
  have hkind : ∀ x k, scope.names.lookup x = some k → (relabel scope X.env).names.lookup x = some (if (k == NameKind.free && X.env.scope.kind == .function && X.env.kindOf x == some .cell) then NameKind.cell else k) := fun x k e => lookup_relabel (env := X.env) e
  have hkind0 : ∀ x, scope.names.lookup x = none → (relabel scope X.env).names.lookup x = none := fun x e => lookup_relabel_none (env := X.env) e
  -- a free name of the block has the frame's cell
  have frc : ∀ x c, (x, NameKind.free) ∈ scope.names → X.env.cells.lookup x = some c → (cellsFrom (s.heap.objs.size + 1) scope.names (clOf X.env.cells scope.names [])).lookup x = some c := fun x c hx hc => by
    rw [eapp, lookup_app]
    cases q : (cellsFrom (s.heap.objs.size + 1) scope.names []).lookup x with
    | some d =>
      rcases cellsFrom_name (PySem.mem_of_lookup q) with z | z
      · have := hck.cel _ z rfl _ hx rfl
        cases this
      · exact absurd z (by simp)
    | none => exact clOf_lookup hc hx
  have hfree : ∀ x, (x, NameKind.free) ∈ scope.names → ∃ c, X.env.cells.lookup x = some c := fun x hx => I.ok.has x (hck.fr _ hx rfl)
  refine ⟨⟨I.ok.mod, hck.kind, I.ok.glob, I.ok.blt, Nat.le_refl _, fun x y c e1 e2 => ?_, fun x hx => ?_, fun x c hx e => ?_, I.ok.hd, I.ok.frames, .inl rfl, fun b hb => ⟨hbelow b (hfl b hb), fun x c e z => ?_⟩, I.bs, Nat.le_trans I.ok.bsz I.sz, fun b o e hb => ?_, fun b hb z => ?_, I.stack, I.stkFree⟩,
    rfl, I.bare, Un.kept hk, ⟨_, hns, fun i x v e1 e2 e3 => ?_⟩, fun x c e => ?_, I.hok.fresh (Nat.le_refl _), fun x c e => ?_, fun p hp => absurd (show p ∈ ([] : List (Addr × Obj)) from hp) (by simp), I.hok.kept hk, by unfold srcSt; rw [List.length_map]; exact hck.len⟩
  · rcases lk x c e1 with ⟨a1, _⟩ | ⟨a1, _⟩ <;> rcases lk y c e2 with ⟨a2, _⟩ | ⟨a2, _⟩
    · exact name_of_addr ok.apart a1 a2
    · exact absurd (Nat.lt_of_lt_of_le (old _ _ a2) (Nat.le_of_succ_le (up _ _ a1))) (Nat.lt_irrefl _)
    · exact absurd (Nat.lt_of_lt_of_le (old _ _ a1) (Nat.le_of_succ_le (up _ _ a2))) (Nat.lt_irrefl _)
    · exact I.ok.inj x y c a1 a2
  · cases q : scope.names.lookup x with
    | none =>
      have hx' : (relabel scope X.env).names.lookup x = some .cell ∨ (relabel scope X.env).names.lookup x = some .free := hx
      rw [hkind0 x q] at hx'
      rcases hx' with z | z <;> cases z
    | some k =>
      have hx' : (relabel scope X.env).names.lookup x = some .cell ∨ (relabel scope X.env).names.lookup x = some .free := hx
      rw [hkind x k q] at hx'
      cases k with
      | free =>
        obtain ⟨c, hc⟩ := hfree x (PySem.mem_of_lookup q)
        exact ⟨c, frc x c (PySem.mem_of_lookup q) hc⟩
      | cell =>
        obtain ⟨c, hc⟩ := cell_has (n := s.heap.objs.size + 1) q
        exact ⟨c, by show (cellsFrom _ _ _).lookup x = _; rw [eapp, lookup_app, hc]; rfl⟩
      | _ => rcases hx' with z | z <;> cases z
  · have hx' : (scope.names.lookup x == some .cell) = true := hx
    have q : scope.names.lookup x = some .cell := by simpa using hx'
    rcases lk x c e with ⟨a, _⟩ | ⟨a, b⟩
    · have := up _ _ a; show s.heap.objs.size ≤ c; omega
    · obtain ⟨d, hd⟩ := cell_has (n := s.heap.objs.size + 1) q
      rw [hd] at b; cases b
  · subst z
    rcases lk x c e with ⟨a, _⟩ | ⟨a, _⟩
    · exact absurd (Nat.lt_of_lt_of_le (hfl c hb) (Nat.le_of_succ_le (up _ _ a))) (Nat.lt_irrefl _)
    · exact (hf c hb).2.2.2.2.1 x c a rfl
  · rcases (hf b hb).2.2.2.1 with z | z
    · exact I.ok.noex b o e z
    · exact absurd (Nat.lt_of_lt_of_le (Heap.lt_size e) (Nat.le_trans I.ok.bsz z)) (Nat.lt_irrefl _)
  · rcases List.mem_cons.mp (I.stkSub b z) with y | y
    · exact (fpl b hb).2.1 y
    · exact (fpl b hb).2.2 y
  · have e2' : (srcSt src σ)[i]? = some (some v) := e2
    unfold srcSt at e2'
    rw [List.getElem?_map] at e2'
    cases q : src[i]? with
    | none => rw [q] at e2'; cases e2'
    | some o =>
      rw [q] at e2'
      cases o with
      | none => cases e2'
      | some j =>
        have e2'' : (σ[j]?).join = some v := Option.some.inj e2'
        have ej : σ[j]? = some (some v) := by
          cases q2 : σ[j]? with
          | none => rw [q2] at e2''; cases e2''
          | some o2 => rw [q2] at e2''; exact congrArg some e2''
        obtain ⟨h1, h2⟩ := hck.sr i j x q e1
        have hm := PySem.mem_of_lookup h2
        obtain ⟨mX, hnX, hlX⟩ := I.loc
        have hvis : Vis X.env.scope x := by
          rcases hck.fr _ hm rfl with z | z
          · exact .inr (.inl z)
          · exact .inr (.inr z)
        obtain ⟨u, ru, look⟩ := hlX j x v h1 ej hvis
        refine ⟨u, ru, .inr ?_⟩
        have hcell : ∃ c, X.env.cells.lookup x = some c ∧ s.heap.IsCell c (some u) := by
          rcases look with ⟨z, _⟩ | ⟨_, c, z1, z2⟩
          · have z' : X.env.scope.names.lookup x = some .local := z
            rcases hck.fr _ hm rfl with y | y <;> (rw [z'] at y; cases y)
          · exact ⟨c, z1, z2⟩
        obtain ⟨c, c1, c2⟩ := hcell
        refine ⟨?_, c, frc x c hm c1, c2.keeps hk⟩
        show (relabel scope X.env).names.lookup x = some .cell ∨ (relabel scope X.env).names.lookup x = some .free
        rw [hkind x _ h2]
        by_cases hc : (NameKind.free == NameKind.free && X.env.scope.kind == .function && X.env.kindOf x == some .cell) = true
        · rw [if_pos hc]; exact .inl rfl
        · rw [if_neg hc]; exact .inr rfl
  · rcases lk x c e with ⟨a, _⟩ | ⟨a, _⟩
    · exact ⟨_, (ok.empty x c a).1⟩
    · obtain ⟨v, q⟩ := I.cell x c a
      exact ⟨v, q.keeps hk⟩
  · rcases lk x c e with ⟨a, _⟩ | ⟨a, _⟩
    · exact I.hok.fresh (by have := up _ _ a; omega)
    · exact I.freeC x c a

/-- behind the block -/
theorem comp_end {X : Cx} {N' : List Str} {scope : Scope} {pins : List (Addr × Obj)} {σ σ' : St} {H H5 : Hp} {s s5 : Shared} {fp : List Addr} {cells : List (Str × Addr)} {h' : Heap}
    (I : Inv X pins σ H s) (hf : ∀ b ∈ fp, FpOk X pins H b) (J : Inv (cxComp X N' scope s.heap.objs.size cells s H fp) [] σ' H5 s5) (hs : Heap.SameBut s.heap.objs.size s5.heap h') :
    Inv X pins σ H5 { s5 with heap := h' } := by
  have neC : ∀ b o, s.heap.get? b = some o → b ≠ s.heap.objs.size := fun b o e => Nat.ne_of_lt (Heap.lt_size e)
  have u : Un (frs X.stack) fp H H5 s.heap s5.heap := J.base
  refine I.call' (s' := { s5 with heap := h' }) (ch := fp) J.os ⟨fun b o e n hb hx => ?_, fun b o e n hb hx => ?_, fun b o e n hx => u.free b o e n hx, fun b o e hx => ?_, u.tups, u.frzs, u.tbls⟩ (fun b o e => ?_) J.bare fun b hb => ⟨(hf b hb).2.2.2.1, (hf b hb).2.1, (hf b hb).2.2.2.2.1, (hf b hb).2.2.2.2.2⟩
  · exact (hs.2 b (neC b o e)).trans (u.keep b o e n hb hx)
  · obtain ⟨sl, q⟩ := u.slot b o e n hb hx
    exact ⟨sl, (hs.2 b (neC b o e)).trans q⟩
  · obtain ⟨o', q⟩ := u.there b o e hx
    exact ⟨o', (hs.2 b (neC b o e)).trans q⟩
  · have fr : H5 s.heap.objs.size = none := J.free
    refine (J.hok b o e).stay (fun c w' hc q => (hs.2 c ?_).trans q) (fun _ q => q) fun _ _ q => q
    rintro rfl
    rcases hc with z | hc
    · rw [← z, fr] at e; cases e
    · rw [fr] at hc; cases hc

theorem wpAny_compEnv {M : Model} {A : Around} {E : Value → Shared → Prop} {s : Shared} {scope : Scope} {globals : Addr} {closure : List (Str × Addr)} {qual : Str} {outer : Env} {Q : Env → Shared → Prop}
    (h : Q { scope := scope, locals := s.heap.objs.size, globals := globals, cells := cellsFrom (s.heap.objs.size + 1) scope.names closure, qual := qual, func := none, code := outer.code, frame := outer.frame, builtins := outer.builtins }
      { s with heap := pushCells (s.heap.push { cls := .type "dict", data := .dict #[] }) scope.names }) :
    wpAny M A (newFunctionEnv scope globals closure [] qual none .none (some outer)) Q E s := by
  simp only [newFunctionEnv, Option.isSome_some, if_true]
  refine wpAny_bind (wpAny_alloc ?_)
  refine wpAny_bind (wpAny_layCells _ (fun name kind cells => by cases hkc : kind == NameKind.cell <;> simp [hkc]) _ _ _ _ ?_)
  rw [show ({ s with heap := s.heap.push { cls := .type "dict", data := .dict #[] } } : Shared).heap.objs.size = s.heap.objs.size + 1 from Heap.size_push ..]
  refine wpAny_bind ?_
  rw [List.forIn_nil]
  exact wpAny_pure (wpAny_pure h)


theorem comp_loop {X' : Cx} {R : Result → Shared → Prop} {elt tg iter : Expr} {ifs : List Expr} {scope : Scope} {pos : Pos} {g : TG} {tc : TT} {te : TE} {J : It} {fp : List Addr} {it D : Addr} {tn : Nat → Heap → Prop} {W : Nat → Nat → St → Hp → Prop}
    {QD : Hp → Prop} {σ0 : St} {H0 : Hp} {s4 : Shared} {m0 : Nat} (hx : X'.xe = fun _ _ => False) (hcalm : X'.calm = true) (I4 : Inv X' [] σ0 H0 s4) (T : Turn X'.prog X'.w X'.K tg J fp it tn) (tn4 : tn 0 s4.heap)
    (stat : ∀ H' : Hp, (∀ b ∈ fp, H' b = none) → ∀ b ∈ fp, FpOk X' [] H' b) (fr0 : ∀ b ∈ fp, H0 b = none) (w0 : W 0 m0 σ0 H0)
    (turn : ∀ i m σ' H', W i m σ' H' → (J.stop i H' ∧ QD H') ∨ (J.go i H' ∧ ∃ N : St → Hp → Prop, (∀ σ2 H2, N σ2 H2 → ∃ m', m' < m ∧ W (i + 1) m' σ2 H2) ∧
      ∀ x H2, J.yld i H' x H2 → g x σ' H2 fun σ3 H3 => tc σ3 H3 fun b H4 => if b = true then te σ3 H4 fun v H5 => ∃ ys, H5 D = some (.lst ys) ∧ ys.length < sizeLine ∧ N σ3 (upd H5 D (.lst (ys ++ [v]))) else N σ3 H4))
    (hg : PG X' tg g) (hif : PIf X' ifs tc) (he : PE X' elt te) (hend : ∀ σ' H' s', Inv X' [] σ' H' s' → QD H' → R (.ok .next) s') :
    codeAny (model X'.prog X'.w) X'.A (.compLoop (.ListComp elt [⟨tg, iter, ifs, 0⟩] scope pos) 0 (.ref it) (.ref D) X'.env) R s4 := by
  have nox : ∀ {α : Type} {t : Sem α} {Q Q' : α → Shared → Prop} {E : Value → Shared → Prop} {s : Shared}, wpAny (model X'.prog X'.w) X'.A t Q X'.xe s → (∀ a s, Q a s → Q' a s) → wpAny (model X'.prog X'.w) X'.A t Q' E s :=
    fun h hQ => wpAny_mono h hQ fun _ _ z => by rw [hx] at z; exact z.elim
  refine compLoopT (fun n s' => ∃ i σ' H', Inv X' [] σ' H' s' ∧ tn i s'.heap ∧ (∀ b ∈ fp, H' b = none) ∧ W i n σ' H') ?_ m0 ⟨0, σ0, H0, I4, tn4, fr0, w0⟩
  rintro n s3 ⟨i, σ3, H3, I3, st3, fr3, w3⟩
  rcases turn i n σ3 H3 w3 with ⟨stop, qn⟩ | ⟨go, N, hN, step⟩
  · refine nox (T.done X' rfl rfl rfl hcalm i [] s3 σ3 H3 X'.xe I3 (stat H3 fr3) st3 stop) fun r s4 ⟨hr, I4⟩ => ?_
    subst hr
    exact hend σ3 H3 s4 I4 qn
  · refine nox (T.item X' rfl rfl rfl hcalm i [] s3 σ3 H3 X'.xe I3 (stat H3 fr3) st3 go) fun r s4 ⟨u, hr, h4⟩ => ?_
    subst hr
    refine nox h4 fun _ s5 ⟨x, H5, I5, r5, y5, st5, fr5⟩ => ?_
    have I5' := I5.pinned (stat H5 fr5) (T.obj _ _ st5)
    refine nox (hg _ s5 σ3 H5 x u _ I5' r5 (step x H5 y5)) fun _ s6 ⟨σ6, H6, I6, q6⟩ => ?_
    have again : ∀ {σ7 : St} {H7 : Hp} {s7 : Shared}, Inv X' ([] ++ pinsAt fp s5.heap) σ7 H7 s7 → N σ7 H7 → ∃ m, m < n ∧ ∃ i σ' H', Inv X' [] σ' H' s7 ∧ tn i s7.heap ∧ (∀ b ∈ fp, H' b = none) ∧ W i m σ' H' := fun {σ7 H7 s7} I7 n7 => by
      obtain ⟨m', hm, w7⟩ := hN σ7 H7 n7
      refine ⟨m', hm, i + 1, σ7, H7, I7.unpinned, T.keep _ _ _ st5 fun b hb o e => (I7.pin (b, o) (List.mem_append_right _ (List.mem_append_right _ (mem_pinsAt hb e)))).1, fun b hb => ?_, w7⟩
      obtain ⟨o, e, d⟩ := T.obj _ _ st5 b hb
      exact (I7.pin (b, o) (List.mem_append_right _ (List.mem_append_right _ (mem_pinsAt hb e)))).2.1
    refine nox (hif _ s6 σ6 H6 _ I6 q6) fun b s7 ⟨H7, I7, q7⟩ => ?_
    cases b with
    | false =>
      rw [if_neg Bool.false_ne_true] at q7 ⊢
      exact again I7 q7
    | true =>
      rw [if_pos rfl] at q7 ⊢
      refine nox (he _ s7 σ6 H7 _ I7 q7) fun v s8 ⟨y, H8, I8, r8, ys, hy, hz, q8⟩ => ?_
      refine nox (mt_append _ s8 σ6 H8 (.ref D) [y] (.ref D) [v] (fun _ H9 => N σ6 H9) I8 rfl (.cons r8 .nil) ⟨D, ys, y, rfl, rfl, hy, hz, q8⟩) fun v9 s9 ⟨_, H9, I9, _, q9⟩ => ?_
      exact again I9 q9

theorem pe_comp {X : Cx} {elt tg iter : Expr} {ifs : List Expr} {scope : Scope} {pos : Pos} {wi : TI} {g : TG} {tc : TT} {te : TE} (N' : List Str) (src : List (Option Nat))
    (hck : compCheck N' src scope X.N X.env.scope = true) (hi : PI X tg iter wi) (hcalm : X.calm = true)
    (hin : ∀ (C : Addr) (cells : List (Str × Addr)) (s : Shared) (H : Hp) (ex : List Addr), PG (cxComp X N' scope C cells s H ex) tg g ∧ PIf (cxComp X N' scope C cells s H ex) ifs tc ∧ PE (cxComp X N' scope C cells s H ex) elt te)
    (hs : ∀ x, foldedSetIterable iter X.env x = pure x := by intro _; rfl) : PE X (.ListComp elt [⟨tg, iter, ifs, 0⟩] scope pos) (tComp src wi g tc te) := by
  intro pins s σ H Q I h
  have ck := compCk hck
  rw [eval_ListComp]
  have hcl := closureFor_of (scope := scope) (env := X.env) fun y hy e => I.ok.has y.1 (ck.fr y hy e)
  refine wpAny_comprehension_free (use := none) rfl hs hcl ck.kind ck.loc (thn (hi pins s σ H _ I h) fun v s1 h1 => thn h1 fun itv s2 h2 => ?_)
  obtain ⟨it, fp, tn, J, H2, e, I2, T, st2, f2, W⟩ := h2
  subst e
  have hD := I2.fresh
  obtain ⟨W, ⟨m0, w0⟩, turn⟩ := W _ hD
  have I3 := I2.lnew (its := []) (ys := []) (t' := s2.toks) .nil (Nat.zero_le _)
  have fpD : ∀ b ∈ fp, b < s2.heap.objs.size := fun b hb => by obtain ⟨o, q, _⟩ := T.obj _ _ st2 b hb; exact Heap.lt_size q
  have f3 : ∀ b ∈ fp, FpOk X pins (upd H2 s2.heap.objs.size (.lst [])) b := fun b hb => ⟨by rw [upd_ne (Nat.ne_of_lt (fpD b hb))]; exact (f2 b hb).1, (f2 b hb).2⟩
  refine wpAny_newObj_type (wpAny_compEnv ?_)
  generalize hs3 : ({ s2 with heap := s2.heap.push { cls := .type "list", data := .seq ([] : List Value).toArray }, toks := s2.toks } : Shared) = s3 at I3
  have hs3' : ({ s2 with heap := s2.heap.push { cls := .type "list", data := .seq ([] : List Value).toArray } } : Shared) = s3 := hs3
  have fp3 : ∀ b ∈ fp, b < s3.heap.objs.size := fun b hb => by
    rw [← hs3]
    show b < (s2.heap.push _).objs.size
    rw [Heap.size_push]
    exact Nat.lt_succ_of_lt (fpD b hb)
  have I4 := comp_start (s4 := { s3 with heap := pushCells (s3.heap.push { cls := .type "dict", data := .dict #[] }) scope.names }) ck I3 f3 fp3 ⟨_, rfl⟩
  have tn4 : tn 0 (pushCells (s3.heap.push { cls := .type "dict", data := .dict #[] }) scope.names) := T.keep _ _ _ st2 fun b hb o e => pushCells_keeps _ _ b o (Heap.get?_push_of_some _ (by rw [← hs3]; exact Heap.get?_push_of_some _ e))
  obtain ⟨hg, hif, he⟩ := hin s3.heap.objs.size (cellsFrom (s3.heap.objs.size + 1) scope.names (clOf X.env.cells scope.names [])) s3 (upd H2 s2.heap.objs.size (.lst [])) fp
  have stat : ∀ H' : Hp, (∀ b ∈ fp, H' b = none) → ∀ b ∈ fp, FpOk (cxComp X N' scope s3.heap.objs.size (cellsFrom (s3.heap.objs.size + 1) scope.names (clOf X.env.cells scope.names [])) s3 (upd H2 s2.heap.objs.size (.lst [])) fp) [] H' b := fun H' hn b hb =>
    ⟨hn b hb, (I4.ok.exf b hb).1, I4.ok.exfs b hb, .inl hb, fun x c e => (I4.ok.exf b hb).2 x c e, fun p hp => absurd (show p ∈ ([] : List (Addr × Obj)) from hp) (by simp)⟩
  have T' : Turn X.prog X.w X.K tg J fp it tn := T
  have fr0 : ∀ b ∈ fp, upd H2 s2.heap.objs.size (.lst []) b = none := fun b hb => (f3 b hb).1
  have L := comp_loop (X' := cxComp X N' scope s3.heap.objs.size (cellsFrom (s3.heap.objs.size + 1) scope.names (clOf X.env.cells scope.names [])) s3 (upd H2 s2.heap.objs.size (.lst [])) fp) (R := compPost (model X.prog X.w) X.A X.xe none (EP X pins σ Q) (Value.ref s2.heap.objs.size) s3.heap.objs.size) (iter := iter) (scope := scope) (pos := pos) (QD := fun H' => Q (.ref s2.heap.objs.size) H') rfl hcalm I4 T' tn4 stat fr0 w0 turn hg hif he
    (fun σ' H' s' J' q => by
      obtain ⟨mm, hn, _⟩ := J'.loc
      exact ⟨mm, hn, fun h' hs' => ⟨.ref s2.heap.objs.size, H', comp_end I3 f3 J' hs', rfl, q⟩⟩)
  exact codeAny_compStart_list L (T.self _ _ _ _ _ tn4 L)
end L2
end

set_option Elab.async false
set_option linter.all false
set_option maxRecDepth 100000
set_option maxHeartbeats 4000000
noncomputable section
namespace L2
open PySem PySem.Spec PyProof.Rows
section
variable {X : Cx}
theorem b_abs : bootBuiltins "abs" = some (.builtin "abs") := by decide +kernel
theorem b_len : bootBuiltins "len" = some (.builtin "len") := by decide +kernel
theorem b_min : bootBuiltins "min" = some (.builtin "min") := by decide +kernel
theorem b_max : bootBuiltins "max" = some (.builtin "max") := by decide +kernel
theorem b_sum : bootBuiltins "sum" = some (.builtin "sum") := by decide +kernel
theorem b_all : bootBuiltins "all" = some (.builtin "all") := by decide +kernel
theorem b_isinstance : bootBuiltins "isinstance" = some (.builtin "isinstance") := by decide +kernel
theorem b_int : bootBuiltins "int" = some (.type "int") := by decide +kernel
theorem b_bool : bootBuiltins "bool" = some (.type "bool") := by decide +kernel
theorem b_str : bootBuiltins "str" = some (.type "str") := by decide +kernel
theorem b_tuple : bootBuiltins "tuple" = some (.type "tuple") := by decide +kernel
theorem b_list : bootBuiltins "list" = some (.type "list") := by decide +kernel
/-! // by a positive divisor below 2 ^ 4096 -/
noncomputable def CDivL (i j : Int) : Prop := 0 < j ∧ j < 2 ^ 4096
theorem log2_lt_of {y : Int} (h0 : 0 < y) (h : y < 2 ^ 4096) : y.natAbs.log2 < 9000 := by
  have hn : y.natAbs < 2 ^ 4096 := by
    have : (y.natAbs : Int) = y := by omega
    have h2 : (y.natAbs : Int) < ((2 ^ 4096 : Nat) : Int) := by rw [this]; simpa using h
    exact Int.ofNat_lt.mp h2
  have := (Nat.log2_lt (by omega)).mpr hn
  omega
theorem op_fdivL : OpR X (binaryOp .FloorDiv) (rI CDivL fun i j => .int (i / j)) := opI fun i j _ _ _ _ _ hc q => by
  refine floordiv_int (by have := hc.1; omega) ?_ (.inl (PyProof.noPylong_of_log2 (log2_lt_of hc.1 hc.2)))
  rw [Int.fdiv_eq_ediv_of_nonneg i (by have := hc.1; omega)]
  exact q

/-! isinstance with a built-in class -/
/-! the rules that name K, by any K that it is -/
theorem ix_listK {K : PySem.W.Frag} (hK : X.K = K) : IxR X (rIxL K) := by subst hK; exact ix_list
theorem ix_tupK {K : PySem.W.Frag} (hK : X.K = K) : IxR X (rIxT K) := by subst hK; exact ix_tup
theorem call_lenK {K : PySem.W.Frag} (hK : X.K = K) : CallR X (.builtin "len") (fun xs H Q => ∃ p ys, xs = [.ref p] ∧ (SqL K H p ys ∨ SqT K H p ys) ∧ Q (.int ys.length) H) := by subst hK; exact call_len_seq
theorem call_tupleK {K : PySem.W.Frag} (hK : X.K = K) : CallR X (.type "tuple") (fun xs H Q => ∃ p ys, xs = [.ref p] ∧ ((SqL K H p ys ∧ ∀ l, H l = none → Q (.ref l) (upd H l (.tup ys))) ∨ (SqT K H p ys ∧ Q (.ref p) H))) := by subst hK; exact call_tuple_of
theorem call_listK {K : PySem.W.Frag} (hK : X.K = K) : CallR X (.type "list") (fun xs H Q => ∃ p ys, xs = [.ref p] ∧ (SqL K H p ys ∨ SqT K H p ys) ∧ ∀ l, H l = none → Q (.ref l) (upd H l (.lst ys))) := by subst hK; exact call_list_of
theorem pi_listK {K : PySem.W.Frag} {tg l : Expr} {tl : TE} (hK : X.K = K) (hl : PE X l tl) : PI X tg l (iList K tl) := by subst hK; exact pi_list hl
theorem pi_tupK {K : PySem.W.Frag} {tg l : Expr} {tl : TE} (hK : X.K = K) (hl : PE X l tl) : PI X tg l (iTup K tl) := by subst hK; exact pi_tup hl
theorem pg_tupK {K : PySem.W.Frag} {pos : Pos} {es : List Expr} {k : Nat} {t : TGs} {n : Nat} (hK : X.K = K) (hc : X.calm = true) (h : PGs X es t)
    (hn : (assignEach es X.env).length = n := by rfl) (hst : (assignEach es X.env).findIdx? (·.1) = none := by rfl) : PG X (.Tuple es k pos) (gTup K n t) := by subst hK; exact pg_tup hc h hn hst
end
end L2
end
noncomputable section
namespace L2
open PySem PySem.Spec PyProof.Rows
/-- a def of the text as it stands behind the top: its object, its name, its binding -/
structure DefAt (K : PySem.W.Frag) (mg : Str → Option Value) (x : Str) (st : Stmt) (ps : List Str) (f : Addr) (fd : FuncData) : Prop where
  fn : Fun K x x st f fd
  mg : mg x = some (.ref f)
  bi : Binds K fd ps []
end L2
end

set_option Elab.async false
set_option linter.all false
set_option maxRecDepth 100000
set_option maxHeartbeats 4000000
noncomputable section
namespace L2
open PySem PySem.Spec PyProof.Rows
@[irreducible] noncomputable def Hold (p : Prop) : Prop := p
theorem Same.new {p : Addr} {H H1 : Hp} {o : HO} (h : Same H H1) (hp : H1 p = none) : Same H (L2.upd H1 p o) := fun x o e => by
  have e1 := h x o e
  rw [upd_ne (ne_of_none e1 hp)]
  exact e1
end L2
end

set_option Elab.async false
set_option linter.all false
set_option maxRecDepth 100000
set_option maxHeartbeats 4000000
noncomputable section
namespace L2
open PySem PySem.Spec PyProof.Rows

/-! ### min of a list, with a default -/
section
variable {prog : Program} {w : World} {A : Around} {R : Result → Shared → Prop} {I : Addr} {fp wr : List Addr} {n : Nat} {P : Nat → Value → Prop} {St : Nat → Heap → Prop} {kw : List (Str × Value)}
end
theorem argBest_min (val : Nat → Int) : ∀ k j, j ≤ k → val (argBest (fun i j => decide (val i < val j)) k) ≤ val j
  | 0, j, h => by have : j = 0 := by omega
                  subst this; exact Int.le_refl _
  | k + 1, j, h => by
    have ih := argBest_min val k
    unfold argBest
    by_cases hb : val (k + 1) < val (argBest (fun i j => decide (val i < val j)) k)
    · rw [if_pos (by simpa using hb)]
      by_cases hj : j = k + 1
      · subst hj; exact Int.le_refl _
      · have := ih j (by omega); omega
    · rw [if_neg (by simpa using hb)]
      by_cases hj : j = k + 1
      · subst hj; omega
      · exact ih j (by omega)
theorem vals_at {ns : List Int} {its : List Value} (r : Vals (ns.map V.int) its) {i : Nat} {v : Value} (h : its[i]? = some v) : ∃ z t, ns[i]? = some z ∧ v = Value.int z t := by
  have hl := r.length
  rw [List.length_map] at hl
  have hi : i < its.length := (List.getElem?_eq_some_iff.mp h).1
  obtain ⟨u, e1, q⟩ := r.get (i := i) (x := .int ns[i]) (by rw [List.getElem?_map, List.getElem?_eq_getElem (by omega)]; rfl)
  rw [h] at e1; cases e1
  obtain ⟨t, rfl⟩ := q
  exact ⟨_, t, List.getElem?_eq_getElem (by omega), rfl⟩
end L2
end

set_option Elab.async false
set_option linter.all false
set_option maxRecDepth 100000
set_option maxHeartbeats 4000000
noncomputable section
namespace L2
open PySem PySem.Spec PyProof.Rows

/-! ### data: what a value tells, through tuples and lists -/
inductive D where
  | non | bl (b : Bool) | int (i : Int) | str (x : Str) | tup (l : List D) | lst (l : List D)
/-! ### == of values that tell the same -/
section
variable {X : Cx}
end
end L2
end

set_option Elab.async false
set_option linter.all false
set_option maxRecDepth 100000
set_option maxHeartbeats 4000000
noncomputable section
namespace L2
open PySem PySem.Spec PyProof.Rows
section
variable {X : Cx}
/-! ### t + u, any t and u -/
noncomputable def rCatA (K : PySem.W.Frag) : R2 := fun x y H Q => ∃ a b xs ys, x = .ref a ∧ y = .ref b ∧ SqT K H a xs ∧ SqT K H b ys ∧ xs.length + ys.length ≤ sizeLine ∧ ∀ p H', Same H H' → SqT K H' p (xs ++ ys) → Q (.ref p) H'
theorem cat_nil {prog : Program} {w : World} {A : Around} {E : Value → Shared → Prop} {s : Shared} {t b : Addr} {ws : List Value} {Q : Value → Shared → Prop} (ht : IsTup s.heap t ([] : List Value).toArray) (hb : IsTup s.heap b ws.toArray) (h1 : Q (.ref b) s) :
    wpAny (model prog w) A (binaryOp .Add (.ref t) (.ref b)) Q E s := by
  obtain ⟨⟨cls, dd, data, sl⟩, ho, hc, n, hd⟩ := id ht
  obtain ⟨⟨cls2, dd2, data2, sl2⟩, ho2, hc2, n2, hd2⟩ := id hb
  simp only at hc hd hc2 hd2
  subst hc hd hc2 hd2
  exact concat_meets ⟨_, ho, rfl⟩ ⟨_, ho2, rfl⟩ noFill_tuple_add seq_tuple_add PySem.F.slot_tuple_add PySem.F.entry_tuple_add (PySem.F.args_tuple_add_2 _ _)
      (tuple_addW0 t b _ ws.toArray n n2 dd dd2 sl sl2 rfl) ⟨ho, ho2, h1⟩
theorem op_catK {K : PySem.W.Frag} (hK : X.K = K) : OpR X (binaryOp .Add) (rCatA K) := by
  subst hK
  intro pins s σ H x y v u Q I rx ry h
  obtain ⟨a, b, xs, ys, e1, e2, ha, hb, hz, q⟩ := h
  by_cases hx : xs = []
  · subst e1; subst e2; subst hx
    cases rx; cases ry
    obtain ⟨its, r1, p1, _⟩ := I.tuple ha
    obtain ⟨its2, r2, p2, _⟩ := I.tuple hb
    obtain rfl : its = [] := r1.nil_iff.mpr rfl
    exact cat_nil p1 p2 ⟨.ref b, H, I, rfl, q b H (Same.refl H) hb⟩
  · refine op_catT pins s σ H x y v u Q I rx ry ⟨a, b, xs, ys, e1, e2, ha, hb, hx, hz, fun z => ?_, fun z p hp => ?_⟩
    · subst z
      exact q a H (Same.refl H) (by rw [List.append_nil]; exact ha)
    · exact q p _ ((Same.refl H).new hp) (SqT.of upd_same)
/-! ### t[lo:hi], any part of it -/
/-! ### sum of a list of ints -/
theorem call_sumL {K : PySem.W.Frag} (hc : X.calm = true) (hK : X.K = K) : CallR X (.builtin "sum") (fun xs H Q => ∃ a ns, xs = [.ref a] ∧ SqL K H a (ns.map V.int) ∧ PySem.SumFits ns ∧ Q (.int ns.sum) H) := by
  subst hK
  intro pins s σ H xs us Q I r h
  obtain ⟨a, ns, rfl, hS, hfit, q⟩ := h
  obtain ⟨u, rfl, ru⟩ := vals1 r
  cases ru
  obtain ⟨its, rv, pl, hz⟩ := I.list hS
  have hl := rv.length
  rw [List.length_map] at hl
  refine call_sum_walk (wpAny_pyIter_list pl.isList ?_)
  have hal : a < s.heap.objs.size := by obtain ⟨o, _, e, _⟩ := pl; exact Heap.lt_size e
  have W := Walks.list (prog := X.prog) (w := X.w) (A := X.A.in1) (I.ok.hd hc) s.heap.objs.size a (Nat.ne_of_lt hal) its.toArray
  let val : Nat → Int := fun i => ns.getD i 0
  have hval : ∀ i v, its.toArray[i]? = some v → ∃ t, v = Value.int (val i) t := fun i v e => by
    obtain ⟨z, t, e1, e2⟩ := vals_at rv (i := i) (v := v) (by rw [List.getElem?_toArray] at e; exact e)
    refine ⟨t, ?_⟩
    rw [e2]
    show Value.int z t = Value.int (ns.getD i 0) t
    rw [List.getD_eq_getElem?_getD, e1]
    rfl
  have es : its.toArray.size = ns.length := by rw [List.size_toArray]; omega
  refine ⟨_, _, _, _, _, _, val, rfl, W, ⟨⟨_, Heap.get?_push_size _ rfl, rfl, rfl⟩, ?_⟩, fun b hb => ?_, hval, fun j hj => ?_, fun h' tk t' k => ?_⟩
  · obtain ⟨o, e, r⟩ := pl.isList
    exact ⟨o, Heap.get?_push_of_some _ e, r⟩
  · show b < (s.heap.push _).objs.size
    rw [Heap.size_push]
    rcases List.mem_cons.mp hb with z | z
    · rw [z]; exact Nat.lt_succ_self _
    · have z' : b = a := by simpa using z
      rw [z']; exact Nat.lt_succ_of_lt hal
  · rw [es] at hj
    obtain ⟨h1, h2⟩ := hfit j hj
    refine ⟨h1, ?_⟩
    rw [PyProof.Rows.preSum_getD]
    exact h2
  · have e : preSum val its.toArray.size = ns.sum := by
      show preSum (fun i => ns.getD i 0) _ = _
      rw [PyProof.Rows.preSum_getD, es, List.take_length]
    refine ⟨.int ns.sum, H, I.kept (h' := h') (t' := tk) fun b o q => k b o ?_ (Heap.get?_push_of_some _ q), ⟨t', by rw [e]⟩, q⟩
    intro z
    have z' : b = s.heap.objs.size := by simpa using z
    exact absurd (Heap.lt_size q) (by rw [z']; exact Nat.lt_irrefl _)
end

/-! ### a text walked sign by sign -/
noncomputable def Its (x : Str) : It := ⟨fun i _ => i < x.cps.size, fun i H v H' => H' = H ∧ ∃ c, x.cps[i]? = some c ∧ v = .str ⟨#[c]⟩, fun i _ => x.cps.size ≤ i⟩
theorem turn_str {P : Program} {w : World} {K : PySem.W.Frag} {tg : Expr} {ty : String} {x : Str} {t : Tok} (it : Addr) (hn : ["enumerate", "zip", "dict_itemiterator", "dict_reverseitemiterator", "odict_iterator", "itertools.zip_longest", "itertools.pairwise"].contains ty = false)
    (W : ∀ A : Around, A.handled = none → Walks P w A it [it] [it] x.cps.size (SignAt x) (fun i h => h.IsStrIter it ty x t i))
    (hend : ∀ (A : Around) (s : Shared) (i : Nat) (Q : Option Value → Shared → Prop) (E : Value → Shared → Prop), A.handled = none → s.heap.IsStrIter it ty x t i → x.cps[i]? = none → (∀ h', Heap.ExtBut it s.heap h' → Q none { s with heap := h' }) → wpAny (model P w) A (pyNext (.ref it)) Q E s)
    (hself : ∀ (A : Around) (i : Nat) (s : Shared) (Q : Value → Shared → Prop) (E : Value → Shared → Prop), s.heap.IsStrIter it ty x t i → Q (.ref it) s → wpAny (model P w) A (pyIter (.ref it)) Q E s) : Turn P w K tg (Its x) [it] it (fun i h => h.IsStrIter it ty x t i) where
  mem := by simp
  obj := fun i h st b hb => by
    have e : b = it := by simpa using hb
    subst e
    obtain ⟨o, ho, hc, hd⟩ := st
    exact ⟨o, ho, fun v z => by rw [hd] at z; cases z⟩
  keep := fun i h h' st k => by
    obtain ⟨o, ho, r⟩ := st
    exact ⟨o, k it (by simp) _ ho, r⟩
  item := by
    intro X hP hw hK hc i pins s σ H E I hf st hg
    subst hP hw hK
    obtain ⟨f0, f1, f2, f3, f4, f5⟩ := hf it (by simp)
    refine (W X.A (I.ok.hd hc)).item i s _ _ hg st fun v h' tk hv st' kk => ?_
    obtain ⟨c, u, hcx, rfl⟩ := hv
    have I1 : Inv X pins σ H { s with heap := h', toks := tk } := I.turned (fun b o hb e => kk b o (by simpa using hb) e) f0 f1 f3 f4 f5
    obtain ⟨o, ho, hcl, hd⟩ := id st'
    exact ⟨_, rfl, go_of (s := { s with heap := h', toks := tk }) (n := ty) ho hcl hd hn ⟨.str ⟨#[c]⟩, H, I1, ⟨u, rfl⟩, ⟨rfl, c, hcx, rfl⟩, st', fun b hb => (hf b hb).1⟩⟩
  done := by
    intro X hP hw hK hc i pins s σ H E I hf st hg
    subst hP hw hK
    obtain ⟨f0, f1, f2, f3, f4, f5⟩ := hf it (by simp)
    have hin : x.cps.size ≤ i := hg
    exact hend X.A s i _ E (I.ok.hd hc) st (by simp; omega) fun h' eb => ⟨rfl, I.turned (t' := s.toks) (fun b o hb e => eb b o hb e) f0 f1 f3 f4 f5⟩
  self := fun A i s Q E st h => hself A i s Q E st h
noncomputable def iStr (tl : TE) : TI := fun σ H R => tl σ H fun v H1 => ∃ x, v = .str x ∧ R (Its x) H1
theorem pi_str {X : Cx} {tg l : Expr} {tl : TE} (hl : PE X l tl) : PI X tg l (iStr tl) := by
  intro pins s σ H R I h
  refine thn (hl pins s σ H _ I h) fun v s1 ⟨v0, H1, I1, r1, q1⟩ => ?_
  obtain ⟨x, e, q⟩ := q1
  subst e
  obtain ⟨t, rfl⟩ := r1
  have fin : ∀ (ty : String) (o : Obj), o = { cls := .type ty, data := .fields #[.str x t, .int 0 0] } → Turn X.prog X.w X.K tg (Its x) [s1.heap.objs.size] s1.heap.objs.size (fun i h => h.IsStrIter s1.heap.objs.size ty x t i) → PIE X pins σ tg R (.ref s1.heap.objs.size) { s1 with heap := s1.heap.push o } := fun ty o eo T => by
    subst eo
    refine ⟨s1.heap.objs.size, [s1.heap.objs.size], _, _, H1, rfl, I1.kept (t' := s1.toks) fun b o e => Heap.get?_push_of_some _ e, T, ⟨_, Heap.get?_push_size _ rfl, rfl, rfl⟩, fun b hb => ?_, q⟩
    have e : b = s1.heap.objs.size := by simpa using hb
    subst e
    exact I1.fpOk (Nat.le_refl _) (I1.hok.fresh (Nat.le_refl _))
  cases ha : x.cps.all (· < 128)
  · exact wpAny_pyIter_wide ha (fin "str_iterator" _ rfl (turn_str _ (by decide) (fun A hA => Walks.strWide hA _ x t) (fun A s i Q E hA st hx hQ => wpAny_pyNext_wide_end hA st hx hQ) fun A i s Q E st h => wpAny_pyIter_striter_wide st h))
  · exact wpAny_pyIter_ascii ha (fin "str_ascii_iterator" _ rfl (turn_str _ (by decide) (fun A hA => Walks.strAscii hA _ x t) (fun A s i Q E hA st hx hQ => wpAny_pyNext_ascii_end hA st hx hQ) fun A i s Q E st h => wpAny_pyIter_striter_ascii st h))
/-! ### comprehensions: the forms one uses -/
end L2
end

set_option Elab.async false
set_option linter.all false
set_option maxRecDepth 100000
set_option maxHeartbeats 4000000
noncomputable section
namespace L2
open PySem PySem.Spec PyProof.Rows
section
variable {X : Cx} {K : PySem.W.Frag} {T id : String} {name : Str} {o e : Expr} {es : List Expr} {to : TE} {t : TA} {r : V → List V → Hp → VK → Prop} {apos cpos : Pos}
theorem pe_bmK (hK : X.K = K) (pa : PlainAttrs T) (slot : Slot T name id) (hty : typeOf (.builtin id) = pure (.type "method_descriptor")) (hm : MtR X id r) (ho : PE X o to) (ha : PA X (e :: es) t)
    (hbase : attributeBase o name X.env (eval o X.env) = eval o X.env := by rfl)
    (hfew : ((backTo cpos (starEach (e :: es) X.env)).all (fun x => !x.1) && (backToKw cpos (keywordEach [] X.env)).all (fun x => x.1.isSome)
      && decide ((e :: es).length + ([] : List Keyword).length + (if ([] : List Keyword).isEmpty then 0 else 1) < 30)) = true := by rfl)
    (hline : (apos.endLine == cpos.line) = true := by rfl) (hs : starEach (e :: es) X.env = (false, eval e X.env) :: starEach es X.env := by rfl) (hplain : (backTo cpos (starEach es X.env)).any (·.1) = false := by rfl) :
    PE X (.Call (.Attribute o name apos) (e :: es) [] cpos) (tBM K T r to t) := by
  subst hK
  exact pe_bm pa slot hty hm ho ha hbase hfew hline hs hplain
end

/-! ### machines -/
end L2
end
noncomputable section
namespace L2
open PySem PySem.Spec PyProof.Rows
/-! ### data of tuples alone, kept where the tuples are -/
end L2
end
noncomputable section
namespace L2
open PySem PySem.Spec PyProof.Rows
end L2
end
noncomputable section
namespace L2
end L2
end

set_option Elab.async false
set_option linter.all false
set_option maxRecDepth 100000
set_option maxHeartbeats 4000000
noncomputable section
namespace L2
open PySem PySem.Spec PyProof.Rows
/-! ### prices: a number or none -/
noncomputable def minO : List Int → Option Int
  | [] => none
  | a :: l => some (match minO l with | none => a | some b => if b < a then b else a)
end L2
end

set_option Elab.async false
set_option linter.all false
set_option maxRecDepth 100000
set_option maxHeartbeats 4000000
noncomputable section
namespace L2
open PySem PySem.Spec PyProof.Rows
theorem ps_setComp {X : Cx} {elt tg iter : Expr} {ifs : List Expr} {scope : Scope} {pos spos py : Pos} {y : Str} {i : Nat} {wi : TI} {g : TG} {tc : TT} {te : TE} (N' : List Str) (src : List (Option Nat))
    (hN : X.N.Nodup) (hyi : X.N[i]? = some y) (hyl : X.env.scope.names.lookup y = some .local)
    (hck : compCheck N' src scope X.N X.env.scope = true) (hi : PI X tg iter wi) (hcalm : X.calm = true)
    (hin : ∀ (C : Addr) (cells : List (Str × Addr)) (s : Shared) (H : Hp) (ex : List Addr), PG (cxComp X N' scope C cells s H ex) tg g ∧ PIf (cxComp X N' scope C cells s H ex) ifs tc ∧ PE (cxComp X N' scope C cells s H ex) elt te)
    (hs : ∀ x, foldedSetIterable iter X.env x = pure x := by intro _; rfl)
    (hsw : swapsWith (.ListComp elt [⟨tg, iter, ifs, 0⟩] scope pos) (some (.Name y py)) spos.line X.env = pure true := by rfl) :
    PS X (.Assign [.Name y py] (.ListComp elt [⟨tg, iter, ifs, 0⟩] scope pos) spos) (tAsg (tComp src wi g tc te) (gName i)) := by
  intro pins s σ H D0 I h
  have ck := compCk hck
  rw [exec_Assign_Name_used _ _ _ _ hsw]
  refine wpAny_bind (wpAny_standAt (wpAny_bind ?_))
  show wpAny _ X.A (do let _ ← comprehension (.ListComp elt [⟨tg, iter, ifs, 0⟩] scope pos) scope X.env _ (newList []) false (eval iter X.env) (some (assign (.Name y py) X.env))) _ _ s
  have hcl := closureFor_of (scope := scope) (env := X.env) fun y hy e => I.ok.has y.1 (ck.fr y hy e)
  refine wpAny_bind (wpAny_mono (wpAny_comprehension_free (use := some (assign (.Name y py) X.env)) (Q := fun _ s' => SP X pins D0 .next s') rfl hs hcl ck.kind ck.loc (thn (hi pins s σ H _ I h) fun v s1 h1 => thn h1 fun itv s2 h2 => ?_)) (fun _ s' hq => wpAny_pure (wpAny_pure hq)) fun _ _ e => e)
  obtain ⟨it, fp, tn, J, H2, e, I2, T, st2, f2, W⟩ := h2
  subst e
  have hD := I2.fresh
  obtain ⟨W, ⟨m0, w0⟩, turn⟩ := W _ hD
  have I3 := I2.lnew (its := []) (ys := []) (t' := s2.toks) .nil (Nat.zero_le _)
  have fpD : ∀ b ∈ fp, b < s2.heap.objs.size := fun b hb => by obtain ⟨o, q, _⟩ := T.obj _ _ st2 b hb; exact Heap.lt_size q
  have f3 : ∀ b ∈ fp, FpOk X pins (upd H2 s2.heap.objs.size (.lst [])) b := fun b hb => ⟨by rw [upd_ne (Nat.ne_of_lt (fpD b hb))]; exact (f2 b hb).1, (f2 b hb).2⟩
  refine wpAny_newObj_type (wpAny_compEnv ?_)
  generalize hs3 : ({ s2 with heap := s2.heap.push { cls := .type "list", data := .seq ([] : List Value).toArray }, toks := s2.toks } : Shared) = s3 at I3
  have hs3' : ({ s2 with heap := s2.heap.push { cls := .type "list", data := .seq ([] : List Value).toArray } } : Shared) = s3 := hs3
  have fp3 : ∀ b ∈ fp, b < s3.heap.objs.size := fun b hb => by
    rw [← hs3]
    show b < (s2.heap.push _).objs.size
    rw [Heap.size_push]
    exact Nat.lt_succ_of_lt (fpD b hb)
  have I4 := comp_start (s4 := { s3 with heap := pushCells (s3.heap.push { cls := .type "dict", data := .dict #[] }) scope.names }) ck I3 f3 fp3 ⟨_, rfl⟩
  have tn4 : tn 0 (pushCells (s3.heap.push { cls := .type "dict", data := .dict #[] }) scope.names) := T.keep _ _ _ st2 fun b hb o e => pushCells_keeps _ _ b o (Heap.get?_push_of_some _ (by rw [← hs3]; exact Heap.get?_push_of_some _ e))
  obtain ⟨hg, hif, he⟩ := hin s3.heap.objs.size (cellsFrom (s3.heap.objs.size + 1) scope.names (clOf X.env.cells scope.names [])) s3 (upd H2 s2.heap.objs.size (.lst [])) fp
  have stat : ∀ H' : Hp, (∀ b ∈ fp, H' b = none) → ∀ b ∈ fp, FpOk (cxComp X N' scope s3.heap.objs.size (cellsFrom (s3.heap.objs.size + 1) scope.names (clOf X.env.cells scope.names [])) s3 (upd H2 s2.heap.objs.size (.lst [])) fp) [] H' b := fun H' hn b hb =>
    ⟨hn b hb, (I4.ok.exf b hb).1, I4.ok.exfs b hb, .inl hb, fun x c e => (I4.ok.exf b hb).2 x c e, fun p hp => absurd (show p ∈ ([] : List (Addr × Obj)) from hp) (by simp)⟩
  have T' : Turn X.prog X.w X.K tg J fp it tn := T
  have fr0 : ∀ b ∈ fp, upd H2 s2.heap.objs.size (.lst []) b = none := fun b hb => (f3 b hb).1
  have L := comp_loop (X' := cxComp X N' scope s3.heap.objs.size (cellsFrom (s3.heap.objs.size + 1) scope.names (clOf X.env.cells scope.names [])) s3 (upd H2 s2.heap.objs.size (.lst [])) fp) (R := compPost (model X.prog X.w) X.A X.xe (some (assign (.Name y py) X.env)) (fun _ s' => SP X pins D0 .next s') (Value.ref s2.heap.objs.size) s3.heap.objs.size) (iter := iter) (scope := scope) (pos := pos) (QD := fun H' => D0.nx (σ.set i (some (.ref s2.heap.objs.size))) H') rfl hcalm I4 T' tn4 stat fr0 w0 turn hg hif he
    (fun σ' H' s' J' q => by
      have J2 := comp_end I3 f3 J' (Heap.SameBut.refl _ _)
      obtain ⟨mm, hn, _⟩ := J'.loc
      have nL : s3.heap.objs.size ≠ X.env.locals := Nat.ne_of_gt I3.lt
      have nC : ∀ x c, X.env.cells.lookup x = some c → c ≠ s3.heap.objs.size := fun x c e => by
        obtain ⟨v, z⟩ := I3.cell x c e
        exact Nat.ne_of_lt z.lt
      show wpAny _ X.A (assign (.Name y py) X.env (.ref s2.heap.objs.size)) _ _ _
      refine wpAny_assign_Name (store_ok2 (v := .ref s2.heap.objs.size) J2 hN hyi (.inl hyl) rfl (fun s5 I5 sb => ?_) (.inr hyl))
      obtain ⟨aa, sb, ha⟩ := sb
      have na : s3.heap.objs.size ≠ aa := by
        rcases ha with z | z
        · rw [z]; exact nL
        · exact fun e => nC _ _ z e.symm
      refine ⟨mm, hn.sameBut sb na, fun h' hs' => ⟨_, H', I5.turned (t' := s5.toks) (fun b o hb e => (hs'.2 b hb).trans e) J'.free nL (.inr I3.sz) nC fun p hp z => ?_, q⟩⟩
      exact absurd (Heap.lt_size (I3.pin p hp).1) (by rw [z]; exact Nat.lt_irrefl _))
  exact codeAny_compStart_list L (T.self _ _ _ _ _ tn4 L)
end L2
end

set_option Elab.async false
set_option linter.all false
set_option maxRecDepth 100000
set_option maxHeartbeats 4000000
noncomputable section
namespace L2
open PySem PySem.Spec PyProof.Rows
end L2
end

set_option Elab.async false
set_option linter.all false
set_option maxRecDepth 100000
set_option maxHeartbeats 4000000
noncomputable section
namespace L2
open PySem PySem.Spec PyProof.Rows
end L2
end

set_option Elab.async false
set_option linter.all false
set_option maxRecDepth 100000
set_option maxHeartbeats 4000000
noncomputable section
namespace L2
open PySem PySem.Spec PyProof.Rows

/-! ### a function with a closure is entered: own cells cs, ahead of the closure's -/
section
variable {M : Model} {A : Around} {E : Value → Shared → Prop} {s₀ s : Shared} {m cm : Str → Option Value} {env : Env} {cs : List (Str × Addr)}
theorem put_loc {n : Str} {v : Value} {Q : Unit → Shared → Prop} (z : InCallC s₀ env.locals m cs cm s) (kf : env.scope.kind = .function) (kl : env.kindOf n = some .local)
    (go : ∀ s', InCallC s₀ env.locals (fun y => if y = n then some v else m y) cs cm s' → Q () s') : wpAny M A (storeName env n v) Q E s := by
  refine wpAny_storeName_local kl z.toInCall.ns (fun g gn gs => go _ ⟨⟨?a, gn, fun b o e => ?b, z.toInCall.fresh⟩, fun k c e => ?c, z.apart, z.above⟩) (by rw [kf]; rfl)
  case a => obtain ⟨h₁, tk, e⟩ := z.toInCall.same; subst e; exact ⟨g, _, rfl⟩
  case b => exact gs.extBut b o (Nat.ne_of_lt (Nat.lt_of_lt_of_le (Heap.lt_size e) z.toInCall.fresh)) (z.toInCall.keep b o e)
  case c => exact (z.cell k c e).sameBut gs (Nat.ne_of_gt (z.above k c (PySem.mem_of_lookup e)))
theorem put_cel {n : Str} {c : Addr} {v : Value} {Q : Unit → Shared → Prop} (z : InCallC s₀ env.locals m cs cm s) (kf : env.scope.kind = .function) (kc : env.kindOf n = some .cell)
    (e1 : env.cells.lookup n = some c) (e2 : cs.lookup n = some c) (go : ∀ s', InCallC s₀ env.locals m cs (fun y => if y = n then some v else cm y) s' → Q () s') : wpAny M A (storeName env n v) Q E s := by
  have up := z.above n c (PySem.mem_of_lookup e2)
  refine wpAny_storeName_cell kf kc e1 (z.cell n c e2) fun g gc gs => go _ ⟨⟨?a, z.toInCall.ns.sameBut gs (Nat.ne_of_lt up), fun b o e => ?b, z.toInCall.fresh⟩, fun k c' e => ?c, z.apart, z.above⟩
  case a => obtain ⟨h₁, tk, e⟩ := z.toInCall.same; subst e; exact ⟨g, _, rfl⟩
  case b => exact gs.extBut b o (Nat.ne_of_lt (Nat.lt_trans (Nat.lt_of_lt_of_le (Heap.lt_size e) z.toInCall.fresh) up)) (z.toInCall.keep b o e)
  case c =>
    by_cases q : k = n
    · subst q
      rw [e2] at e; cases e
      simpa using gc
    · rw [if_neg q]
      exact (z.cell k c' e).sameBut gs fun y => q (name_of_addr z.apart (PySem.mem_of_lookup e) (y ▸ PySem.mem_of_lookup e2))
theorem put_all (f : Str × Value → PUnit → Sem (ForInStep PUnit)) (hf : ∀ n v u, f (n, v) u = (do storeName env n v; pure (.yield ⟨⟩))) (kf : env.scope.kind = .function) (sub : ∀ n c, cs.lookup n = some c → env.cells.lookup n = some c) :
    ∀ (bs : List (Str × Value)) (m cm : Str → Option Value) (s : Shared) (Q : PUnit → Shared → Prop), InCallC s₀ env.locals m cs cm s →
      (∀ y ∈ bs, env.kindOf y.1 = some .local ∨ (env.kindOf y.1 = some .cell ∧ ∃ c, cs.lookup y.1 = some c)) →
      (∀ s', InCallC s₀ env.locals (bindL env.kindOf bs m) cs (bindC env.kindOf bs cm) s' → Q ⟨⟩ s') → wpAny M A (forIn bs ⟨⟩ f) Q E s
  | [], m, cm, s, Q, z, _, go => by rw [List.forIn_nil]; exact wpAny_pure (go s z)
  | (n, v) :: r, m, cm, s, Q, z, hy, go => by
    rw [List.forIn_cons, hf]
    have hr := fun y (q : y ∈ r) => hy y (List.mem_cons_of_mem _ q)
    rcases hy (n, v) List.mem_cons_self with kl | ⟨kc, c, e2⟩
    · refine wpAny_bind (wpAny_bind (put_loc z kf kl fun s' z' => wpAny_pure (put_all f hf kf sub r _ _ s' Q z' hr fun s'' z'' => go s'' ?_)))
      unfold bindL bindC; rw [if_pos kl, if_pos kl]; exact z''
    · have nl : ¬ env.kindOf n = some .local := by rw [kc]; decide
      refine wpAny_bind (wpAny_bind (put_cel z kf kc (sub n c e2) e2 fun s' z' => wpAny_pure (put_all f hf kf sub r _ _ s' Q z' hr fun s'' z'' => go s'' ?_)))
      unfold bindL bindC; rw [if_neg nl, if_neg nl]; exact z''
end
theorem enter_clos {M : Model} {A : Around} {E : Value → Shared → Prop} {s : Shared} {scope : Scope} {globals : Addr} {clos : List (Str × Addr)} {binds : List (Str × Value)} {qual : Str} {func : Option Addr} {code : Value} {builtins : Addr} {Q : Env → Shared → Prop}
    (kf : scope.kind = .function) (hy : ∀ y ∈ binds, scope.names.lookup y.1 = some .local ∨ (scope.names.lookup y.1 = some .cell ∧ ∃ c, (cellsFrom (s.heap.objs.size + 1) scope.names []).lookup y.1 = some c))
    (go : ∀ env, env = newEnv scope s.heap.objs.size globals (cellsFrom (s.heap.objs.size + 1) scope.names clos) qual func code none builtins →
      ∀ s', InCallC s env.locals (bindL env.kindOf binds fun _ => none) (cellsFrom (s.heap.objs.size + 1) scope.names []) (bindC env.kindOf binds fun _ => none) s' → Q env s') :
    wpAny M A (newFunctionEnv scope globals clos binds qual func code none builtins) Q E s := by
  simp only [newFunctionEnv, Option.isSome_none, Bool.false_eq_true, if_false]
  refine wpAny_bind (wpAny_alloc (wpAny_bind (wpAny_layCells _ (fun nm kd ce => by cases q : kd == NameKind.cell <;> simp [q]) _ _ _ _ ?_)))
  have ok := cellsFrom_ok scope.names (s.heap.push { cls := .type "frame", data := .dict #[] }) (s.heap.objs.size + 1) [] ⟨fun _ _ hm => (nomatch hm), List.Pairwise.nil⟩ (by rw [Heap.size_push]; exact Nat.le_refl _)
  have esz : ({ s with heap := s.heap.push { cls := .type "frame", data := .dict #[] } } : Shared).heap.objs.size = s.heap.objs.size + 1 := Heap.size_push ..
  rw [Heap.size_push] at ok
  rw [esz]
  refine wpAny_bind (put_all (s₀ := s) (cs := cellsFrom (s.heap.objs.size + 1) scope.names []) (env := newEnv scope s.heap.objs.size globals (cellsFrom (s.heap.objs.size + 1) scope.names clos) qual func code none builtins)
    _ (fun _ _ _ => rfl) kf (fun n c e => ?sub) binds (fun _ => none) (fun _ => none) _ _ ⟨⟨⟨_, _, rfl⟩, ?ns, fun b o e => ?k, Nat.le_refl _⟩, fun n c e => (ok.empty n c (PySem.mem_of_lookup e)).1, ok.apart, fun n c e => (ok.empty n c e).2⟩ hy fun s' x => wpAny_pure (go _ rfl s' x))
  case sub =>
    show (cellsFrom _ _ _).lookup n = some c
    rw [cellsFrom_append, lookup_app, e]; rfl
  case ns => exact (Heap.Ns.new s.heap (.type "frame")).keeps (pushCells_keeps _ _)
  case k => exact pushCells_keeps _ _ b o (Heap.get?_push_of_some _ e)

/-! ### what stands for a closure -/
noncomputable def codeO (c : Addr) (qual : Str) : HO := .ext fun h => h.CodeRec (.ref c) qual
noncomputable def lamO (f : Addr) (fd : FuncData) : HO := .ext fun h => h.get? f = some { cls := .type "function", data := .func fd }
theorem codeO_ok {P : Program} {w : World} {H : Hp} {h : Heap} {c : Addr} {q : Str} (r : h.CodeRec (.ref c) q) : ObjOk P w H h c (codeO c q) := by
  refine ⟨r, ?_, fun h1 h2 z k => ?_⟩
  · obtain ⟨c', o, vs, t, e, g, _⟩ := r
    cases e
    exact ⟨o, g⟩
  · obtain ⟨c', o, vs, t, e, g, d⟩ := z
    cases e
    exact ⟨c, o, vs, t, rfl, k o g, d⟩
theorem codeO_get {P : Program} {w : World} {H : Hp} {h : Heap} {c : Addr} {q : Str} (x : HOk P w H h) (e : H c = some (codeO c q)) : h.CodeRec (.ref c) q := (x c _ e).1
theorem lamO_ok {P : Program} {w : World} {H : Hp} {h : Heap} {f : Addr} {fd : FuncData} (r : h.get? f = some { cls := .type "function", data := .func fd }) : ObjOk P w H h f (lamO f fd) :=
  ⟨r, ⟨_, r⟩, fun _ _ z k => k _ z⟩
theorem lamO_get {P : Program} {w : World} {H : Hp} {h : Heap} {f : Addr} {fd : FuncData} (x : HOk P w H h) (e : H f = some (lamO f fd)) : h.get? f = some { cls := .type "function", data := .func fd } := (x f _ e).1

/-- b is the cell of a name -/
noncomputable def isC (cells : List (Str × Addr)) (b : Addr) : Bool := cells.any fun p => cells.lookup p.1 == some b
theorem isC_iff {cells : List (Str × Addr)} {b : Addr} : isC cells b = true ↔ ∃ x, cells.lookup x = some b := by
  unfold isC
  rw [List.any_eq_true]
  constructor
  · rintro ⟨p, _, e⟩; exact ⟨p.1, by simpa using e⟩
  · rintro ⟨x, e⟩; exact ⟨(x, b), PySem.mem_of_lookup e, by simpa using e⟩
noncomputable def Drop (cells : List (Str × Addr)) (H : Hp) : Hp := fun b => if isC cells b = true then none else H b
noncomputable def Put (cells : List (Str × Addr)) (H H' : Hp) : Hp := fun b => if isC cells b = true then H b else H' b
theorem Drop.cell {cells : List (Str × Addr)} {H : Hp} {b : Addr} (h : isC cells b = true) : Drop cells H b = none := if_pos h
theorem Drop.ne {cells : List (Str × Addr)} {H : Hp} {b : Addr} (h : isC cells b ≠ true) : Drop cells H b = H b := if_neg h
theorem Drop.some {cells : List (Str × Addr)} {H : Hp} {b : Addr} {o : HO} (h : Drop cells H b = some o) : isC cells b ≠ true ∧ H b = some o := by
  unfold Drop at h
  split at h
  · cases h
  · rename_i z; exact ⟨z, h⟩
theorem Drop.none {cells : List (Str × Addr)} {H : Hp} {b : Addr} (h : H b = none) : Drop cells H b = none := by
  unfold Drop
  split
  · rfl
  · exact h
theorem Put.cell {cells : List (Str × Addr)} {H H' : Hp} {b : Addr} (h : isC cells b = true) : Put cells H H' b = H b := if_pos h
theorem Put.ne {cells : List (Str × Addr)} {H H' : Hp} {b : Addr} (h : isC cells b ≠ true) : Put cells H H' b = H' b := if_neg h

/-- the cells, each known as it is -/
noncomputable def Cells (clos : List (Str × Addr)) (H : Hp) : Prop := ∀ x c, clos.lookup x = some c → ∃ o v, H c = some (.frz o (.own c)) ∧ o.data = .cell v
theorem Cells.at {clos : List (Str × Addr)} {H : Hp} (z : Cells clos H) {b : Addr} (h : isC clos b = true) : ∃ o v, H b = some (.frz o (.own b)) ∧ o.data = .cell v := by
  obtain ⟨x, e⟩ := isC_iff.mp h
  exact z x b e
/-- names and what their cells hold -/
noncomputable def Cap (clos : List (Str × Addr)) (H : Hp) (fr : List Str) (cap : List V) : Prop := ∀ (i : Nat) (x : Str) (v : V), fr[i]? = some x → cap[i]? = some v → ∃ c o u, clos.lookup x = some c ∧ H c = some (.frz o (.own c)) ∧ o.data = .cell (some u) ∧ RelV v u

structure LamScope (N ps fr : List Str) (sc : Scope) : Prop where
  kind : sc.kind = .function
  co : sc.isCoroutine = false
  gen : sc.isGenerator = false
  nd : N.Nodup
  app : N = ps ++ fr
  par : ∀ x ∈ ps, sc.names.lookup x = some .local ∨ sc.names.lookup x = some .cell
  frs : ∀ x ∈ fr, sc.names.lookup x = some .free
  cel : ∀ y ∈ sc.names, y.2 = .cell → sc.names.lookup y.1 = some .cell

noncomputable def cxLam (P : Program) (w : World) (K : PySem.W.Frag) (mg : Str → Option Value) (base : Heap) (N : List Str) (qual : Str) (scope : Scope) (f : Addr) (cd : Value) (clos : List (Str × Addr)) (A : Around) (outer : List Env) (s : Shared) (H : Hp) : Cx where
  prog := P
  w := w
  K := K
  mg := mg
  base := base
  A := A.deeper (PySem.W.envX qual scope s.heap.objs.size f cd (cellsFrom (s.heap.objs.size + 1) scope.names clos))
  N := N
  s₀ := s
  H₀ := Drop clos H
  env := PySem.W.envX qual scope s.heap.objs.size f cd (cellsFrom (s.heap.objs.size + 1) scope.names clos)
  outer := outer
  stack := PySem.W.envX qual scope s.heap.objs.size f cd (cellsFrom (s.heap.objs.size + 1) scope.names clos) :: outer
  ex := []
  fn := fun x => scope.names.lookup x == some .cell
  calm := true
  pn := []
  xe := fun _ _ => False

theorem HOk.drop {P : Program} {w : World} {H : Hp} {h : Heap} {clos : List (Str × Addr)} (x : HOk P w H h) (z : Cells clos H) : HOk P w (Drop clos H) h := fun b o e => by
  obtain ⟨_, e'⟩ := Drop.some e
  have nc : ∀ c u, H c = some u → (∀ o v, u ≠ .frz o v) → isC clos c ≠ true := fun c u q d y => by
    obtain ⟨o, v, q', _⟩ := z.at y
    rw [q] at q'; cases q'
    exact d _ _ rfl
  exact (x b o e').stay (fun _ _ _ q => q) (fun c q => by rw [Drop.ne (nc c _ q fun _ _ => by nofun)]; exact q) fun c xs q => by rw [Drop.ne (nc c _ q fun _ _ => by nofun)]; exact q

theorem inv_lam {P : Program} {w : World} {K : PySem.W.Frag} {mg : Str → Option Value} {base : Heap} {N ps fr : List Str} {qual : Str} {scope : Scope} {f : Addr} {cd : Value} {clos : List (Str × Addr)} {A : Around} {outer : List Env} {s s1 : Shared} {H : Hp} {us : List Value} {vs cap : List V}
    (S : LamScope N ps fr scope) (hd : A.handled = none) (e0 : Env0 P w K mg base A outer s H) (hl : vs.length = ps.length) (hlc : cap.length = fr.length) (r : Vals vs us)
    (hc : Cells clos H) (inj : ∀ x y c, clos.lookup x = some c → clos.lookup y = some c → x = y) (hfr : ∀ x, scope.names.lookup x = some .free → ∃ c, clos.lookup x = some c) (hcap : Cap clos H fr cap)
    (x : InCallC s s.heap.objs.size (bindL (PySem.W.envX qual scope s.heap.objs.size f cd (cellsFrom (s.heap.objs.size + 1) scope.names clos)).kindOf (ps.zip us) fun _ => none) (cellsFrom (s.heap.objs.size + 1) scope.names [])
      (bindC (PySem.W.envX qual scope s.heap.objs.size f cd (cellsFrom (s.heap.objs.size + 1) scope.names clos)).kindOf (ps.zip us) fun _ => none) s1) :
    Inv (cxLam P w K mg base N qual scope f cd clos A outer s H) [] (vs.map some ++ cap.map some) (Drop clos H) s1 := by
  obtain ⟨h1, tk, rfl, hk⟩ := x.done
  have noA : ∀ b : Addr, b ∉ (cxLam P w K mg base N qual scope f cd clos A outer s H).ex := fun b z => absurd (show b ∈ ([] : List Addr) from z) (by simp)
  have lk : ∀ y c, (cellsFrom (s.heap.objs.size + 1) scope.names clos).lookup y = some c → (cellsFrom (s.heap.objs.size + 1) scope.names []).lookup y = some c ∨ ((cellsFrom (s.heap.objs.size + 1) scope.names []).lookup y = none ∧ clos.lookup y = some c) := fun y c e => by
    rw [cellsFrom_append, lookup_app] at e
    cases q : (cellsFrom (s.heap.objs.size + 1) scope.names []).lookup y with
    | some d => rw [q] at e; left; simpa using e
    | none => rw [q] at e; right; exact ⟨rfl, by simpa using e⟩
  have own : ∀ y c, (cellsFrom (s.heap.objs.size + 1) scope.names []).lookup y = some c → s.heap.objs.size < c := fun y c e => x.above y c (PySem.mem_of_lookup e)
  have old : ∀ y c, clos.lookup y = some c → c < s.heap.objs.size := fun y c e => by
    obtain ⟨o, v, q, _⟩ := hc y c e
    exact e0.hok.lt q
  have hx : ∀ y c, clos.lookup y = some c → scope.names.lookup y = some .free → (cellsFrom (s.heap.objs.size + 1) scope.names clos).lookup y = some c := fun y c e k => by
    rw [cellsFrom_append, lookup_app]
    cases q : (cellsFrom (s.heap.objs.size + 1) scope.names []).lookup y with
    | none => exact e
    | some d =>
      rcases cellsFrom_name (PySem.mem_of_lookup q) with z | z
      · rw [S.cel _ z rfl] at k; cases k
      · exact absurd z (by simp)
  have dn : ∀ b, H b = none → Drop clos H b = none := fun b e => Drop.none e
  refine ⟨⟨e0.mod, S.kind, rfl, rfl, Nat.le_refl _, fun y z c a b => ?inj, fun y hy => ?has, fun y c hy e => ?cab, fun _ => hd, Around.frames_deeper e0.frames, .inr ⟨rfl, rfl⟩, fun b z => absurd z (noA b), fun b o e => ⟨(e0.bs b o e).1, dn b (e0.bs b o e).2⟩, e0.bsz, fun b _ _ => noA b, fun b z => absurd z (noA b), e0.funs, fun b hb => dn b (e0.frf b hb)⟩,
    rfl, e0.bare, Un.kept hk, ⟨_, x.toInCall.ns, fun i y v q1 q2 q3 => ?loc⟩, fun y c e => ?cell, dn _ (e0.hok.fresh (Nat.le_refl _)), fun y c e => ?freeC, fun p hp => absurd (show p ∈ ([] : List (Addr × Obj)) from hp) (by simp), (e0.hok.drop hc).kept hk, ?len⟩
  case inj =>
    rcases lk y c a with a | ⟨_, a⟩ <;> rcases lk z c b with b | ⟨_, b⟩
    · exact name_of_addr x.apart (PySem.mem_of_lookup a) (PySem.mem_of_lookup b)
    · exact absurd (Nat.lt_trans (own _ _ a) (old _ _ b)) (Nat.lt_irrefl _)
    · exact absurd (Nat.lt_trans (own _ _ b) (old _ _ a)) (Nat.lt_irrefl _)
    · exact inj y z c a b
  case has =>
    have hy : scope.names.lookup y = some .cell ∨ scope.names.lookup y = some .free := hy
    rcases hy with hy | hy
    · obtain ⟨c, e⟩ := cell_has (n := s.heap.objs.size + 1) hy
      refine ⟨c, ?_⟩
      show (cellsFrom (s.heap.objs.size + 1) scope.names clos).lookup y = some c
      rw [cellsFrom_append, lookup_app, e]; rfl
    · obtain ⟨c, e⟩ := hfr y hy
      exact ⟨c, hx y c e hy⟩
  case cab =>
    have hy : (scope.names.lookup y == some .cell) = true := hy
    have hy' : scope.names.lookup y = some .cell := by simpa using hy
    rcases lk y c e with a | ⟨a, _⟩
    · exact Nat.le_of_lt (own y c a)
    · obtain ⟨d, q⟩ := cell_has (n := s.heap.objs.size + 1) hy'
      rw [q] at a; cases a
  case loc =>
    have ndP : ps.Nodup := by have := S.nd; rw [S.app] at this; exact (List.nodup_append.mp this).1
    by_cases hi : i < vs.length
    · have ha : vs[i]? = some v := by
        rw [List.getElem?_append_left (by simpa using hi), List.getElem?_map] at q2
        cases e : vs[i]? with
        | none => rw [e] at q2; cases q2
        | some a => rw [e] at q2; cases q2; rfl
      obtain ⟨u, hu, rv⟩ := r.get ha
      have hp : ps[i]? = some y := by
        have q1' : N[i]? = some y := q1
        rw [S.app, List.getElem?_append_left (by omega)] at q1'; exact q1'
      refine ⟨u, rv, ?_⟩
      rcases S.par y (List.mem_of_getElem? hp) with k | k
      · exact .inl ⟨k, bindL_get ndP hp hu k⟩
      · obtain ⟨c, e⟩ := cell_has (n := s.heap.objs.size + 1) k
        refine .inr ⟨.inl k, c, ?_, ?_⟩
        · show (cellsFrom (s.heap.objs.size + 1) scope.names clos).lookup y = some c
          rw [cellsFrom_append, lookup_app, e]; rfl
        · have q := x.cell y c e
          rw [bindC_get ndP hp hu (by show scope.names.lookup y ≠ _; rw [k]; decide)] at q
          exact q
    · have hf : fr[i - vs.length]? = some y := by
        have q1' : N[i]? = some y := q1
        rw [S.app, List.getElem?_append_right (by omega)] at q1'; rw [hl]; exact q1'
      have hv : cap[i - vs.length]? = some v := by
        rw [List.getElem?_append_right (by simpa using hi), List.getElem?_map, List.length_map] at q2
        cases e : cap[i - vs.length]? with
        | none => rw [e] at q2; cases q2
        | some a => rw [e] at q2; cases q2; rfl
      obtain ⟨c, o, u, e1, e2, e3, e4⟩ := hcap _ y v hf hv
      have kf := S.frs y (List.mem_of_getElem? hf)
      refine ⟨u, e4, .inr ⟨.inr kf, c, hx y c e1 kf, ?_⟩⟩
      exact ⟨o, hk c o (e0.hok c _ e2).1, e3⟩
  case cell =>
    rcases lk y c e with a | ⟨_, a⟩
    · exact ⟨_, x.cell y c a⟩
    · obtain ⟨o, v, q, d⟩ := hc y c a
      exact ⟨v, o, hk c o (e0.hok c _ q).1, d⟩
  case freeC =>
    rcases lk y c e with a | ⟨_, a⟩
    · exact dn c (e0.hok.fresh (Nat.le_of_lt (own y c a)))
    · exact Drop.cell (isC_iff.mpr ⟨y, a⟩)
  case len =>
    show _ = N.length
    rw [S.app]
    simp [hl, hlc]

/-- behind the body: the cells are known again -/
theorem lam_end {P : Program} {w : World} {outer : List Env} {H H' : Hp} {s s' : Shared} {clos : List (Str × Addr)} (hok : HOk P w H s.heap) (hc : Cells clos H) (frf : ∀ b ∈ frs outer, H b = none)
    (un : Un (frs outer) [] (Drop clos H) H' s.heap s'.heap) (ok' : HOk P w H' s'.heap) : Un (frs outer) [] H (Put clos H H') s.heap s'.heap ∧ HOk P w (Put clos H H') s'.heap := by
  have nc : ∀ b, H b = none → isC clos b ≠ true := fun b e y => by
    obtain ⟨o, v, q, _⟩ := hc.at y
    rw [e] at q; cases q
  have nc2 : ∀ c u, H c = some u → (∀ o v, u ≠ .frz o v) → isC clos c ≠ true := fun c u q d y => by
    obtain ⟨o, v, q', _⟩ := hc.at y
    rw [q] at q'; cases q'
    exact d _ _ rfl
  have gone : ∀ b, isC clos b = true → H' b = none := fun b y => by
    obtain ⟨o, v, q, _⟩ := hc.at y
    exact un.free b o (hok b _ q).1 (Drop.cell y) (by simp)
  refine ⟨⟨fun b o e n hb hx => un.keep b o e (Drop.none n) hb hx, fun b o e n hb hx => un.slot b o e (Drop.none n) hb hx, fun b o e n hx => ?_, fun b o e hx => un.there b o e hx, fun b xs e => ?_, fun b o u e => ?_, fun b ps e => ?_⟩, fun b o e => ?_⟩
  · rw [Put.ne (nc b n)]; exact un.free b o e (Drop.none n) hx
  · have z := nc2 b _ e fun _ _ => by nofun
    rw [Put.ne z]; exact un.tups b xs (by rw [Drop.ne z]; exact e)
  · by_cases z : isC clos b = true
    · rw [Put.cell z]; exact e
    · rw [Put.ne z]; exact un.frzs b o u (by rw [Drop.ne z]; exact e)
  · have z := nc2 b _ e fun _ _ => by nofun
    rw [Put.ne z]; exact un.tbls b ps (by rw [Drop.ne z]; exact e)
  · by_cases z : isC clos b = true
    · rw [Put.cell z] at e
      obtain ⟨ob, v, q, d⟩ := hc.at z
      rw [q] at e; cases e
      have g := (hok b _ q).1
      have g' := un.keep b ob g (Drop.cell z) (fun y => by rw [frf b y] at q; cases q) (by simp)
      exact ⟨g', ob, g'⟩
    · rw [Put.ne z] at e
      have np : ∀ c u, H' c = some u → Put clos H H' c = some u := fun c u q => by
        rw [Put.ne fun y => by rw [gone c y] at q; cases q]; exact q
      exact (ok' b o e).stay (fun _ _ _ q => q) (fun c q => np c _ q) fun c xs q => np c _ q

/-! ### what may be called through a value -/
structure ClOk (P : Program) (w : World) (K : PySem.W.Frag) (mg : Str → Option Value) (base : Heap) (k : Nat) (R : Hp → Prop) (f : Addr) (sp : Sp) : Prop where
  run : ∀ (A : Around) (outer : List Env) (s : Shared) (H : Hp) (us : List Value) (vs : List V) (Q : VK), Room k A → Env0 P w K mg base A outer s H → R H → Vals vs us → sp vs H Q E0 →
    codeAny (model P w) A (.call (.ref f) ⟨us, []⟩) (CR CX0 outer P w H s Q E0) s
/-- a def of the text, through a value -/
theorem ClOk.ofFn {P : Program} {w : World} {K : PySem.W.Frag} {mg : Str → Option Value} {base : Heap} {k : Nat} {f : Addr} {fd : FuncData} {ps : List Str} {sp : Sp} (F : FnOk P w K mg base CX0 k f fd ps sp) (hb : Binds K fd ps []) : ClOk P w K mg base k (fun _ => True) f sp :=
  ⟨fun A outer s H us vs Q hr e0 _ r h => by
    have hl := F.len _ _ _ _ h
    have := hb s us (e0.mod.kin.keeps fun b o e => (e0.bs b o e).1) (by rw [List.append_nil, ← r.length]; exact hl)
    rw [List.append_nil] at this
    exact F.run A outer s H ⟨us, []⟩ us vs Q E0 hr e0 this r h⟩

/-- a lambda's object, its code, its cells with what they hold -/
noncomputable def LamAt (H : Hp) (f : Addr) (qual : Str) (params : Arguments) (body : Expr) (scope : Scope) (fr : List Str) (cap : List V) (clos : List (Str × Addr)) : Prop :=
  ∃ pm c' ctv, H f = some (lamO f (PySem.W.kla_fn "<lambda>" qual params body scope clos pm (.ref c') ctv)) ∧ H c' = some (codeO c' qual) ∧ Cells clos H ∧
    (∀ x y c, clos.lookup x = some c → clos.lookup y = some c → x = y) ∧ (∀ x, scope.names.lookup x = some .free → ∃ c, clos.lookup x = some c) ∧ Cap clos H fr cap
end L2
end

set_option Elab.async false
set_option linter.all false
set_option maxRecDepth 100000
set_option maxHeartbeats 4000000
noncomputable section
namespace L2
open PySem PySem.Spec PyProof.Rows

/-- the module of the builtins, over the base -/
noncomputable def BM (mg : Str → Option Value) (base : Heap) : Prop := ∃ bm ob, mg "__builtins__" = some (.ref bm) ∧ bm ≠ builtinsNs ∧ base.get? bm = some ob ∧ ob.cls = .type "module" ∧ ob.dict = some builtinsNs ∧ ob.data = .plain

/-! ### a lambda is made -/
noncomputable def tLam (cells : List (Str × Addr)) (P : Addr) (qual : Str) (params : Arguments) (body : Expr) (scope : Scope) (pos : Pos) : TE := fun _ H Q =>
  ∃ ps : Array Value, H P = some (.tbl ps) ∧ TriplesOk ps.toList ∧
    (codeAmong pos ps.toList = none → ∀ c' f pm ctv, H c' = none → H f = none → c' ≠ f →
      Q (.ref f) (upd (upd (upd H P (.tbl (ps ++ #[rawInt pos.line, rawInt pos.col, .ref c']))) c' (codeO c' qual)) f (lamO f (PySem.W.kla_fn "<lambda>" qual params body scope (clOf cells scope.names []) pm (.ref c') ctv)))) ∧
    (∀ cv, codeAmong pos ps.toList = some cv → ∃ c', cv = .ref c' ∧ ∀ f pm ctv, H f = none → Q (.ref f) (upd H f (lamO f (PySem.W.kla_fn "<lambda>" qual params body scope (clOf cells scope.names []) pm (.ref c') ctv))))

noncomputable def lamCheck (scope xs : Scope) : Bool := scope.names.all fun y => !(y.2 == .free) || (xs.names.lookup y.1 == some .cell || xs.names.lookup y.1 == some .free)
theorem pe_lambda {X : Cx} {c P : Addr} {params : Arguments} {body : Expr} {scope : Scope} {pos : Pos} (hcode : X.env.code = .ref c) (C : PySem.W.CodeHd X.base c P) (hB : BM X.mg X.base)
    (hck : lamCheck scope X.env.scope = true) (hdef : defaultsOf params X.env = ([], []) := by rfl) :
    PE X (.Lambda params body scope pos) (tLam X.env.cells P (X.env.qual ++ "<lambda>") params body scope pos) := by
  intro pins s σ H Q I h
  have hfr : ∀ y ∈ scope.names, y.2 = .free → X.env.kindOf y.1 = some .cell ∨ X.env.kindOf y.1 = some .free := fun y hy e => by
    have z := List.all_eq_true.mp hck y hy
    have z' : X.env.scope.names.lookup y.1 = some .cell ∨ X.env.scope.names.lookup y.1 = some .free := by simpa [e] using z
    exact z'
  obtain ⟨ps, hP, ht, hnew, hhit⟩ := h
  refine PySem.W.kla_eval hdef ?_
  have hcl := closureFor_of (scope := scope) (env := X.env) fun y hy e => I.ok.has y.1 (hfr y hy e)
  have oP : s.heap.get? P = some (PySem.W.tabObj ps) := I.hok P _ hP
  have hgs : s.heap.Ns mainGlobals X.mg := I.mod.glob.keeps I.bk
  have hC : PySem.W.CodeHd s.heap c P := C.keeps I.bk
  have hgP : mainGlobals ≠ P := fun q => by
    obtain ⟨o, es, ep, e, d, _⟩ := hgs
    rw [q, oP] at e; cases e; cases d
  have hb : s.heap.BuiltinsAt X.mg P := by
    obtain ⟨bm, ob, b1, b2, b3, b4, b5, b6⟩ := hB
    refine ⟨bm, ob, b1, b2, fun q => ?_, fun q => ?_, I.bk _ _ b3, b4, b5, b6⟩
    · obtain ⟨o, es, ep, e, d, _⟩ := I.mod.glob
      rw [q, e] at b3; cases b3; rw [d] at b6; cases b6
    · have e := I.bk _ _ b3
      rw [q, oP] at e; cases e; cases b4
  cases q : codeAmong pos ps.toList with
  | none =>
    refine PySem.W.kla_makeFunction (mg := X.mg) hcl I.ok.glob hgs hcode hC oP ht q hgP hb fun c' ctv h' tk hx hge hlt hrec htb => ?_
    have hPl : P < s.heap.objs.size := Heap.lt_size oP
    have hcP : c' ≠ P := Nat.ne_of_gt (Nat.lt_of_lt_of_le hPl hge)
    have hfP : h'.objs.size ≠ P := Nat.ne_of_gt (Nat.lt_trans (Nat.lt_of_lt_of_le hPl hge) hlt)
    have hcf : c' ≠ h'.objs.size := Nat.ne_of_lt hlt
    have hsz : s.heap.objs.size ≤ h'.objs.size := Nat.le_trans hge (Nat.le_of_lt hlt)
    have nP : ∀ b, H b = none → b ≠ P := fun b n z => by rw [z, hP] at n; cases n
    have lt : ∀ b o, H b = some o → b ≠ c' ∧ b ≠ h'.objs.size := fun b o e => ⟨Nat.ne_of_lt (Nat.lt_of_lt_of_le (I.hok.lt e) hge), Nat.ne_of_lt (Nat.lt_of_lt_of_le (I.hok.lt e) hsz)⟩
    have lt2 : ∀ b o, s.heap.get? b = some o → b ≠ c' ∧ b ≠ h'.objs.size := fun b o e => ⟨Nat.ne_of_lt (Nat.lt_of_lt_of_le (Heap.lt_size e) hge), Nat.ne_of_lt (Nat.lt_of_lt_of_le (Heap.lt_size e) hsz)⟩
    have keep : ∀ b o, b ≠ P → s.heap.get? b = some o → (h'.push (PySem.W.kla_obj "<lambda>" (X.env.qual ++ "<lambda>") params body scope (clOf X.env.cells scope.names []) ((X.mg "__name__").getD .none) c' ctv)).get? b = some o := fun b o n e => Heap.get?_push_of_some _ (hx b o n e)
    have at3 : ∀ b, b ≠ P → b ≠ c' → b ≠ h'.objs.size → ∀ o1 o2 o3, upd (upd (upd H P o1) c' o2) h'.objs.size o3 b = H b := fun b n1 n2 n3 o1 o2 o3 => by rw [upd_ne n3, upd_ne n2, upd_ne n1]
    refine ⟨.ref h'.objs.size, upd (upd (upd H P (.tbl (ps ++ #[rawInt pos.line, rawInt pos.col, .ref c']))) c' (codeO c' (X.env.qual ++ "<lambda>"))) h'.objs.size (lamO h'.objs.size (PySem.W.kla_fn "<lambda>" (X.env.qual ++ "<lambda>") params body scope (clOf X.env.cells scope.names []) ((X.mg "__name__").getD .none) (.ref c') ctv)), I.un (t' := tk) ⟨fun b o e n _ _ => keep b o (nP b n) e, fun b o e n _ _ => ⟨o.slots, keep b o (nP b n) e⟩, fun b o e n _ => ?fr, fun b o e _ => ?th, fun b xs e => ?tu, fun b o u e => ?fz, fun b qs e => ?tb⟩ ?ok, rfl, hnew q c' h'.objs.size _ ctv (I.hok.fresh hge) (I.hok.fresh hsz) hcf⟩
    case fr => rw [at3 b (nP b n) (lt2 b o e).1 (lt2 b o e).2]; exact n
    case th =>
      by_cases z : b = P
      · subst z; exact ⟨_, Heap.get?_push_of_some _ htb⟩
      · exact ⟨o, keep b o z e⟩
    case tu => rw [at3 b (fun z => by rw [z, hP] at e; cases e) (lt b _ e).1 (lt b _ e).2]; exact e
    case fz => rw [at3 b (fun z => by rw [z, hP] at e; cases e) (lt b _ e).1 (lt b _ e).2]; exact e
    case tb =>
      by_cases z : b = P
      · subst z
        rw [hP] at e; cases e
        exact ⟨#[rawInt pos.line, rawInt pos.col, .ref c'], by rw [upd_ne (Ne.symm hfP), upd_ne (Ne.symm hcP), upd_same]⟩
      · exact ⟨#[], by rw [at3 b z (lt b _ e).1 (lt b _ e).2, e]; simp⟩
    case ok =>
      intro b o e
      by_cases zf : b = h'.objs.size
      · subst zf
        rw [upd_same] at e; cases e
        exact lamO_ok (Heap.get?_push_size _ rfl)
      · rw [upd_ne zf] at e
        by_cases zc : b = c'
        · subst zc
          rw [upd_same] at e; cases e
          obtain ⟨c2, oc, vs, t, e1, e2, e3⟩ := hrec
          exact codeO_ok ⟨c2, oc, vs, t, e1, Heap.get?_push_of_some _ e2, e3⟩
        · rw [upd_ne zc] at e
          by_cases zp : b = P
          · subst zp
            rw [upd_same] at e; cases e
            exact Heap.get?_push_of_some _ htb
          · rw [upd_ne zp] at e
            have up3 : ∀ d u, H d = some u → (∀ ps, u ≠ .tbl ps) → upd (upd (upd H P (.tbl (ps ++ #[rawInt pos.line, rawInt pos.col, .ref c']))) c' (codeO c' (X.env.qual ++ "<lambda>"))) h'.objs.size (lamO h'.objs.size (PySem.W.kla_fn "<lambda>" (X.env.qual ++ "<lambda>") params body scope (clOf X.env.cells scope.names []) ((X.mg "__name__").getD .none) (.ref c') ctv)) d = some u := fun d u e nt => by
              rw [at3 d (fun z => by rw [z, hP] at e; cases e; exact nt _ rfl) (lt d _ e).1 (lt d _ e).2]; exact e
            refine (I.hok b o e).stay (fun d u hd q => keep d u ?_ q) (fun d q => up3 d _ q fun _ => by nofun) fun d xs q => up3 d _ q fun _ => by nofun
            rintro rfl
            rcases hd with hd | hd
            · exact zp hd.symm
            · rw [hP] at hd; cases hd
  | some cv =>
    obtain ⟨c', rfl, hq⟩ := hhit cv q
    refine PySem.W.kla_makeFunctionHit (mg := X.mg) hcl I.ok.glob hgs hcode hC oP ht q hb fun ctv h' tk hk hsz => ?_
    refine ⟨.ref h'.objs.size, _, I.laid (t' := tk) (fun b o e => Heap.get?_push_of_some _ (hk b o e)) hsz (lamO_ok (Heap.get?_push_size _ rfl)), rfl, hq h'.objs.size _ ctv (I.hok.fresh hsz)⟩

/-! ### a call while the frame's cells are known -/
/-- H2 is H1 with the cells, each as it is; what the names hold -/
structure Caught (cl : List (Str × Addr)) (N : List Str) (kd : Str → Option NameKind) (σ : St) (H1 H2 : Hp) : Prop where
  ne : ∀ b, isC cl b ≠ true → H2 b = H1 b
  free : ∀ b, isC cl b = true → H1 b = none
  cells : Cells cl H2
  cap : ∀ (i : Nat) (x : Str) (v : V) (c : Addr), N[i]? = some x → σ[i]? = some (some v) → (kd x = some .cell ∨ kd x = some .free) → cl.lookup x = some c → ∃ o u, H2 c = some (.frz o (.own c)) ∧ o.data = .cell (some u) ∧ RelV v u
  inj : ∀ x y c, cl.lookup x = some c → cl.lookup y = some c → x = y
noncomputable def tCallC (cl : List (Str × Addr)) (N : List Str) (kd : Str → Option NameKind) (sp : Sp) (t : TA) : TE := fun σ H Q => t σ H fun vs H1 => ∀ H2, Caught cl N kd σ H1 H2 → sp vs H2 (fun v H3 => Q v (Drop cl H3)) E0

theorem run_fnC {X : Cx} {k : Nat} {f : Addr} {fd : FuncData} {ps : List Str} {sp : Sp} {pins : List (Addr × Obj)} {σ : St} {H : Hp} {s : Shared} {Q : VK} {us : List Value} {vs : List V} (F : FnOk X.prog X.w X.K X.mg X.base CX0 k f fd ps sp) (hr : Room k X.A) (hb : Binds X.K fd ps [])
    (hfn : ∀ x, X.fn x = true) (I : Inv X pins σ H s) (r : Vals vs us) (h : ∀ H2, Caught X.env.cells X.N X.env.kindOf σ H H2 → sp vs H2 (fun v H3 => Q v (Drop X.env.cells H3)) E0) : wpAny (model X.prog X.w) X.A (call (.ref f) us) (EP X pins σ Q) X.xe s := by
  let H2 : Hp := fun b => if isC X.env.cells b = true then (s.heap.get? b).map fun o => .frz o (.own b) else H b
  have h2n : ∀ b, isC X.env.cells b ≠ true → H2 b = H b := fun b z => if_neg z
  have h2c : ∀ b, isC X.env.cells b = true → ∃ o v, s.heap.get? b = some o ∧ o.data = .cell v ∧ H2 b = some (.frz o (.own b)) := fun b z => by
    obtain ⟨x, e⟩ := isC_iff.mp z
    obtain ⟨v, o, g, d⟩ := I.cell x b e
    exact ⟨o, v, g, d, by show (if _ then _ else _) = _; rw [if_pos z, g]; rfl⟩
  have fr : ∀ b, isC X.env.cells b = true → H b = none := fun b z => by
    obtain ⟨x, e⟩ := isC_iff.mp z
    exact I.freeC x b e
  have up : ∀ b, isC X.env.cells b = true → X.s₀.heap.objs.size ≤ b := fun b z => by
    obtain ⟨x, e⟩ := isC_iff.mp z
    exact I.ok.cab x b (hfn x) e
  have nlt : ∀ b o, X.s₀.heap.get? b = some o → isC X.env.cells b ≠ true := fun b o e z => absurd (Nat.lt_of_lt_of_le (Heap.lt_size e) (up b z)) (Nat.lt_irrefl _)
  have nst : ∀ b ∈ frs X.stack, isC X.env.cells b ≠ true := fun b hb z => by
    rcases List.mem_cons.mp (I.stkSub b hb) with e | hb
    · obtain ⟨x, e2⟩ := isC_iff.mp z
      exact I.cne x b e2 e
    · obtain ⟨_, o, ho, _⟩ := I.ok.funs.mem hb
      exact nlt b o ho z
  have ok2 : HOk X.prog X.w H2 s.heap := fun b o e => by
    by_cases z : isC X.env.cells b = true
    · obtain ⟨ob, v, g, d, q⟩ := h2c b z
      rw [q] at e; cases e
      exact ⟨g, ob, g⟩
    · rw [h2n b z] at e
      have np : ∀ c u, H c = some u → H2 c = some u := fun c u q => by rw [h2n c fun y => by rw [fr c y] at q; cases q]; exact q
      exact (I.hok b o e).stay (fun _ _ _ q => q) (fun c q => np c _ q) fun c xs q => np c _ q
  have nb : ∀ b o, X.base.get? b = some o → isC X.env.cells b ≠ true := fun b o e => nlt b o (I.ok.bs b o e).1
  have e0 : Env0 X.prog X.w X.K X.mg X.base X.A X.stack s H2 := ⟨I.ok.frames, I.ok.mod, fun b o e => ⟨(I.bs b o e).1, by rw [h2n b (nb b o e)]; exact (I.bs b o e).2⟩, Nat.le_trans I.ok.bsz I.sz, I.stack, fun b hb => by rw [h2n b (nst b hb)]; exact I.stkFree b hb, ok2, I.bare⟩
  have ca : Caught X.env.cells X.N X.env.kindOf σ H H2 := ⟨h2n, fr, fun x c e => by
      obtain ⟨o, v, g, d, q⟩ := h2c c (isC_iff.mpr ⟨x, e⟩)
      exact ⟨o, v, q, d⟩, fun i x v c e1 e2 e3 e4 => by
      obtain ⟨m, hn, hl⟩ := I.loc
      have vis : Vis X.env.scope x := e3.elim (fun z => .inr (.inl z)) fun z => .inr (.inr z)
      obtain ⟨u, ru, lk⟩ := hl i x v e1 e2 vis
      rcases lk with ⟨z, _⟩ | ⟨_, c2, z1, z2⟩
      · rcases e3 with y | y <;> (rw [z] at y; cases y)
      · rw [e4] at z1; cases z1
        obtain ⟨o, w', g, d, q⟩ := h2c c (isC_iff.mpr ⟨x, e4⟩)
        obtain ⟨o2, g2, d2⟩ := z2
        rw [g] at g2; cases g2
        exact ⟨o, u, q, d2, ru⟩, I.ok.inj⟩
  have hsp := h H2 ca
  have hl := F.len _ _ _ _ hsp
  have hb' := hb s us I.kIn (by rw [List.append_nil, ← r.length]; exact hl)
  rw [List.append_nil] at hb'
  refine wpAny_call (codeAny_mono (F.run X.A X.stack s H2 ⟨us, []⟩ us vs _ E0 hr e0 hb' r hsp) fun r s' hq => ?_)
  cases r with
  | error e => exact False.elim hq
  | ok fl =>
    cases fl with
    | next => exact False.elim hq
    | brk => exact False.elim hq
    | cont => exact False.elim hq
    | ret u =>
      obtain ⟨v, H3, os, bare, un, ok3, rv, q⟩ := hq
      have h3c : ∀ b, isC X.env.cells b = true → ∃ o, s.heap.get? b = some o ∧ s'.heap.get? b = some o ∧ H3 b = some (.frz o (.own b)) := fun b z => by
        obtain ⟨o, v, g, d, q2⟩ := h2c b z
        have q3 := un.frzs b o _ q2
        exact ⟨o, g, (ok3 b _ q3).1, q3⟩
      have nz : ∀ b u, H b = some u → isC X.env.cells b ≠ true := fun b u e y => by rw [fr b y] at e; cases e
      refine ⟨v, _, I.call' (H' := Drop X.env.cells H3) (ch := []) os ⟨fun b o e n hb hx => ?k, fun b o e n hb hx => ?sl, fun b o e n hx => ?fr, fun b o e hx => un.there b o e hx, fun b xs e => ?tu, fun b o u e => ?fz, fun b ps e => ?tb⟩ (fun b o e => ?hok) bare (fun b z => absurd z (by simp)), rv, q⟩
      case k =>
        by_cases z : isC X.env.cells b = true
        · obtain ⟨o2, g, g', _⟩ := h3c b z
          rw [e] at g; cases g
          exact g'
        · exact un.keep b o e (by rw [h2n b z]; exact n) hb hx
      case sl => exact un.slot b o e (by rw [h2n b (nst b hb)]; exact n) hb hx
      case fr =>
        by_cases z : isC X.env.cells b = true
        · exact Drop.cell z
        · exact Drop.none (un.free b o e (by rw [h2n b z]; exact n) hx)
      case tu =>
        rw [Drop.ne (nz b _ e)]
        exact un.tups b xs (by rw [h2n b (nz b _ e)]; exact e)
      case fz =>
        rw [Drop.ne (nz b _ e)]
        exact un.frzs b o u (by rw [h2n b (nz b _ e)]; exact e)
      case tb =>
        rw [Drop.ne (nz b _ e)]
        exact un.tbls b ps (by rw [h2n b (nz b _ e)]; exact e)
      case hok =>
        obtain ⟨z, e3⟩ := Drop.some e
        have np : ∀ c u, H3 c = some u → (∀ o w', u ≠ .frz o w') → Drop X.env.cells H3 c = some u := fun c u q d => by
          rw [Drop.ne fun y => by obtain ⟨o, _, _, q3⟩ := h3c c y; rw [q] at q3; cases q3; exact d _ _ rfl]; exact q
        exact (ok3 b o e3).stay (fun _ _ _ q => q) (fun c q => np c _ q fun _ _ => by nofun) fun c xs q => np c _ q fun _ _ => by nofun
theorem pe_callC {X : Cx} {k : Nat} {f : Addr} {fd : FuncData} {ps : List Str} {sp : Sp} {x : Str} {p pos : Pos} {e : Expr} {es : List Expr} {t : TA} (F : FnOk X.prog X.w X.K X.mg X.base CX0 k f fd ps sp) (hr : Room k X.A) (hg : Gl X x) (hm : X.mg x = some (.ref f)) (hk : PySem.W.keepIn X.K (.ref f) = true) (hb : Binds X.K fd ps [])
    (hfn : ∀ x, X.fn x = true) (ha : PA X (e :: es) t) (hdb : (x == ("__debug__" : Str)) = false := by decide) (he : starEach (e :: es) X.env = (false, eval e X.env) :: starEach es X.env := by rfl) (hpl : (backTo pos (starEach es X.env)).any (·.1) = false := by rfl) :
    PE X (.Call (.Name x p) (e :: es) [] pos) (tCallC X.env.cells X.N X.env.kindOf sp t) := by
  intro pins s σ H Q I h
  refine wpAny_Call_Name_kw (ld_glob I hg hm ?_ hdb)
  refine PySem.W.callWith_K (h₀ := X.base) I.ok.mod.kin hk (thn (ha pos pins s σ H _ I h) fun us s1 ⟨vs, H1, I1, r, q⟩ => ⟨I1.kIn, ?_⟩) he hpl
  exact run_fnC F hr hb hfn I1 r q

/-! ### a call of what a name holds -/
noncomputable def FnIn (K : PySem.W.Frag) (H : Hp) (f : Addr) : Prop := (∃ fd, H f = some (lamO f fd)) ∨ ∃ oc od fd sl, K.lookup f = some ⟨oc, od, .func fd, sl⟩
theorem FnIn.at {X : Cx} {pins : List (Addr × Obj)} {σ : St} {H : Hp} {s : Shared} {f : Addr} (h : FnIn X.K H f) (I : Inv X pins σ H s) : PySem.W.FnAt f s.heap := by
  rcases h with ⟨fd, h⟩ | ⟨oc, od, fd, sl, h⟩
  · exact ⟨_, _, _, _, lamO_get I.hok h⟩
  · exact ⟨_, _, _, _, I.kIn _ _ h⟩
noncomputable def tCallV (P : Program) (w : World) (K : PySem.W.Frag) (mg : Str → Option Value) (base : Heap) (k : Nat) (i : Nat) (t : TA) : TE := fun σ H Q => ∃ f, σ[i]? = some (some (.ref f)) ∧ FnIn K H f ∧ t σ H fun vs H1 => FnIn K H1 f ∧ ∃ R sp, ClOk P w K mg base k R f sp ∧ R H1 ∧ sp vs H1 Q E0
theorem run_cl {X : Cx} {k : Nat} {f : Addr} {sp : Sp} {R : Hp → Prop} {pins : List (Addr × Obj)} {σ : St} {H : Hp} {s : Shared} {Q : VK} {us : List Value} {vs : List V} (F : ClOk X.prog X.w X.K X.mg X.base k R f sp) (hr : Room k X.A) (I : Inv X pins σ H s) (hR : R H) (r : Vals vs us) (h : sp vs H Q E0) :
    wpAny (model X.prog X.w) X.A (call (.ref f) us) (EP X pins σ Q) X.xe s := by
  refine wpAny_call (codeAny_mono (F.run X.A X.stack s H us vs Q hr I.env0 hR r h) fun r s' hq => ?_)
  cases r with
  | error e => exact False.elim hq
  | ok fl =>
    cases fl with
    | ret u => exact I.after hq
    | next => exact False.elim hq
    | brk => exact False.elim hq
    | cont => exact False.elim hq
theorem pe_callV {X : Cx} {P : Program} {w : World} {K : PySem.W.Frag} {mg : Str → Option Value} {base : Heap} {k i : Nat} {x : Str} {p pos : Pos} {e : Expr} {es : List Expr} {t : TA} (hP : X.prog = P) (hw : X.w = w) (hK : X.K = K) (hmg : X.mg = mg) (hbs : X.base = base) (hr : Room k X.A) (hv : PE X (.Name x p) (tVar i)) (ha : PA X (e :: es) t)
    (he : starEach (e :: es) X.env = (false, eval e X.env) :: starEach es X.env := by rfl) (hpl : (backTo pos (starEach es X.env)).any (·.1) = false := by rfl) :
    PE X (.Call (.Name x p) (e :: es) [] pos) (tCallV P w K mg base k i t) := by
  subst hP hw hK hmg hbs
  intro pins s σ H Q I h
  obtain ⟨f, hσ, hf, ht⟩ := h
  refine wpAny_Call_Name_kw (thn (hv pins s σ H (fun v H' => v = .ref f ∧ H' = H) I ⟨.ref f, hσ, rfl, rfl⟩) fun u s0 ⟨v, H0, I0, r0, ev, eH⟩ => ?_)
  subst ev
  subst eH
  cases r0
  exact PySem.W.callWith_F (q := f) (hf.at I0) (thn (ha pos pins s0 σ H0 _ I0 ht) fun us s1 ⟨vs, H1, I1, r, hF, R, sp, F, hR, q⟩ => ⟨hF.at I1, run_cl F hr I1 hR r q⟩) he hpl
end L2
end

set_option Elab.async false
set_option linter.all false
set_option maxRecDepth 100000
set_option maxHeartbeats 4000000
noncomputable section
namespace L2
open PySem PySem.Spec PyProof.Rows

/-- the defs that make lambdas: each one's code object and table -/
noncomputable def tabsOf (K : PySem.W.Frag) (names : List Str) : List (Str × Addr × Addr) := names.filterMap fun x => (PySem.W.tabIn K x).map fun p => (x, p)
theorem mem_tabsOf {K : PySem.W.Frag} {names : List Str} {y : Str × Addr × Addr} : y ∈ tabsOf K names ↔ y.1 ∈ names ∧ PySem.W.tabIn K y.1 = some y.2 := by
  unfold tabsOf
  rw [List.mem_filterMap]
  constructor
  · rintro ⟨x, hx, e⟩
    obtain ⟨p, hp, rfl⟩ := Option.map_eq_some_iff.mp e
    exact ⟨hx, hp⟩
  · rintro ⟨hx, e⟩
    exact ⟨y.1, hx, by rw [e]; rfl⟩
noncomputable def Codes (K : PySem.W.Frag) (names : List Str) (base : Heap) : Prop := ∀ x ∈ names, ∀ c P, PySem.W.tabIn K x = some (c, P) → PySem.W.CodeHd base c P
noncomputable def Blank (K : PySem.W.Frag) (names : List Str) (H : Hp) : Prop := ∀ x ∈ names, ∀ c P, PySem.W.tabIn K x = some (c, P) → H P = some (.tbl #[])
noncomputable def tabsIn (K : PySem.W.Frag) (names : List Str) (ts : List Addr) : Bool := names.all fun x => match PySem.W.tabIn K x with
  | some (c, P) => PySem.W.codeHdIn K c P && ts.contains P
  | none => true
theorem tab_some {K : PySem.W.Frag} {x : Str} (h : (PySem.W.tabIn K x).isSome = true) : PySem.W.tabIn K x = some (((PySem.W.tabIn K x).getD (0, 0)).1, ((PySem.W.tabIn K x).getD (0, 0)).2) := by
  obtain ⟨p, e⟩ := Option.isSome_iff_exists.mp h
  rw [e]
  rfl
end L2
end

set_option Elab.async false
set_option linter.all false
set_option maxRecDepth 100000
set_option maxHeartbeats 4000000
noncomputable section
namespace L2
open PySem PySem.Spec PyProof.Rows

/-! ### tables of code objects, for whoever reads -/
noncomputable def TabOkH (H : Hp) (P : Addr) (q : Str) : Prop := ∃ ps : Array Value, H P = some (.tbl ps) ∧ TriplesOk ps.toList ∧ ∀ pos cv, codeAmong pos ps.toList = some cv → ∃ c', cv = .ref c' ∧ H c' = some (codeO c' q)
noncomputable def TabsH (T : List (Addr × Str)) (H : Hp) : Prop := ∀ y ∈ T, TabOkH H y.1 y.2
/-- what is tracked stays, tables aside -/
noncomputable def SameT (H H' : Hp) : Prop := ∀ b o, (∀ ps, o ≠ .tbl ps) → H b = some o → H' b = some o
theorem SameT.of {H H1 : Hp} (a : Same H H1) : SameT H H1 := fun c o _ h => a c o h
theorem TabsH.keep {T : List (Addr × Str)} {H H' : Hp} (h : TabsH T H) (k : ∀ b o, (∀ xs, o ≠ .lst xs) → H b = some o → H' b = some o) : TabsH T H' := fun y hy => by
  obtain ⟨ps, e, t, c⟩ := h y hy
  refine ⟨ps, k _ _ (fun _ => by nofun) e, t, fun pos cv q => ?_⟩
  obtain ⟨c', e1, e2⟩ := c pos cv q
  exact ⟨c', e1, k _ _ (fun _ => by unfold codeO; nofun) e2⟩
theorem TabsH.same {T : List (Addr × Str)} {H H' : Hp} (h : TabsH T H) (s : Same H H') : TabsH T H' := h.keep fun b o _ e => s b o e
theorem TabsH.new {T : List (Addr × Str)} {H : Hp} {a : Addr} {o : HO} (h : TabsH T H) (n : H a = none) : TabsH T (upd H a o) := h.same ((Same.refl H).new n)
theorem TabsH.put {T : List (Addr × Str)} {H : Hp} {a : Addr} {o : HO} {xs : List V} (h : TabsH T H) (n : H a = some (.lst xs)) : TabsH T (upd H a o) := h.keep fun b u d e => by
  rw [upd_ne fun z => by subst z; rw [n] at e; cases e; exact d _ rfl]; exact e
theorem TabsH.init {T : List (Addr × Str)} {H : Hp} (h : ∀ p ∈ T.map (·.1), H p = some (.tbl #[])) : TabsH T H := fun y hy =>
  ⟨#[], h _ (List.mem_map_of_mem hy), trivial, fun pos cv e => by simp [codeAmong] at e⟩
theorem codeAmong_add {pos : Pos} {a b : Int} {c cv : Value} : ∀ (l : List Value), TriplesOk l → codeAmong pos (l ++ [rawInt a, rawInt b, c]) = some cv → codeAmong pos l = some cv ∨ cv = c := by
  intro l
  fun_induction TriplesOk l with
  | case1 =>
    intro _ e
    simp only [List.nil_append, codeAmong, rawInt] at e
    split at e
    · exact .inr (Option.some.inj e).symm
    · cases e
  | case2 x t y u z rest ih =>
    intro h e
    simp only [List.cons_append, codeAmong] at e ⊢
    split at e
    · rename_i q
      left; rw [if_pos q]; exact e
    · rename_i q
      rw [if_neg q]; exact ih h e
  | case3 l h1 h2 => intro h; exact h.elim

/-- the lambda with its cells -/
theorem lamAt_of {cells : List (Str × Addr)} {N : List Str} {kd : Str → Option NameKind} {σ : St} {H1 H2 : Hp} {f : Addr} {q : Str} {params : Arguments} {body : Expr} {scope : Scope} {fr : List Str} {cap : List V} (ca : Caught cells N kd σ H1 H2)
    (hf : ∃ pm c' ctv, H1 f = some (lamO f (PySem.W.kla_fn "<lambda>" q params body scope (clOf cells scope.names []) pm (.ref c') ctv)) ∧ H1 c' = some (codeO c' q))
    (hfr : ∀ x, scope.names.lookup x = some .free → ∃ c, cells.lookup x = some c)
    (hcap : ∀ (i : Nat) (x : Str) (v : V), fr[i]? = some x → cap[i]? = some v → scope.names.lookup x = some .free ∧ (kd x = some .cell ∨ kd x = some .free) ∧ ∃ j : Nat, N[j]? = some x ∧ σ[j]? = some (some v)) :
    LamAt H2 f q params body scope fr cap (clOf cells scope.names []) := by
  obtain ⟨pm, c', ctv, h1, h2⟩ := hf
  have up : ∀ b o, H1 b = some o → H2 b = some o := fun b o e => by
    rw [ca.ne b fun z => by rw [ca.free b z] at e; cases e]; exact e
  have sub : ∀ x c, (clOf cells scope.names []).lookup x = some c → cells.lookup x = some c := fun x c e => by
    rcases clOf_mem (PySem.mem_of_lookup e) with z | z
    · exact z
    · exact absurd z (by simp)
  refine ⟨pm, c', ctv, up _ _ h1, up _ _ h2, fun x c e => ca.cells x c (sub x c e), fun x y c e1 e2 => ca.inj x y c (sub x c e1) (sub y c e2), fun x k => ?_, fun i x v e1 e2 => ?_⟩
  · obtain ⟨c, e⟩ := hfr x k
    exact ⟨c, clOf_lookup e (PySem.mem_of_lookup k)⟩
  · obtain ⟨k, kk, j, e3, e4⟩ := hcap i x v e1 e2
    obtain ⟨c, e⟩ := hfr x k
    obtain ⟨o, u, e5, e6, e7⟩ := ca.cap j x v c e3 e4 kk e
    exact ⟨c, o, u, clOf_lookup e (PySem.mem_of_lookup k), e5, e6, e7⟩
theorem Caught.same {cells : List (Str × Addr)} {N : List Str} {kd : Str → Option NameKind} {σ : St} {H1 H2 : Hp} (ca : Caught cells N kd σ H1 H2) : Same H1 H2 := fun b o e => by
  rw [ca.ne b fun z => by rw [ca.free b z] at e; cases e]; exact e
/-- a def whose code object is known -/
theorem Fun.okC {P : Program} {w : World} {K : PySem.W.Frag} {mg : Str → Option Value} {base : Heap} {x qual : Str} {st : Stmt} {f c : Addr} {fd : FuncData} {N ps : List Str} {k : Nat} {sp : Sp} (F : Fun K x qual st f fd) (hcd : fd.code = .ref c) (S : FnScope N ps (defScope st)) (len : ∀ vs H Q E, sp vs H Q E → vs.length = ps.length)
    (hbody : ∀ (A : Around) (outer : List Env) (s : Shared) (H : Hp) (vs : List V) (Q : VK) (E : XK), Room k (A.deeper (envOfC qual (defScope st) s.heap.objs.size f (.ref c))) → sp vs H Q E →
      ∃ t, PSs (cxOf CX0 P w K mg base N qual (defScope st) f (.ref c) A outer s H E).nox (defBody st) t ∧ t { nx := fun _ H' => Q .non H', rt := Q } (start N vs) H) : FnOk P w K mg base CX0 (k + 1) f fd ps sp := by
  obtain ⟨oc, od, kV, doc, pm, an, cdv, ct, osl, rfl, lk, hc⟩ := F.ex
  have e : cdv = .ref c := hcd
  subst e
  refine fn_of lk hc S len fun A outer s H vs Q E hr hsp => ?_
  obtain ⟨t, h, q⟩ := hbody A outer s H vs Q E hr hsp
  exact ⟨t, h.nox, q⟩

/-! ### a lambda as it stands in the text -/
/-! ### square tables of numbers and None -/
/-! ### such a table as it lies in the heap -/
end L2
end

set_option Elab.async false
set_option linter.all false
set_option maxRecDepth 100000
set_option maxHeartbeats 4000000
noncomputable section
namespace L2
open PySem PySem.Spec PyProof.Rows
/-! ### range(a, b, 2) -/
/-! ### tables told by their rows -/
end L2
end

set_option Elab.async false
set_option linter.all false
set_option maxRecDepth 100000
set_option maxHeartbeats 4000000
noncomputable section
namespace L2
open PySem PySem.Spec PyProof.Rows
/-! ### min of a list of ints that has some -/
theorem call_minL {X : Cx} {K : PySem.W.Frag} (hc : X.calm = true) (hK : X.K = K) : CallR X (.builtin "min") (fun xs H Q => ∃ a ns, xs = [.ref a] ∧ SqL K H a (ns.map V.int) ∧ ns ≠ [] ∧ ∀ m ∈ ns, (∀ y ∈ ns, m ≤ y) → Q (.int m) H) := by
  subst hK
  intro pins s σ H xs us Q I r h
  obtain ⟨a, ns, rfl, hS, hne, q⟩ := h
  obtain ⟨u, rfl, ru⟩ := vals1 r
  cases ru
  obtain ⟨its, rv, pl, hz⟩ := I.list hS
  have hl := rv.length
  rw [List.length_map] at hl
  have hpos : 0 < ns.length := List.length_pos_iff.mpr hne
  refine call_min_walk (wpAny_pyIter_list pl.isList ?_)
  have hal : a < s.heap.objs.size := by obtain ⟨o, _, e, _⟩ := pl; exact Heap.lt_size e
  have W := Walks.list (prog := X.prog) (w := X.w) (A := X.A.in1) (I.ok.hd hc) s.heap.objs.size a (Nat.ne_of_lt hal) its.toArray
  let val : Nat → Int := fun i => ns.getD i 0
  have hval : ∀ i v, its.toArray[i]? = some v → ∃ t, v = Value.int (val i) t := fun i v e => by
    obtain ⟨z, t, e1, e2⟩ := vals_at rv (i := i) (v := v) (by rw [List.getElem?_toArray] at e; exact e)
    refine ⟨t, ?_⟩
    rw [e2]
    show Value.int z t = Value.int (ns.getD i 0) t
    rw [List.getD_eq_getElem?_getD, e1]
    rfl
  refine ⟨_, _, _, _, _, _, _, rfl, W, ⟨⟨_, Heap.get?_push_size _ rfl, rfl, rfl⟩, ?_⟩, fun b hb => ?_, by rw [List.size_toArray]; omega, CmpOf.ints_lt val hval, fun v h' tk hP k => ?_⟩
  · obtain ⟨o, e, r⟩ := pl.isList
    exact ⟨o, Heap.get?_push_of_some _ e, r⟩
  · show b < (s.heap.push _).objs.size
    rw [Heap.size_push]
    rcases List.mem_cons.mp hb with z | z
    · rw [z]; exact Nat.lt_succ_self _
    · have z' : b = a := by simpa using z
      rw [z']; exact Nat.lt_succ_of_lt hal
  · obtain ⟨z, t, e1, e2⟩ := vals_at rv (i := argBest (fun i j => decide (val i < val j)) (its.toArray.size - 1)) (v := v) (by rw [List.getElem?_toArray] at hP; exact hP)
    subst e2
    have hv : val (argBest (fun i j => decide (val i < val j)) (its.toArray.size - 1)) = z := by
      show ns.getD _ 0 = z
      rw [List.getD_eq_getElem?_getD, e1]
      rfl
    refine ⟨.int z, H, I.kept (h' := h') (t' := tk) fun b o q => k b o ?_ (Heap.get?_push_of_some _ q), ⟨t, rfl⟩, q z (List.mem_of_getElem? e1) fun y hy => ?_⟩
    · intro z
      have z' : b = s.heap.objs.size := by simpa using z
      exact absurd (Heap.lt_size q) (by rw [z']; exact Nat.lt_irrefl _)
    · obtain ⟨j, hj, e3⟩ := List.mem_iff_getElem.mp hy
      have := argBest_min val (its.toArray.size - 1) j (by simp only [List.size_toArray]; omega)
      rw [hv] at this
      have e4 : val j = y := by
        show ns.getD j 0 = y
        rw [List.getD_eq_getElem?_getD, List.getElem?_eq_getElem hj]
        exact e3
      omega

/-! ### signs -/
noncomputable def mx (a b : Int) : Int := if b > a then b else a
/-! readings -/
end L2
end

set_option Elab.async false
set_option linter.all false
set_option maxRecDepth 100000
set_option maxHeartbeats 4000000
noncomputable section
namespace L2
open PySem PySem.Spec PyProof.Rows
/-! ### == of two things that may differ -/
section
variable {X : Cx}
end
end L2
end

set_option Elab.async false
set_option linter.all false
set_option maxRecDepth 100000
set_option maxHeartbeats 4000000
noncomputable section
namespace L2
open PySem PySem.Spec PyProof.Rows
noncomputable def mx3 (a b c : Int) : Int := mx (mx a b) c
theorem call_max3 {X : Cx} (hc : X.calm = true) : CallR X (.builtin "max") (fun xs H Q => ∃ i j k, xs = [.int i, .int j, .int k] ∧ Q (.int (mx3 i j k)) H) := by
  intro pins s σ H xs us Q I r h
  obtain ⟨i, j, k, rfl, q⟩ := h
  cases r with
  | cons r1 r =>
    cases r with
    | cons r2 r =>
      cases r with
      | cons r3 r =>
        cases r
        obtain ⟨t1, rfl⟩ := r1
        obtain ⟨t2, rfl⟩ := r2
        obtain ⟨t3, rfl⟩ := r3
        refine max_three_ints (I.ok.hd hc) fun h' tk kk => ⟨_, H, I.kept kk, ?_, q⟩
        unfold mx3 mx
        by_cases h1 : j > i
        · rw [if_pos h1, if_pos h1]
          by_cases h2 : k > j
          · rw [if_pos h2, if_pos h2]; exact ⟨_, rfl⟩
          · rw [if_neg h2, if_neg h2]; exact ⟨_, rfl⟩
        · rw [if_neg h1, if_neg h1]
          by_cases h2 : k > i
          · rw [if_pos h2, if_pos h2]; exact ⟨_, rfl⟩
          · rw [if_neg h2, if_neg h2]; exact ⟨_, rfl⟩

/-! ### some power is steady -/
/-! ### sharpened -/
noncomputable def rnd (x : Int) : Int := if x = 0 ∨ x = 3 then x else 2
noncomputable def sharp (n : Nat) (s : Nat → Nat → Int) (i j : Nat) : Int := (minO ((List.range n).map fun k => mx3 (s i k) (rnd (s k k)) (s k j))).getD 3
/-! ### == of sign tables -/
end L2
end

set_option Elab.async false
set_option linter.all false
set_option maxRecDepth 100000
set_option maxHeartbeats 4000000
noncomputable section
namespace L2
open PySem PySem.Spec PyProof.Rows
/-! ### what is sharpened is steady -/
section
variable {n : Nat} {s : Nat → Nat → Int}
end
end L2
end

set_option Elab.async false
set_option linter.all false
set_option maxRecDepth 100000
set_option maxHeartbeats 4000000
noncomputable section
namespace L2
open PySem PySem.Spec PyProof.Rows
/-! ### a def is made within a def -/
end L2
end

set_option Elab.async false
set_option linter.all false
set_option maxRecDepth 100000
set_option maxHeartbeats 4000000
noncomputable section
namespace L2
open PySem PySem.Spec PyProof.Rows Builtin
/-! ### what is drawn from within zip and enumerate -/
section
variable {P : Program} {w : World} {A : Around} {E : Value → Shared → Prop} {s : Shared}
theorem nx_tup_item {it t : Addr} {i : Nat} {l : Array Value} {v : Value} {Q : Value → Shared → Prop} (ti : s.heap.IsTupleIter it t i) (tt : s.heap.IsTuple t l) (hv : l[i]? = some v)
    (k : ∀ h', h'.IsTupleIter it t (i + 1) → Heap.SameBut it s.heap h' → Q v { s with heap := h' }) : wpAny (model P w) A (Builtin.SmallTypes.nextOf (.ref it)) Q E s := by
  obtain ⟨o, e1, e2, e3⟩ := id ti
  obtain ⟨p, p1, _, n, p2⟩ := tt
  unfold Builtin.SmallTypes.nextOf
  refine wpAny_bind (wpAny_callSpecial?_slot (name := Str.ofString "__next__") ti.typeIs F.slot_tuple_iterator_next (wpAny_call_entry F.slot_tuple_iterator_next ti.typeIs F.entry_tuple_iterator_next ?_ (F.args_tuple_iterator_next_1 _)))
  show wpAny _ _ (field (.ref it) 0 >>= _) _ _ _
  refine wpAny_bind (wpAny_field e1 e3 (x := .ref t) rfl ?_)
  show wpAny _ _ (if (Value.ref t == Value.none) = true then _ else _) _ _ _
  rw [if_neg (show ¬((Value.ref t == Value.none) = true) from fun z => nomatch z)]
  show wpAny _ _ (field (.ref it) 1 >>= _) _ _ _
  refine wpAny_bind (wpAny_field e1 e3 (x := .int i 0) rfl ?_)
  show wpAny _ _ (seqItems? (.ref t) >>= _) _ _ _
  refine wpAny_bind (wpAny_seqItems p1 p2 ?_)
  simp only [Int.toNat_natCast, hv]
  refine wpAny_bind (wpAny_setField e1 e3 (by simp) (wpAny_pure ⟨v, rfl, wpAny_pure (k _ ⟨_, Heap.get?_update_self _ e1 (Obj.isFreed_of_fields (Obj.data_mapFields e3 _)), (Obj.cls_mapFields ..).trans e2, by rw [Obj.data_mapFields e3]; simp [rawInt]⟩ (Heap.SameBut.update ..))⟩))
theorem nx_tup_end {it t : Addr} {i : Nat} {l : Array Value} {Q : Value → Shared → Prop} (hh : A.handled = none) (ti : s.heap.IsTupleIter it t i) (tt : s.heap.IsTuple t l) (hv : l[i]? = none)
    (k : ∀ h' e, Heap.ExtBut it s.heap h' → (∃ o, h'.get? e = some o ∧ o.cls = .type "StopIteration") → E (.ref e) { s with heap := h' }) : wpAny (model P w) A (Builtin.SmallTypes.nextOf (.ref it)) Q E s := by
  obtain ⟨o, e1, e2, e3⟩ := id ti
  obtain ⟨p, p1, _, n, p2⟩ := tt
  unfold Builtin.SmallTypes.nextOf
  refine wpAny_bind (wpAny_callSpecial?_slot (name := Str.ofString "__next__") ti.typeIs F.slot_tuple_iterator_next (wpAny_call_entry F.slot_tuple_iterator_next ti.typeIs F.entry_tuple_iterator_next ?_ (F.args_tuple_iterator_next_1 _)))
  show wpAny _ _ (field (.ref it) 0 >>= _) _ _ _
  refine wpAny_bind (wpAny_field e1 e3 (x := .ref t) rfl ?_)
  show wpAny _ _ (if (Value.ref t == Value.none) = true then _ else _) _ _ _
  rw [if_neg (show ¬((Value.ref t == Value.none) = true) from fun z => nomatch z)]
  show wpAny _ _ (field (.ref it) 1 >>= _) _ _ _
  refine wpAny_bind (wpAny_field e1 e3 (x := .int i 0) rfl ?_)
  show wpAny _ _ (seqItems? (.ref t) >>= _) _ _ _
  refine wpAny_bind (wpAny_seqItems p1 p2 ?_)
  simp only [Int.toNat_natCast, hv]
  refine wpAny_bind (wpAny_rule (wpAny_bind (wpAny_setField e1 e3 (by simp) ?_)))
  show wpAny _ _ (newExc (.type "StopIteration") [] >>= _) _ _ (_ : Shared)
  refine wpAny_bind ?_
  simp only [newExc, newTuple]
  refine wpAny_bind (wpAny_newObj_type ?_ (by size_fits))
  refine wpAny_bind (m := firstArgMember _ _) (wpAny_of_eq (a := Value.none) (by first | rfl | (simp only [firstArgMember]; rfl)) (wpAny_newObj_type ?_ (by size_fits)))
  simp only [raiseNew]
  refine wpAny_bind (wpAny_handled ?_)
  first | rw [show A.in1.handled = none from hh] | rw [hh]
  exact wpAny_bind (wpAny_pure (wpAny_throw (k _ _ (((Heap.SameBut.update ..).extBut.push _).push _) ⟨_, Heap.get?_push_size _ rfl, rfl⟩)))
end
structure Dw (P : Program) (w : World) (K : PySem.W.Frag) (J : It) (it : Addr) (tn : Nat → Heap → Prop) : Prop where
  obj : ∀ i h, tn i h → ∃ o, h.get? it = some o ∧ ∀ v, o.data ≠ .cell v
  keep : ∀ i h h', tn i h → (∀ o, h.get? it = some o → h'.get? it = some o) → tn i h'
  item : ∀ (X : Cx), X.prog = P → X.w = w → X.K = K → ∀ (A : Around) (i : Nat) (pins : List (Addr × Obj)) (s : Shared) (σ : St) (H : Hp) (Q : Value → Shared → Prop) (E : Value → Shared → Prop), Inv X pins σ H s → tn i s.heap → J.go i H →
    (∀ x u h' tk, RelV x u → J.yld i H x H → tn (i + 1) h' → Heap.SameBut it s.heap h' → Q u { s with heap := h', toks := tk }) → wpAny (model P w) A (Builtin.SmallTypes.nextOf (.ref it)) Q E s
  done : ∀ (X : Cx), X.prog = P → X.w = w → X.K = K → ∀ (A : Around) (i : Nat) (pins : List (Addr × Obj)) (s : Shared) (σ : St) (H : Hp) (Q : Value → Shared → Prop) (E : Value → Shared → Prop), A.handled = none → Inv X pins σ H s → tn i s.heap → J.stop i H →
    (∀ h' e, Heap.ExtBut it s.heap h' → (∃ o, h'.get? e = some o ∧ o.cls = .type "StopIteration") → E (.ref e) { s with heap := h' }) → wpAny (model P w) A (Builtin.SmallTypes.nextOf (.ref it)) Q E s
theorem dw_list {P : Program} {w : World} {K : PySem.W.Frag} (a it : Addr) : Dw P w K (Itl K a) it (fun i h => h.IsListIter it a i) where
  obj := fun i h st => by
    obtain ⟨o, e, c, d⟩ := st
    exact ⟨o, e, fun v z => by rw [d] at z; cases z⟩
  keep := fun i h h' st k => st.at k
  item := by
    intro X hP hw hK A i pins s σ H Q E I st hg k
    subst hP hw hK
    obtain ⟨xs, x, hq, hx⟩ := hg
    obtain ⟨its, rv, p, hz⟩ := I.list hq
    obtain ⟨u, hu, ru⟩ := rv.get hx
    exact wpAny_nextOf_list_item st p.isList (x := u) (by simpa using hu) fun h' st' sb => k x u h' s.toks ru ⟨rfl, fun ys hy => by rw [I.list_inj hy hq]; exact hx⟩ st' sb
  done := by
    intro X hP hw hK A i pins s σ H Q E hA I st hg k
    subst hP hw hK
    obtain ⟨xs, hq, hx⟩ := hg
    obtain ⟨its, rv, p, hz⟩ := I.list hq
    have hl := rv.length
    exact wpAny_nextOf_list_end hA st p.isList (by simp; omega) k
theorem dw_tup {P : Program} {w : World} {K : PySem.W.Frag} (a it : Addr) : Dw P w K (Itt K a) it (fun i h => h.IsTupleIter it a i) where
  obj := fun i h st => by
    obtain ⟨o, e, c, d⟩ := st
    exact ⟨o, e, fun v z => by rw [d] at z; cases z⟩
  keep := fun i h h' st k => st.at k
  item := by
    intro X hP hw hK A i pins s σ H Q E I st hg k
    subst hP hw hK
    obtain ⟨xs, x, hq, hx⟩ := hg
    obtain ⟨its, rv, p, hz⟩ := I.tuple hq
    obtain ⟨u, hu, ru⟩ := rv.get hx
    exact nx_tup_item st (show s.heap.IsTuple a its.toArray from p) (v := u) (by simpa using hu) fun h' st' sb => k x u h' s.toks ru ⟨rfl, fun ys hy => by rw [I.tuple_inj hy hq]; exact hx⟩ st' sb
  done := by
    intro X hP hw hK A i pins s σ H Q E hA I st hg k
    subst hP hw hK
    obtain ⟨xs, hq, hx⟩ := hg
    obtain ⟨its, rv, p, hz⟩ := I.tuple hq
    have hl := rv.length
    exact nx_tup_end hA st (show s.heap.IsTuple a its.toArray from p) (by simp; omega) k
theorem dw_str {P : Program} {w : World} {K : PySem.W.Frag} (x : Str) (t : Tok) (it : Addr) : Dw P w K (Its x) it (fun i h => h.IsStrIter it (strIterType x) x t i) where
  obj := fun i h st => by
    obtain ⟨o, e, c, d⟩ := st
    exact ⟨o, e, fun v z => by rw [d] at z; cases z⟩
  keep := fun i h h' st k => by
    obtain ⟨o, ho, r⟩ := st
    exact ⟨o, k _ ho, r⟩
  item := by
    intro X hP hw hK A i pins s σ H Q E I st hg k
    subst hP hw hK
    have hg' : i < x.cps.size := hg
    have hc : x.cps[i]? = some x.cps[i] := by simp [hg']
    unfold strIterType at st k
    cases ha : x.cps.all (· < 128)
    · rw [ha] at st k
      exact wpAny_nextOf_wide_item st hc fun h' st' sb => k (.str ⟨#[x.cps[i]]⟩) _ h' (s.toks + 1) ⟨_, rfl⟩ ⟨rfl, _, hc, rfl⟩ st' sb
    · rw [ha] at st k
      exact wpAny_nextOf_ascii_item st hc fun h' st' sb => k (.str ⟨#[x.cps[i]]⟩) _ h' (s.toks + 1) ⟨_, rfl⟩ ⟨rfl, _, hc, rfl⟩ st' sb
  done := by
    intro X hP hw hK A i pins s σ H Q E hA I st hg k
    subst hP hw hK
    have hg' : x.cps.size ≤ i := hg
    have hc : x.cps[i]? = none := by simp [hg']
    unfold strIterType at st
    cases ha : x.cps.all (· < 128)
    · rw [ha] at st
      exact wpAny_nextOf_wide_end hA st hc k
    · rw [ha] at st
      exact wpAny_nextOf_ascii_end hA st hc k
/-! ### zip of two -/
structure Ap (z ti to i1 i2 : Addr) : Prop where
  a1 : ti ≠ z
  a2 : to ≠ z
  a3 : i1 ≠ z
  a4 : i2 ≠ z
  a5 : ti ≠ to
  a6 : ti ≠ i1
  a7 : ti ≠ i2
  a8 : to ≠ i1
  a9 : to ≠ i2
  b1 : i1 ≠ i2
section
variable {X : Cx} {pins : List (Addr × Obj)} {σ : St} {H : Hp} {s : Shared} {A : Around} {E : Value → Shared → Prop} {J1 J2 : It} {t1 t2 : Nat → Heap → Prop} {z ti to i1 i2 : Addr} {n : Nat} {a b : Value}
end
/-! ### zip is called -/
/-- an iterator of v is made: the record o is laid -/
noncomputable def Mkr (v : Value) (o : Obj) (h : Heap) : Prop := ∀ (P : Program) (w : World) (A : Around) (E : Value → Shared → Prop) (s : Shared) (Q : Value → Shared → Prop), (∀ b u, h.get? b = some u → s.heap.get? b = some u) →
  Q (.ref s.heap.objs.size) { s with heap := s.heap.push o } → wpAny (model P w) A (pyIter v) Q E s
/-- what is drawn from a thing -/
noncomputable def Sr (K : PySem.W.Frag) (H : Hp) (x : V) (J : It) : Prop := (∃ a, x = .ref a ∧ (∃ xs, SqL K H a xs) ∧ J = Itl K a) ∨ (∃ a, x = .ref a ∧ (∃ xs, SqT K H a xs) ∧ J = Itt K a) ∨ ∃ y, x = .str y ∧ J = Its y
theorem Sr.mk {X : Cx} {pins : List (Addr × Obj)} {σ : St} {H : Hp} {s : Shared} {x : V} {u : Value} {J : It} (I : Inv X pins σ H s) (h : Sr X.K H x J) (r : RelV x u) :
    ∃ (o : Obj) (tn : Addr → Nat → Heap → Prop), o.isFreed = false ∧ Mkr u o s.heap ∧ (∀ it, Dw X.prog X.w X.K J it (tn it)) ∧ ∀ it h', h'.get? it = some o → tn it 0 h' := by
  rcases h with ⟨a, e, ⟨xs, hq⟩, e'⟩ | ⟨a, e, ⟨xs, hq⟩, e'⟩ | ⟨y, e, e'⟩
  · subst e e'; cases r
    obtain ⟨its, rv, p, hz⟩ := I.list hq
    exact ⟨_, fun it i h => h.IsListIter it a i, rfl, fun P w A E s' Q hk q => wpAny_pyIter_list (p.isList.at fun o e => hk _ _ e) q, fun it => dw_list a it, fun it h' e => ⟨_, e, rfl, rfl⟩⟩
  · subst e e'; cases r
    obtain ⟨its, rv, p, hz⟩ := I.tuple hq
    exact ⟨_, fun it i h => h.IsTupleIter it a i, rfl, fun P w A E s' Q hk q => wpAny_pyIter_tuple (Heap.IsTuple.at (show s.heap.IsTuple a its.toArray from p) fun o e => hk _ _ e) q, fun it => dw_tup a it, fun it h' e => ⟨_, e, rfl, rfl⟩⟩
  · subst e e'; obtain ⟨t, rfl⟩ := r
    exact ⟨_, fun it i h => h.IsStrIter it (strIterType y) y t i, rfl, fun P w A E s' Q hk q => wpAny_pyIter_strU q, fun it => dw_str y t it, fun it h' e => ⟨_, e, rfl, rfl⟩⟩
end L2
end

set_option Elab.async false
set_option linter.all false
set_option maxRecDepth 100000
set_option maxHeartbeats 4000000
noncomputable section
namespace L2
open PySem PySem.Spec PyProof.Rows Builtin
open AutoSeq1 (wpAny_loadPart')
/-! ### enumerate -/
section
variable {X : Cx} {pins : List (Addr × Obj)} {σ : St} {H : Hp} {s : Shared} {A : Around} {E : Value → Shared → Prop} {J1 : It} {t1 : Nat → Heap → Prop} {z it : Addr} {n : Nat} {old : Value}
end
end L2
end

set_option Elab.async false
set_option linter.all false
set_option maxRecDepth 100000
set_option maxHeartbeats 4000000
noncomputable section
namespace L2
open PySem PySem.Spec PyProof.Rows Builtin
open AutoSeq1 (wpAny_loadPart')
/-! ### t * n -/
theorem noFill_tmul : fillsNumberSlot (.type "tuple") "mul" = pure false :=
  PySem.fillsNumberSlot_seq (id := "tuple.__mul__") (r := some (.builtin "tuple.__rmul__")) PySem.F.slot_tuple_mul.lookup (by decide +kernel) PySem.F.slot_tuple_rmul.lookup (by decide +kernel)
theorem repeat_tup : seqRepeat? (.type "tuple") = pure (some (.builtin "tuple.__mul__")) := by
  unfold seqRepeat?
  rw [PySem.seqSlot_of (T := "tuple") (name := "__mul__") (id := "tuple.__mul__") PySem.F.slot_tuple_mul.lookup (by decide +kernel), PySem.seqSlot_of (T := "tuple") (name := "__rmul__") (id := "tuple.__rmul__") PySem.F.slot_tuple_rmul.lookup (by decide +kernel)]
  rfl
theorem int_rmul_tup (a : Int) (t : Tok) (l : Addr) (o : Obj) (items : Array Value) (n : Nat) (dct : Option Addr) (sl : Array (Option Value)) :
    Meets (Builtin.«int.__rmul__» ⟨[.int a t, .ref l], []⟩) (fun _ R s => s.heap.get? l = some { cls := .type "tuple", dict := dct, data := .seq items n, slots := sl } ∧ R (.ok (.ret Value.notImplemented)) s) :=
  .of_wp fun prog w A R s h => by obtain ⟨hp, g, d, tk, os⟩ := s; obtain ⟨hl, h⟩ := h; wp_walk; exact ⟨_, rfl, h⟩
noncomputable def repT {α : Type} : Nat → List α → List α
  | 0, _ => []
  | n + 1, a => a ++ repT n a
theorem fold_rep {α : Type} (l : List α) : ∀ (n : Nat) (acc : Array α), (List.replicate n l.toArray).foldl (· ++ ·) acc = acc ++ (repT n l).toArray
  | 0, acc => by simp [repT]
  | n + 1, acc => by rw [List.replicate_succ, List.foldl_cons, fold_rep l n]; simp [repT]
theorem fold_size {α : Type} (a : Array α) : ∀ (n : Nat) (acc : Array α), ((List.replicate n a).foldl (· ++ ·) acc).size = acc.size + a.size * n
  | 0, acc => by simp
  | n + 1, acc => by rw [List.replicate_succ, List.foldl_cons, fold_size a n, Array.size_append, Nat.mul_succ]; omega
noncomputable def TmA (items : Array Value) (k : Int) (l : Addr) (R : Value → Shared → Prop) (s : Shared) : Prop :=
  ((items.isEmpty || k == 1) = true → R (.ref l) s) ∧ ((items.isEmpty || k == 1) = false → R (.ref s.heap.objs.size) { s with heap := s.heap.push { cls := .type "tuple", data := .seq ((List.replicate k.toNat items).foldl (· ++ ·) #[]) } })
theorem tmul_call {P : Program} {w : World} {A : Around} {E : Value → Shared → Prop} {s : Shared} {l : Addr} {items : Array Value} {k : Int} {t : Tok} {Q : Value → Shared → Prop} (h0 : 0 ≤ k) (h1 : k ≤ 1000000) (hz : items.size * k.toNat ≤ 1000000) (hl : IsTup s.heap l items)
    (h : TmA items k l Q s) : wpAny (model P w) A (call (.builtin "tuple.__mul__") [.ref l, .int k t]) Q E s := by
  refine wpAny_call_entry PySem.F.slot_tuple_mul hl.typeIs PySem.F.entry_tuple_mul ?_ (PySem.F.args_tuple_mul_2 _ _)
  obtain ⟨q1, q2⟩ := h
  show wpAny _ _ (asIndex (.int k t) >>= _) _ _ _
  refine wpAny_bind (wpAny_pure ?_)
  rw [if_neg (by rw [decide_eq_false (by omega), decide_eq_false (by omega)]; decide)]
  show wpAny _ _ (Builtin.Tuple.tupleItemsOf (.ref l) >>= _) _ _ _
  refine wpAny_bind (tupleItemsOf_ hl ?_)
  have hzi : (items.size : Int) * k ≤ 1000000 := by
    have : ((items.size * k.toNat : Nat) : Int) ≤ 1000000 := by omega
    rw [Int.natCast_mul, Int.toNat_of_nonneg h0] at this
    exact this
  cases hb : (items.isEmpty || k == 1) with
  | true =>
    rw [if_pos rfl]
    unfold Builtin.Tuple.tupleIsExact
    refine wpAny_bind (wpAny_bind (wpAny_typeOf hl.typeIs (wpAny_pure ?_)))
    rw [if_pos (by decide)]
    exact wpAny_bind (wpAny_rule (wpAny_pure ⟨_, rfl, q1 hb⟩))
  | false =>
    rw [if_neg Bool.false_ne_true]
    have he : items.isEmpty = false := by
      rw [Bool.or_eq_false_iff] at hb; exact hb.1
    have q := q2 hb
    show wpAny _ _ (if (decide (k ≤ 0) || items.isEmpty) = true then _ else _) _ _ _
    by_cases hk : k ≤ 0
    · rw [if_pos (by rw [decide_eq_true hk]; rfl)]
      have : k.toNat = 0 := by omega
      rw [this] at q
      exact wpAny_bind (wpAny_newObj_type (wpAny_pure ⟨_, rfl, q⟩) (by size_fits))
    · rw [if_neg (by rw [decide_eq_false hk, he]; decide)]
      show wpAny _ _ (if (items.size : Int) * k > (2 ^ 63 - 1) / 8 then _ else _) _ _ _
      rw [if_neg (by omega)]
      show wpAny _ _ (if Builtin.Tuple.tupleTooMany ((items.size : Int) * k) = true then _ else _) _ _ _
      rw [if_neg (by unfold Builtin.Tuple.tupleTooMany; rw [decide_eq_false (by unfold sizeLine; omega)]; decide)]
      refine wpAny_bind (wpAny_newObj_type (wpAny_pure ⟨_, rfl, q⟩) ?_)
      show Array.size _ ≤ sizeLine
      rw [fold_size]
      show 0 + _ ≤ _
      rw [Nat.zero_add]
      have h3 : items.size * k.toNat ≤ sizeLine := Nat.le_trans hz (by decide)
      exact h3
theorem repT_nil {α : Type} : ∀ n, repT n ([] : List α) = []
  | 0 => rfl
  | n + 1 => by simp [repT, repT_nil n]
theorem repT_one {α : Type} (l : List α) : repT 1 l = l := by simp [repT]
theorem repT_len {α : Type} (l : List α) : ∀ n, (repT n l).length = l.length * n
  | 0 => by simp [repT]
  | n + 1 => by simp [repT, repT_len l n, Nat.mul_add]; omega
theorem Vals.repT {xs : List V} {us : List Value} (r : Vals xs us) : ∀ n, Vals (repT n xs) (repT n us)
  | 0 => .nil
  | n + 1 => r.append (Vals.repT r n)
noncomputable def rMulT (K : PySem.W.Frag) : R2 := fun x y H Q => ∃ a xs n, x = .ref a ∧ y = .int n ∧ SqT K H a xs ∧ (0 ≤ n ∧ n ≤ 1000000 ∧ xs.length * n.toNat ≤ 1000000) ∧ ∀ p H', Same H H' → SqT K H' p (repT n.toNat xs) → Q (.ref p) H'
theorem op_mulT {X : Cx} {K : PySem.W.Frag} (hK : X.K = K) : OpR X (binaryOp .Mult) (rMulT K) := by
  subst hK
  intro pins s σ H x y v u Q I rx ry h
  obtain ⟨a, xs, n, rfl, rfl, ha, ⟨h0, h1, hz⟩, q⟩ := h
  cases rx
  obtain ⟨t, rfl⟩ := ry
  obtain ⟨its, r1, p1, hzz⟩ := I.tuple ha
  have hlen := r1.length
  obtain ⟨⟨cls, dd, data, sl⟩, ho, hc, n1, hd⟩ := id p1
  simp only at hc hd
  subst hc hd
  refine wpAny_binaryOp_repeat_ref (T := "tuple") (U := "int") (by decide) p1.typeIs (fun s' => typeIs_int s' n t) noFill_tmul PySem.F.fills_int_mul PySem.F.slot_int_rmul repeat_tup PySem.F.slot_int_index.lookup
    (call_meets PySem.F.slot_int_rmul (typeIs_int s n t) PySem.F.entry_int_rmul (PySem.F.args_int_rmul_2 _ _) (int_rmul_tup n t a default its.toArray n1 dd sl) ⟨ho, ⟨rfl, p1.typeIs, tmul_call h0 h1 (by rw [List.size_toArray, ← hlen]; exact hz) p1 ⟨fun hb => ?_, fun hb => ?_⟩⟩⟩)
  · refine ⟨.ref a, H, I, rfl, q a H (Same.refl H) ?_⟩
    rw [Bool.or_eq_true] at hb
    rcases hb with hb | hb
    · have hi : its = [] := by simpa using hb
      have hx : xs = [] := r1.nil_iff.mp hi
      rw [hx, repT_nil]; rw [hx] at ha; exact ha
    · have : n = 1 := by simpa using hb
      subst this
      show SqT _ _ _ (repT 1 xs)
      rw [repT_one]; exact ha
  · have hp := I.hok.fresh (Nat.le_refl s.heap.objs.size)
    refine ⟨.ref s.heap.objs.size, _, I.laid (t' := s.toks) (o := .tup (repT n.toNat xs)) (fun b ob q => Heap.get?_push_of_some _ q) (Nat.le_refl _) ?_, rfl, q _ _ ((Same.refl H).new hp) (SqT.of upd_same)⟩
    refine ⟨by rw [repT_len]; exact Nat.le_trans hz (by decide), repT n.toNat its, r1.repT _, ?_⟩
    rw [show (repT n.toNat its).toArray = (List.replicate n.toNat its.toArray).foldl (· ++ ·) #[] by rw [fold_rep]; simp]
    exact ⟨_, Heap.get?_push_size _ rfl, rfl, _, rfl⟩
end L2
end

set_option Elab.async false
set_option linter.all false
set_option maxRecDepth 100000
set_option maxHeartbeats 4000000
noncomputable section
namespace L2
open PySem PySem.Spec PyProof.Rows
/-! ### a text read from the end: x[::-1] -/
end L2
end

set_option Elab.async false
set_option linter.all false
set_option maxRecDepth 100000
set_option maxHeartbeats 4000000
noncomputable section
namespace L2
open PySem PySem.Spec PyProof.Rows
/-! ### range(a, b, 2): just so many -/
end L2
end

set_option Elab.async false
set_option linter.all false
set_option maxRecDepth 100000
set_option maxHeartbeats 4000000
noncomputable section
namespace L2
open PySem PySem.Spec PyProof.Rows
/-! ### ''.join of a list of texts -/
noncomputable def strV (x : List Nat) : V := .str ⟨x.toArray⟩
theorem vals_strs : ∀ {ss : List (List Nat)} {its : List Value}, Vals (ss.map strV) its → ∃ l : List (Str × Tok), its = strValues l ∧ l.map (·.1) = ss.map fun x => (⟨x.toArray⟩ : Str)
  | [], its, h => by
    have := h.length
    cases its with
    | nil => exact ⟨[], rfl, rfl⟩
    | cons _ _ => cases this
  | x :: ss, its, h => by
    cases h with
    | cons r h =>
      obtain ⟨t, rfl⟩ := r
      obtain ⟨l, rfl, e⟩ := vals_strs h
      exact ⟨(⟨x.toArray⟩, t) :: l, rfl, by rw [List.map_cons, List.map_cons, e]⟩
theorem glue_fold : ∀ (ss : List (List Nat)) (acc : List Nat), (ss.map fun x => (⟨x.toArray⟩ : Str)).foldl (fun a p => a ++ (⟨#[]⟩ : Str).cps ++ p.cps) acc.toArray = (acc ++ ss.flatten).toArray
  | [], acc => by simp
  | x :: ss, acc => by
    rw [List.map_cons, List.foldl_cons]
    have : acc.toArray ++ (⟨#[]⟩ : Str).cps ++ (⟨x.toArray⟩ : Str).cps = (acc ++ x).toArray := by simp
    rw [this, glue_fold ss (acc ++ x)]
    simp
theorem glued_flat (ss : List (List Nat)) : Builtin.Str.glued ⟨#[]⟩ (ss.map fun x => (⟨x.toArray⟩ : Str)) = ⟨ss.flatten.toArray⟩ := by
  cases ss with
  | nil => rfl
  | cons x ss =>
    unfold Builtin.Str.glued
    rw [List.map_cons, List.drop_one, List.tail_cons, List.headD_cons]
    have := glue_fold ss x
    rw [this]
    rfl
theorem len_fold : ∀ (ss : List (List Nat)) (n : Nat), (ss.map fun x => (⟨x.toArray⟩ : Str)).foldl (fun a (p : Str) => a + p.length + (⟨#[]⟩ : Str).length) n = n + ss.flatten.length
  | [], n => by simp
  | x :: ss, n => by
    rw [List.map_cons, List.foldl_cons, len_fold ss]
    have : (⟨x.toArray⟩ : Str).length = x.length := by show x.toArray.size = _; simp
    have z : (⟨#[]⟩ : Str).length = 0 := rfl
    rw [this, z, List.flatten_cons, List.length_append]; omega
theorem mt_join {X : Cx} : MtR X "str.join" (fun x vs H Q => ∃ (a : Addr) (ss : List (List Nat)), x = .str ⟨#[]⟩ ∧ vs = [.ref a] ∧ H a = some (.lst (ss.map strV)) ∧ ss.flatten.length ≤ sizeLine ∧ Q (strV ss.flatten) H) := by
  intro pins s σ H x vs v us Q I rx rv h
  obtain ⟨a, ss, rfl, rfl, hH, hz, q⟩ := h
  obtain ⟨t, rfl⟩ := rx
  obtain ⟨u, rfl, ru⟩ := rv.one
  cases ru
  obtain ⟨_, its, n, r, hl, e⟩ := I.lstM hH
  obtain ⟨l, rfl, el⟩ := vals_strs r
  have hlong : Builtin.Str.tooLong ((l.map (·.1)).toArray.foldl (· + ·.length + (⟨#[]⟩ : Str).length) 0) = false := by
    rw [el, List.foldl_toArray, len_fold ss 0]
    unfold Builtin.Str.tooLong
    exact decide_eq_false (by omega)
  refine call_meets PySem.F.slot_str_join (typeIs_str s _ t) PySem.F.entry_str_join (PySem.F.args_str_join_2 _ _) (meets_str_join_list ⟨#[]⟩ t a l hlong) ⟨⟨_, e, rfl, n, rfl⟩, ?_⟩
  have flat := glued_flat ss
  unfold joinMade
  split
  · rename_i p
    have e1 : [p.1] = ss.map fun x => (⟨x.toArray⟩ : Str) := el
    have : p.1 = ⟨ss.flatten.toArray⟩ := by
      cases ss with
      | nil => cases e1
      | cons y ss =>
        cases ss with
        | nil => rw [List.map_cons, List.map_nil] at e1; rw [List.head_eq_of_cons_eq e1]; simp
        | cons _ _ => rw [List.map_cons, List.map_cons] at e1; cases List.tail_eq_of_cons_eq e1
    show EP X pins σ Q (.str p.1 p.2) s
    rw [this]
    exact ⟨strV ss.flatten, H, I, ⟨_, rfl⟩, q⟩
  · rw [el, flat]
    refine ⟨?_, strV ss.flatten, H, I.tok _, ⟨_, rfl⟩, q⟩
    show ss.flatten.toArray.size ≤ _
    simpa using hz
end L2
end

set_option linter.all false
noncomputable section
namespace DV

/-! ### values -/
inductive D where
  | non | bl (b : Bool) | int (i : Int) | str (x : List Nat) | tup (l : List D) | ref (n : Nat) | fn (f : String) | clo (f : String) (cs : List D)

mutual
noncomputable def D.beq : D → D → Bool
  | .non, .non => true
  | .bl a, .bl b => a == b
  | .int a, .int b => a == b
  | .str a, .str b => a == b
  | .tup a, .tup b => D.beqL a b
  | .ref a, .ref b => a == b
  | .fn a, .fn b => a == b
  | .clo a l, .clo b m => a == b && D.beqL l m
  | _, _ => false
noncomputable def D.beqL : List D → List D → Bool
  | [], [] => true
  | a :: l, b :: m => D.beq a b && D.beqL l m
  | _, _ => false
end
mutual
theorem D.beq_eq : ∀ a b : D, D.beq a b = true → a = b
  | .non, b, h => by cases b <;> first | rfl | (unfold D.beq at h; cases h)
  | .bl x, b, h => by cases b <;> first | (unfold D.beq at h; rw [beq_iff_eq.mp h]) | (unfold D.beq at h; cases h)
  | .int x, b, h => by cases b <;> first | (unfold D.beq at h; rw [beq_iff_eq.mp h]) | (unfold D.beq at h; cases h)
  | .str x, b, h => by cases b <;> first | (unfold D.beq at h; rw [beq_iff_eq.mp h]) | (unfold D.beq at h; cases h)
  | .tup x, b, h => by cases b <;> first | (unfold D.beq at h; rw [D.beqL_eq _ _ h]) | (unfold D.beq at h; cases h)
  | .ref x, b, h => by cases b <;> first | (unfold D.beq at h; rw [beq_iff_eq.mp h]) | (unfold D.beq at h; cases h)
  | .fn x, b, h => by cases b <;> first | (unfold D.beq at h; rw [beq_iff_eq.mp h]) | (unfold D.beq at h; cases h)
  | .clo x l, b, h => by cases b <;> first | (unfold D.beq at h; rw [Bool.and_eq_true] at h; rw [beq_iff_eq.mp h.1, D.beqL_eq _ _ h.2]) | (unfold D.beq at h; cases h)
theorem D.beqL_eq : ∀ a b : List D, D.beqL a b = true → a = b
  | [], b, h => by cases b <;> first | rfl | (unfold D.beqL at h; cases h)
  | x :: l, b, h => by
    cases b with
    | nil => unfold D.beqL at h; cases h
    | cons y m => unfold D.beqL at h; rw [Bool.and_eq_true] at h; rw [D.beq_eq _ _ h.1, D.beqL_eq _ _ h.2]
end
mutual
theorem D.beq_refl : ∀ a : D, D.beq a a = true
  | .non => rfl
  | .bl _ => by unfold D.beq; exact beq_self_eq_true _
  | .int _ => by unfold D.beq; exact beq_self_eq_true _
  | .str _ => by unfold D.beq; exact beq_self_eq_true _
  | .tup l => by unfold D.beq; exact D.beqL_refl l
  | .ref _ => by unfold D.beq; exact beq_self_eq_true _
  | .fn _ => by unfold D.beq; exact beq_self_eq_true _
  | .clo _ l => by unfold D.beq; rw [beq_self_eq_true, D.beqL_refl l]; rfl
theorem D.beqL_refl : ∀ a : List D, D.beqL a a = true
  | [] => rfl
  | x :: l => by unfold D.beqL; rw [D.beq_refl x, D.beqL_refl l]; rfl
end
noncomputable instance : DecidableEq D := fun a b => if h : D.beq a b = true then .isTrue (D.beq_eq a b h) else .isFalse fun e => h (e ▸ D.beq_refl a)

/-- what stands in the store -/
inductive O where
  | lst (l : List D) | ro (l : List D) | dic (l : List (D × D)) | ins (c : String) (fs : List (String × D))
  deriving DecidableEq
noncomputable abbrev Sto := List O
inductive R (α : Type) where
  | ok (a : α) (s : Sto) | exc (e : D) (s : Sto) | bad
noncomputable abbrev M (α : Type) := Sto → R α
noncomputable def R.bind {α β : Type} (r : R α) (f : α → Sto → R β) : R β := match r with
  | .ok a s => f a s
  | .exc e s => .exc e s
  | .bad => .bad
@[simp] theorem R.bind_ok {α β : Type} (a : α) (s : Sto) (f : α → Sto → R β) : (R.ok a s).bind f = f a s := rfl
@[simp] theorem R.bind_bad {α β : Type} (f : α → Sto → R β) : (R.bad : R α).bind f = .bad := rfl
@[simp] theorem R.bind_exc {α β : Type} (e : D) (s : Sto) (f : α → Sto → R β) : (R.exc e s : R α).bind f = .exc e s := rfl
theorem R.bind_inv {α β : Type} {r : R α} {f : α → Sto → R β} {b : β} {t : Sto} (h : r.bind f = .ok b t) : ∃ a s, r = .ok a s ∧ f a s = .ok b t := by
  cases r with
  | ok a s => exact ⟨a, s, rfl, h⟩
  | exc e s => cases h
  | bad => cases h
@[simp] theorem R.bind_assoc {α β γ : Type} (r : R α) (f : α → Sto → R β) (g : β → Sto → R γ) : (r.bind f).bind g = r.bind fun a s => (f a s).bind g := by cases r <;> rfl

mutual
/-- all refs below n -/
noncomputable def D.bnd (n : Nat) : D → Bool
  | .tup l => D.bndL n l
  | .ref k => decide (k < n)
  | .clo _ l => D.bndL n l
  | _ => true
noncomputable def D.bndL (n : Nat) : List D → Bool
  | [] => true
  | d :: l => D.bnd n d && D.bndL n l
end
noncomputable def O.bnd (n : Nat) : O → Bool
  | .lst l => D.bndL n l
  | .ro l => D.bndL n l
  | .dic l => D.bndL n (l.map (·.1)) && D.bndL n (l.map (·.2))
  | .ins _ fs => D.bndL n (fs.map (·.2))
mutual
/-- no refs, no functions: what == tells as equality -/
noncomputable def D.plain : D → Bool
  | .non => true | .int _ => true | .str _ => true
  | .tup l => D.plainL l
  | _ => false
noncomputable def D.plainL : List D → Bool
  | [] => true
  | d :: l => D.plain d && D.plainL l
end

mutual
/-- no closures in it -/
noncomputable def D.ncl : D → Bool
  | .tup l => D.nclL l
  | .clo _ _ => false
  | _ => true
noncomputable def D.nclL : List D → Bool
  | [] => true
  | d :: l => D.ncl d && D.nclL l
end
noncomputable def O.ncl : O → Bool
  | .lst l => D.nclL l
  | .ro l => D.nclL l
  | _ => false

/-! ### limits of the model -/
noncomputable def LIM : Nat := 1000000
@[irreducible] noncomputable def BIG : Nat := 2 ^ 60000
@[irreducible] noncomputable def DIVL : Nat := 2 ^ 4096

/-! ### the text -/
inductive BOp where
  | add | sub | mul | fdiv | mod | pow | shl | shr | band | bor
  deriving DecidableEq
inductive COp where
  | eq | ne | lt | le | gt | ge | isin | notin
  deriving DecidableEq
/-- a constant -/
inductive Cn where
  | non | bl (b : Bool) | int (i : Int) | str (x : List Nat)
  deriving DecidableEq
noncomputable def Cn.d : Cn → D
  | .non => .non | .bl b => .bl b | .int i => .int i | .str x => .str x
/-- built-in functions of values -/
inductive Bi where
  | len | abs | int | str | min2 | max2 | max3 | min3 | isInt | isBool | isStr | isTup | isList | ord
  deriving DecidableEq
/-- what is made of items -/
inductive Mk where
  | tuple | list | all | any | sum | min | max | sorted | lenset
  deriving DecidableEq
inductive Mt where
  | append | pop | index | count | reverse | clear | bitlen | get1 | get2 | setdefault | update | split | partition
  deriving DecidableEq
/-- targets -/
inductive Tg where
  | one (i : Nat) | tup (is : List Nat)
  deriving DecidableEq
mutual
inductive E where
  | var (i : Nat) | cst (c : Cn) | glob (x : String)
  | bin (op : BOp) (a b : E) | neg (a : E) | not (a : E)
  | cmp (op : COp) (a b : E) | chain (o p : COp) (a b c : E)
  | isN (a : E) | notN (a : E) | isB (a : E) (b : Bool) | notB (a : E) (b : Bool)
  | and (a b : E) | or (a b : E) | ite (c a b : E)
  | tup (es : Es) | lst (es : Es) | dic (ks vs : Es)
  | ix (a b : E) | slL (a lo : E) | slU (a hi : E) | slLU (a lo hi : E) | rev (a : E)
  | call (f : String) (as : As) | callC (f : String) (as : As) | callV (i : Nat) (es : Es)
  | bi (b : Bi) (es : Es) | mk (k : Mk) (l : L) | mkD (k : Mk) (l : L) (d : E)
  | meth (m : Mt) (o : E) (es : Es) | ext (o : E) (l : L) | extS (o e : E) | join (o e : E)
inductive Es where
  | nil | cons (e : E) (es : Es)
/-- arguments: expressions, lambdas with what they take from around, defs of the text -/
inductive As where
  | nil | ex (e : E) (as : As) | lam (id : String) (caps : List Nat) (as : As) | fn (f : String) (as : As)
/-- what a loop walks -/
inductive I where
  | seq (e : E) | rng1 (a : E) | rng2 (a b : E) | rng3 (a b : E) (c : Int) | enum (it : I) | zip (a b : I) | items (e : E)
/-- lists that are used up on the spot -/
inductive L where
  | comp (tg : Tg) (it : I) (e : E) (caps : List (Option Nat)) | compIf (tg : Tg) (it : I) (c e : E) (caps : List (Option Nat)) | disp (es : Es) | seq (e : E)
end
mutual
inductive S where
  | asg (tg : Tg) (e : E) | setIx (o i e : E) | aug (i : Nat) (e : E) | ex (e : E) | ret (e : E) | retN
  | ite (c : E) (a b : Ss) | whl (c : E) (b : Ss) | for_ (tg : Tg) (it : I) (b : Ss) | pass | cont | brk | raise
inductive Ss where
  | nil | cons (s : S) (ss : Ss)
end

/-! ### what operators do -/
noncomputable abbrev Env := List (Option D)
noncomputable def alloc (o : O) : M D := fun s => .ok (.ref s.length) (s ++ [o])
noncomputable def pur (d : D) : M D := fun s => .ok d s
noncomputable def bad {α : Type} : M α := fun _ => .bad
noncomputable def mulOk (a b : Int) : Bool := decide (a.natAbs < 2 ^ 64) || decide (b.natAbs < 2 ^ 64) || (decide (a.natAbs < BIG) && decide (b.natAbs < BIG))
/-- a text, n times -/
noncomputable def rep : Nat → List Nat → List Nat
  | 0, _ => []
  | n + 1, a => a ++ rep n a
/-- a tuple, n times -/
noncomputable def repD : Nat → List D → List D
  | 0, _ => []
  | n + 1, a => a ++ repD n a
noncomputable def binop : BOp → D → D → M D
  | .add, .int a, .int b => pur (.int (a + b))
  | .add, .str a, .str b => if a.length + b.length ≤ LIM then pur (.str (a ++ b)) else bad
  | .add, .tup a, .tup b => if a.length + b.length ≤ LIM then pur (.tup (a ++ b)) else bad
  | .add, .ref a, .ref b => fun s => match s[a]?, s[b]? with
    | some (.lst l), some (.lst m) => if l.length + m.length ≤ LIM then alloc (.lst (l ++ m)) s else .bad
    | _, _ => .bad
  | .sub, .int a, .int b => pur (.int (a - b))
  | .mul, .int a, .int b => if mulOk a b then pur (.int (a * b)) else bad
  | .mul, .str a, .int n => if 0 ≤ n ∧ n ≤ 1000000 ∧ a.length * n.toNat ≤ LIM then pur (.str (rep n.toNat a)) else bad
  | .mul, .tup a, .int n => if 0 ≤ n ∧ n ≤ 1000000 ∧ a.length * n.toNat ≤ LIM then pur (.tup (repD n.toNat a)) else bad
  | .mul, .ref a, .int n => fun s => match s[a]? with
    | some (.lst l) => if 0 ≤ n ∧ n ≤ 1000000 ∧ l.length * n.toNat ≤ LIM then alloc (.lst (repD n.toNat l)) s else .bad
    | _ => .bad
  | .fdiv, .int a, .int b => if 0 < b ∧ b < (DIVL : Int) then pur (.int (a / b)) else bad
  | .mod, .int a, .int b => if 0 < b then pur (.int (a % b)) else bad
  | .pow, .int a, .int b => if 0 ≤ b ∧ b ≤ 1000000 ∧ a.natAbs < 2 ^ 64 then pur (.int (a ^ b.toNat)) else bad
  | .shl, .int a, .int b => if 0 ≤ b ∧ b ≤ 1000000 ∧ a.natAbs < 2 ^ 64 then pur (.int (a * 2 ^ b.toNat)) else bad
  | .shr, .int a, .int b => if 0 ≤ b then pur (.int (a / 2 ^ b.toNat)) else bad
  | _, _, _ => bad

/-- the kind of a thing, as == parts them -/
noncomputable def kd (s : Sto) : D → Nat
  | .non => 0 | .bl _ => 1 | .int _ => 1 | .str _ => 2 | .tup _ => 3
  | .ref r => match s[r]? with | some (.lst _) => 4 | _ => 9
  | _ => 9
noncomputable def kdBad (a b : Nat) : Bool := a == 9 || b == 9 || a == b
noncomputable def b2i (b : Bool) : Int := if b then 1 else 0
/-- == of two plain things of one kind -/
noncomputable def eqLit : D → D → Option Bool
  | .non, .non => some true
  | .bl a, .bl b => some (a == b)
  | .int a, .int b => some (a == b)
  | .bl a, .int b => some (b2i a == b)
  | .int a, .bl b => some (a == b2i b)
  | .str a, .str b => some (a == b)
  | _, _ => none
/-- == of things, tuples and lists up to n deep -/
noncomputable def eqAtom (s : Sto) (a b : D) : Option Bool := match eqLit a b with
  | some z => some z
  | none => if kdBad (kd s a) (kd s b) then none else some false
noncomputable def eqL (f : D → D → Option Bool) : List D → List D → Option Bool
  | [], [] => some true
  | [], _ :: _ => some false
  | _ :: _, [] => some false
  | a :: l, b :: m => match f a b, eqL f l m with
    | some x, some y => some (x && y)
    | _, _ => none
noncomputable def eqv (s : Sto) : Nat → D → D → Option Bool
  | 0, a, b => eqAtom s a b
  | n + 1, a, b => match a, b with
    | .tup l, .tup m => eqL (eqv s n) l m
    | .ref x, .ref y => match s[x]?, s[y]? with
      | some (.lst l), some (.lst m) => if l.length = m.length then eqL (eqv s n) l m else some false
      | _, _ => none
    | a, b => eqAtom s a b
noncomputable def DEEP : Nat := 30
noncomputable def eqM (a b : D) : M D := fun s => match eqv s DEEP a b with
  | some r => .ok (.bl r) s
  | none => .bad
noncomputable def inL (s : Sto) (x : D) : List D → Option Bool
  | [] => some false
  | y :: l => match eqv s DEEP y x, inL s x l with
    | some a, some b => some (a || b)
    | _, _ => none
noncomputable def look (k : D) : List (D × D) → Option D
  | [] => none
  | (a, v) :: l => if a = k then some v else look k l
noncomputable def cmpop : COp → D → D → M D
  | .eq, a, b => eqM a b
  | .ne, a, b => fun s => match eqv s DEEP a b with | some r => .ok (.bl (!r)) s | none => .bad
  | .lt, .int a, .int b => pur (.bl (decide (a < b)))
  | .le, .int a, .int b => pur (.bl (decide (a ≤ b)))
  | .gt, .int a, .int b => pur (.bl (decide (b < a)))
  | .ge, .int a, .int b => pur (.bl (decide (b ≤ a)))
  | _, _, _ => bad

/-- an index, as Python counts it -/
noncomputable def ixn (n : Nat) (i : Int) : Option Nat := if 0 ≤ i then (if i < n then some i.toNat else none) else if -(n : Int) ≤ i then some (i + n).toNat else none
/-- where a slice's bound lies -/
noncomputable def sbd (n : Nat) (i : Int) : Nat := if 0 ≤ i then min i.toNat n else (i + n).toNat
noncomputable def loB (n : Nat) : Option Int → Nat
  | none => 0
  | some i => sbd n i
noncomputable def hiB (n : Nat) : Option Int → Nat
  | none => n
  | some i => sbd n i
noncomputable def cutL {α : Type} (l : List α) (lo hi : Option Int) : List α := (l.drop (loB l.length lo)).take (hiB l.length hi - loB l.length lo)
noncomputable def ixM (a b : D) : M D := fun s => match a, b with
  | .tup l, .int i => match (ixn l.length i).bind fun j => l[j]? with | some d => .ok d s | none => .bad
  | .str l, .int i => match (ixn l.length i).bind fun j => l[j]? with | some c => .ok (.str [c]) s | none => .bad
  | .ref r, b => match s[r]? with
    | some (.lst l) => match b with
      | .int i => match (ixn l.length i).bind fun j => l[j]? with | some d => .ok d s | none => .bad
      | _ => .bad
    | some (.ro l) => match b with
      | .int i => match (ixn l.length i).bind fun j => l[j]? with | some d => .ok d s | none => .bad
      | _ => .bad
    | some (.dic l) => if b.plain then match look b l with | some d => .ok d s | none => .bad else .bad
    | _ => .bad
  | _, _ => .bad
noncomputable def slM (a : D) (lo hi : Option Int) : M D := fun s => match a with
  | .tup l => .ok (.tup (cutL l lo hi)) s
  | .str l => .ok (.str (cutL l lo hi)) s
  | .ref r => match s[r]? with
    | some (.lst l) => alloc (.lst (cutL l lo hi)) s
    | _ => .bad
  | _ => .bad
noncomputable def revM (a : D) : M D := fun s => match a with
  | .str l => .ok (.str l.reverse) s
  | _ => .bad
noncomputable def blsOf : List D → Option (List Bool)
  | [] => some []
  | .bl b :: l => (blsOf l).map (b :: ·)
  | _ => none
noncomputable def intsOf : List D → Option (List Int)
  | [] => some []
  | .int i :: l => (intsOf l).map (i :: ·)
  | _ => none
noncomputable def strsOf : List D → Option (List (List Nat))
  | [] => some []
  | .str i :: l => (strsOf l).map (i :: ·)
  | _ => none
/-- a thing's length -/
noncomputable def lenM (d : D) : M D := fun s => match d with
  | .tup l => .ok (.int l.length) s
  | .str l => .ok (.int l.length) s
  | .ref r => match s[r]? with
    | some (.lst l) => .ok (.int l.length) s
    | some (.ro l) => .ok (.int l.length) s
    | some (.dic l) => .ok (.int l.length) s
    | _ => .bad
  | _ => .bad
/-- is it of a kind: 1 whole number, 2 truth, 3 text, 4 tuple, 5 list -/
noncomputable def isK (k : Nat) (d : D) : M D := fun s => match d with
  | .non => .ok (.bl false) s
  | .bl _ => .ok (.bl (k == 1 || k == 2)) s
  | .int _ => .ok (.bl (k == 1)) s
  | .str _ => .ok (.bl (k == 3)) s
  | .tup _ => .ok (.bl (k == 4)) s
  | .ref r => match s[r]? with
    | some (.lst _) => .ok (.bl (k == 5)) s
    | _ => .bad
  | _ => .bad
noncomputable def bi1 (f : D → M D) : List D → M D
  | [d] => f d
  | _ => bad
noncomputable def bi : Bi → List D → M D
  | .len, l => bi1 lenM l
  | .abs, l => fun s => match intsOf l with | some [i] => .ok (.int (if i < 0 then -i else i)) s | _ => .bad
  | .int, l => fun s => match blsOf l with | some [b] => .ok (.int (if b then 1 else 0)) s | _ => .bad
  | .min2, l => fun s => match intsOf l with | some [a, b] => .ok (.int (if b < a then b else a)) s | _ => .bad
  | .max2, l => fun s => match intsOf l with | some [a, b] => .ok (.int (if b > a then b else a)) s | _ => .bad
  | .max3, l => fun s => match intsOf l with | some [a, b, c] => .ok (.int (max (max a b) c)) s | _ => .bad
  | .isInt, l => bi1 (isK 1) l
  | .isBool, l => bi1 (isK 2) l
  | .isStr, l => bi1 (isK 3) l
  | .isTup, l => bi1 (isK 4) l
  | .isList, l => bi1 (isK 5) l
  | _, _ => bad
noncomputable def minI : List Int → Option Int
  | [] => none
  | a :: l => some (l.foldl min a)
noncomputable def maxI : List Int → Option Int
  | [] => none
  | a :: l => some (l.foldl max a)
noncomputable def ins (a : Int) : List Int → List Int
  | [] => [a]
  | b :: l => if a ≤ b then a :: b :: l else b :: ins a l
noncomputable def sortI : List Int → List Int
  | [] => []
  | a :: l => ins a (sortI l)
/-- small enough for a sum -/
noncomputable def fitL (is : List Int) : Bool := is.all (fun i => decide (-1000000000 ≤ i ∧ i ≤ 1000000000)) && decide (is.length ≤ 1000000)
noncomputable def mk : Mk → List D → M D
  | .tuple, l => fun s => .ok (.tup l) s
  | .list, l => alloc (.lst l)
  | .all, l => fun s => match blsOf l with | some bs => .ok (.bl (bs.all id)) s | none => .bad
  | .any, l => fun s => match blsOf l with | some bs => .ok (.bl (bs.any id)) s | none => .bad
  | .sum, l => fun s => match intsOf l with | some is => if fitL is then .ok (.int is.sum) s else .bad | none => .bad
  | .min, l => fun s => match (intsOf l).bind minI with | some m => .ok (.int m) s | none => .bad
  | .max, l => fun s => match (intsOf l).bind maxI with | some m => .ok (.int m) s | none => .bad
  | .sorted, l => fun s => match intsOf l with | some is => alloc (.lst ((sortI is).map D.int)) s | none => .bad
  | .lenset, l => bad
noncomputable def mkD (k : Mk) (l : List D) (d : D) : M D := fun s => match k with
  | .min => match intsOf l with | some is => (match minI is with | some m => .ok (.int m) s | none => .ok d s) | none => .bad
  | .max => match intsOf l with | some is => (match maxI is with | some m => .ok (.int m) s | none => .ok d s) | none => .bad
  | _ => .bad
noncomputable def putD (k v : D) : List (D × D) → List (D × D)
  | [] => [(k, v)]
  | (a, w) :: l => if a = k then (a, v) :: l else (a, w) :: putD k v l
noncomputable def setIx (o i v : D) : Sto → R Unit := fun s => match o with
  | .ref r => match s[r]? with
    | some (.lst l) => match i with
      | .int i => match ixn l.length i with | some j => .ok () (s.set r (.lst (l.set j v))) | none => .bad
      | _ => .bad
    | some (.dic l) => if i.plain && decide (l.length < LIM) then .ok () (s.set r (.dic (putD i v l))) else .bad
    | _ => .bad
  | _ => .bad
noncomputable def idx (s : Sto) (x : D) : Nat → List D → Option Nat
  | _, [] => none
  | n, y :: l => match eqv s DEEP y x with
    | some true => some n
    | some false => idx s x (n + 1) l
    | none => none
noncomputable def meth : Mt → D → List D → M D
  | .append, .ref r, [d] => fun s => match s[r]? with
    | some (.lst l) => if l.length < LIM then .ok .non (s.set r (.lst (l ++ [d]))) else .bad
    | _ => .bad
  | .pop, .ref r, [] => fun s => match s[r]? with
    | some (.lst l) => match l.getLast? with | some d => .ok d (s.set r (.lst l.dropLast)) | none => .bad
    | _ => .bad
  | .reverse, .ref r, [] => fun s => match s[r]? with
    | some (.lst l) => .ok .non (s.set r (.lst l.reverse))
    | _ => .bad
  | .clear, .ref r, [] => fun s => match s[r]? with
    | some (.lst l) => .ok .non (s.set r (.lst []))
    | _ => .bad
  | .index, .ref r, [d] => fun s => match s[r]? with
    | some (.lst l) => match inL s d l, idx s d 0 l with | some true, some n => .ok (.int n) s | _, _ => .bad
    | _ => .bad
  | _, _, _ => bad
noncomputable def extM (o : D) (l : List D) : M D := fun s => match o with
  | .ref r => match s[r]? with
    | some (.lst m) => if m.length + l.length ≤ LIM then .ok .non (s.set r (.lst (m ++ l))) else .bad
    | _ => .bad
  | _ => .bad
/-- the texts of a list, one behind the other -/
noncomputable def joinM (x y : D) : M D := fun s => match x with
  | .str [] => match y with
    | .ref r => match s[r]? with
      | some (.lst l) => match strsOf l with
        | some ss => if ss.flatten.length ≤ LIM then .ok (.str ss.flatten) s else .bad
        | none => .bad
      | _ => .bad
    | _ => .bad
  | _ => .bad
noncomputable def extS (o d : D) : M D := fun s => match d with
  | .ref k => match s[k]? with
    | some (.lst l) => extM o l s
    | _ => .bad
  | _ => .bad

/-! ### what a text means -/
/-- the defs' meaning: calls, lambdas (what was taken, the arguments), names of the module -/
structure Fns where
  call : String → List D → M D
  lam : String → List D → List D → M D
  con : String → Option D
noncomputable def getV (ρ : Env) (i : Nat) : M D := fun s => match ρ[i]? with | some (some d) => .ok d s | _ => .bad
noncomputable def getVs (ρ : Env) : List Nat → Option (List D)
  | [] => some []
  | i :: is => match ρ[i]?, getVs ρ is with | some (some d), some l => some (d :: l) | _, _ => none
noncomputable def capEnv (ρ : Env) (caps : List (Option Nat)) : Env := caps.map fun o => match o with | none => none | some j => (ρ[j]?).join
noncomputable def setV (ρ : Env) (i : Nat) (d : D) : Option Env := if i < ρ.length then some (ρ.set i (some d)) else none
noncomputable def setVs (ρ : Env) : List Nat → List D → Option Env
  | [], [] => some ρ
  | i :: is, d :: l => (setV ρ i d).bind fun ρ => setVs ρ is l
  | _, _ => none
noncomputable def bindT (ρ : Env) : Tg → D → Option Env
  | .one i, d => setV ρ i d
  | .tup is, .tup l => setVs ρ is l
  | _, _ => none
/-- items, and the lists and dicts that they are walked from -/
structure Sq where
  its : List D
  src : List Nat
noncomputable def seqM (d : D) : M Sq := fun s => match d with
  | .tup l => .ok ⟨l, []⟩ s
  | .str l => .ok ⟨l.map fun c => .str [c], []⟩ s
  | .ref r => match s[r]? with
    | some (.lst l) => .ok ⟨l, [r]⟩ s
    | some (.ro l) => .ok ⟨l, []⟩ s
    | some (.dic l) => .ok ⟨l.map (·.1), [r]⟩ s
    | _ => .bad
  | _ => .bad
/-- what zip draws from: a tuple, a list, a text -/
noncomputable def drawM (d : D) : M Sq := fun s => match d with
  | .tup l => .ok ⟨l, []⟩ s
  | .str l => .ok ⟨l.map fun c => .str [c], []⟩ s
  | .ref r => match s[r]? with
    | some (.lst l) => .ok ⟨l, [r]⟩ s
    | some (.ro l) => .ok ⟨l, []⟩ s
    | _ => .bad
  | _ => .bad
/-- what enumerate draws from: a tuple, a list -/
noncomputable def enumM (d : D) : M Sq := fun s => match d with
  | .tup l => .ok ⟨l, []⟩ s
  | .ref r => match s[r]? with
    | some (.lst l) => .ok ⟨l, [r]⟩ s
    | some (.ro l) => .ok ⟨l, []⟩ s
    | _ => .bad
  | _ => .bad
/-- a tuple's or a list's items, a text's signs -/
noncomputable def lstM (d : D) : Sto → R (List D) := fun s => match d with
  | .tup l => .ok l s
  | .str l => .ok (l.map fun c => .str [c]) s
  | .ref r => match s[r]? with
    | some (.lst l) => .ok l s
    | some (.ro l) => .ok l s
    | _ => .bad
  | _ => .bad
noncomputable def W62 : Int := 4611686018427387904
noncomputable def rngL (a b : Int) : List D := (List.range (b - a).toNat).map fun (k : Nat) => .int (a + k)
noncomputable def rngC (a b c : Int) : List D := if 0 < c then (List.range ((b - a + c - 1) / c).toNat).map fun (k : Nat) => .int (a + c * k) else (List.range ((a - b + (-c) - 1) / (-c)).toNat).map fun (k : Nat) => .int (a + c * k)
noncomputable def enumL (n : Nat) : List D → List D
  | [] => []
  | d :: l => .tup [.int n, d] :: enumL (n + 1) l
noncomputable def zipL : List D → List D → List D
  | a :: l, b :: m => .tup [a, b] :: zipL l m
  | _, _ => []
noncomputable def chk (s0 s : Sto) (src : List Nat) : Bool := src.all fun r => decide (s[r]? = s0[r]?)
noncomputable def tru {α : Type} (r : R D) (f : Bool → Sto → R α) : R α := r.bind fun d s => match d with | .bl b => f b s | _ => .bad
@[simp] theorem tru_bl {α : Type} (b : Bool) (s : Sto) (f : Bool → Sto → R α) : tru (.ok (.bl b) s) f = f b s := rfl
/-- a comprehension's walk: g tells the item's part, none where it is left out -/
noncomputable def compL (ok : Sto → Bool) (g : D → Env → Sto → R (Option D × Env)) : List D → Env → Sto → R (List D)
  | [], _, s => if ok s then .ok [] s else .bad
  | d :: l, ρ, s => if ok s then (g d ρ s).bind fun p s => (compL ok g l p.2 s).bind fun r s => .ok (match p.1 with | some v => v :: r | none => r) s else .bad
mutual
noncomputable def ev (F : Fns) : E → Env → Sto → R D
  | .var i, ρ, s => getV ρ i s
  | .cst c, _, s => .ok c.d s
  | .glob x, _, s => match F.con x with | some d => .ok d s | none => .bad
  | .bin op a b, ρ, s => (ev F a ρ s).bind fun x s => (ev F b ρ s).bind fun y s => binop op x y s
  | .neg a, ρ, s => (ev F a ρ s).bind fun x s => match x with | .int i => .ok (.int (-i)) s | _ => .bad
  | .not a, ρ, s => tru (ev F a ρ s) fun b s => .ok (.bl (!b)) s
  | .cmp op a b, ρ, s => (ev F a ρ s).bind fun x s => (ev F b ρ s).bind fun y s => cmpop op x y s
  | .chain o p a b c, ρ, s => (ev F a ρ s).bind fun x s => (ev F b ρ s).bind fun y s => tru (cmpop o x y s) fun k s => if k then (ev F c ρ s).bind fun z s => cmpop p y z s else .ok (.bl false) s
  | .isN a, ρ, s => (ev F a ρ s).bind fun x s => .ok (.bl (decide (x = .non))) s
  | .notN a, ρ, s => (ev F a ρ s).bind fun x s => .ok (.bl (!decide (x = .non))) s
  | .isB a b, ρ, s => (ev F a ρ s).bind fun x s => match x with | .bl c => .ok (.bl (c == b)) s | _ => .bad
  | .notB a b, ρ, s => (ev F a ρ s).bind fun x s => match x with | .bl c => .ok (.bl (!(c == b))) s | _ => .bad
  | .and a b, ρ, s => tru (ev F a ρ s) fun c s => if c then tru (ev F b ρ s) fun c s => .ok (.bl c) s else .ok (.bl false) s
  | .or a b, ρ, s => tru (ev F a ρ s) fun c s => if c then .ok (.bl true) s else tru (ev F b ρ s) fun c s => .ok (.bl c) s
  | .ite c a b, ρ, s => tru (ev F c ρ s) fun k s => if k then ev F a ρ s else ev F b ρ s
  | .tup es, ρ, s => (evs F es ρ s).bind fun l s => .ok (.tup l) s
  | .lst es, ρ, s => (evs F es ρ s).bind fun l s => alloc (.lst l) s
  | .dic ks vs, ρ, s => .bad
  | .ix a b, ρ, s => (ev F a ρ s).bind fun x s => (ev F b ρ s).bind fun y s => ixM x y s
  | .slL a lo, ρ, s => (ev F a ρ s).bind fun x s => (ev F lo ρ s).bind fun y s => match y with | .int i => slM x (some i) none s | _ => .bad
  | .slU a hi, ρ, s => (ev F a ρ s).bind fun x s => (ev F hi ρ s).bind fun y s => match y with | .int i => slM x none (some i) s | _ => .bad
  | .slLU a lo hi, ρ, s => (ev F a ρ s).bind fun x s => (ev F lo ρ s).bind fun y s => match y with | .int i => (ev F hi ρ s).bind (fun z s => match z with | .int j => slM x (some i) (some j) s | _ => .bad) | _ => .bad
  | .rev a, ρ, s => (ev F a ρ s).bind fun x s => revM x s
  | .call f as, ρ, s => (evas F as ρ s).bind fun l s => F.call f l s
  | .callC f as, ρ, s => (evas F as ρ s).bind fun l s => (F.call f l s).bind fun d s' => if (d.ncl && s'.all O.ncl) = true then .ok d s' else .bad
  | .callV i es, ρ, s => (evs F es ρ s).bind fun l s => match ρ[i]? with
    | some (some (.fn f)) => F.call f l s
    | some (some (.clo id cs)) => F.lam id cs l s
    | _ => .bad
  | .bi b es, ρ, s => (evs F es ρ s).bind fun l s => bi b l s
  | .mk k it, ρ, s => (evL F it ρ s).bind fun q s => mk k q s
  | .mkD k it d, ρ, s => (evL F it ρ s).bind fun q s => (ev F d ρ s).bind fun d s => mkD k q d s
  | .meth m o es, ρ, s => (ev F o ρ s).bind fun x s => (evs F es ρ s).bind fun l s => meth m x l s
  | .ext o it, ρ, s => (ev F o ρ s).bind fun x s => (evL F it ρ s).bind fun q s => extM x q s
  | .extS o e, ρ, s => (ev F o ρ s).bind fun x s => (ev F e ρ s).bind fun y s => extS x y s
  | .join o e, ρ, s => (ev F o ρ s).bind fun x s => (ev F e ρ s).bind fun y s => joinM x y s
noncomputable def evs (F : Fns) : Es → Env → Sto → R (List D)
  | .nil, _, s => .ok [] s
  | .cons e es, ρ, s => (ev F e ρ s).bind fun d s => (evs F es ρ s).bind fun l s => .ok (d :: l) s
noncomputable def evas (F : Fns) : As → Env → Sto → R (List D)
  | .nil, _, s => .ok [] s
  | .ex e as, ρ, s => (ev F e ρ s).bind fun d s => (evas F as ρ s).bind fun l s => .ok (d :: l) s
  | .lam id caps as, ρ, s => match getVs ρ caps with
    | some cs => (evas F as ρ s).bind fun l s => .ok (.clo id cs :: l) s
    | none => .bad
  | .fn f as, ρ, s => (evas F as ρ s).bind fun l s => .ok (.fn f :: l) s
noncomputable def evI (F : Fns) : I → Env → Sto → R Sq
  | .seq e, ρ, s => (ev F e ρ s).bind fun d s => seqM d s
  | .rng1 a, ρ, s => (ev F a ρ s).bind fun x s => match x with | .int i => if -W62 ≤ i ∧ i < W62 then .ok ⟨rngL 0 i, []⟩ s else .bad | _ => .bad
  | .rng2 a b, ρ, s => (ev F a ρ s).bind fun x s => (ev F b ρ s).bind fun y s => match x, y with | .int i, .int j => if (-W62 ≤ i ∧ i < W62) ∧ -W62 ≤ j ∧ j < W62 then .ok ⟨rngL i j, []⟩ s else .bad | _, _ => .bad
  | .rng3 a b c, ρ, s => (ev F a ρ s).bind fun x s => (ev F b ρ s).bind fun y s => match x, y with | .int i, .int j => if c = 2 ∧ (0 ≤ i ∧ i < 1048576) ∧ 0 ≤ j ∧ j < 1048576 then .ok ⟨rngC i j c, []⟩ s else .bad | _, _ => .bad
  | .enum (.seq e), ρ, s => (ev F e ρ s).bind fun d s => (enumM d s).bind fun q s => .ok ⟨enumL 0 q.its, q.src⟩ s
  | .zip (.seq a) (.seq b), ρ, s => (ev F a ρ s).bind fun x s => (ev F b ρ s).bind fun y s => (drawM x s).bind fun p s => (drawM y s).bind fun q s => .ok ⟨zipL p.its q.its, p.src ++ q.src⟩ s
  | .enum _, _, _ => .bad
  | .zip _ _, _, _ => .bad
  | .items e, ρ, s => .bad
noncomputable def evL (F : Fns) : L → Env → Sto → R (List D)
  | .comp tg it e caps, ρ, s => (evI F it ρ s).bind fun q s0 => if q.its.length ≤ LIM then compL (fun s => chk s0 s q.src) (fun d ρ s => match bindT ρ tg d with
      | some ρ => (ev F e ρ s).bind fun v s => .ok (some v, ρ) s
      | none => .bad) q.its (capEnv ρ caps) s0 else .bad
  | .compIf tg it c e caps, ρ, s => (evI F it ρ s).bind fun q s0 => if q.its.length ≤ LIM then compL (fun s => chk s0 s q.src) (fun d ρ s => match bindT ρ tg d with
      | some ρ => tru (ev F c ρ s) fun k s => if k then (ev F e ρ s).bind fun v s => .ok (some v, ρ) s else .ok (none, ρ) s
      | none => .bad) q.its (capEnv ρ caps) s0 else .bad
  | .disp es, ρ, s => evs F es ρ s
  | .seq e, ρ, s => (ev F e ρ s).bind fun d s => lstM d s
end

/-- how a statement ends -/
inductive Ct where
  | next (ρ : Env) | ret (d : D) | cont (ρ : Env) | brk (ρ : Env)
noncomputable def forL (ok : Sto → Bool) (g : D → Env → Sto → R Ct) : List D → Env → Sto → R Ct
  | [], ρ, s => if ok s then .ok (.next ρ) s else .bad
  | d :: l, ρ, s => if ok s then (g d ρ s).bind fun c s => match c with
      | .next ρ => forL ok g l ρ s
      | .cont ρ => forL ok g l ρ s
      | .brk ρ => .ok (.next ρ) s
      | .ret d => .ok (.ret d) s
    else .bad
noncomputable def whlN (c : Env → Sto → R D) (g : Env → Sto → R Ct) : Nat → Env → Sto → R Ct
  | 0, _, _ => .bad
  | n + 1, ρ, s => tru (c ρ s) fun b s => if b then (g ρ s).bind fun c' s => match c' with
      | .next ρ => whlN c g n ρ s
      | .cont ρ => whlN c g n ρ s
      | .brk ρ => .ok (.next ρ) s
      | .ret d => .ok (.ret d) s
    else .ok (.next ρ) s
open Classical in
/-- a while: what some number of turns comes to -/
noncomputable def whl (c : Env → Sto → R D) (g : Env → Sto → R Ct) (ρ : Env) (s : Sto) : R Ct :=
  if h : ∃ n, whlN c g n ρ s ≠ .bad then whlN c g h.choose ρ s else .bad
mutual
noncomputable def ex (F : Fns) : S → Env → Sto → R Ct
  | .asg tg e, ρ, s => (ev F e ρ s).bind fun d s => match bindT ρ tg d with | some ρ => .ok (.next ρ) s | none => .bad
  | .setIx o i e, ρ, s => (ev F e ρ s).bind fun d s => (ev F o ρ s).bind fun x s => (ev F i ρ s).bind fun y s => (setIx x y d s).bind fun _ s => .ok (.next ρ) s
  | .aug i e, ρ, s => (getV ρ i s).bind fun x s => (ev F e ρ s).bind fun y s => match x, y with
    | .int a, .int b => match setV ρ i (.int (a + b)) with | some ρ => .ok (.next ρ) s | none => .bad
    | _, _ => .bad
  | .ex e, ρ, s => (ev F e ρ s).bind fun _ s => .ok (.next ρ) s
  | .ret e, ρ, s => (ev F e ρ s).bind fun d s => .ok (.ret d) s
  | .retN, _, s => .ok (.ret .non) s
  | .ite c a b, ρ, s => tru (ev F c ρ s) fun k s => if k then exs F a ρ s else exs F b ρ s
  | .whl c b, ρ, s => whl (ev F c) (exs F b) ρ s
  | .for_ tg it b, ρ, s => (evI F it ρ s).bind fun q s0 => forL (fun s => chk s0 s q.src) (fun d ρ s => match bindT ρ tg d with
      | some ρ => exs F b ρ s
      | none => .bad) q.its ρ s0
  | .pass, ρ, s => .ok (.next ρ) s
  | .cont, ρ, s => .ok (.cont ρ) s
  | .brk, ρ, s => .ok (.brk ρ) s
  | .raise, _, _ => .bad
noncomputable def exs (F : Fns) : Ss → Env → Sto → R Ct
  | .nil, ρ, s => .ok (.next ρ) s
  | .cons st ss, ρ, s => (ex F st ρ s).bind fun c s => match c with | .next ρ => exs F ss ρ s | c => .ok c s
end

/-! ### programs -/
structure Df where
  name : String
  ps : Nat
  vs : Nat
  body : Ss
structure Lm where
  id : String
  ps : Nat
  cs : Nat
  body : E
structure Pr where
  df : String → Option Df
  lm : String → Option Lm
  con : String → Option D
noncomputable def okOld (st st' : Sto) : Bool := (List.range st.length).all fun i => decide (st'[i]? = st[i]?) || (match st'[i]? with | some o => o.bnd st.length | none => false)
/-- what a call leaves: what it made and nobody holds is dropped; one thing that it hands back stands next -/
noncomputable def canon (st : Sto) (d : D) (st' : Sto) : R D :=
  if okOld st st' then
    match d with
    | .ref r => if r < st.length then .ok d (st'.take st.length) else match st'[r]? with
      | some o => if o.bnd st.length then .ok (.ref st.length) (st'.take st.length ++ [o]) else .ok d st'
      | none => .bad
    | d => if d.bnd st.length then .ok d (st'.take st.length) else .ok d st'
  else .ok d st'
noncomputable def callN (P : Pr) : Nat → Fns
  | 0 => ⟨fun _ _ _ => .bad, fun _ _ _ _ => .bad, P.con⟩
  | n + 1 => ⟨fun f l s => match P.df f with
      | some d => if l.length = d.ps then (exs (callN P n) d.body (l.map some ++ List.replicate d.vs none) s).bind fun c s' => match c with
          | .ret v => canon s v s'
          | .next _ => canon s .non s'
          | _ => .bad else .bad
      | none => .bad,
    fun id cs l s => match P.lm id with
      | some d => if l.length = d.ps ∧ cs.length = d.cs ∧ (D.nclL l && D.nclL cs && s.all O.ncl) = true then (ev (callN P n) d.body (l.map some ++ cs.map some) s).bind fun v s' => canon s v s' else .bad
      | none => .bad, P.con⟩
end DV
end

set_option Elab.async false
set_option linter.all false
set_option maxRecDepth 100000
set_option maxHeartbeats 4000000
noncomputable section
namespace L2
open PySem PySem.Spec PyProof.Rows
/-! ### what a value of the plain reading stands for -/
/-- a lambda of the text: its def's qualified name, its parts, the names that it takes -/
structure LamI where
  qual : Str
  params : Arguments
  body : Expr
  scope : Scope
  ps : List Str
  fr : List Str
/-- what is fixed: the written part, where defs stand, the lambdas -/
structure Gm where
  K : PySem.W.Frag
  fa : String → Option Addr
  lg : String → LamI → Prop
  T : List (Addr × Str)
variable (Γ : Gm)
mutual
noncomputable def RV (φ : Nat → Addr) (H : Hp) : DV.D → V → Prop
  | .non, v => v = .non
  | .bl b, v => v = .bl b
  | .int i, v => v = .int i
  | .str x, v => v = .str ⟨x.toArray⟩ ∧ x.length ≤ DV.LIM
  | .tup l, v => ∃ a xs, v = .ref a ∧ SqT Γ.K H a xs ∧ RVL φ H l xs
  | .ref n, v => v = .ref (φ n)
  | .fn f, v => ∃ a, Γ.fa f = some a ∧ v = .ref a
  | .clo id cs, v => ∃ f cap J clos, v = .ref f ∧ Γ.lg id J ∧ LamAt H f J.qual J.params J.body J.scope J.fr cap clos ∧ cap.length = J.fr.length ∧ RVL φ H cs cap
noncomputable def RVL (φ : Nat → Addr) (H : Hp) : List DV.D → List V → Prop
  | [], xs => xs = []
  | d :: l, xs => ∃ x r, xs = x :: r ∧ RV φ H d x ∧ RVL φ H l r
end
/-- what stays as it is for good -/
noncomputable def fixd : HO → Bool
  | .tup _ => true
  | .frz _ _ => true
  | .ext _ => true
  | _ => false
noncomputable def Kp (H H' : Hp) : Prop := ∀ b o, H b = some o → fixd o = true → H' b = some o
theorem Kp.refl (H : Hp) : Kp H H := fun _ _ h _ => h
theorem Kp.trans {H H1 H2 : Hp} (a : Kp H H1) (b : Kp H1 H2) : Kp H H2 := fun c o h f => b c o (a c o h f) f
theorem Kp.new {H H1 : Hp} {p : Addr} {o : HO} (a : Kp H H1) (h : H1 p = none) : Kp H (upd H1 p o) := fun c u e f => by
  have e1 := a c u e f
  rw [upd_ne (ne_of_none e1 h)]; exact e1
theorem Kp.put {H H1 : Hp} {p : Addr} {o u : HO} (a : Kp H H1) (h : H1 p = some u) (hu : fixd u = false) : Kp H (upd H1 p o) := fun c v e f => by
  have e1 := a c v e f
  rw [upd_ne (fun z => by subst z; rw [h] at e1; cases e1; rw [hu] at f; cases f)]; exact e1
theorem Kp.sqT {K : PySem.W.Frag} {H H' : Hp} {a : Addr} {xs : List V} (e : Kp H H') (h : SqT K H a xs) : SqT K H' a xs := by
  rcases h with (h | ⟨o, h⟩) | h
  · exact .inl (.inl (e _ _ h rfl))
  · exact .inl (.inr ⟨o, e _ _ h rfl⟩)
  · exact .inr h
theorem LamAt.kp {H H' : Hp} {f : Addr} {qual : Str} {params : Arguments} {body : Expr} {scope : Scope} {fr : List Str} {cap : List V} {clos : List (Str × Addr)} (h : LamAt H f qual params body scope fr cap clos) (e : Kp H H') : LamAt H' f qual params body scope fr cap clos := by
  obtain ⟨pm, c', ctv, h1, h2, h3, h4, h5, h6⟩ := h
  refine ⟨pm, c', ctv, e _ _ h1 rfl, e _ _ h2 rfl, fun x c q => ?_, h4, h5, fun i x v a b => ?_⟩
  · obtain ⟨o, v, z, d⟩ := h3 x c q
    exact ⟨o, v, e _ _ z rfl, d⟩
  · obtain ⟨c, o, u, z1, z2, z3⟩ := h6 i x v a b
    exact ⟨c, o, u, z1, e _ _ z2 rfl, z3⟩
/-- the map grows: what it told below n it tells still -/
structure Gw (φ : Nat → Addr) (n : Nat) (H : Hp) (φ' : Nat → Addr) (H' : Hp) : Prop where
  map : ∀ i, i < n → φ' i = φ i
  kp : Kp H H'
variable {Γ : Gm}
mutual
theorem RV.monoW {φ φ' : Nat → Addr} {n : Nat} {H H' : Hp} (g : Gw φ n H φ' H') : ∀ (d : DV.D) (v : V), d.bnd n = true → RV Γ φ H d v → RV Γ φ' H' d v
  | .non, _, _, h => by unfold RV at h ⊢; exact h
  | .bl _, _, _, h => by unfold RV at h ⊢; exact h
  | .int _, _, _, h => by unfold RV at h ⊢; exact h
  | .str _, _, _, h => by unfold RV at h ⊢; exact h
  | .tup l, _, b, h => by
    unfold RV at h ⊢
    unfold DV.D.bnd at b
    obtain ⟨a, xs, e, q, r⟩ := h
    exact ⟨a, xs, e, g.kp.sqT q, RVL.monoW g l xs b r⟩
  | .ref k, _, b, h => by
    unfold RV at h ⊢
    unfold DV.D.bnd at b
    rw [g.map k (of_decide_eq_true b)]; exact h
  | .fn _, _, _, h => by unfold RV at h ⊢; exact h
  | .clo id cs, _, b, h => by
    unfold RV at h ⊢
    unfold DV.D.bnd at b
    obtain ⟨f, cap, J, clos, e, h1, h2, h3, h4⟩ := h
    exact ⟨f, cap, J, clos, e, h1, h2.kp g.kp, h3, RVL.monoW g cs cap b h4⟩
theorem RVL.monoW {φ φ' : Nat → Addr} {n : Nat} {H H' : Hp} (g : Gw φ n H φ' H') : ∀ (l : List DV.D) (xs : List V), DV.D.bndL n l = true → RVL Γ φ H l xs → RVL Γ φ' H' l xs
  | [], _, _, h => by unfold RVL at h ⊢; exact h
  | d :: l, _, b, h => by
    unfold RVL at h ⊢
    unfold DV.D.bndL at b
    rw [Bool.and_eq_true] at b
    obtain ⟨x, r, e, q, t⟩ := h
    exact ⟨x, r, e, RV.monoW g d x b.1 q, RVL.monoW g l r b.2 t⟩
end
mutual
theorem D_bnd_mono {n m : Nat} (h : n ≤ m) : ∀ d : DV.D, d.bnd n = true → d.bnd m = true
  | .non, _ => rfl
  | .bl _, _ => rfl
  | .int _, _ => rfl
  | .str _, _ => rfl
  | .tup l, b => by unfold DV.D.bnd at b ⊢; exact D_bndL_mono h l b
  | .ref k, b => by unfold DV.D.bnd at b ⊢; exact decide_eq_true (Nat.lt_of_lt_of_le (of_decide_eq_true b) h)
  | .fn _, _ => rfl
  | .clo _ l, b => by unfold DV.D.bnd at b ⊢; exact D_bndL_mono h l b
theorem D_bndL_mono {n m : Nat} (h : n ≤ m) : ∀ l : List DV.D, DV.D.bndL n l = true → DV.D.bndL m l = true
  | [], _ => rfl
  | d :: l, b => by
    unfold DV.D.bndL at b ⊢
    rw [Bool.and_eq_true] at b ⊢
    exact ⟨D_bnd_mono h d b.1, D_bndL_mono h l b.2⟩
end
theorem bndL_iff {n : Nat} : ∀ {l : List DV.D}, DV.D.bndL n l = true ↔ ∀ d ∈ l, d.bnd n = true
  | [] => by unfold DV.D.bndL; simp
  | d :: l => by
    unfold DV.D.bndL
    rw [Bool.and_eq_true, bndL_iff (l := l)]
    simp
theorem bndL_append {n : Nat} {l m : List DV.D} (h : DV.D.bndL n l = true) (h' : DV.D.bndL n m = true) : DV.D.bndL n (l ++ m) = true :=
  bndL_iff.mpr fun d hd => (List.mem_append.mp hd).elim (bndL_iff.mp h d) (bndL_iff.mp h' d)
theorem bndL_sub {n : Nat} {l m : List DV.D} (h : DV.D.bndL n l = true) (s : ∀ d ∈ m, d ∈ l) : DV.D.bndL n m = true := bndL_iff.mpr fun d hd => bndL_iff.mp h d (s d hd)
theorem bndL_get {n : Nat} {l : List DV.D} {i : Nat} {d : DV.D} (h : DV.D.bndL n l = true) (e : l[i]? = some d) : d.bnd n = true := bndL_iff.mp h d (List.mem_of_getElem? e)
section
variable {φ : Nat → Addr} {H : Hp}
theorem RVL.nil : RVL Γ φ H [] [] := by unfold RVL; rfl
theorem RVL.cons {d : DV.D} {l : List DV.D} {x : V} {xs : List V} (a : RV Γ φ H d x) (b : RVL Γ φ H l xs) : RVL Γ φ H (d :: l) (x :: xs) := by unfold RVL; exact ⟨x, xs, rfl, a, b⟩
theorem RVL.unnil {xs : List V} (h : RVL Γ φ H [] xs) : xs = [] := by unfold RVL at h; exact h
theorem RVL.uncons {d : DV.D} {l : List DV.D} {xs : List V} (h : RVL Γ φ H (d :: l) xs) : ∃ x r, xs = x :: r ∧ RV Γ φ H d x ∧ RVL Γ φ H l r := by unfold RVL at h; exact h
theorem RVL.length : ∀ {l : List DV.D} {xs : List V}, RVL Γ φ H l xs → xs.length = l.length
  | [], _, h => by rw [h.unnil]; rfl
  | d :: l, _, h => by
    obtain ⟨x, r, rfl, _, t⟩ := h.uncons
    rw [List.length_cons, List.length_cons, RVL.length t]
theorem RVL.get : ∀ {l : List DV.D} {xs : List V} {i : Nat} {d : DV.D}, RVL Γ φ H l xs → l[i]? = some d → ∃ x, xs[i]? = some x ∧ RV Γ φ H d x
  | [], _, _, _, _, e => by simp at e
  | d :: l, _, 0, d', h, e => by
    obtain ⟨x, r, rfl, q, t⟩ := h.uncons
    have e' : d = d' := by simpa using e
    subst e'
    exact ⟨x, rfl, q⟩
  | d :: l, _, i + 1, _, h, e => by
    obtain ⟨x, r, rfl, q, t⟩ := h.uncons
    obtain ⟨y, e1, e2⟩ := RVL.get (i := i) t (by simpa using e)
    exact ⟨y, by simpa using e1, e2⟩
theorem RVL.append : ∀ {l m : List DV.D} {xs ys : List V}, RVL Γ φ H l xs → RVL Γ φ H m ys → RVL Γ φ H (l ++ m) (xs ++ ys)
  | [], _, _, _, h, h' => by rw [h.unnil]; exact h'
  | d :: l, _, _, _, h, h' => by
    obtain ⟨x, r, rfl, q, t⟩ := h.uncons
    exact .cons q (RVL.append t h')
theorem RVL.drop : ∀ {l : List DV.D} {xs : List V} (n : Nat), RVL Γ φ H l xs → RVL Γ φ H (l.drop n) (xs.drop n)
  | _, _, 0, h => h
  | [], _, n + 1, h => by rw [h.unnil]; exact .nil
  | d :: l, _, n + 1, h => by
    obtain ⟨x, r, rfl, q, t⟩ := h.uncons
    exact RVL.drop n t
theorem RVL.take : ∀ {l : List DV.D} {xs : List V} (n : Nat), RVL Γ φ H l xs → RVL Γ φ H (l.take n) (xs.take n)
  | _, _, 0, h => .nil
  | [], _, n + 1, h => by rw [h.unnil]; exact .nil
  | d :: l, _, n + 1, h => by
    obtain ⟨x, r, rfl, q, t⟩ := h.uncons
    exact .cons q (RVL.take n t)
theorem RVL.set : ∀ {l : List DV.D} {xs : List V} {d : DV.D} {x : V} (i : Nat), RVL Γ φ H l xs → RV Γ φ H d x → RVL Γ φ H (l.set i d) (xs.set i x)
  | [], _, _, _, _, h, _ => by rw [h.unnil]; exact .nil
  | d :: l, _, _, _, 0, h, q => by
    obtain ⟨x, r, rfl, _, t⟩ := h.uncons
    exact .cons q t
  | d :: l, _, _, _, i + 1, h, q => by
    obtain ⟨x, r, rfl, q', t⟩ := h.uncons
    exact .cons q' (RVL.set i t q)
theorem RVL.reverse : ∀ {l : List DV.D} {xs : List V}, RVL Γ φ H l xs → RVL Γ φ H l.reverse xs.reverse
  | [], _, h => by rw [h.unnil]; exact .nil
  | d :: l, _, h => by
    obtain ⟨x, r, rfl, q, t⟩ := h.uncons
    rw [List.reverse_cons, List.reverse_cons]
    exact (RVL.reverse t).append (.cons q .nil)
theorem RV.intE {i : Int} {v : V} (h : RV Γ φ H (.int i) v) : v = .int i := by unfold RV at h; exact h
theorem RV.blE {i : Bool} {v : V} (h : RV Γ φ H (.bl i) v) : v = .bl i := by unfold RV at h; exact h
theorem RV.nonE {v : V} (h : RV Γ φ H .non v) : v = .non := by unfold RV at h; exact h
theorem RV.strE {x : List Nat} {v : V} (h : RV Γ φ H (.str x) v) : v = .str ⟨x.toArray⟩ := by unfold RV at h; exact h.1
theorem RV.strL {x : List Nat} {v : V} (h : RV Γ φ H (.str x) v) : x.length ≤ DV.LIM := by unfold RV at h; exact h.2
theorem RV.tupE {l : List DV.D} {v : V} (h : RV Γ φ H (.tup l) v) : ∃ a xs, v = .ref a ∧ SqT Γ.K H a xs ∧ RVL Γ φ H l xs := by unfold RV at h; exact h
theorem RV.refE {n : Nat} {v : V} (h : RV Γ φ H (.ref n) v) : v = .ref (φ n) := by unfold RV at h; exact h
theorem RV.intI {i : Int} : RV Γ φ H (.int i) (.int i) := by unfold RV; rfl
theorem RV.blI {i : Bool} : RV Γ φ H (.bl i) (.bl i) := by unfold RV; rfl
theorem RV.nonI : RV Γ φ H .non .non := by unfold RV; rfl
theorem RV.strI {x : List Nat} (h : x.length ≤ DV.LIM) : RV Γ φ H (.str x) (.str ⟨x.toArray⟩) := by unfold RV; exact ⟨rfl, h⟩
theorem RV.tupI {l : List DV.D} {a : Addr} {xs : List V} (h : SqT Γ.K H a xs) (q : RVL Γ φ H l xs) : RV Γ φ H (.tup l) (.ref a) := by unfold RV; exact ⟨a, xs, rfl, h, q⟩
theorem RV.refI {n : Nat} : RV Γ φ H (.ref n) (.ref (φ n)) := by unfold RV; rfl
end
/-- the script: a list that nobody may change -/
noncomputable def SqF (K : PySem.W.Frag) (H : Hp) (a : Addr) (xs : List V) : Prop := SqL K H a xs ∧ ∀ H', Kp H H' → SqL K H' a xs
variable (Γ)
/-- what stands in the store, in the heap -/
noncomputable def RO (φ : Nat → Addr) (H : Hp) (a : Addr) : DV.O → Prop
  | .lst l => ∃ xs, H a = some (.lst xs) ∧ RVL Γ φ H l xs
  | .ro l => ∃ xs, SqF Γ.K H a xs ∧ RVL Γ φ H l xs
  | .dic _ => False
  | .ins _ _ => False
noncomputable def isMut : DV.O → Bool
  | .ro _ => false
  | _ => true
structure Rp (φ : Nat → Addr) (H : Hp) (s : DV.Sto) : Prop where
  inj : ∀ (i j : Nat) (o o' : DV.O), s[i]? = some o → s[j]? = some o' → isMut o = true → isMut o' = true → φ i = φ j → i = j
  obj : ∀ (i : Nat) (o : DV.O), s[i]? = some o → RO Γ φ H (φ i) o
  wf : ∀ (i : Nat) (o : DV.O), s[i]? = some o → o.bnd s.length = true
  tab : TabsH Γ.T H
/-- the names' values -/
structure RE (φ : Nat → Addr) (H : Hp) (n : Nat) (ρ : DV.Env) (σ : St) : Prop where
  len : ρ.length = σ.length
  val : ∀ (i : Nat) (d : DV.D), ρ[i]? = some (some d) → d.bnd n = true ∧ ∃ v, σ[i]? = some (some v) ∧ RV Γ φ H d v
/-- the map grows: what it told it tells still; what stands elsewhere stays -/
structure Gr (φ : Nat → Addr) (s : DV.Sto) (H : Hp) (φ' : Nat → Addr) (s' : DV.Sto) (H' : Hp) : Prop where
  w : Gw φ s.length H φ' H'
  le : s.length ≤ s'.length
  new : ∀ i : Nat, s.length ≤ i → i < s'.length → H (φ' i) = none
  mu : ∀ (i : Nat) (o o' : DV.O), s[i]? = some o → s'[i]? = some o' → isMut o' = true → isMut o = true
  st : ∀ b, H b ≠ none → H' b ≠ none
  fr : ∀ b o, H b = some o → (∀ ps, o ≠ .tbl ps) → (∀ (i : Nat) (ob : DV.O), s[i]? = some ob → isMut ob = true → φ i ≠ b) → H' b = some o
variable {Γ}
theorem Gr.refl (φ : Nat → Addr) (s : DV.Sto) (H : Hp) : Gr φ s H φ s H := ⟨⟨fun _ _ => rfl, Kp.refl H⟩, Nat.le_refl _, fun i h1 h2 => absurd h2 (by omega), fun i o o' e e' m => by rw [e] at e'; cases e'; exact m, fun _ h => h, fun _ _ h _ _ => h⟩
theorem Gr.trans {φ φ1 φ2 : Nat → Addr} {s s1 s2 : DV.Sto} {H H1 H2 : Hp} (a : Gr φ s H φ1 s1 H1) (b : Gr φ1 s1 H1 φ2 s2 H2) (_h : s.length ≤ s1.length) : Gr φ s H φ2 s2 H2 := by
  refine ⟨⟨fun i hi => (b.w.map i (Nat.lt_of_lt_of_le hi a.le)).trans (a.w.map i hi), a.w.kp.trans b.w.kp⟩, Nat.le_trans a.le b.le, fun i h1 h2 => ?_, fun i o o' e e' m => ?_, fun c h => b.st c (a.st c h), fun c o h nt ne => ?_⟩
  · by_cases hi : i < s1.length
    · rw [b.w.map i hi]; exact a.new i h1 hi
    · have e := b.new i (by omega) h2
      cases q : H (φ2 i) with
      | none => rfl
      | some o => exact absurd e (a.st _ (by rw [q]; simp))
  · have hl : i < s1.length := Nat.lt_of_lt_of_le (List.getElem?_eq_some_iff.mp e).1 a.le
    obtain ⟨o1, e1⟩ : ∃ o1, s1[i]? = some o1 := ⟨s1[i], List.getElem?_eq_getElem hl⟩
    exact a.mu i o o1 e e1 (b.mu i o1 o' e1 e' m)
  · refine b.fr c o (a.fr c o h nt ne) nt fun i ob e m z => ?_
    by_cases hi : i < s.length
    · obtain ⟨o0, e0⟩ : ∃ o0, s[i]? = some o0 := ⟨s[i], List.getElem?_eq_getElem hi⟩
      exact ne i o0 e0 (a.mu i o0 ob e0 e m) (by rw [← a.w.map i hi]; exact z)
    · have := a.new i (by omega) (List.getElem?_eq_some_iff.mp e).1
      rw [z, h] at this; cases this
theorem RV.mono {φ φ' : Nat → Addr} {s s' : DV.Sto} {H H' : Hp} (g : Gr φ s H φ' s' H') (d : DV.D) (v : V) (b : d.bnd s.length = true) (h : RV Γ φ H d v) : RV Γ φ' H' d v := RV.monoW g.w d v b h
theorem RVL.mono {φ φ' : Nat → Addr} {s s' : DV.Sto} {H H' : Hp} (g : Gr φ s H φ' s' H') (d : List DV.D) (v : List V) (b : DV.D.bndL s.length d = true) (h : RVL Γ φ H d v) : RVL Γ φ' H' d v := RVL.monoW g.w d v b h
theorem RE.mono {φ φ' : Nat → Addr} {s s' : DV.Sto} {H H' : Hp} {ρ : DV.Env} {σ : St} (h : RE Γ φ H s.length ρ σ) (g : Gr φ s H φ' s' H') (hn : s.length ≤ s'.length) : RE Γ φ' H' s'.length ρ σ :=
  ⟨h.len, fun i d e => by
    obtain ⟨b, v, e1, e2⟩ := h.val i d e
    exact ⟨D_bnd_mono hn d b, v, e1, RV.mono g d v b e2⟩⟩
/-- what is wanted behind an expression -/
noncomputable def After (Γ : Gm) (φ : Nat → Addr) (s : DV.Sto) (H : Hp) (d : DV.D) (s' : DV.Sto) (Q : VK) : Prop :=
  ∀ v φ' H', Gr φ s H φ' s' H' → s.length ≤ s'.length → d.bnd s'.length = true → RV Γ φ' H' d v → Rp Γ φ' H' s' → Q v H'
theorem After.trans {φ φ1 : Nat → Addr} {s s1 s' : DV.Sto} {H H1 : Hp} {d : DV.D} {Q : VK} (h : After Γ φ s H d s' Q) (g : Gr φ s H φ1 s1 H1) (l : s.length ≤ s1.length) : After Γ φ1 s1 H1 d s' Q :=
  fun v φ' H' g' l' b r p => h v φ' H' (g.trans g' l) (Nat.le_trans l l') b r p
theorem After.here {φ : Nat → Addr} {s : DV.Sto} {H : Hp} {d : DV.D} {Q : VK} {v : V} (h : After Γ φ s H d s Q) (p : Rp Γ φ H s) (b : d.bnd s.length = true) (r : RV Γ φ H d v) : Q v H :=
  h v φ H (Gr.refl φ s H) (Nat.le_refl _) b r p
/-- a thing is laid in the store: it stands at p -/
theorem RO.mono {φ φ' : Nat → Addr} {n : Nat} {H H' : Hp} {a : Addr} {o : DV.O} (h : RO Γ φ H a o) (g : Gw φ n H φ' H') (b : o.bnd n = true) (hl : isMut o = true → ∀ u, H a = some u → H' a = some u) : RO Γ φ' H' a o := by
  cases o with
  | lst l =>
    unfold DV.O.bnd at b
    obtain ⟨xs, e, r⟩ := h
    exact ⟨xs, hl rfl _ e, RVL.monoW g l xs b r⟩
  | ro l =>
    unfold DV.O.bnd at b
    obtain ⟨xs, e, r⟩ := h
    exact ⟨xs, ⟨e.2 _ g.kp, fun H2 k => e.2 _ (g.kp.trans k)⟩, RVL.monoW g l xs b r⟩
  | dic _ => exact h.elim
  | ins _ _ => exact h.elim
theorem RO.there {φ : Nat → Addr} {H : Hp} {a : Addr} {o : DV.O} (h : RO Γ φ H a o) (m : isMut o = true) : ∃ u, H a = some u ∧ fixd u = false ∧ ∀ ps, u ≠ .tbl ps := by
  cases o with
  | lst l => obtain ⟨xs, e, _⟩ := h; exact ⟨_, e, rfl, by nofun⟩
  | ro l => cases m
  | dic _ => exact h.elim
  | ins _ _ => exact h.elim
theorem Rp.addr {φ : Nat → Addr} {H : Hp} {s : DV.Sto} (p : Rp Γ φ H s) {i : Nat} {l : List DV.D} (e : s[i]? = some (.lst l)) : ∃ xs, H (φ i) = some (.lst xs) ∧ RVL Γ φ H l xs := p.obj i _ e
theorem O_bnd_mono {n m : Nat} (h : n ≤ m) (o : DV.O) (b : o.bnd n = true) : o.bnd m = true := by
  cases o with
  | lst l => unfold DV.O.bnd at b ⊢; exact D_bndL_mono h l b
  | ro l => unfold DV.O.bnd at b ⊢; exact D_bndL_mono h l b
  | dic l =>
    unfold DV.O.bnd at b ⊢
    rw [Bool.and_eq_true] at b ⊢
    exact ⟨D_bndL_mono h _ b.1, D_bndL_mono h _ b.2⟩
  | ins c l => unfold DV.O.bnd at b ⊢; exact D_bndL_mono h _ b
theorem TabsH.keepF {T : List (Addr × Str)} {H H' : Hp} (h : TabsH T H) (k : ∀ b o, (fixd o = true ∨ ∃ ps, o = .tbl ps) → H b = some o → H' b = some o) : TabsH T H' := fun y hy => by
  obtain ⟨ps, e, t, c⟩ := h y hy
  refine ⟨ps, k _ _ (.inr ⟨_, rfl⟩) e, t, fun pos cv q => ?_⟩
  obtain ⟨c', e1, e2⟩ := c pos cv q
  exact ⟨c', e1, k _ _ (.inl rfl) e2⟩
/-- a new thing stands in the store -/
theorem Rp.new {φ : Nat → Addr} {H : Hp} {s : DV.Sto} {p : Addr} {u : HO} {o : DV.O} (r : Rp Γ φ H s) (hp : H p = none) (hb : o.bnd s.length = true)
    (ho : ∀ φ' H', Gw φ s.length H φ' H' → H' p = some u → RO Γ φ' H' p o) : Gr φ s H (fun i => if i = s.length then p else φ i) (s ++ [o]) (upd H p u) ∧ Rp Γ (fun i => if i = s.length then p else φ i) (upd H p u) (s ++ [o]) := by
  have g : Gw φ s.length H (fun i => if i = s.length then p else φ i) (upd H p u) := ⟨fun i hi => if_neg (Nat.ne_of_lt hi), (Kp.refl H).new hp⟩
  have key : ∀ i o', (s ++ [o])[i]? = some o' → (i < s.length ∧ s[i]? = some o') ∨ (i = s.length ∧ o' = o) := fun i o' e => by
    rcases Nat.lt_trichotomy i s.length with h | h | h
    · rw [List.getElem?_append_left h] at e; exact .inl ⟨h, e⟩
    · subst h; simp at e; exact .inr ⟨rfl, e.symm⟩
    · rw [List.getElem?_eq_none (by simp; omega)] at e; cases e
  refine ⟨⟨g, by simp, fun i h1 h2 => ?_, fun i o1 o2 e1 e2 m => ?_, fun b hb => ?_, fun b ob hb _ _ => by rw [upd_ne (ne_of_none hb hp)]; exact hb⟩, fun i j oi oj ei ej mi mj e => ?_, fun i o' e => ?_, fun i o' e => ?_, r.tab.new hp⟩
  · rw [List.length_append, List.length_singleton] at h2
    rw [if_pos (by omega)]; exact hp
  · rcases key i o2 e2 with ⟨_, e⟩ | ⟨hi, _⟩
    · rw [e1] at e; cases e; exact m
    · have := (List.getElem?_eq_some_iff.mp e1).1; omega
  · unfold upd; split
    · simp
    · exact hb
  · rcases key i oi ei with ⟨hi, ei⟩ | ⟨hi, rfl⟩ <;> rcases key j oj ej with ⟨hj, ej⟩ | ⟨hj, ej'⟩
    · rw [if_neg (Nat.ne_of_lt hi), if_neg (Nat.ne_of_lt hj)] at e
      exact r.inj i j oi oj ei ej mi mj e
    · rw [if_neg (Nat.ne_of_lt hi), if_pos hj] at e
      obtain ⟨u, hu, _, _⟩ := (r.obj i oi ei).there mi
      rw [e, hp] at hu; cases hu
    · rw [if_neg (Nat.ne_of_lt hj), if_pos hi] at e
      obtain ⟨u, hu, _, _⟩ := (r.obj j oj ej).there mj
      rw [← e, hp] at hu; cases hu
    · rw [hi, hj]
  · rcases key i o' e with ⟨hi, e⟩ | ⟨hi, rfl⟩
    · show RO Γ _ _ (if i = s.length then p else φ i) o'
      rw [if_neg (Nat.ne_of_lt hi)]
      exact (r.obj i o' e).mono g (r.wf i o' e) fun _ v hv => by rw [upd_ne (ne_of_none hv hp)]; exact hv
    · show RO Γ _ _ (if i = s.length then p else φ i) o'
      rw [if_pos hi]
      exact ho _ _ g upd_same
  · rw [List.length_append, List.length_singleton]
    rcases key i o' e with ⟨hi, e⟩ | ⟨hi, rfl⟩
    · exact O_bnd_mono (Nat.le_succ _) _ (r.wf i o' e)
    · exact O_bnd_mono (Nat.le_succ _) _ hb
/-- a thing of the store is changed -/
theorem Rp.set {φ : Nat → Addr} {H : Hp} {s : DV.Sto} {k : Nat} {u : HO} {o o0 : DV.O} (r : Rp Γ φ H s) (hk : s[k]? = some o0) (m0 : isMut o0 = true) (hb : o.bnd s.length = true)
    (ho : ∀ H', Gw φ s.length H φ H' → H' (φ k) = some u → RO Γ φ H' (φ k) o) : Gr φ s H φ (s.set k o) (upd H (φ k) u) ∧ Rp Γ φ (upd H (φ k) u) (s.set k o) := by
  obtain ⟨v0, hv0, f0, nt0⟩ := (r.obj k o0 hk).there m0
  have hkl : k < s.length := (List.getElem?_eq_some_iff.mp hk).1
  have g : Gw φ s.length H φ (upd H (φ k) u) := ⟨fun _ _ => rfl, (Kp.refl H).put hv0 f0⟩
  have key : ∀ i o', (s.set k o)[i]? = some o' → (i ≠ k ∧ s[i]? = some o') ∨ (i = k ∧ o' = o) := fun i o' e => by
    by_cases h : i = k
    · subst h; rw [List.getElem?_set_self hkl] at e; exact .inr ⟨rfl, (Option.some.inj e).symm⟩
    · rw [List.getElem?_set_ne (Ne.symm h)] at e; exact .inl ⟨h, e⟩
  have mm : ∀ i o', (s.set k o)[i]? = some o' → isMut o' = true → ∃ o'', s[i]? = some o'' ∧ isMut o'' = true := fun i o' e m => by
    rcases key i o' e with ⟨_, e⟩ | ⟨h, _⟩
    · exact ⟨o', e, m⟩
    · exact ⟨o0, by rw [h]; exact hk, m0⟩
  refine ⟨⟨g, by simp, fun i h1 h2 => by rw [List.length_set] at h2; omega, fun i o1 o2 e1 e2 m => ?_, fun b hb => ?_, fun b ob hb nt ne => by rw [upd_ne (Ne.symm (ne k o0 hk m0))]; exact hb⟩, fun i j oi oj ei ej mi mj e => ?_, fun i o' e => ?_, fun i o' e => ?_, r.tab.keepF fun b v hv q => ?_⟩
  · obtain ⟨o3, e3, m3⟩ := mm i o2 e2 m
    rw [e1] at e3; cases e3; exact m3
  · unfold upd; split
    · simp
    · exact hb
  · obtain ⟨o1, e1, m1⟩ := mm i oi ei mi
    obtain ⟨o2, e2, m2⟩ := mm j oj ej mj
    exact r.inj i j o1 o2 e1 e2 m1 m2 e
  · rcases key i o' e with ⟨h, e⟩ | ⟨h, rfl⟩
    · refine (r.obj i o' e).mono g (r.wf i o' e) fun m v hv => ?_
      rw [upd_ne fun z => h (r.inj i k o' o0 e hk m m0 z)]; exact hv
    · subst h
      exact ho _ g upd_same
  · rw [List.length_set]
    rcases key i o' e with ⟨_, e⟩ | ⟨_, rfl⟩
    · exact r.wf i o' e
    · exact hb
  · rw [upd_ne fun z => by
      subst z; rw [hv0] at q; cases q
      rcases hv with h | ⟨ps, h⟩
      · rw [f0] at h; cases h
      · exact nt0 _ h]
    exact q
/-- nothing of the store is changed -/
theorem Rp.same {φ : Nat → Addr} {H H' : Hp} {s : DV.Sto} (r : Rp Γ φ H s) (e : Same H H') : Gr φ s H φ s H' ∧ Rp Γ φ H' s := by
  have g : Gw φ s.length H φ H' := ⟨fun _ _ => rfl, fun b o h _ => e b o h⟩
  exact ⟨⟨g, Nat.le_refl _, fun i h1 h2 => absurd h2 (by omega), fun i o o' e e' m => by rw [e] at e'; cases e'; exact m, fun b hb => by
    cases q : H b with
    | none => exact absurd q hb
    | some o => rw [e b o q]; simp, fun b o h _ _ => e b o h⟩, r.inj, fun i o h => (r.obj i o h).mono g (r.wf i o h) fun _ u hu => e _ u hu, r.wf, r.tab.same e⟩
section
variable {φ : Nat → Addr} {H : Hp} {s : DV.Sto} {Q : VK}
/-- a new list -/
theorem After.alloc {l : List DV.D} {xs : List V} (h : After Γ φ s H (.ref s.length) (s ++ [.lst l]) Q) (r : Rp Γ φ H s) (hl : RVL Γ φ H l xs) (hb : DV.D.bndL s.length l = true) {p : Addr} (hp : H p = none) : Q (.ref p) (upd H p (.lst xs)) := by
  obtain ⟨g, r'⟩ := r.new (o := .lst l) (u := .lst xs) hp hb fun φ' H' g e => ⟨xs, e, RVL.monoW g l xs hb hl⟩
  have := h (.ref p) _ _ g (by simp) (by unfold DV.D.bnd; simp) (by unfold RV; simp) r'
  exact this
/-- a new tuple -/
theorem After.tup {l : List DV.D} {xs : List V} (h : After Γ φ s H (.tup l) s Q) (r : Rp Γ φ H s) (hl : RVL Γ φ H l xs) (hb : DV.D.bndL s.length l = true) {p : Addr} (hp : H p = none) : Q (.ref p) (upd H p (.tup xs)) := by
  obtain ⟨g, r'⟩ := r.same (H' := upd H p (.tup xs)) ((Same.refl H).new hp)
  exact h _ _ _ g (Nat.le_refl _) (by unfold DV.D.bnd; exact hb) (RV.tupI (SqT.of upd_same) (RVL.mono g l xs hb hl)) r'
/-- a list is changed -/
theorem After.put {k : Nat} {l l0 : List DV.D} {xs : List V} {d : DV.D} {v : V} (h : After Γ φ s H d (s.set k (.lst l)) Q) (r : Rp Γ φ H s) (hk : s[k]? = some (.lst l0)) (hl : RVL Γ φ H l xs) (hb : DV.D.bndL s.length l = true)
    (hd : d.bnd s.length = true) (hv : RV Γ φ H d v) : Q v (upd H (φ k) (.lst xs)) := by
  obtain ⟨g, r'⟩ := r.set (o := .lst l) (u := .lst xs) hk rfl hb fun H' g e => ⟨xs, e, RVL.monoW g l xs hb hl⟩
  exact h _ _ _ g (by simp) (by rw [List.length_set]; exact hd) (RV.mono g d v hd hv) r'
end
end L2
end

set_option Elab.async false
set_option linter.all false
set_option maxRecDepth 100000
set_option maxHeartbeats 4000000
noncomputable section
namespace L2
open PySem PySem.Spec PyProof.Rows
variable {Γ : Gm}
/-! ### == -/
theorem eqL_cons {f : DV.D → DV.D → Option Bool} {a b : DV.D} {l m : List DV.D} {z : Bool} (h : DV.eqL f (a :: l) (b :: m) = some z) : ∃ x y, f a b = some x ∧ DV.eqL f l m = some y ∧ z = (x && y) := by
  unfold DV.eqL at h
  cases e1 : f a b with
  | none => rw [e1] at h; cases h
  | some x =>
    cases e2 : DV.eqL f l m with
    | none => rw [e1, e2] at h; cases h
    | some y => rw [e1, e2] at h; exact ⟨x, y, rfl, rfl, (Option.some.inj h).symm⟩
/-- place by place -/
theorem eqL_at {f : DV.D → DV.D → Option Bool} : ∀ {l m : List DV.D} {z : Bool}, DV.eqL f l m = some z → ∃ e : Nat → Bool, (∀ j d d', l[j]? = some d → m[j]? = some d' → f d d' = some (e j)) ∧ ((l.length == m.length) && (List.range (min l.length m.length)).all e) = z
  | [], [], z, h => by
    unfold DV.eqL at h
    cases h
    exact ⟨fun _ => true, fun j d d' h => by simp at h, by simp⟩
  | [], b :: m, z, h => by
    unfold DV.eqL at h
    cases h
    exact ⟨fun _ => true, fun j d d' h => by simp at h, by simp⟩
  | a :: l, [], z, h => by
    unfold DV.eqL at h
    cases h
    exact ⟨fun _ => true, fun j d d' h1 h2 => by simp at h2, by simp⟩
  | a :: l, b :: m, z, h => by
    obtain ⟨x, y, e1, e2, ez⟩ := eqL_cons h
    obtain ⟨e, h1, h2⟩ := eqL_at e2
    refine ⟨fun j => match j with | 0 => x | j + 1 => e j, fun j d d' g1 g2 => ?_, ?_⟩
    · cases j with
      | zero => simp at g1 g2; subst g1; subst g2; exact e1
      | succ j => exact h1 j d d' (by simpa using g1) (by simpa using g2)
    · rw [List.length_cons, List.length_cons, show min (l.length + 1) (m.length + 1) = min l.length m.length + 1 by omega, List.range_succ_eq_map, List.all_cons, List.all_map, ez, ← h2]
      have : ((l.length + 1 == m.length + 1) = (l.length == m.length)) := by
        by_cases q : l.length = m.length
        · simp [q]
        · have : ¬ l.length + 1 = m.length + 1 := by omega
          simp [q]
      rw [this]
      show ((l.length == m.length) && (x && (List.range _).all e)) = _
      cases x <;> cases (l.length == m.length) <;> simp
section
variable {X : Cx} {pins : List (Addr × Obj)} {σ : St} {H : Hp} {sh : Shared} {φ : Nat → Addr} {s : DV.Sto}
theorem lst_not_tup (I : Inv X pins σ H sh) {a : Addr} {xs ys : List V} (h : H a = some (.lst xs)) (h' : SqT X.K H a ys) : False := by
  rcases h' with (z | ⟨o, z⟩) | ⟨o, its, n, hk, _⟩
  · rw [h] at z; cases z
  · rw [h] at z; cases z
  · have := (I.bs a o (I.mod.kin a o hk)).2
    rw [h] at this; cases this
/-- two readings of one thing: alike, or of a kind that == doesn't take -/
theorem rv_two (I : Inv X pins σ H sh) (hK : X.K = Γ.K) (R : Rp Γ φ H s) {a b : DV.D} {x : V} (h1 : RV Γ φ H a x) (h2 : RV Γ φ H b x) (n1 : DV.kd s a ≠ 9) (n2 : DV.kd s b ≠ 9) : a = b ∨ ∃ l m p xs, a = .tup l ∧ b = .tup m ∧ x = .ref p ∧ RVL Γ φ H l xs ∧ RVL Γ φ H m xs := by
  have ofR : ∀ {r : Nat}, DV.kd s (.ref r) ≠ 9 → ∃ l, s[r]? = some (.lst l) := fun {r} h => by
    have h : (match s[r]? with | some (DV.O.lst l) => 4 | _ => 9 : Nat) ≠ 9 := h
    cases hs : s[r]? with
    | none => rw [hs] at h; exact absurd rfl h
    | some o =>
      rw [hs] at h
      cases o with
      | lst l => exact ⟨l, rfl⟩
      | _ => exact absurd rfl h
  cases a with
  | non => have e := h1.nonE; subst e; cases b with
    | non => exact .inl rfl
    | bl _ => cases h2.blE
    | int _ => cases h2.intE
    | str _ => cases h2.strE
    | tup _ => obtain ⟨_, _, e, _⟩ := h2.tupE; cases e
    | ref _ => cases h2.refE
    | fn _ => exact absurd rfl n2
    | clo _ _ => exact absurd rfl n2
  | bl p => have e := h1.blE; subst e; cases b with
    | non => cases h2.nonE
    | bl _ => cases h2.blE; exact .inl rfl
    | int _ => cases h2.intE
    | str _ => cases h2.strE
    | tup _ => obtain ⟨_, _, e, _⟩ := h2.tupE; cases e
    | ref _ => cases h2.refE
    | fn _ => exact absurd rfl n2
    | clo _ _ => exact absurd rfl n2
  | int p => have e := h1.intE; subst e; cases b with
    | non => cases h2.nonE
    | bl _ => cases h2.blE
    | int _ => cases h2.intE; exact .inl rfl
    | str _ => cases h2.strE
    | tup _ => obtain ⟨_, _, e, _⟩ := h2.tupE; cases e
    | ref _ => cases h2.refE
    | fn _ => exact absurd rfl n2
    | clo _ _ => exact absurd rfl n2
  | str p => have e := h1.strE; subst e; cases b with
    | non => cases h2.nonE
    | bl _ => cases h2.blE
    | int _ => cases h2.intE
    | str q =>
      have e' : p.toArray = q.toArray := Str.mk.inj (V.str.inj h2.strE)
      have e'' : p = q := by simpa using congrArg Array.toList e'
      subst e''; exact .inl rfl
    | tup _ => obtain ⟨_, _, e, _⟩ := h2.tupE; cases e
    | ref _ => cases h2.refE
    | fn _ => exact absurd rfl n2
    | clo _ _ => exact absurd rfl n2
  | tup l =>
    obtain ⟨p, xs, e, q1, d1⟩ := h1.tupE; subst e; cases b with
    | non => cases h2.nonE
    | bl _ => cases h2.blE
    | int _ => cases h2.intE
    | str _ => cases h2.strE
    | tup m =>
      obtain ⟨p', ys, e, q2, d2⟩ := h2.tupE
      cases e
      rw [← hK] at q1 q2
      rw [I.tuple_inj q2 q1] at d2
      exact .inr ⟨l, m, p, xs, rfl, rfl, rfl, d1, d2⟩
    | ref r =>
      cases h2.refE
      obtain ⟨m, hm⟩ := ofR n2
      obtain ⟨ys, hy, _⟩ := R.addr hm
      rw [← hK] at q1
      exact (lst_not_tup I hy q1).elim
    | fn _ => exact absurd rfl n2
    | clo _ _ => exact absurd rfl n2
  | ref r =>
    have e := h1.refE; subst e
    obtain ⟨l, hl⟩ := ofR n1
    obtain ⟨xs, hx, _⟩ := R.addr hl
    cases b with
    | non => cases h2.nonE
    | bl _ => cases h2.blE
    | int _ => cases h2.intE
    | str _ => cases h2.strE
    | tup m =>
      obtain ⟨p', ys, e, q2, d2⟩ := h2.tupE
      cases e
      rw [← hK] at q2
      exact (lst_not_tup I hx q2).elim
    | ref r' =>
      obtain ⟨m, hm⟩ := ofR n2
      have e : φ r = φ r' := V.ref.inj h2.refE
      rw [R.inj r r' _ _ hl hm rfl rfl e]
      exact .inl rfl
    | fn _ => exact absurd rfl n2
    | clo _ _ => exact absurd rfl n2
  | fn _ => exact absurd rfl n1
  | clo _ _ => exact absurd rfl n1
theorem eqAtom_out {a b : DV.D} {z : Bool} (h : DV.eqAtom s a b = some z) : DV.eqLit a b = some z ∨ (DV.eqLit a b = none ∧ DV.kdBad (DV.kd s a) (DV.kd s b) = false ∧ z = false) := by
  unfold DV.eqAtom at h
  cases e : DV.eqLit a b with
  | some w => rw [e] at h; exact .inl h
  | none =>
    rw [e] at h
    cases q : DV.kdBad (DV.kd s a) (DV.kd s b) with
    | true => rw [q] at h; cases h
    | false => rw [q] at h; exact .inr ⟨rfl, rfl, (Option.some.inj h).symm⟩
theorem eqLit_kd {a b : DV.D} {z : Bool} (h : DV.eqLit a b = some z) : DV.kd s a ≠ 9 ∧ DV.kd s b ≠ 9 := by
  cases a <;> cases b <;> first | (cases h; done) | (constructor <;> (intro z; cases z))
theorem eqAtom_kd {a b : DV.D} {z : Bool} (h : DV.eqAtom s a b = some z) : DV.kd s a ≠ 9 ∧ DV.kd s b ≠ 9 := by
  rcases eqAtom_out h with h | ⟨_, h, _⟩
  · exact eqLit_kd h
  · unfold DV.kdBad at h
    simp only [Bool.or_eq_false_iff, beq_eq_false_iff_ne] at h
    exact ⟨h.1.1, h.1.2⟩
theorem eqAtom_self {a : DV.D} {z : Bool} (h : DV.eqAtom s a a = some z) : z = true := by
  rcases eqAtom_out h with h | ⟨_, h, _⟩
  · cases a <;> cases h <;> first | rfl | exact beq_self_eq_true _
  · unfold DV.kdBad at h; simp at h
/-- two readings of one thing are == -/
theorem eqv_same (I : Inv X pins σ H sh) (hK : X.K = Γ.K) (R : Rp Γ φ H s) : ∀ (n : Nat) (a b : DV.D) (x : V) (z : Bool), DV.eqv s n a b = some z → RV Γ φ H a x → RV Γ φ H b x → z = true := by
  have atom : ∀ (a b : DV.D) (x : V) (z : Bool), DV.eqAtom s a b = some z → RV Γ φ H a x → RV Γ φ H b x → z = true := by
    intro a b x z h h1 h2
    rcases rv_two I hK R h1 h2 (eqAtom_kd h).1 (eqAtom_kd h).2 with e | ⟨l, m, _, _, rfl, rfl, _⟩
    · subst e; exact eqAtom_self h
    · rcases eqAtom_out h with h | ⟨_, h, _⟩
      · cases h
      · unfold DV.kdBad at h; simp [DV.kd] at h
  intro n
  induction n with
  | zero => intro a b x z h; unfold DV.eqv at h; exact atom a b x z h
  | succ n ih =>
    have ihL : ∀ (l m : List DV.D) (xs : List V) (z : Bool), DV.eqL (DV.eqv s n) l m = some z → RVL Γ φ H l xs → RVL Γ φ H m xs → z = true := by
      intro l
      induction l with
      | nil =>
        intro m xs z h h1 h2
        cases m with
        | nil => unfold DV.eqL at h; exact (Option.some.inj h).symm
        | cons b m => obtain ⟨x, r, e, _⟩ := h2.uncons; rw [h1.unnil] at e; cases e
      | cons a l ihl =>
        intro m xs z h h1 h2
        cases m with
        | nil => obtain ⟨x, r, e, _⟩ := h1.uncons; rw [h2.unnil] at e; cases e
        | cons b m =>
          obtain ⟨p, q, e1, e2, ez⟩ := eqL_cons h
          obtain ⟨v, r, rfl, g1, g2⟩ := h1.uncons
          obtain ⟨v', r', e, g3, g4⟩ := h2.uncons
          cases e
          rw [ez, ih a b v p e1 g1 g3, ihl m r q e2 g2 g4]; rfl
    intro a b x z h h1 h2
    unfold DV.eqv at h
    split at h
    · rename_i l m
      obtain ⟨a, xs, rfl, q1, d1⟩ := h1.tupE
      obtain ⟨b, ys, e, q2, d2⟩ := h2.tupE
      cases e
      rw [← hK] at q1 q2
      rw [I.tuple_inj q2 q1] at d2
      exact ihL l m xs z h d1 d2
    · rename_i p q
      split at h
      · rename_i l m hl hm
        obtain ⟨xs, e1, d1⟩ := R.addr hl
        obtain ⟨ys, e2, d2⟩ := R.addr hm
        have e := h1.refE.symm.trans h2.refE
        have e' : φ p = φ q := V.ref.inj e
        rw [e', e2] at e1
        have e3 : ys = xs := by injection (Option.some.inj e1)
        subst e3
        split at h
        · exact ihL l m ys z h d1 d2
        · rename_i hlen; exact absurd (d1.length.symm.trans d2.length) hlen
      · cases h
    · exact atom a b x z h h1 h2
end
end L2
end

set_option Elab.async false
set_option linter.all false
set_option maxRecDepth 100000
set_option maxHeartbeats 4000000
noncomputable section
namespace L2
open PySem PySem.Spec PyProof.Rows
variable {Γ : Gm}
/-- a value by its kind -/
inductive Vw (sh : Shared) : Nat → Value → Prop where
  | non : Vw sh 0 .none
  | bl (b : Bool) : Vw sh 1 (.bool b)
  | int (i : Int) (t : Tok) : Vw sh 1 (.int i t)
  | str (x : Str) (t : Tok) : Vw sh 2 (.str x t)
  | tup {l : Addr} {items : Array Value} (h : sh.heap.IsTuple l items) : Vw sh 3 (.ref l)
  | lst {l : Addr} {items : Array Value} (h : sh.heap.IsList l items) : Vw sh 4 (.ref l)
theorem Vw.eq {A : Around} {sh : Shared} {k k' : Nat} {u v : Value} (a : Vw sh k u) (b : Vw sh k' v) (hne : k ≠ k') (hu : A.units < cLine) : SeqAt.EqAt A sh u v false := by
  cases a with
  | non => cases b with
    | non => exact absurd rfl hne
    | bl b => exact SeqAt.EqAt.none_bool b
    | int i t => exact SeqAt.EqAt.none_int i t
    | str x t => exact SeqAt.EqAt.none_str x t
    | tup h => exact SeqAt.EqAt.none_tuple h hu
    | lst h => exact SeqAt.EqAt.none_list h hu
  | bl a => cases b with
    | non => exact SeqAt.EqAt.bool_none a
    | bl b => exact absurd rfl hne
    | int i t => exact absurd rfl hne
    | str x t => exact SeqAt.EqAt.bool_str a x t
    | tup h => exact SeqAt.EqAt.bool_tuple a h hu
    | lst h => exact SeqAt.EqAt.bool_list a h hu
  | int a q => cases b with
    | non => exact SeqAt.EqAt.int_none a q
    | bl b => exact absurd rfl hne
    | int i t => exact absurd rfl hne
    | str x t => exact SeqAt.EqAt.int_str a q x t
    | tup h => exact SeqAt.EqAt.int_tuple a q h hu
    | lst h => exact SeqAt.EqAt.int_list a q h hu
  | str a q => cases b with
    | non => exact SeqAt.EqAt.str_none a q
    | bl b => exact SeqAt.EqAt.str_bool a q b
    | int i t => exact SeqAt.EqAt.str_int a q i t
    | str x t => exact absurd rfl hne
    | tup h => exact SeqAt.EqAt.str_tuple a q h hu
    | lst h => exact SeqAt.EqAt.str_list a q h hu
  | tup g => cases b with
    | non => exact SeqAt.EqAt.tuple_none g hu
    | bl b => exact SeqAt.EqAt.tuple_bool b g hu
    | int i t => exact SeqAt.EqAt.tuple_int i t g hu
    | str x t => exact SeqAt.EqAt.tuple_str x t g hu
    | tup h => exact absurd rfl hne
    | lst h => exact SeqAt.EqAt.tuple_list g h hu
  | lst g => cases b with
    | non => exact SeqAt.EqAt.list_none g hu
    | bl b => exact SeqAt.EqAt.list_bool b g hu
    | int i t => exact SeqAt.EqAt.list_int i t g hu
    | str x t => exact SeqAt.EqAt.list_str x t g hu
    | tup h => exact SeqAt.EqAt.list_tuple g h hu
    | lst h => exact absurd rfl hne
theorem Vw.rc {A : Around} {sh : Shared} {k k' : Nat} {u v : Value} (a : Vw sh k u) (b : Vw sh k' v) (hne : k ≠ k') (hu : A.units < cLine) : SeqAt.RcAt A sh u v false := by
  cases a with
  | non => cases b with
    | non => exact absurd rfl hne
    | bl b => exact SeqAt.RcAt.none_bool b
    | int i t => exact SeqAt.RcAt.none_int i t
    | str x t => exact SeqAt.RcAt.none_str x t
    | tup h => exact SeqAt.RcAt.none_tuple h hu
    | lst h => exact SeqAt.RcAt.none_list h hu
  | bl a => cases b with
    | non => exact SeqAt.RcAt.bool_none a
    | bl b => exact absurd rfl hne
    | int i t => exact absurd rfl hne
    | str x t => exact SeqAt.RcAt.bool_str a x t
    | tup h => exact SeqAt.RcAt.bool_tuple a h hu
    | lst h => exact SeqAt.RcAt.bool_list a h hu
  | int a q => cases b with
    | non => exact SeqAt.RcAt.int_none a q
    | bl b => exact absurd rfl hne
    | int i t => exact absurd rfl hne
    | str x t => exact SeqAt.RcAt.int_str a q x t
    | tup h => exact SeqAt.RcAt.int_tuple a q h hu
    | lst h => exact SeqAt.RcAt.int_list a q h hu
  | str a q => cases b with
    | non => exact SeqAt.RcAt.str_none a q
    | bl b => exact SeqAt.RcAt.str_bool a q b
    | int i t => exact SeqAt.RcAt.str_int a q i t
    | str x t => exact absurd rfl hne
    | tup h => exact SeqAt.RcAt.str_tuple a q h hu
    | lst h => exact SeqAt.RcAt.str_list a q h hu
  | tup g => cases b with
    | non => exact SeqAt.RcAt.tuple_none g hu
    | bl b => exact SeqAt.RcAt.tuple_bool b g hu
    | int i t => exact SeqAt.RcAt.tuple_int i t g hu
    | str x t => exact SeqAt.RcAt.tuple_str x t g hu
    | tup h => exact absurd rfl hne
    | lst h => exact SeqAt.RcAt.tuple_list g h hu
  | lst g => cases b with
    | non => exact SeqAt.RcAt.list_none g hu
    | bl b => exact SeqAt.RcAt.list_bool b g hu
    | int i t => exact SeqAt.RcAt.list_int i t g hu
    | str x t => exact SeqAt.RcAt.list_str x t g hu
    | tup h => exact SeqAt.RcAt.list_tuple g h hu
    | lst h => exact absurd rfl hne
theorem Vw.ne {A : Around} {sh : Shared} {k k' : Nat} {u v : Value} (a : Vw sh k u) (b : Vw sh k' v) (hne : k ≠ k') (hu : A.units < cLine) : SeqAt.RcNeAt A sh u v true := by
  cases a with
  | non => cases b with
    | non => exact absurd rfl hne
    | bl b => exact SeqAt.RcNeAt.none_bool b
    | int i t => exact SeqAt.RcNeAt.none_int i t
    | str x t => exact SeqAt.RcNeAt.none_str x t
    | tup h => exact SeqAt.RcNeAt.none_tuple h hu
    | lst h => exact SeqAt.RcNeAt.none_list h hu
  | bl a => cases b with
    | non => exact SeqAt.RcNeAt.bool_none a
    | bl b => exact absurd rfl hne
    | int i t => exact absurd rfl hne
    | str x t => exact SeqAt.RcNeAt.bool_str a x t
    | tup h => exact SeqAt.RcNeAt.bool_tuple a h hu
    | lst h => exact SeqAt.RcNeAt.bool_list a h hu
  | int a q => cases b with
    | non => exact SeqAt.RcNeAt.int_none a q
    | bl b => exact absurd rfl hne
    | int i t => exact absurd rfl hne
    | str x t => exact SeqAt.RcNeAt.int_str a q x t
    | tup h => exact SeqAt.RcNeAt.int_tuple a q h hu
    | lst h => exact SeqAt.RcNeAt.int_list a q h hu
  | str a q => cases b with
    | non => exact SeqAt.RcNeAt.str_none a q
    | bl b => exact SeqAt.RcNeAt.str_bool a q b
    | int i t => exact SeqAt.RcNeAt.str_int a q i t
    | str x t => exact absurd rfl hne
    | tup h => exact SeqAt.RcNeAt.str_tuple a q h hu
    | lst h => exact SeqAt.RcNeAt.str_list a q h hu
  | tup g => cases b with
    | non => exact SeqAt.RcNeAt.tuple_none g hu
    | bl b => exact SeqAt.RcNeAt.tuple_bool b g hu
    | int i t => exact SeqAt.RcNeAt.tuple_int i t g hu
    | str x t => exact SeqAt.RcNeAt.tuple_str x t g hu
    | tup h => exact absurd rfl hne
    | lst h => exact SeqAt.RcNeAt.tuple_list g h hu
  | lst g => cases b with
    | non => exact SeqAt.RcNeAt.list_none g hu
    | bl b => exact SeqAt.RcNeAt.list_bool b g hu
    | int i t => exact SeqAt.RcNeAt.list_int i t g hu
    | str x t => exact SeqAt.RcNeAt.list_str x t g hu
    | tup h => exact SeqAt.RcNeAt.list_tuple g h hu
    | lst h => exact absurd rfl hne
theorem mk_beq (a b : List Nat) : ((⟨a.toArray⟩ : Str) == ⟨b.toArray⟩) = (a == b) := by
  by_cases e : a = b
  · subst e; simp
  · have : (⟨a.toArray⟩ : Str) ≠ ⟨b.toArray⟩ := fun q => e (by simpa using congrArg (fun z => z.cps.toList) q)
    rw [beq_eq_false_iff_ne.mpr this, beq_eq_false_iff_ne.mpr e]
/-- how two values compare: as items (EqAt), by == (RcAt), by != (RcNeAt) -/
structure Cmp (A : Around) (sh : Shared) (u v : Value) (z : Bool) : Prop where
  rc : SeqAt.RcAt A sh u v z
  ne : SeqAt.RcNeAt A sh u v (!z)
section
variable {X : Cx} {pins : List (Addr × Obj)} {σ : St} {H : Hp} {sh : Shared} {φ : Nat → Addr} {s : DV.Sto}
theorem vw_of (I : Inv X pins σ H sh) (hK : X.K = Γ.K) (R : Rp Γ φ H s) {d : DV.D} {x : V} {u : Value} (h : RV Γ φ H d x) (r : RelV x u) (hk : DV.kd s d ≠ 9) : Vw sh (DV.kd s d) u := by
  cases d with
  | non => have e := h.nonE; subst e; cases r; exact .non
  | bl b => have e := h.blE; subst e; cases r; exact .bl b
  | int i => have e := h.intE; subst e; obtain ⟨t, rfl⟩ := r; exact .int i t
  | str y => have e := h.strE; subst e; obtain ⟨t, rfl⟩ := r; exact .str _ t
  | tup l =>
    obtain ⟨a, xs, e, q, _⟩ := h.tupE
    subst e; cases r
    rw [← hK] at q
    obtain ⟨its, _, t, _⟩ := I.tuple q
    exact .tup t
  | ref n =>
    have e := h.refE; subst e; cases r
    have hk : (match s[n]? with | some (DV.O.lst l) => 4 | _ => 9 : Nat) ≠ 9 := hk
    show Vw sh (match s[n]? with | some (DV.O.lst l) => 4 | _ => 9 : Nat) _
    cases hs : s[n]? with
    | none => rw [hs] at hk; exact absurd rfl hk
    | some o =>
      rw [hs] at hk
      cases o with
      | lst l =>
        obtain ⟨xs, e, _⟩ := R.addr hs
        obtain ⟨its, _, t, _⟩ := I.list (SqL.of e)
        exact .lst t.isList
      | _ => exact absurd rfl hk
  | fn _ => exact absurd rfl hk
  | clo _ _ => exact absurd rfl hk
theorem eqAtom_ok (I : Inv X pins σ H sh) (hK : X.K = Γ.K) (R : Rp Γ φ H s) {a b : DV.D} {x y : V} {u v : Value} {A : Around} {z : Bool} (h : DV.eqAtom s a b = some z) (h1 : RV Γ φ H a x) (h2 : RV Γ φ H b y) (r1 : RelV x u) (r2 : RelV y v) (hu : A.units < cLine) :
    SeqAt.EqAt A sh u v z ∧ Cmp A sh u v z := by
  rcases eqAtom_out h with h | ⟨_, hn, hz⟩
  · cases a <;> cases b <;> try cases h
    · cases h1.nonE; cases h2.nonE; cases r1; cases r2
      exact ⟨SeqAt.EqAt.same _, SeqAt.RcAt.none_none, SeqAt.RcNeAt.none_none⟩
    · cases h1.blE; cases h2.blE; cases r1; cases r2
      exact ⟨SeqAt.EqAt.bool_bool _ _, SeqAt.RcAt.bool_bool _ _, SeqAt.RcNeAt.bool_bool _ _⟩
    · cases h1.blE; cases h2.intE; cases r1; obtain ⟨t', rfl⟩ := r2
      exact ⟨SeqAt.EqAt.bool_int _ _ _, SeqAt.RcAt.bool_int _ _ _, SeqAt.RcNeAt.bool_int _ _ _⟩
    · cases h1.intE; cases h2.blE; obtain ⟨t, rfl⟩ := r1; cases r2
      exact ⟨SeqAt.EqAt.int_bool _ _ _, SeqAt.RcAt.int_bool _ _ _, SeqAt.RcNeAt.int_bool _ _ _⟩
    · cases h1.intE; cases h2.intE; obtain ⟨t, rfl⟩ := r1; obtain ⟨t', rfl⟩ := r2
      exact ⟨SeqAt.EqAt.int_int _ _ _ _, SeqAt.RcAt.int_int _ _ _ _, SeqAt.RcNeAt.int_int _ _ _ _⟩
    · cases h1.strE; cases h2.strE; obtain ⟨t, rfl⟩ := r1; obtain ⟨t', rfl⟩ := r2
      rw [← mk_beq]
      exact ⟨SeqAt.EqAt.str_str _ _ _ _, SeqAt.RcAt.str_str _ _ _ _, SeqAt.RcNeAt.str_str _ _ _ _⟩
  · subst hz
    unfold DV.kdBad at hn
    simp only [Bool.or_eq_false_iff, beq_eq_false_iff_ne] at hn
    have w1 := vw_of I hK R h1 r1 hn.1.1
    have w2 := vw_of I hK R h2 r2 hn.1.2
    exact ⟨w1.eq w2 hn.2 hu, w1.rc w2 hn.2 hu, w1.ne w2 hn.2 hu⟩
theorem eqv_ok (I : Inv X pins σ H sh) (hK : X.K = Γ.K) (R : Rp Γ φ H s) : ∀ (n : Nat) (a b : DV.D) (x y : V) (u v : Value) (A : Around) (z : Bool), DV.eqv s n a b = some z → RV Γ φ H a x → RV Γ φ H b y → RelV x u → RelV y v → Room n A →
    SeqAt.EqAt A sh u v z ∧ Cmp A sh u v z := by
  intro n
  induction n with
  | zero => intro a b x y u v A z h h1 h2 r1 r2 hr; unfold DV.eqv at h; exact eqAtom_ok I hK R h h1 h2 r1 r2 hr.units0
  | succ n ih =>
    have items : ∀ {l m : List DV.D} {xs ys : List V} {its its' : List Value} {A : Around} {e : Nat → Bool}, RVL Γ φ H l xs → RVL Γ φ H m ys → Vals xs its → Vals ys its' → Room n A → (∀ j d d', l[j]? = some d → m[j]? = some d' → DV.eqv s n d d' = some (e j)) →
        ∀ j (h1 : j < its.toArray.size) (h2 : j < its'.toArray.size), SeqAt.EqAt A sh its.toArray[j] its'.toArray[j] (e j) := by
      intro l m xs ys its its' A e d1 d2 v1 v2 hr he j h1 h2
      have l1 := v1.length
      have l2 := v2.length
      have e1 := d1.length
      have e2 := d2.length
      have h1' : j < its.length := by simpa using h1
      have h2' : j < its'.length := by simpa using h2
      have hj : j < l.length := by omega
      have hj' : j < m.length := by omega
      obtain ⟨x, ex, dx⟩ := d1.get (List.getElem?_eq_getElem hj)
      obtain ⟨y, ey, dy⟩ := d2.get (List.getElem?_eq_getElem hj')
      obtain ⟨u, eu, ru⟩ := v1.get ex
      obtain ⟨w, ew, rw'⟩ := v2.get ey
      have g1 : its.toArray[j] = u := by
        have := List.getElem?_eq_getElem h1'
        rw [eu] at this
        simpa using (Option.some.inj this).symm
      have g2 : its'.toArray[j] = w := by
        have := List.getElem?_eq_getElem h2'
        rw [ew] at this
        simpa using (Option.some.inj this).symm
      rw [g1, g2]
      exact (ih _ _ x y u w A (e j) (he j _ _ (List.getElem?_eq_getElem hj) (List.getElem?_eq_getElem hj')) dx dy ru rw' hr).1
    intro a b x y u v A z h h1 h2 r1 r2 hr
    have hz := h
    unfold DV.eqv at h
    split at h
    · rename_i l m
      obtain ⟨p, xs, ex, q1, d1⟩ := id h1.tupE
      obtain ⟨q, ys, ey, q2, d2⟩ := id h2.tupE
      subst ex; subst ey
      cases r1; cases r2
      rw [← hK] at q1 q2
      obtain ⟨its, v1, t1, _⟩ := I.tuple q1
      obtain ⟨its', v2, t2, _⟩ := I.tuple q2
      obtain ⟨e, he, hall⟩ := eqL_at h
      have l1 := v1.length
      have l2 := v2.length
      have e1 := d1.length
      have e2 := d2.length
      have sz : ((List.range (min its.toArray.size its'.toArray.size)).all e && its.toArray.size == its'.toArray.size) = z := by
        rw [← hall, Bool.and_comm, show its.toArray.size = l.length by simp; omega, show its'.toArray.size = m.length by simp; omega]
      have key := SeqAt.RcAt.tuples (A := A) (s := sh) (e := e) t1 t2 hr.units0 (items d1 d2 v1 v2 hr.in1 he)
      have kne := SeqAt.RcNeAt.tuples (A := A) (s := sh) (e := e) t1 t2 hr.units0 (items d1 d2 v1 v2 hr.in1 he)
      rw [sz] at key kne
      refine ⟨?_, key, kne⟩
      by_cases hab : p = q
      · subst hab
        rw [eqv_same I hK R _ _ _ _ _ hz h1 h2]
        exact SeqAt.EqAt.same _
      · exact SeqAt.EqAt.of_refs hab key
    · rename_i p q
      split at h
      · rename_i l m hl hm
        obtain ⟨xs, e1, d1⟩ := R.addr hl
        obtain ⟨ys, e2, d2⟩ := R.addr hm
        have ex := h1.refE
        have ey := h2.refE
        subst ex; subst ey
        cases r1; cases r2
        obtain ⟨its, v1, t1, _⟩ := I.list (SqL.of e1)
        obtain ⟨its', v2, t2, _⟩ := I.list (SqL.of e2)
        have l1 := v1.length
        have l2 := v2.length
        have c1 := d1.length
        have c2 := d2.length
        have fin : Cmp A sh (.ref (φ p)) (.ref (φ q)) z := by
          split at h
          · rename_i hlen
            obtain ⟨e, he, hall⟩ := eqL_at h
            have sz : (List.range its.toArray.size).all e = z := by
              rw [← hall, show its.toArray.size = l.length by simp; omega, hlen]
              simp
            have key := SeqAt.RcAt.lists (A := A) (s := sh) (e := e) t1.isList t2.isList (by simp; omega) hr.units0 (items d1 d2 v1 v2 hr.in1 he)
            have kne := SeqAt.RcNeAt.lists (A := A) (s := sh) (e := e) t1.isList t2.isList (by simp; omega) hr.units0 (items d1 d2 v1 v2 hr.in1 he)
            rw [sz] at key kne
            exact ⟨key, kne⟩
          · rename_i hlen
            cases h
            have hs : (its.toArray.size != its'.toArray.size) = true := by simp; omega
            exact ⟨SeqAt.RcAt.lists_lengths t1.isList t2.isList hs hr.units0, SeqAt.RcNeAt.lists_lengths t1.isList t2.isList hs hr.units0⟩
        refine ⟨?_, fin⟩
        by_cases hab : φ p = φ q
        · rw [eqv_same I hK R _ _ _ _ _ hz RV.refI (by rw [hab]; exact RV.refI), hab]
          exact SeqAt.EqAt.same _
        · exact SeqAt.EqAt.of_refs hab fin.rc
      · cases h
    · exact eqAtom_ok I hK R h h1 h2 r1 r2 hr.units0
end
end L2
end

set_option Elab.async false
set_option linter.all false
set_option maxRecDepth 100000
set_option maxHeartbeats 4000000
noncomputable section
namespace L2
open PySem PySem.Spec PyProof.Rows
variable {Γ : Gm} {X : Cx}
noncomputable def opOf : DV.BOp → Operator
  | .add => .Add | .sub => .Sub | .mul => .Mult | .fdiv => .FloorDiv | .mod => .Mod | .pow => .Pow | .shl => .LShift | .shr => .RShift | .band => .BitAnd | .bor => .BitOr
noncomputable def copOf : DV.COp → CmpOp
  | .eq => .Eq | .ne => .NotEq | .lt => .Lt | .le => .LtE | .gt => .Gt | .ge => .GtE | .isin => .In | .notin => .NotIn
/-- two values in, by f -/
noncomputable def rOp (Γ : Gm) (f : DV.D → DV.D → DV.Sto → DV.R DV.D) : R2 := fun x y H Q => ∃ φ s a b d s', Rp Γ φ H s ∧ RV Γ φ H a x ∧ RV Γ φ H b y ∧ a.bnd s.length = true ∧ b.bnd s.length = true ∧ f a b s = .ok d s' ∧ After Γ φ s H d s' Q
theorem pur_inv {d e : DV.D} {s t : DV.Sto} (h : DV.pur d s = .ok e t) : d = e ∧ s = t := by
  unfold DV.pur at h
  cases h
  exact ⟨rfl, rfl⟩
theorem alloc_inv {o : DV.O} {e : DV.D} {s t : DV.Sto} (h : DV.alloc o s = .ok e t) : e = .ref s.length ∧ t = s ++ [o] := by
  unfold DV.alloc at h
  cases h
  exact ⟨rfl, rfl⟩
theorem str_app (a b : List Nat) : (⟨a.toArray⟩ : Str) ++ ⟨b.toArray⟩ = ⟨(a ++ b).toArray⟩ := by
  show Str.append _ _ = _
  unfold Str.append
  simp
theorem LIM_le : DV.LIM ≤ sizeLine := by rw [sizeLine_eq]; decide
theorem op_mulB : OpR X (binaryOp .Mult) (rI (fun i j => DV.mulOk i j = true) fun i j => .int (i * j)) := opI fun i j _ _ _ _ _ hc q => mul_int q (by
  unfold DV.mulOk at hc
  simp only [Bool.or_eq_true, Bool.and_eq_true, decide_eq_true_eq] at hc
  rcases hc with (h | h) | ⟨h1, h2⟩
  · exact CMul.ok (.inl (by omega))
  · exact CMul.ok (.inr (by omega))
  · unfold DV.BIG at h1 h2
    exact IntMulOk.of_le (m := 60000) (n := 60000) (intBits_le_iff.mpr h1) (intBits_le_iff.mpr h2) (by decide))
theorem rep_fold (l : List Nat) : ∀ (n : Nat) (acc : Array Nat), (List.replicate n l.toArray).foldl (· ++ ·) acc = acc ++ (DV.rep n l).toArray
  | 0, acc => by simp [DV.rep]
  | n + 1, acc => by
    rw [List.replicate_succ, List.foldl_cons, rep_fold l n]
    simp [DV.rep, Array.append_assoc]
theorem rep_one (l : List Nat) : DV.rep 1 l = l := by simp [DV.rep]
theorem rep_nil : ∀ n, DV.rep n [] = []
  | 0 => rfl
  | n + 1 => by simp [DV.rep, rep_nil n]
theorem rep_len (l : List Nat) : ∀ n, (DV.rep n l).length = l.length * n
  | 0 => by simp [DV.rep]
  | n + 1 => by simp [DV.rep, rep_len l n, Nat.mul_add]; omega
theorem op_mulS : OpR X (binaryOp .Mult) (fun x y H Q => ∃ (l : List Nat) (n : Int), x = .str ⟨l.toArray⟩ ∧ y = .int n ∧ (0 ≤ n ∧ n ≤ 1000000 ∧ l.length * n.toNat ≤ DV.LIM) ∧ Q (.str ⟨(DV.rep n.toNat l).toArray⟩) H) := by
  intro pins s σ H x y v u Q I rx ry h
  obtain ⟨l, n, rfl, rfl, ⟨h0, h1, h2⟩, q⟩ := h
  obtain ⟨t, rfl⟩ := rx
  obtain ⟨t', rfl⟩ := ry
  have hlen : (⟨l.toArray⟩ : Str).length = l.length := by show l.toArray.size = _; simp
  have hL := LIM_le
  have h64 := line63
  refine SB.mul ⟨?_, fun hn _ => ?_, fun hn _ => ?_⟩ fun t2 k => ?_
  · rw [decide_eq_false (by omega), decide_eq_false (by omega)]; rfl
  · rw [hlen]
    have hn1 : 1 ≤ n := by omega
    intro hgt
    have h3 : (l.length : Int) * n ≤ 1000000 := by
      have : ((l.length * n.toNat : Nat) : Int) ≤ (DV.LIM : Nat) := Int.ofNat_le.mpr h2
      rw [Int.natCast_mul, Int.toNat_of_nonneg h0] at this
      have e : ((DV.LIM : Nat) : Int) = 1000000 := by unfold DV.LIM; rfl
      omega
    have h4 : (l.length : Int) ≤ 1000000 := by
      have : (l.length : Int) * 1 ≤ (l.length : Int) * n := Int.mul_le_mul_of_nonneg_left hn1 (by omega)
      omega
    have h5 : (1000000 : Int) ≤ (2 ^ 63 - 1) / n := by
      rw [Int.le_ediv_iff_mul_le (by omega)]
      have : (1000000 : Int) * n ≤ 1000000 * 1000000 := Int.mul_le_mul_of_nonneg_left h1 (by omega)
      omega
    omega
  · rw [hlen]
    unfold PySem.Builtin.Str.tooLong
    exact decide_eq_false (by omega)
  · have e : Txt.mul ⟨l.toArray⟩ n = ⟨(DV.rep n.toNat l).toArray⟩ := by
      unfold Txt.mul
      split
      · have : n.toNat = 0 := by omega
        rw [this]; rfl
      · split
        · rename_i hc
          rw [Bool.or_eq_true] at hc
          rcases hc with hc | hc
          · have : n = 1 := by simpa using hc
            subst this
            show (⟨l.toArray⟩ : Str) = ⟨(DV.rep 1 l).toArray⟩
            rw [rep_one]
          · have : l = [] := by
              have := eq_of_beq hc
              rw [hlen] at this
              exact List.length_eq_zero_iff.mp this
            subst this
            rw [rep_nil]
        · show (⟨(List.replicate n.toNat l.toArray).foldl (· ++ ·) #[]⟩ : Str) = _
          rw [rep_fold]; simp
    rw [e]
    exact ⟨.str _, H, I.tok _, ⟨_, rfl⟩, q⟩
theorem bndL_repD {n : Nat} {l : List DV.D} (h : DV.D.bndL n l = true) : ∀ k, DV.D.bndL n (DV.repD k l) = true
  | 0 => rfl
  | k + 1 => bndL_append h (bndL_repD h k)
theorem RVL.repD {φ : Nat → Addr} {H : Hp} {l : List DV.D} {xs : List V} (h : RVL Γ φ H l xs) : ∀ k, RVL Γ φ H (DV.repD k l) (repT k xs)
  | 0 => RVL.nil
  | k + 1 => h.append (RVL.repD h k)
theorem repT_flat {α : Type} (xs : List α) : ∀ k, repT k xs = (List.replicate k xs).flatten
  | 0 => rfl
  | k + 1 => by rw [List.replicate_succ, List.flatten_cons, ← repT_flat xs k]; rfl
theorem op_bin (hK : X.K = Γ.K) (op : DV.BOp) : OpR X (binaryOp (opOf op)) (rOp Γ (DV.binop op)) := by
  intro pins s σ H x y v u Q I rx ry h
  obtain ⟨φ, st, a, b, d, st', R, ha, hb, na, nb, hf, q⟩ := h
  cases op with
  | add =>
    cases a with
    | int a =>
      cases b with
      | int b =>
        change (DV.pur _) st = _ at hf
        obtain ⟨rfl, rfl⟩ := pur_inv hf
        have ex := ha.intE; have ey := hb.intE; subst ex; subst ey
        exact op_add pins s σ H _ _ v u Q I rx ry ⟨_, _, rfl, rfl, q.here R rfl RV.intI⟩
      | _ => cases hf
    | str a =>
      cases b with
      | str b =>
        change (if _ then _ else _ : DV.M DV.D) st = _ at hf
        split at hf
        · rename_i hl
          obtain ⟨rfl, rfl⟩ := pur_inv hf
          have ex := ha.strE; have ey := hb.strE; subst ex; subst ey
          refine op_add_str pins s σ H _ _ v u Q I rx ry ⟨_, _, rfl, rfl, ?_, ?_⟩
          · show a.toArray.size + b.toArray.size ≤ _
            simp only [List.size_toArray]
            exact Nat.le_trans hl LIM_le
          · rw [str_app]; exact q.here R rfl (RV.strI (by rw [List.length_append]; exact hl))
        · cases hf
      | _ => cases hf
    | tup a =>
      cases b with
      | tup b =>
        change (if _ then _ else _ : DV.M DV.D) st = _ at hf
        split at hf
        · rename_i hl
          obtain ⟨rfl, rfl⟩ := pur_inv hf
          obtain ⟨p, xs, rfl, h1, d1⟩ := ha.tupE
          obtain ⟨p', ys, rfl, h2, d2⟩ := hb.tupE
          refine op_catK hK pins s σ H _ _ v u Q I rx ry ⟨p, p', xs, ys, rfl, rfl, h1, h2, ?_, fun t H' e ht => ?_⟩
          · rw [d1.length, d2.length]; exact Nat.le_trans hl LIM_le
          · obtain ⟨g, r'⟩ := R.same e
            unfold DV.D.bnd at na nb
            exact q _ _ _ g (Nat.le_refl _) (by unfold DV.D.bnd; exact bndL_append na nb) (RV.tupI ht ((RVL.mono g _ _ na d1).append (RVL.mono g _ _ nb d2))) r'
        · cases hf
      | _ => cases hf
    | ref a =>
      cases b with
      | ref b =>
        change (match st[a]?, st[b]? with | some (DV.O.lst l), some (DV.O.lst m) => if l.length + m.length ≤ DV.LIM then DV.alloc (.lst (l ++ m)) st else .bad | _, _ => .bad : DV.R DV.D) = _ at hf
        split at hf
        · rename_i l m h1 h2
          split at hf
          · rename_i hl
            obtain ⟨rfl, rfl⟩ := alloc_inv hf
            obtain ⟨xs, e1, d1⟩ := R.addr h1
            obtain ⟨ys, e2, d2⟩ := R.addr h2
            have ex := ha.refE; have ey := hb.refE; subst ex; subst ey
            have b1 := R.wf _ _ h1
            have b2 := R.wf _ _ h2
            unfold DV.O.bnd at b1 b2
            refine op_cat pins s σ H _ _ v u Q I rx ry ⟨φ a, φ b, xs, ys, rfl, rfl, e1, e2, ?_, fun p hp => ?_⟩
            · rw [d1.length, d2.length]; exact Nat.le_trans hl LIM_le
            · exact q.alloc R (d1.append d2) (bndL_append b1 b2) hp
          · cases hf
        · cases hf
      | _ => cases hf
    | _ => cases hf
  | sub =>
    cases a with
    | int a =>
      cases b with
      | int b =>
        change (DV.pur _) st = _ at hf
        obtain ⟨rfl, rfl⟩ := pur_inv hf
        have ex := ha.intE; have ey := hb.intE; subst ex; subst ey
        exact op_sub pins s σ H _ _ v u Q I rx ry ⟨_, _, rfl, rfl, q.here R rfl RV.intI⟩
      | _ => cases hf
    | _ => cases hf
  | mul =>
    cases a with
    | int a =>
      cases b with
      | int b =>
        change (if _ then _ else _ : DV.M DV.D) st = _ at hf
        split at hf
        · rename_i hc
          obtain ⟨rfl, rfl⟩ := pur_inv hf
          have ex := ha.intE; have ey := hb.intE; subst ex; subst ey
          exact op_mulB pins s σ H _ _ v u Q I rx ry ⟨_, _, rfl, rfl, hc, q.here R rfl RV.intI⟩
        · cases hf
      | _ => cases hf
    | str a =>
      cases b with
      | int b =>
        change (if _ then _ else _ : DV.M DV.D) st = _ at hf
        split at hf
        · rename_i hc
          obtain ⟨rfl, rfl⟩ := pur_inv hf
          have ex := ha.strE; have ey := hb.intE; subst ex; subst ey
          exact op_mulS pins s σ H _ _ v u Q I rx ry ⟨_, _, rfl, rfl, hc, q.here R rfl (RV.strI (by rw [rep_len]; exact hc.2.2))⟩
        · cases hf
      | _ => cases hf
    | tup a =>
      cases b with
      | int b =>
        change (if _ then _ else _ : DV.M DV.D) st = _ at hf
        split at hf
        · rename_i hc
          obtain ⟨rfl, rfl⟩ := pur_inv hf
          obtain ⟨p, xs, rfl, h1, d1⟩ := ha.tupE
          have ey := hb.intE; subst ey
          refine op_mulT hK pins s σ H _ _ v u Q I rx ry ⟨p, xs, _, rfl, rfl, h1, ⟨hc.1, hc.2.1, by rw [d1.length]; exact hc.2.2⟩, fun t H' e ht => ?_⟩
          obtain ⟨g, r'⟩ := R.same e
          unfold DV.D.bnd at na
          exact q _ _ _ g (Nat.le_refl _) (by unfold DV.D.bnd; exact bndL_repD na _) (RV.tupI ht (RVL.repD (RVL.mono g _ _ na d1) _)) r'
        · cases hf
      | _ => cases hf
    | ref a =>
      cases b with
      | int b =>
        change (match st[a]? with | some (DV.O.lst l) => if 0 ≤ b ∧ b ≤ 1000000 ∧ l.length * b.toNat ≤ DV.LIM then DV.alloc (.lst (DV.repD b.toNat l)) st else .bad | _ => .bad : DV.R DV.D) = _ at hf
        split at hf
        · rename_i l h1
          split at hf
          · rename_i hc
            obtain ⟨rfl, rfl⟩ := alloc_inv hf
            obtain ⟨xs, e1, d1⟩ := R.addr h1
            have ex := ha.refE; have ey := hb.intE; subst ex; subst ey
            have b1 := R.wf _ _ h1
            unfold DV.O.bnd at b1
            refine op_rep pins s σ H _ _ v u Q I rx ry ⟨φ a, b, xs, rfl, rfl, e1, by omega, by omega, ?_, fun p hp => ?_⟩
            · rw [d1.length]; exact Nat.le_trans hc.2.2 LIM_le
            · rw [← repT_flat]; exact q.alloc R (RVL.repD d1 _) (bndL_repD b1 _) hp
          · cases hf
        · cases hf
      | _ => cases hf
    | _ => cases hf
  | fdiv =>
    cases a with
    | int a =>
      cases b with
      | int b =>
        change (if _ then _ else _ : DV.M DV.D) st = _ at hf
        split at hf
        · rename_i hc
          obtain ⟨rfl, rfl⟩ := pur_inv hf
          have ex := ha.intE; have ey := hb.intE; subst ex; subst ey
          refine op_fdivL pins s σ H _ _ v u Q I rx ry ⟨_, _, rfl, rfl, ⟨hc.1, ?_⟩, q.here R rfl RV.intI⟩
          have := hc.2
          unfold DV.DIVL at this
          simpa using this
        · cases hf
      | _ => cases hf
    | _ => cases hf
  | mod =>
    cases a with
    | int a =>
      cases b with
      | int b =>
        change (if _ then _ else _ : DV.M DV.D) st = _ at hf
        split at hf
        · rename_i hc
          obtain ⟨rfl, rfl⟩ := pur_inv hf
          have ex := ha.intE; have ey := hb.intE; subst ex; subst ey
          exact op_mod pins s σ H _ _ v u Q I rx ry ⟨_, _, rfl, rfl, hc, q.here R rfl RV.intI⟩
        · cases hf
      | _ => cases hf
    | _ => cases hf
  | pow =>
    cases a with
    | int a =>
      cases b with
      | int b =>
        change (if _ then _ else _ : DV.M DV.D) st = _ at hf
        split at hf
        · rename_i hc
          obtain ⟨rfl, rfl⟩ := pur_inv hf
          have ex := ha.intE; have ey := hb.intE; subst ex; subst ey
          exact op_pow pins s σ H _ _ v u Q I rx ry ⟨_, _, rfl, rfl, hc, q.here R rfl RV.intI⟩
        · cases hf
      | _ => cases hf
    | _ => cases hf
  | shl =>
    cases a with
    | int a =>
      cases b with
      | int b =>
        change (if _ then _ else _ : DV.M DV.D) st = _ at hf
        split at hf
        · rename_i hc
          obtain ⟨rfl, rfl⟩ := pur_inv hf
          have ex := ha.intE; have ey := hb.intE; subst ex; subst ey
          exact op_shl pins s σ H _ _ v u Q I rx ry ⟨_, _, rfl, rfl, hc, q.here R rfl RV.intI⟩
        · cases hf
      | _ => cases hf
    | _ => cases hf
  | shr =>
    cases a with
    | int a =>
      cases b with
      | int b =>
        change (if _ then _ else _ : DV.M DV.D) st = _ at hf
        split at hf
        · rename_i hc
          obtain ⟨rfl, rfl⟩ := pur_inv hf
          have ex := ha.intE; have ey := hb.intE; subst ex; subst ey
          exact op_shr pins s σ H _ _ v u Q I rx ry ⟨_, _, rfl, rfl, hc, q.here R rfl RV.intI⟩
        · cases hf
      | _ => cases hf
    | _ => cases hf
  | band => cases hf
  | bor => cases hf
end L2
end

set_option Elab.async false
set_option linter.all false
set_option maxRecDepth 100000
set_option maxHeartbeats 4000000
noncomputable section
namespace L2
open PySem PySem.Spec PyProof.Rows
variable {Γ : Gm} {X : Cx} {pins : List (Addr × Obj)} {σ : St} {H : Hp} {sh : Shared} {φ : Nat → Addr} {s : DV.Sto}
/-! ### in -/
theorem eqv_kd {n : Nat} {a b : DV.D} {z : Bool} (h : DV.eqv s n a b = some z) : DV.kd s a ≠ 9 := by
  cases n with
  | zero => unfold DV.eqv at h; exact (eqAtom_kd h).1
  | succ n =>
    unfold DV.eqv at h
    split at h
    · simp [DV.kd]
    · split at h
      · rename_i h1 _; simp [DV.kd, h1]
      · cases h
    · exact (eqAtom_kd h).1
theorem eqv_congr (I : Inv X pins σ H sh) (hK : X.K = Γ.K) (R : Rp Γ φ H s) : ∀ (n : Nat) (a b c : DV.D) (x : V) (p q : Bool), RV Γ φ H a x → RV Γ φ H b x → DV.eqv s n a c = some p → DV.eqv s n b c = some q → p = q := by
  intro n
  induction n with
  | zero =>
    intro a b c x p q h1 h2 e1 e2
    rcases rv_two I hK R h1 h2 (eqv_kd e1) (eqv_kd e2) with e | ⟨l, m, _, _, rfl, rfl, _⟩
    · subst e; rw [e1] at e2; exact Option.some.inj e2
    · unfold DV.eqv at e1 e2
      have : DV.eqAtom s (.tup l) c = DV.eqAtom s (.tup m) c := by unfold DV.eqAtom; cases c <;> rfl
      rw [this, e2] at e1; exact (Option.some.inj e1).symm
  | succ n ih =>
    have ihL : ∀ (l m k : List DV.D) (xs : List V) (p q : Bool), RVL Γ φ H l xs → RVL Γ φ H m xs → DV.eqL (DV.eqv s n) l k = some p → DV.eqL (DV.eqv s n) m k = some q → p = q := by
      intro l
      induction l with
      | nil =>
        intro m k xs p q h1 h2 e1 e2
        have := h1.unnil; subst this
        have hm : m = [] := by have := h2.length; exact List.length_eq_zero_iff.mp this.symm
        subst hm
        rw [e1] at e2; exact Option.some.inj e2
      | cons a l ihl =>
        intro m k xs p q h1 h2 e1 e2
        obtain ⟨x, r, rfl, g1, g2⟩ := h1.uncons
        cases m with
        | nil => have := h2.unnil; cases this
        | cons b m =>
          obtain ⟨x', r', e, g3, g4⟩ := h2.uncons
          cases e
          cases k with
          | nil => unfold DV.eqL at e1 e2; rw [← Option.some.inj e1, ← Option.some.inj e2]
          | cons c k =>
            obtain ⟨p1, p2, a1, a2, a3⟩ := eqL_cons e1
            obtain ⟨q1, q2, b1, b2, b3⟩ := eqL_cons e2
            rw [a3, b3, ih a b c x p1 q1 g1 g3 a1 b1, ihl m k r p2 q2 g2 g4 a2 b2]
    intro a b c x p q h1 h2 e1 e2
    rcases rv_two I hK R h1 h2 (eqv_kd e1) (eqv_kd e2) with e | ⟨l, m, _, xs, rfl, rfl, _, d1, d2⟩
    · subst e; rw [e1] at e2; exact Option.some.inj e2
    · cases c with
      | tup k => unfold DV.eqv at e1 e2; exact ihL l m k xs p q d1 d2 e1 e2
      | _ =>
        unfold DV.eqv at e1 e2
        simp only at e1 e2
        have e3 : DV.eqAtom s (.tup l) = DV.eqAtom s (.tup m) := by funext c; unfold DV.eqAtom; cases c <;> rfl
        rw [e3] at e1
        exact Option.some.inj (e1.symm.trans e2)
/-- what inL tells, place by place -/
theorem inL_at {x : DV.D} : ∀ {l : List DV.D} {z : Bool}, DV.inL s x l = some z → ∃ e : Nat → Bool, (∀ j d, l[j]? = some d → DV.eqv s DV.DEEP d x = some (e j)) ∧ (z = true ↔ ∃ j, j < l.length ∧ e j = true)
  | [], z, h => by
    unfold DV.inL at h
    cases h
    exact ⟨fun _ => true, fun j d h => by simp at h, by simp⟩
  | y :: l, z, h => by
    unfold DV.inL at h
    cases e1 : DV.eqv s DV.DEEP y x with
    | none => rw [e1] at h; cases h
    | some a =>
      cases e2 : DV.inL s x l with
      | none => rw [e1, e2] at h; cases h
      | some b =>
        rw [e1, e2] at h
        obtain ⟨e, h1, h2⟩ := inL_at e2
        refine ⟨fun j => match j with | 0 => a | j + 1 => e j, fun j d g => ?_, ?_⟩
        · cases j with
          | zero => simp at g; subst g; exact e1
          | succ j => exact h1 j d (by simpa using g)
        · have hz : (a || b) = z := Option.some.inj h
          rw [← hz, Bool.or_eq_true, h2]
          constructor
          · rintro (q | ⟨j, hj, q⟩)
            · exact ⟨0, by simp, q⟩
            · exact ⟨j + 1, by simpa using hj, q⟩
          · rintro ⟨j, hj, q⟩
            cases j with
            | zero => exact .inl q
            | succ j => exact .inr ⟨j, by simpa using hj, q⟩
theorem in_fun2 (I : Inv X pins σ H sh) (hK : X.K = Γ.K) (R : Rp Γ φ H s) {x : DV.D} {xv : V} {xu : Value} (hx : RV Γ φ H x xv) (rx : RelV xv xu) {l : List DV.D} {ys : List V} {its : List Value} (hl : RVL Γ φ H l ys) (hv : Vals ys its) {z : Bool} (h : DV.inL s x l = some z) {A : Around} (hr : Room DV.DEEP A) :
    ∃ (e : Value → Bool) (e' : Nat → Bool), (∀ y, y ∈ its.toArray → SeqAt.EqAt A sh y xu (e y)) ∧ (∀ j u, its[j]? = some u → e u = e' j) ∧ ∀ j d, l[j]? = some d → DV.eqv s DV.DEEP d x = some (e' j) := by
  obtain ⟨e, h1, h2⟩ := inL_at h
  have len : its.length = l.length := by rw [← hv.length]; exact hl.length
  have at' : ∀ j u, its[j]? = some u → ∃ d y, l[j]? = some d ∧ ys[j]? = some y ∧ RV Γ φ H d y ∧ RelV y u := fun j u g => by
    have hj : j < l.length := by rw [← len]; exact (List.getElem?_eq_some_iff.mp g).1
    obtain ⟨y, g1, g2⟩ := hl.get (List.getElem?_eq_getElem hj)
    obtain ⟨u', g3, g4⟩ := hv.get g1
    rw [g] at g3; cases g3
    exact ⟨_, y, List.getElem?_eq_getElem hj, g1, g2, g4⟩
  classical
  let f : Value → Bool := fun u => decide (∃ j, its[j]? = some u ∧ e j = true)
  have hf : ∀ j u, its[j]? = some u → f u = e j := fun j u g => by
    obtain ⟨d, y, g1, g2, g3, g4⟩ := at' j u g
    cases q : e j with
    | true => exact decide_eq_true ⟨j, g, q⟩
    | false =>
      refine decide_eq_false fun ⟨k, g', q'⟩ => ?_
      obtain ⟨d', y', k1, k2, k3, k4⟩ := at' k u g'
      have ey : y' = y := k4.inj g4
      subst ey
      have := eqv_congr I hK R _ d d' x _ _ _ g3 k3 (h1 j d g1) (h1 k d' k1)
      rw [q, q'] at this; cases this
  refine ⟨f, e, fun u hu => ?_, hf, h1⟩
  obtain ⟨j, hj, g⟩ := List.mem_iff_getElem.mp (by simpa using hu : u ∈ its)
  have g' : its[j]? = some u := by rw [List.getElem?_eq_getElem hj, g]
  obtain ⟨d, y, g1, g2, g3, g4⟩ := at' j u g'
  rw [hf j u g']
  exact (eqv_ok I hK R _ d x y xv u xu A _ (h1 j d g1) g3 hx g4 rx hr).1
end L2
end

set_option Elab.async false
set_option linter.all false
set_option maxRecDepth 100000
set_option maxHeartbeats 4000000
noncomputable section
namespace L2
open PySem PySem.Spec PyProof.Rows
variable {Γ : Gm} {X : Cx}
theorem bind_inv {α β : Type} {r : DV.R α} {f : α → DV.Sto → DV.R β} {b : β} {t : DV.Sto} (h : r.bind f = .ok b t) : ∃ a s, r = .ok a s ∧ f a s = .ok b t := DV.R.bind_inv h
/-- two whole numbers, where an order was told -/
theorem ord_inv {op : DV.COp} {a b d : DV.D} {st st' : DV.Sto} (ho : op = .lt ∨ op = .le ∨ op = .gt ∨ op = .ge) (h : DV.cmpop op a b st = .ok d st') : ∃ i j, a = .int i ∧ b = .int j := by
  rcases ho with rfl | rfl | rfl | rfl <;>
  (cases a with
  | int i =>
    (cases b with
    | int j => exact ⟨i, j, rfl, rfl⟩
    | _ => cases h)
  | _ => cases h)
theorem op_cmp (hK : X.K = Γ.K) (hr : Room (DV.DEEP + 1) X.A) (op : DV.COp) : OpR X (compareOp (copOf op)) (rOp Γ (DV.cmpop op)) := by
  intro pins s σ H x y v u Q I rx ry h
  obtain ⟨φ, st, a, b, d, st', R, ha, hb, na, nb, hf, q⟩ := h
  cases op with
  | eq =>
    have hf : DV.eqM a b st = .ok d st' := hf
    unfold DV.eqM at hf
    cases e : DV.eqv st DV.DEEP a b with
    | none => rw [e] at hf; cases hf
    | some z =>
      rw [e] at hf; cases hf
      exact (eqv_ok I hK R _ a b x y v u X.A z e ha hb rx ry (hr.mono (by omega))).2.rc X.prog X.w X.xe _ ⟨.bl z, H, I, rfl, q.here R rfl RV.blI⟩
  | ne =>
    have hf : (match DV.eqv st DV.DEEP a b with | some r => .ok (.bl (!r)) st | none => .bad : DV.R DV.D) = .ok d st' := hf
    cases e : DV.eqv st DV.DEEP a b with
    | none => rw [e] at hf; cases hf
    | some z =>
      rw [e] at hf; cases hf
      exact (eqv_ok I hK R _ a b x y v u X.A z e ha hb rx ry (hr.mono (by omega))).2.ne X.prog X.w X.xe _ ⟨.bl (!z), H, I, rfl, q.here R rfl RV.blI⟩
  | lt =>
    obtain ⟨i, j, rfl, rfl⟩ := ord_inv (.inl rfl) hf
    cases hf
    have ex := ha.intE; have ey := hb.intE; subst ex; subst ey
    exact op_lt pins s σ H _ _ v u Q I rx ry ⟨_, _, rfl, rfl, q.here R rfl RV.blI⟩
  | le =>
    obtain ⟨i, j, rfl, rfl⟩ := ord_inv (.inr (.inl rfl)) hf
    cases hf
    have ex := ha.intE; have ey := hb.intE; subst ex; subst ey
    exact op_le pins s σ H _ _ v u Q I rx ry ⟨_, _, rfl, rfl, q.here R rfl RV.blI⟩
  | gt =>
    obtain ⟨i, j, rfl, rfl⟩ := ord_inv (.inr (.inr (.inl rfl))) hf
    cases hf
    have ex := ha.intE; have ey := hb.intE; subst ex; subst ey
    exact op_gt pins s σ H _ _ v u Q I rx ry ⟨_, _, rfl, rfl, q.here R rfl RV.blI⟩
  | ge =>
    obtain ⟨i, j, rfl, rfl⟩ := ord_inv (.inr (.inr (.inr rfl))) hf
    cases hf
    have ex := ha.intE; have ey := hb.intE; subst ex; subst ey
    exact op_ge pins s σ H _ _ v u Q I rx ry ⟨_, _, rfl, rfl, q.here R rfl RV.blI⟩
  | isin => cases hf
  | notin => cases hf
/-! ### places -/
theorem atI_of {φ : Nat → Addr} {H : Hp} {l : List DV.D} {xs : List V} {i : Int} {d : DV.D} (h : RVL Γ φ H l xs) (e : ((DV.ixn l.length i).bind fun j => l[j]?) = some d) : ∃ v, atI xs i = some v ∧ RV Γ φ H d v := by
  cases hj : DV.ixn l.length i with
  | none => rw [hj] at e; cases e
  | some j =>
    rw [hj] at e
    obtain ⟨v, e1, e2⟩ := h.get (show l[j]? = some d from e)
    refine ⟨v, ?_, e2⟩
    unfold atI
    have : ixN xs.length i = some j := by rw [h.length]; exact hj
    rw [this]; exact e1
theorem ixn_mem {l : List DV.D} {i : Int} {d : DV.D} (e : ((DV.ixn l.length i).bind fun j => l[j]?) = some d) : d ∈ l := by
  cases hj : DV.ixn l.length i with
  | none => rw [hj] at e; cases e
  | some j => rw [hj] at e; exact List.mem_of_getElem? (show l[j]? = some d from e)
theorem ix_ok (hK : X.K = Γ.K) : IxR X (rOp Γ DV.ixM) := by
  intro value slice pins s σ H x y v u Q I rx ry h hs
  obtain ⟨φ, st, a, b, d, st', R, ha, hb, na, nb, hf, q⟩ := h
  unfold DV.ixM at hf
  cases a with
  | tup l =>
    cases b with
    | int i =>
      simp only at hf
      split at hf
      · rename_i d' e
        cases hf
        obtain ⟨p, xs, rfl, h1, d1⟩ := ha.tupE
        have ey := hb.intE; subst ey
        obtain ⟨w, e1, e2⟩ := atI_of d1 e
        unfold DV.D.bnd at na
        exact ix_tupK hK value slice pins s σ H _ _ v u Q I rx ry ⟨p, xs, i, w, rfl, rfl, h1, e1, q.here R (bndL_iff.mp na _ (ixn_mem e)) e2⟩ hs
      · cases hf
    | _ => cases hf
  | str l =>
    cases b with
    | int i =>
      simp only at hf
      split at hf
      · rename_i c e
        cases hf
        have hl := ha.strL
        have ex := ha.strE; have ey := hb.intE; subst ex; subst ey
        exact ix_str value slice pins s σ H _ _ v u Q I rx ry ⟨⟨l.toArray⟩, i, c, rfl, rfl, by show l.toArray.size ≤ _; rw [List.size_toArray]; exact Nat.le_trans hl LIM_le, e, q.here R rfl (RV.strI (by simp; decide))⟩ hs
      · cases hf
    | _ => cases hf
  | ref r =>
    have ex := ha.refE; subst ex
    simp only at hf
    cases hsr : st[r]? with
    | none => rw [hsr] at hf; cases hf
    | some o =>
      rw [hsr] at hf
      cases o with
      | lst l =>
        cases b with
        | int i =>
          simp only at hf
          split at hf
          · rename_i d' e
            cases hf
            have ey := hb.intE; subst ey
            obtain ⟨xs, e1, d1⟩ := R.addr hsr
            obtain ⟨w, e2, e3⟩ := atI_of d1 e
            have wf := R.wf _ _ hsr
            unfold DV.O.bnd at wf
            exact ix_listK hK value slice pins s σ H _ _ v u Q I rx ry ⟨φ r, xs, i, w, rfl, rfl, SqL.of e1, e2, q.here R (bndL_iff.mp wf _ (ixn_mem e)) e3⟩ hs
          · cases hf
        | _ => cases hf
      | ro l =>
        cases b with
        | int i =>
          simp only at hf
          split at hf
          · rename_i d' e
            cases hf
            have ey := hb.intE; subst ey
            obtain ⟨xs, e1, d1⟩ := R.obj _ _ hsr
            obtain ⟨w, e2, e3⟩ := atI_of d1 e
            have wf := R.wf _ _ hsr
            unfold DV.O.bnd at wf
            exact ix_listK hK value slice pins s σ H _ _ v u Q I rx ry ⟨φ r, xs, i, w, rfl, rfl, e1.1, e2, q.here R (bndL_iff.mp wf _ (ixn_mem e)) e3⟩ hs
          · cases hf
        | _ => cases hf
      | dic l => exact (R.obj r _ hsr).elim
      | ins c l => cases b <;> cases hf
  | _ => cases b <;> cases hf
/-! ### slices -/
end L2
end

set_option Elab.async false
set_option linter.all false
set_option maxRecDepth 100000
set_option maxHeartbeats 4000000
noncomputable section
namespace L2
open PySem PySem.Spec PyProof.Rows
variable {Γ : Gm} {X : Cx}
/-- values in, by f -/
noncomputable def rCl (Γ : Gm) (f : List DV.D → DV.Sto → DV.R DV.D) : List V → Hp → VK → Prop := fun xs H Q => ∃ φ s l d s', Rp Γ φ H s ∧ RVL Γ φ H l xs ∧ DV.D.bndL s.length l = true ∧ f l s = .ok d s' ∧ After Γ φ s H d s' Q
theorem RVL.one {φ : Nat → Addr} {H : Hp} {d : DV.D} {xs : List V} (h : RVL Γ φ H [d] xs) : ∃ x, xs = [x] ∧ RV Γ φ H d x := by
  obtain ⟨x, r, rfl, h1, h2⟩ := h.uncons
  rw [h2.unnil]; exact ⟨x, rfl, h1⟩
theorem mx3_max (a b c : Int) : mx3 a b c = max (max a b) c := by unfold mx3 mx; split <;> split <;> omega
/-- the name of a built-in function, and how many it takes -/
noncomputable def biN : DV.Bi → Option (String × Nat)
  | .len => some ("len", 1) | .abs => some ("abs", 1) | .min2 => some ("min", 2) | .max2 => some ("max", 2) | .max3 => some ("max", 3) | _ => none
theorem intsOf_inv : ∀ {l : List DV.D} {is : List Int}, DV.intsOf l = some is → l = is.map DV.D.int
  | [], is, h => by unfold DV.intsOf at h; cases h; rfl
  | d :: l, is, h => by
    cases d with
    | int i =>
      have h : (DV.intsOf l).map (i :: ·) = some is := h
      cases e : DV.intsOf l with
      | none => rw [e] at h; cases h
      | some m => rw [e] at h; cases h; rw [intsOf_inv e]; rfl
    | _ => cases h
theorem blsOf_inv : ∀ {l : List DV.D} {is : List Bool}, DV.blsOf l = some is → l = is.map DV.D.bl
  | [], is, h => by unfold DV.blsOf at h; cases h; rfl
  | d :: l, is, h => by
    cases d with
    | bl i =>
      have h : (DV.blsOf l).map (i :: ·) = some is := h
      cases e : DV.blsOf l with
      | none => rw [e] at h; cases h
      | some m => rw [e] at h; cases h; rw [blsOf_inv e]; rfl
    | _ => cases h
theorem RVL.ints {φ : Nat → Addr} {H : Hp} : ∀ {is : List Int} {xs : List V}, RVL Γ φ H (is.map DV.D.int) xs → xs = is.map V.int
  | [], _, h => h.unnil
  | i :: is, _, h => by
    obtain ⟨x, r, rfl, h1, h2⟩ := RVL.uncons h
    rw [h1.intE, RVL.ints h2]; rfl
theorem RVL.bls {φ : Nat → Addr} {H : Hp} : ∀ {is : List Bool} {xs : List V}, RVL Γ φ H (is.map DV.D.bl) xs → xs = is.map V.bl
  | [], _, h => h.unnil
  | i :: is, _, h => by
    obtain ⟨x, r, rfl, h1, h2⟩ := RVL.uncons h
    rw [h1.blE, RVL.bls h2]; rfl
theorem bi1_inv {f : DV.D → DV.M DV.D} {l : List DV.D} {s s' : DV.Sto} {d : DV.D} (h : DV.bi1 f l s = .ok d s') : ∃ a, l = [a] ∧ f a s = .ok d s' := by
  match l, h with
  | [a], h => exact ⟨a, rfl, h⟩
  | [], h => cases h
  | _ :: _ :: _, h => cases h
theorem bi_ok (hK : X.K = Γ.K) (hc : X.calm = true) {b : DV.Bi} {nm : String} {k : Nat} (hn : biN b = some (nm, k)) : CallR X (.builtin nm) (rCl Γ (DV.bi b)) := by
  intro pins s σ H xs us Q I r h
  obtain ⟨φ, st, l, d, st', R, hl, nl, hf, q⟩ := h
  cases b with
  | len =>
    cases hn
    have hf : DV.bi1 DV.lenM l st = .ok d st' := hf
    obtain ⟨a, rfl, hg⟩ := bi1_inv hf
    clear hf
    obtain ⟨x, rfl, hx⟩ := hl.one
    unfold DV.lenM at hg
    cases a with
    | tup l =>
      cases hg
      obtain ⟨p, ys, rfl, h1, d1⟩ := hx.tupE
      refine call_lenK hK pins s σ H _ us Q I r ⟨p, ys, rfl, .inr h1, ?_⟩
      rw [d1.length]; exact q.here R rfl RV.intI
    | str l =>
      cases hg
      have hL := hx.strL
      have e := hx.strE; subst e
      refine call_len_str pins s σ H _ us Q I r ⟨_, rfl, by show l.toArray.size ≤ _; rw [List.size_toArray]; exact Nat.le_trans hL LIM_le, ?_⟩
      show Q (.int ((l.toArray.size : Nat) : Int)) H
      rw [List.size_toArray]
      exact q.here R rfl RV.intI
    | ref n =>
      have e := hx.refE; subst e
      simp only at hg
      cases hs : st[n]? with
      | none => rw [hs] at hg; cases hg
      | some o =>
        rw [hs] at hg
        cases o with
        | lst l =>
          cases hg
          obtain ⟨ys, e1, d1⟩ := R.addr hs
          refine call_lenK hK pins s σ H _ us Q I r ⟨φ n, ys, rfl, .inl (SqL.of e1), ?_⟩
          rw [d1.length]; exact q.here R rfl RV.intI
        | ro l =>
          cases hg
          obtain ⟨ys, e1, d1⟩ := R.obj _ _ hs
          refine call_lenK hK pins s σ H _ us Q I r ⟨φ n, ys, rfl, .inl e1.1, ?_⟩
          rw [d1.length]; exact q.here R rfl RV.intI
        | dic l => exact (R.obj _ _ hs).elim
        | ins c l => cases hg
    | _ => cases hg
  | abs =>
    cases hn
    have hf : (match DV.intsOf l with | some [i] => .ok (.int (if i < 0 then -i else i)) st | _ => .bad : DV.R DV.D) = .ok d st' := hf
    split at hf
    · rename_i i e
      cases hf
      have := intsOf_inv e; subst this
      have := RVL.ints hl; subst this
      exact call_abs pins s σ H _ us Q I r ⟨i, rfl, q.here R rfl RV.intI⟩
    · cases hf
  | min2 =>
    cases hn
    have hf : (match DV.intsOf l with | some [a, b] => .ok (.int (if b < a then b else a)) st | _ => .bad : DV.R DV.D) = .ok d st' := hf
    split at hf
    · rename_i a b e
      cases hf
      have := intsOf_inv e; subst this
      have := RVL.ints hl; subst this
      exact call_min2 hc pins s σ H _ us Q I r ⟨_, _, rfl, q.here R rfl RV.intI⟩
    · cases hf
  | max2 =>
    cases hn
    have hf : (match DV.intsOf l with | some [a, b] => .ok (.int (if b > a then b else a)) st | _ => .bad : DV.R DV.D) = .ok d st' := hf
    split at hf
    · rename_i a b e
      cases hf
      have := intsOf_inv e; subst this
      have := RVL.ints hl; subst this
      exact call_max2 hc pins s σ H _ us Q I r ⟨_, _, rfl, q.here R rfl RV.intI⟩
    · cases hf
  | max3 =>
    cases hn
    have hf : (match DV.intsOf l with | some [a, b, c] => .ok (.int (max (max a b) c)) st | _ => .bad : DV.R DV.D) = .ok d st' := hf
    split at hf
    · rename_i a b c e
      cases hf
      have := intsOf_inv e; subst this
      have := RVL.ints hl; subst this
      refine call_max3 hc pins s σ H _ us Q I r ⟨_, _, _, rfl, ?_⟩
      rw [mx3_max]
      exact q.here R rfl RV.intI
    · cases hf
  | _ => cases hn
theorem int_ok : CallR X (.type "int") (rCl Γ (DV.bi .int)) := by
  intro pins s σ H xs us Q I r h
  obtain ⟨φ, st, l, d, st', R, hl, nl, hf, q⟩ := h
  have hf : (match DV.blsOf l with | some [b] => .ok (.int (if b then 1 else 0)) st | _ => .bad : DV.R DV.D) = .ok d st' := hf
  split at hf
  · rename_i b e
    cases hf
    have := blsOf_inv e; subst this
    have := RVL.bls hl; subst this
    exact call_int1 pins s σ H _ us Q I r (.inr ⟨b, rfl, q.here R rfl RV.intI⟩)
  · cases hf
/-! isinstance -/
noncomputable def kName : Nat → String
  | 1 => "int" | 2 => "bool" | 3 => "str" | 4 => "tuple" | _ => "list"
theorem kit_all {K : PySem.W.Frag} (k : Nat) (hk : 1 ≤ k ∧ k ≤ 5) : PySem.W.kitOne K (.type "NoneType") (.type (kName k)) = some false ∧ PySem.W.kitOne K (.type "bool") (.type (kName k)) = some (k == 1 || k == 2) ∧
    PySem.W.kitOne K (.type "int") (.type (kName k)) = some (k == 1) ∧ PySem.W.kitOne K (.type "str") (.type (kName k)) = some (k == 3) ∧ PySem.W.kitOne K (.type "tuple") (.type (kName k)) = some (k == 4) ∧ PySem.W.kitOne K (.type "list") (.type (kName k)) = some (k == 5) := by
  obtain ⟨h1, h5⟩ := hk
  rcases (by omega : k = 1 ∨ k = 2 ∨ k = 3 ∨ k = 4 ∨ k = 5) with h | h | h | h | h <;> subst h <;> refine ⟨?_, ?_, ?_, ?_, ?_, ?_⟩ <;> with_unfolding_all rfl
theorem isinst_tup {pins : List (Addr × Obj)} {σ : St} {H : Hp} {s : Shared} {A : Around} {E : Value → Shared → Prop} {Q : Value → Shared → Prop} {c : Value} {b : Bool} {a : Addr} {xs : List V} (I : Inv X pins σ H s) (h1 : SqT X.K H a xs) (e : PySem.W.kitOne X.K (.type "tuple") c = some b)
    (h : ∀ tk, Q (.bool b) { s with toks := tk }) : wpAny (model X.prog X.w) A (call (.builtin "isinstance") [.ref a, c]) Q E s := by
  obtain ⟨its, _, ⟨o, g1, g2, _⟩, _⟩ := I.tuple h1
  exact PySem.W.kia_one PySem.W.kitx_tuple I.kIn ⟨o, g1, g2⟩ e (fun z => nomatch z) h
/-- isinstance(x, T) -/
theorem isK_ok (hK : X.K = Γ.K) {k : Nat} (hk : 1 ≤ k ∧ k ≤ 5) : CallR X (.builtin "isinstance") (fun xs H Q => ∃ x, xs = [x, .ty (kName k)] ∧ rCl Γ (DV.bi1 (DV.isK k)) [x] H Q) := by
  intro pins s σ H xs us Q I r h
  obtain ⟨x, rfl, φ, st, l, d, st', R, hl, nl, hf, q⟩ := h
  obtain ⟨a, rfl, hg⟩ := bi1_inv hf
  clear hf
  obtain ⟨u, w', rfl, r1, r2⟩ := vals2 r
  cases r2
  obtain ⟨x', e', hx⟩ := hl.one
  cases e'
  obtain ⟨k0, k1, k2, k3, k4, k5⟩ := kit_all (K := X.K) k hk
  unfold DV.isK at hg
  cases a with
  | non => cases hg; have e := hx.nonE; subst e; exact isinst_ok I r1 .non k0 fun tk => ⟨.bl _, H, I.tok _, rfl, q.here R rfl RV.blI⟩
  | bl b => cases hg; have e := hx.blE; subst e; exact isinst_ok I r1 (.bl b) k1 fun tk => ⟨.bl _, H, I.tok _, rfl, q.here R rfl RV.blI⟩
  | int b => cases hg; have e := hx.intE; subst e; exact isinst_ok I r1 (.int b) k2 fun tk => ⟨.bl _, H, I.tok _, rfl, q.here R rfl RV.blI⟩
  | str b => cases hg; have e := hx.strE; subst e; exact isinst_ok I r1 (.str _) k3 fun tk => ⟨.bl _, H, I.tok _, rfl, q.here R rfl RV.blI⟩
  | tup l =>
    cases hg
    obtain ⟨p, ys, rfl, h1, d1⟩ := hx.tupE
    cases r1
    rw [← hK] at h1
    exact isinst_tup I h1 k4 fun tk => ⟨.bl _, H, I.tok _, rfl, q.here R rfl RV.blI⟩
  | ref n =>
    have e := hx.refE; subst e
    have hg : (match st[n]? with | some (.lst _) => .ok (.bl (k == 5)) st | _ => .bad : DV.R DV.D) = .ok d st' := hg
    cases hs : st[n]? with
    | none => rw [hs] at hg; cases hg
    | some o =>
      rw [hs] at hg
      cases o with
      | lst l =>
        cases hg
        obtain ⟨ys, e1, d1⟩ := R.addr hs
        exact isinst_ok I r1 (.lst e1) k5 fun tk => ⟨.bl _, H, I.tok _, rfl, q.here R rfl RV.blI⟩
      | _ => cases hg
  | _ => cases hg
end L2
end

set_option Elab.async false
set_option linter.all false
set_option maxRecDepth 100000
set_option maxHeartbeats 4000000
noncomputable section
namespace L2
open PySem PySem.Spec PyProof.Rows
variable {X : Cx}
/-! ### all and any of a list of truths -/
theorem vals_bl {bs : List Bool} {its : List Value} (r : Vals (bs.map V.bl) its) {i : Nat} {v : Value} (h : its[i]? = some v) : ∃ z, bs[i]? = some z ∧ v = Value.bool z := by
  induction bs generalizing its i with
  | nil => rw [List.map_nil] at r; cases r; simp at h
  | cons b bs ih =>
    rw [List.map_cons] at r
    cases r with
    | cons r1 r2 =>
      cases i with
      | zero =>
        cases r1
        have : _ = v := Option.some.inj h
        exact ⟨b, rfl, this.symm⟩
      | succ i => exact ih r2 h
theorem range_all {bs : List Bool} : (List.range bs.length).all (fun i => bs.getD i false) = bs.all id := by
  rw [Bool.eq_iff_iff, List.all_eq_true, List.all_eq_true]
  constructor
  · intro h b hb
    obtain ⟨i, hi, e⟩ := List.mem_iff_getElem.mp hb
    have := h i (List.mem_range.mpr hi)
    rw [List.getD_eq_getElem?_getD, List.getElem?_eq_getElem hi] at this
    rw [← e]; exact this
  · intro h i hi
    have hi := List.mem_range.mp hi
    rw [List.getD_eq_getElem?_getD, List.getElem?_eq_getElem hi]
    exact h _ (List.getElem_mem hi)
theorem range_any {bs : List Bool} : (List.range bs.length).any (fun i => bs.getD i false) = bs.any id := by
  rw [Bool.eq_iff_iff, List.any_eq_true, List.any_eq_true]
  constructor
  · rintro ⟨i, hi, e⟩
    have hi := List.mem_range.mp hi
    rw [List.getD_eq_getElem?_getD, List.getElem?_eq_getElem hi] at e
    exact ⟨_, List.getElem_mem hi, e⟩
  · rintro ⟨b, hb, e⟩
    obtain ⟨i, hi, e2⟩ := List.mem_iff_getElem.mp hb
    refine ⟨i, List.mem_range.mpr hi, ?_⟩
    rw [List.getD_eq_getElem?_getD, List.getElem?_eq_getElem hi]
    show bs[i] = true
    rw [e2]; exact e
theorem call_allL {K : PySem.W.Frag} (hc : X.calm = true) (hK : X.K = K) : CallR X (.builtin "all") (fun xs H Q => ∃ (a : Addr) (bs : List Bool), xs = [.ref a] ∧ SqL K H a (bs.map V.bl) ∧ Q (.bl (bs.all id)) H) := by
  subst hK
  intro pins s σ H xs us Q I r h
  obtain ⟨a, bs, rfl, hS, q⟩ := h
  obtain ⟨u, rfl, ru⟩ := vals1 r
  cases ru
  obtain ⟨its, rv, pl, hz⟩ := I.list hS
  have hl := rv.length
  rw [List.length_map] at hl
  refine call_all_walk (wpAny_pyIter_list pl.isList ?_)
  have hal : a < s.heap.objs.size := by obtain ⟨o, _, e, _⟩ := pl; exact Heap.lt_size e
  have W := Walks.list (prog := X.prog) (w := X.w) (A := X.A.in1) (I.ok.hd hc) s.heap.objs.size a (Nat.ne_of_lt hal) its.toArray
  refine ⟨_, _, _, _, _, _, fun i => bs.getD i false, rfl, W, ⟨⟨_, Heap.get?_push_size _ rfl, rfl, rfl⟩, ?_⟩, fun i v s' Q' E' hP hQ => ?_, fun h' tk k => ?_⟩
  · obtain ⟨o, e, r⟩ := pl.isList
    exact ⟨o, Heap.get?_push_of_some _ e, r⟩
  · obtain ⟨z, e1, e2⟩ := vals_bl rv (i := i) (v := v) (by have hP : its.toArray[i]? = some v := hP; rw [List.getElem?_toArray] at hP; exact hP)
    subst e2
    refine wpAny_truthy_bool ?_
    have : bs.getD i false = z := by rw [List.getD_eq_getElem?_getD, e1]; rfl
    rw [← this]; exact hQ
  · have es : its.toArray.size = bs.length := by rw [List.size_toArray]; omega
    rw [es, range_all]
    refine ⟨.bl (bs.all id), H, I.kept (h' := h') (t' := tk) fun b o q => k b o ?_ (Heap.get?_push_of_some _ q), rfl, q⟩
    intro z
    have z' : b = s.heap.objs.size := by simpa using z
    exact absurd (Heap.lt_size q) (by rw [z']; exact Nat.lt_irrefl _)
theorem call_anyL {K : PySem.W.Frag} (hc : X.calm = true) (hK : X.K = K) : CallR X (.builtin "any") (fun xs H Q => ∃ (a : Addr) (bs : List Bool), xs = [.ref a] ∧ SqL K H a (bs.map V.bl) ∧ Q (.bl (bs.any id)) H) := by
  subst hK
  intro pins s σ H xs us Q I r h
  obtain ⟨a, bs, rfl, hS, q⟩ := h
  obtain ⟨u, rfl, ru⟩ := vals1 r
  cases ru
  obtain ⟨its, rv, pl, hz⟩ := I.list hS
  have hl := rv.length
  rw [List.length_map] at hl
  refine call_any_walk (wpAny_pyIter_list pl.isList ?_)
  have hal : a < s.heap.objs.size := by obtain ⟨o, _, e, _⟩ := pl; exact Heap.lt_size e
  have W := Walks.list (prog := X.prog) (w := X.w) (A := X.A.in1) (I.ok.hd hc) s.heap.objs.size a (Nat.ne_of_lt hal) its.toArray
  refine ⟨_, _, _, _, _, _, fun i => bs.getD i false, rfl, W, ⟨⟨_, Heap.get?_push_size _ rfl, rfl, rfl⟩, ?_⟩, fun i v s' Q' E' hP hQ => ?_, fun h' tk k => ?_⟩
  · obtain ⟨o, e, r⟩ := pl.isList
    exact ⟨o, Heap.get?_push_of_some _ e, r⟩
  · obtain ⟨z, e1, e2⟩ := vals_bl rv (i := i) (v := v) (by have hP : its.toArray[i]? = some v := hP; rw [List.getElem?_toArray] at hP; exact hP)
    subst e2
    refine wpAny_truthy_bool ?_
    have : bs.getD i false = z := by rw [List.getD_eq_getElem?_getD, e1]; rfl
    rw [← this]; exact hQ
  · have es : its.toArray.size = bs.length := by rw [List.size_toArray]; omega
    rw [es, range_any]
    refine ⟨.bl (bs.any id), H, I.kept (h' := h') (t' := tk) fun b o q => k b o ?_ (Heap.get?_push_of_some _ q), rfl, q⟩
    intro z
    have z' : b = s.heap.objs.size := by simpa using z
    exact absurd (Heap.lt_size q) (by rw [z']; exact Nat.lt_irrefl _)
theorem b_any : bootBuiltins "any" = some (.builtin "any") := by decide +kernel
/-! ### the signs of a text -/
noncomputable def sgV (x : List Nat) : List V := x.map fun c => .str ⟨#[c]⟩
theorem vals_of {vs : List V} {acc : List Value} (hl : vs.length = acc.length) (h : ∀ (i : Nat) (x : V) (u : Value), vs[i]? = some x → acc[i]? = some u → RelV x u) : Vals vs acc := by
  induction vs generalizing acc with
  | nil => cases acc with
    | nil => exact .nil
    | cons _ _ => cases hl
  | cons v vs ih => cases acc with
    | nil => cases hl
    | cons a acc => exact .cons (h 0 v a rfl rfl) (ih (by simpa using hl) fun i x u e1 e2 => h (i + 1) x u e1 e2)
theorem vals_signs {x : List Nat} {acc : Array Value} (h : ItemsOf (SignAt ⟨x.toArray⟩) acc x.length) : Vals (sgV x) acc.toList := by
  have hl : (sgV x).length = acc.toList.length := by unfold sgV; rw [List.length_map]; simpa using h.1.symm
  refine vals_of hl fun i v u e1 e2 => ?_
  obtain ⟨c, t, h1, h2⟩ := h.2 i u (by rw [← Array.getElem?_toList]; exact e2)
  unfold sgV at e1
  rw [List.getElem?_map] at e1
  have h1 : x[i]? = some c := by simpa using h1
  rw [h1] at e1
  cases e1
  exact ⟨t, h2⟩
theorem call_tupleS (hc : X.calm = true) : CallR X (.type "tuple") (fun xs H Q => ∃ x : List Nat, xs = [.str ⟨x.toArray⟩] ∧ x.length ≤ DV.LIM ∧ ∀ l, H l = none → Q (.ref l) (upd H l (.tup (sgV x)))) := by
  intro pins s σ H xs us Q I r h
  obtain ⟨x, rfl, hl, q⟩ := h
  obtain ⟨u, rfl, rx⟩ := vals1 r
  obtain ⟨t, rfl⟩ := rx
  have hz : (sgV x).length ≤ sizeLine := by unfold sgV; rw [List.length_map]; exact Nat.le_trans hl LIM_le
  refine call_tuple_str (I.ok.hd hc) _ t (fun h' tk acc kp hi => ?_) (by show x.toArray.size ≤ _; rw [List.size_toArray]; exact Nat.le_trans hl LIM_le)
  have hi : ItemsOf (SignAt ⟨x.toArray⟩) acc x.length := by simpa using hi
  have rv := vals_signs hi
  have I1 : Inv X pins σ H { s with heap := h', toks := tk } := I.kept (t' := tk) kp
  have I2 : Inv X pins σ (upd H h'.objs.size (.tup (sgV x))) { s with heap := h'.push { cls := .type "tuple", data := .seq acc }, toks := tk } :=
    I1.laid (t' := tk) (fun b o e => Heap.get?_push_of_some _ e) (Nat.le_refl _) (show ObjOk X.prog X.w _ _ _ (.tup (sgV x)) from ⟨hz, acc.toList, rv, IsTup.new _ _⟩)
  exact ⟨.ref h'.objs.size, _, I2, rfl, q _ (I1.hok.fresh (Nat.le_refl _))⟩
theorem call_listS (hc : X.calm = true) : CallR X (.type "list") (fun xs H Q => ∃ x : List Nat, xs = [.str ⟨x.toArray⟩] ∧ x.length ≤ DV.LIM ∧ ∀ l, H l = none → Q (.ref l) (upd H l (.lst (sgV x)))) := by
  intro pins s σ H xs us Q I r h
  obtain ⟨x, rfl, hl, q⟩ := h
  obtain ⟨u, rfl, rx⟩ := vals1 r
  obtain ⟨t, rfl⟩ := rx
  have hz : (sgV x).length ≤ sizeLine := by unfold sgV; rw [List.length_map]; exact Nat.le_trans hl LIM_le
  refine call_list_str (I.ok.hd hc) _ t (fun h' tk acc c' kp e hi => ?_) (by show x.toArray.size ≤ _; rw [List.size_toArray]; exact Nat.le_trans hl LIM_le)
  have hi : ItemsOf (SignAt ⟨x.toArray⟩) acc x.length := by simpa using hi
  have rv := vals_signs hi
  exact ⟨.ref s.heap.objs.size, _, I.laid (t' := tk) kp (Nat.le_refl _) (show ObjOk X.prog X.w _ h' _ (.lst (sgV x)) from ⟨hz, acc.toList, c', rv, e⟩), rfl, q _ (I.hok.fresh (Nat.le_refl _))⟩
end L2
end

set_option Elab.async false
set_option linter.all false
set_option maxRecDepth 100000
set_option maxHeartbeats 4000000
noncomputable section
namespace L2
open PySem PySem.Spec PyProof.Rows
/-! ### cells that are known, and the plain reading -/
section
variable {Γ : Gm} {φ φ' : Nat → Addr} {H H' H1 H2 H3 : Hp} {clos : List (Str × Addr)} {s s' : DV.Sto}
theorem cells_ne (hc : Cells clos H) {a : Addr} {u : HO} (e : H a = some u) (hu : ∀ o, u ≠ .frz o (.own a)) : isC clos a ≠ true := fun z => by
  obtain ⟨o, v, q, _⟩ := hc.at z
  rw [e] at q; cases q; exact hu o rfl
theorem SqT.dropC {K : PySem.W.Frag} {a : Addr} {xs : List V} (hc : Cells clos H) (h : SqT K H a xs) : SqT K (Drop clos H) a xs := by
  rcases h with (h | ⟨o, h⟩) | h
  · exact .inl (.inl (by rw [Drop.ne (cells_ne hc h (fun _ z => by cases z))]; exact h))
  · exact .inl (.inr ⟨o, by rw [Drop.ne (cells_ne hc h (fun _ z => by cases z))]; exact h⟩)
  · exact .inr h
theorem SqL.dropC {K : PySem.W.Frag} {a : Addr} {xs : List V} (hc : Cells clos H) (h : SqL K H a xs) : SqL K (Drop clos H) a xs := by
  rcases h with (h | ⟨o, h⟩) | h
  · exact .inl (.inl (by rw [Drop.ne (cells_ne hc h (fun _ z => by cases z))]; exact h))
  · exact .inl (.inr ⟨o, by rw [Drop.ne (cells_ne hc h (fun _ z => by cases z))]; exact h⟩)
  · exact .inr h
theorem SqF.dropC {K : PySem.W.Frag} {a : Addr} {xs : List V} (hc : Cells clos H) (h : SqF K H a xs) : SqF K (Drop clos H) a xs := by
  refine ⟨SqL.dropC hc h.1, fun H2 k => ?_⟩
  have hk : Kp H (fun b => if isC clos b = true then H b else H2 b) := fun b o e f => by
    by_cases z : isC clos b = true
    · show (if isC clos b = true then H b else H2 b) = _; rw [if_pos z]; exact e
    · show (if isC clos b = true then H b else H2 b) = _
      rw [if_neg z]
      exact k b o (by rw [Drop.ne z]; exact e) f
  have q := h.2 _ hk
  have at_ : ∀ u, (if isC clos a = true then H a else H2 a) = some u → (∀ o, u ≠ .frz o (.own a)) → H2 a = some u := fun u e hu => by
    by_cases z : isC clos a = true
    · rw [if_pos z] at e
      exact absurd z (cells_ne hc e hu)
    · rw [if_neg z] at e; exact e
  rcases q with (q | ⟨o, q⟩) | q
  · exact .inl (.inl (at_ _ q (fun _ z => by cases z)))
  · exact .inl (.inr ⟨o, at_ _ q (fun _ z => by cases z)⟩)
  · exact .inr q
mutual
theorem RV.dropC (hc : Cells clos H) : ∀ (d : DV.D) (v : V), d.ncl = true → RV Γ φ H d v → RV Γ φ (Drop clos H) d v
  | .non, _, _, h => by unfold RV at h ⊢; exact h
  | .bl _, _, _, h => by unfold RV at h ⊢; exact h
  | .int _, _, _, h => by unfold RV at h ⊢; exact h
  | .str _, _, _, h => by unfold RV at h ⊢; exact h
  | .tup l, _, n, h => by
    unfold RV at h ⊢
    unfold DV.D.ncl at n
    obtain ⟨a, xs, e, q, r⟩ := h
    exact ⟨a, xs, e, SqT.dropC hc q, RVL.dropC hc l xs n r⟩
  | .ref k, _, _, h => by unfold RV at h ⊢; exact h
  | .fn _, _, _, h => by unfold RV at h ⊢; exact h
  | .clo id cs, _, n, h => by unfold DV.D.ncl at n; cases n
theorem RVL.dropC (hc : Cells clos H) : ∀ (l : List DV.D) (xs : List V), DV.D.nclL l = true → RVL Γ φ H l xs → RVL Γ φ (Drop clos H) l xs
  | [], _, _, h => by unfold RVL at h ⊢; exact h
  | d :: l, _, n, h => by
    unfold DV.D.nclL at n
    rw [Bool.and_eq_true] at n
    obtain ⟨x, r, e, h1, h2⟩ := h.uncons
    subst e
    exact .cons (RV.dropC hc d x n.1 h1) (RVL.dropC hc l r n.2 h2)
end
theorem RO.dropC {a : Addr} {o : DV.O} (hc : Cells clos H) (h : RO Γ φ H a o) (n : o.ncl = true) : RO Γ φ (Drop clos H) a o := by
  cases o with
  | lst l =>
    obtain ⟨xs, e, r⟩ := h
    exact ⟨xs, by rw [Drop.ne (cells_ne hc e (fun _ z => by cases z))]; exact e, RVL.dropC hc l xs n r⟩
  | ro l =>
    obtain ⟨xs, e, r⟩ := h
    exact ⟨xs, SqF.dropC hc e, RVL.dropC hc l xs n r⟩
  | dic _ => exact h.elim
  | ins _ _ => exact h.elim
theorem TabsH.dropC {T : List (Addr × Str)} (hc : Cells clos H) (h : TabsH T H) : TabsH T (Drop clos H) := fun y hy => by
  obtain ⟨ps, e, t, c⟩ := h y hy
  refine ⟨ps, by rw [Drop.ne (cells_ne hc e (fun _ z => by cases z))]; exact e, t, fun pos cv q => ?_⟩
  obtain ⟨c', e1, e2⟩ := c pos cv q
  exact ⟨c', e1, by rw [Drop.ne (cells_ne hc e2 (fun _ z => by unfold codeO at z; cases z))]; exact e2⟩
theorem Rp.dropC (hc : Cells clos H) (r : Rp Γ φ H s) (n : s.all DV.O.ncl = true) : Rp Γ φ (Drop clos H) s :=
  ⟨r.inj, fun i o e => RO.dropC hc (r.obj i o e) (List.all_eq_true.mp n o (List.mem_of_getElem? e)), r.wf, TabsH.dropC hc r.tab⟩
/-- behind a call with the cells known -/
theorem Gr.caught {N : List Str} {kd : Str → Option NameKind} {σ : St} (ca : Caught clos N kd σ H1 H2) (g : Gr φ s H2 φ' s' H3) : Gr φ s H1 φ' s' (Drop clos H3) := by
  have nc : ∀ b o, H1 b = some o → isC clos b ≠ true := fun b o e z => by rw [ca.free b z] at e; cases e
  have up : ∀ b o, H1 b = some o → H2 b = some o := fun b o e => by rw [ca.ne b (nc b o e)]; exact e
  refine ⟨⟨g.w.map, fun b o e f => ?_⟩, g.le, fun i h1 h2 => ?_, g.mu, fun b e => ?_, fun b o e nt no => ?_⟩
  · rw [Drop.ne (nc b o e)]; exact g.w.kp b o (up b o e) f
  · have := g.new i h1 h2
    by_cases z : isC clos (φ' i) = true
    · exact ca.free _ z
    · rw [← ca.ne _ z]; exact this
  · cases q : H1 b with
    | none => exact absurd q e
    | some o =>
      rw [Drop.ne (nc b o q)]
      exact g.st b (by rw [up b o q]; simp)
  · rw [Drop.ne (nc b o e)]; exact g.fr b o (up b o e) nt no
/-- behind a lambda's body -/
theorem putC_same (gone : ∀ b, isC clos b = true → H' b = none) : Same H' (Put clos H H') := fun b o e => by
  rw [Put.ne (fun z => by rw [gone b z] at e; cases e)]; exact e
theorem Gr.put (hc : Cells clos H) (gone : ∀ b, isC clos b = true → H' b = none) (hK : ∀ b o, Γ.K.lookup b = some o → H b = none) (R' : Rp Γ φ' H' s') (g : Gr φ s (Drop clos H) φ' s' H') : Gr φ s H φ' s' (Put clos H H') := by
  refine ⟨⟨g.w.map, fun b o e f => ?_⟩, g.le, fun i h1 h2 => ?_, g.mu, fun b e => ?_, fun b o e nt no => ?_⟩
  · by_cases z : isC clos b = true
    · rw [Put.cell z]; exact e
    · rw [Put.ne z]; exact g.w.kp b o (by rw [Drop.ne z]; exact e) f
  · have hd := g.new i h1 h2
    by_cases z : isC clos (φ' i) = true
    · have hg := gone _ z
      obtain ⟨o, eo⟩ : ∃ o, s'[i]? = some o := ⟨s'[i], List.getElem?_eq_getElem h2⟩
      have hob := R'.obj i o eo
      cases o with
      | lst l => obtain ⟨xs, e, _⟩ := hob; rw [hg] at e; cases e
      | ro l =>
        obtain ⟨xs, e, _⟩ := hob
        rcases e.1 with (e | ⟨_, e⟩) | ⟨ob, its, n, e, _⟩
        · rw [hg] at e; cases e
        · rw [hg] at e; cases e
        · exact hK _ _ e
      | dic _ => exact hob.elim
      | ins _ _ => exact hob.elim
    · rw [Drop.ne z] at hd; exact hd
  · by_cases z : isC clos b = true
    · rw [Put.cell z]; exact e
    · rw [Put.ne z]; exact g.st b (by rw [Drop.ne z]; exact e)
  · by_cases z : isC clos b = true
    · rw [Put.cell z]; exact e
    · rw [Put.ne z]; exact g.fr b o (by rw [Drop.ne z]; exact e) nt no
theorem tLam_of2 {T : List (Addr × Str)} {cells : List (Str × Addr)} {P : Addr} {q : Str} {params : Arguments} {body : Expr} {scope : Scope} {pos : Pos} {σ : St} {H : Hp} {Q : VK} (hT : TabsH T H) (nd : (T.map (·.1)).Nodup) (hm : (P, q) ∈ T)
    (go : ∀ (f : Addr) (H' : Hp), SameT H H' → (∀ b, H b ≠ none → H' b ≠ none) → TabsH T H' → H f = none → (∃ pm c' ctv, H' f = some (lamO f (PySem.W.kla_fn "<lambda>" q params body scope (clOf cells scope.names []) pm (.ref c') ctv)) ∧ H' c' = some (codeO c' q)) → Q (.ref f) H') :
    tLam cells P q params body scope pos σ H Q := by
  obtain ⟨ps, hP, ht, hc⟩ := hT _ hm
  refine ⟨ps, hP, ht, fun hn c' f pm ctv n1 n2 ne => ?_, fun cv e => ?_⟩
  · have cP : c' ≠ P := fun z => by rw [z, hP] at n1; cases n1
    have fP : f ≠ P := fun z => by rw [z, hP] at n2; cases n2
    have at' : ∀ b, b ≠ P → H b ≠ none → ∀ o1 o2 o3, upd (upd (upd H P o1) c' o2) f o3 b = H b := fun b z1 z2 o1 o2 o3 => by
      rw [upd_ne fun z => by subst z; exact z2 n2, upd_ne fun z => by subst z; exact z2 n1, upd_ne z1]
    refine go f _ (fun b o d e => ?_) (fun b hb => ?_) (fun y hy => ?_) n2 ⟨pm, c', ctv, upd_same, by rw [upd_ne ne, upd_same]⟩
    · rw [at' b (fun z => by subst z; rw [hP] at e; cases e; exact d _ rfl) (by rw [e]; simp)]; exact e
    · by_cases z : b = P
      · subst z; rw [upd_ne (Ne.symm fP), upd_ne (Ne.symm cP), upd_same]; simp
      · rw [at' b z hb]; exact hb
    · by_cases z : y.1 = P
      · have ey : y = (P, q) := by
          have : ∀ (l : List (Addr × Str)), (l.map (·.1)).Nodup → y ∈ l → (P, q) ∈ l → y = (P, q) := by
            intro l
            induction l with
            | nil => intro _ h; simp at h
            | cons a l ih =>
              intro hn h1 h2
              rw [List.map_cons, List.nodup_cons] at hn
              rcases List.mem_cons.mp h1 with e1 | h1 <;> rcases List.mem_cons.mp h2 with e2 | h2
              · rw [e1, e2]
              · exact absurd (by rw [← e1, z]; exact List.mem_map_of_mem (f := (·.1)) h2) hn.1
              · exact absurd (by rw [← e2, ← z]; exact List.mem_map_of_mem (f := (·.1)) h1) hn.1
              · exact ih hn.2 h1 h2
          exact this T nd hy hm
        subst ey
        refine ⟨_, by rw [upd_ne (Ne.symm fP), upd_ne (Ne.symm cP), upd_same], ?_, fun pos2 cv e => ?_⟩
        · rw [Array.toList_append]; exact TriplesOk_snoc _ _ _ _ ht
        · rw [Array.toList_append] at e
          rcases codeAmong_add _ ht e with e' | e'
          · obtain ⟨c2, e1, e2⟩ := hc pos2 cv e'
            exact ⟨c2, e1, by rw [at' c2 (fun z => by subst z; rw [hP] at e2; unfold codeO at e2; cases e2) (by rw [e2]; simp)]; exact e2⟩
          · exact ⟨c', e', by rw [upd_ne ne, upd_same]⟩
      · obtain ⟨qs, e1, e2, e3⟩ := hT y hy
        refine ⟨qs, by rw [at' y.1 z (by rw [e1]; simp)]; exact e1, e2, fun pos2 cv e => ?_⟩
        obtain ⟨c2, e4, e5⟩ := e3 pos2 cv e
        exact ⟨c2, e4, by rw [at' c2 (fun z => by subst z; rw [hP] at e5; unfold codeO at e5; cases e5) (by rw [e5]; simp)]; exact e5⟩
  · obtain ⟨c', e1, e2⟩ := hc pos cv e
    refine ⟨c', e1, fun f pm ctv n => go f _ (.of ((Same.refl H).new n)) (fun b hb => by
      by_cases z : b = f
      · subst z; rw [upd_same]; simp
      · rw [upd_ne z]; exact hb) (hT.new n) n ⟨pm, c', ctv, upd_same, ?_⟩⟩
    rw [upd_ne (ne_of_none e2 n)]; exact e2

theorem lam_ok2 {P : Program} {w : World} {K : PySem.W.Frag} {mg : Str → Option Value} {base : Heap} {k : Nat} {f : Addr} {N ps fr : List Str} {qual : Str} {params : Arguments} {body : Expr} {scope : Scope} {clos : List (Str × Addr)} {cap : List V} {sp : Sp}
    (S : LamScope N ps fr scope) (len : ∀ vs H Q E, sp vs H Q E → vs.length = ps.length) (hlc : cap.length = fr.length)
    (hbind : ∀ (pm : Value) (c' : Addr) (ctv : Value) (us : List Value), us.length = ps.length → bindArgs (PySem.W.kla_fn "<lambda>" qual params body scope clos pm (.ref c') ctv) ⟨us, []⟩ = pure (ps.zip us))
    (hbody : ∀ (A : Around) (outer : List Env) (s : Shared) (H : Hp) (cd : Value) (vs : List V) (Q : VK), Room k (A.deeper (PySem.W.envX qual scope s.heap.objs.size f cd (cellsFrom (s.heap.objs.size + 1) scope.names clos))) → LamAt H f qual params body scope fr cap clos → (∀ b o, K.lookup b = some o → H b = none) → sp vs H Q E0 →
      ∃ t, PE (cxLam P w K mg base N qual scope f cd clos A outer s H) body t ∧ t (vs.map some ++ cap.map some) (Drop clos H) fun v H' => (∀ b, isC clos b = true → H' b = none) → Q v (Put clos H H')) :
    ClOk P w K mg base (k + 1) (fun H => LamAt H f qual params body scope fr cap clos) f sp := by
  refine ⟨fun A outer s H us vs Q hr e0 hR r hsp => ?_⟩
  have hl := len _ _ _ _ hsp
  obtain ⟨pm, c', ctv, h1, h2, h3, h4, h5, h6⟩ := id hR
  have lim : s.heap.NoLimit := e0.mod.nolimit.keeps fun b o e => (e0.bs b o e).1
  refine PySem.W.kla_callFunE hr.depth (lamO_get e0.hok h1) rfl S.co S.gen rfl (codeO_get e0.hok h2) ?_
  rw [hbind pm c' ctv us (by rw [← r.length]; exact hl)]
  refine wpAny_pure (enter_clos S.kind (fun y hy => ?_) fun env he s1 x => ?_)
  · rcases S.par y.1 (List.of_mem_zip (show (y.1, y.2) ∈ ps.zip us from hy)).1 with q | q
    · exact .inl q
    · exact .inr ⟨q, cell_has q⟩
  · subst he
    refine ⟨lim.keeps x.toInCall.keep, PySem.W.kla_codeExpr ?_⟩
    obtain ⟨t, ht, hq⟩ := hbody A outer s H (.ref c') vs Q (hr.deeper _) hR (fun b o e => (e0.bs b o (e0.mod.kin b o e)).2) hsp
    have I := inv_lam S hr.hd e0 hl hlc r h3 h4 h5 h6 x
    refine wpAny_mono (ht [] s1 _ _ _ I hq) (fun u s' hs => ?_) fun e s' hs => hs.elim
    obtain ⟨v, H', J, rv, q⟩ := hs
    obtain ⟨un, ok'⟩ := lam_end e0.hok h3 e0.frf J.base J.hok
    have gone : ∀ b, isC clos b = true → H' b = none := fun b y => by
      obtain ⟨o, v, z, _⟩ := h3.at y
      exact (show Un (frs outer) [] (Drop clos H) H' s.heap s'.heap from J.base).free b o (e0.hok b _ z).1 (Drop.cell y) (by simp)
    exact ⟨v, _, J.os, J.bare, un, ok', rv, q gone⟩
theorem Rp.sameT {φ : Nat → Addr} {H H' : Hp} {s : DV.Sto} (r : Rp Γ φ H s) (e : SameT H H') (st : ∀ b, H b ≠ none → H' b ≠ none) (tb : TabsH Γ.T H') : Gr φ s H φ s H' ∧ Rp Γ φ H' s := by
  have kp : Kp H H' := fun b o h f => e b o (fun ps z => by subst z; cases f) h
  have gw : Gw φ s.length H φ H' := ⟨fun _ _ => rfl, kp⟩
  refine ⟨⟨gw, Nat.le_refl _, fun i h1 h2 => absurd h2 (by omega), fun i o o' e e' m => by rw [e] at e'; cases e'; exact m, st, fun b o h nt _ => e b o nt h⟩, r.inj, fun i o eo => ?_, r.wf, tb⟩
  exact (r.obj i o eo).mono gw (r.wf i o eo) fun m u hu => by
    obtain ⟨u', hu', _, nt⟩ := (r.obj i o eo).there m
    rw [hu] at hu'; cases hu'
    exact e _ _ nt hu
theorem Cells.kp {H H' : Hp} (h : Cells clos H) (k : Kp H H') : Cells clos H' := fun x c e => by
  obtain ⟨o, v, q, d⟩ := h x c e
  exact ⟨o, v, k _ _ q rfl, d⟩
/-! ### arguments, lambdas among them, while the frame's cells are not known yet -/
noncomputable def PVp (Γ : Gm) (cells : List (Str × Addr)) (N : List Str) (σ : St) (φ : Nat → Addr) (H : Hp) (d : DV.D) (v : V) : Prop := RV Γ φ H d v ∨ ∃ id cs, d = .clo id cs ∧ ∃ f J, v = .ref f ∧ Γ.lg id J ∧ (∃ pm c' ctv, H f = some (lamO f (PySem.W.kla_fn "<lambda>" J.qual J.params J.body J.scope (clOf cells J.scope.names []) pm (.ref c') ctv)) ∧ H c' = some (codeO c' J.qual)) ∧
      cs.length = J.fr.length ∧ (∀ x, J.scope.names.lookup x = some .free → ∃ c, cells.lookup x = some c) ∧
      ∃ cap, RVL Γ φ H cs cap ∧ ∀ (i : Nat) (x : Str) (v : V), J.fr[i]? = some x → cap[i]? = some v → J.scope.names.lookup x = some .free ∧ ∃ j : Nat, N[j]? = some x ∧ σ[j]? = some (some v)
inductive PVL (Γ : Gm) (cells : List (Str × Addr)) (N : List Str) (σ : St) (φ : Nat → Addr) (H : Hp) : List DV.D → List V → Prop where
  | nil : PVL Γ cells N σ φ H [] []
  | cons {d v l vs} (a : PVp Γ cells N σ φ H d v) (b : PVL Γ cells N σ φ H l vs) : PVL Γ cells N σ φ H (d :: l) (v :: vs)
theorem PVp.mono {cells : List (Str × Addr)} {N : List Str} {σ : St} {φ φ' : Nat → Addr} {s s' : DV.Sto} {H H' : Hp} (g : Gr φ s H φ' s' H') {d : DV.D} {v : V} (b : d.bnd s.length = true) (h : PVp Γ cells N σ φ H d v) : PVp Γ cells N σ φ' H' d v := by
  rcases h with h | ⟨id, cs, rfl, h⟩
  · exact .inl (RV.mono g _ _ b h)
  · obtain ⟨f, J, e, h1, ⟨pm, c', ctv, h2, h3⟩, h4, h5, cap, h6, h7⟩ := h
    unfold DV.D.bnd at b
    exact .inr ⟨id, cs, rfl, f, J, e, h1, ⟨pm, c', ctv, g.w.kp _ _ h2 (by unfold lamO; rfl), g.w.kp _ _ h3 (by unfold codeO; rfl)⟩, h4, h5, cap, RVL.mono g cs cap b h6, h7⟩
theorem PVp.caught {cells : List (Str × Addr)} {N : List Str} {kd : Str → Option NameKind} {σ : St} {φ : Nat → Addr} {n : Nat} {H1 H2 : Hp} (ca : Caught cells N kd σ H1 H2) (hkd : ∀ x c, cells.lookup x = some c → kd x = some .cell ∨ kd x = some .free) {d : DV.D} {v : V} (b : d.bnd n = true) (h : PVp Γ cells N σ φ H1 d v) : RV Γ φ H2 d v := by
  have gw : Gw φ n H1 φ H2 := ⟨fun _ _ => rfl, fun b o e _ => ca.same b o e⟩
  rcases h with h | ⟨id, cs, rfl, h⟩
  · exact RV.monoW gw _ _ b h
  · obtain ⟨f, J, e, h1, h2, h4, h5, cap, h6, h7⟩ := h
    unfold DV.D.bnd at b
    unfold RV
    refine ⟨f, cap, J, _, e, h1, lamAt_of ca h2 h5 (fun i x v e1 e2 => ?_), by rw [h6.length, h4], RVL.monoW gw cs cap b h6⟩
    obtain ⟨q1, q2⟩ := h7 i x v e1 e2
    obtain ⟨c, q3⟩ := h5 x q1
    exact ⟨q1, hkd x c q3, q2⟩
theorem PVL.caught {cells : List (Str × Addr)} {N : List Str} {kd : Str → Option NameKind} {σ : St} {φ : Nat → Addr} {n : Nat} {H1 H2 : Hp} (ca : Caught cells N kd σ H1 H2) (hkd : ∀ x c, cells.lookup x = some c → kd x = some .cell ∨ kd x = some .free) {l : List DV.D} {vs : List V} (h : PVL Γ cells N σ φ H1 l vs) (b : DV.D.bndL n l = true) : RVL Γ φ H2 l vs := by
  induction h with
  | nil => exact .nil
  | cons a _ ih =>
    unfold DV.D.bndL at b
    rw [Bool.and_eq_true] at b
    exact .cons (a.caught ca hkd b.1) (ih b.2)
end
end L2
end

set_option Elab.async false
set_option linter.all false
set_option maxRecDepth 100000
set_option maxHeartbeats 4000000
noncomputable section
namespace L2
open PySem PySem.Spec PyProof.Rows
variable {Γ : Gm} {X : Cx}
/-! ### the plain reading's wishes -/
noncomputable def TEv (Γ : Gm) (m : DV.Env → DV.Sto → DV.R DV.D) : TE := fun σ H Q => ∃ φ ρ s d s', RE Γ φ H s.length ρ σ ∧ Rp Γ φ H s ∧ m ρ s = .ok d s' ∧ After Γ φ s H d s' Q
noncomputable def AfterL (Γ : Gm) (φ : Nat → Addr) (s : DV.Sto) (H : Hp) (l : List DV.D) (s' : DV.Sto) (Q : List V → Hp → Prop) : Prop :=
  ∀ vs φ' H', Gr φ s H φ' s' H' → s.length ≤ s'.length → DV.D.bndL s'.length l = true → RVL Γ φ' H' l vs → Rp Γ φ' H' s' → Q vs H'
noncomputable def TAv (Γ : Gm) (m : DV.Env → DV.Sto → DV.R (List DV.D)) : TA := fun σ H Q => ∃ φ ρ s l s', RE Γ φ H s.length ρ σ ∧ Rp Γ φ H s ∧ m ρ s = .ok l s' ∧ AfterL Γ φ s H l s' Q
noncomputable def AfterB (Γ : Gm) (φ : Nat → Addr) (s : DV.Sto) (H : Hp) (b : Bool) (s' : DV.Sto) (Q : Bool → Hp → Prop) : Prop :=
  ∀ φ' H', Gr φ s H φ' s' H' → s.length ≤ s'.length → Rp Γ φ' H' s' → Q b H'
noncomputable def TTv (Γ : Gm) (m : DV.Env → DV.Sto → DV.R DV.D) : TT := fun σ H Q => ∃ φ ρ s b s', RE Γ φ H s.length ρ σ ∧ Rp Γ φ H s ∧ m ρ s = .ok (.bl b) s' ∧ AfterB Γ φ s H b s' Q
theorem PE.imp {e : Expr} {t t' : TE} (h : PE X e t) (i : ∀ σ H Q, t' σ H Q → t σ H Q) : PE X e t' := fun pins s σ H Q I q => h pins s σ H Q I (i σ H Q q)
theorem PT.imp {e : Expr} {t t' : TT} (h : PT X e t) (i : ∀ σ H Q, t' σ H Q → t σ H Q) : PT X e t' := fun pins s σ H Q I q => h pins s σ H Q I (i σ H Q q)
theorem PA.imp {e : List Expr} {t t' : TA} (h : PA X e t) (i : ∀ σ H Q, t' σ H Q → t σ H Q) : PA X e t' := fun pos pins s σ H Q I q => h pos pins s σ H Q I (i σ H Q q)
theorem AfterB.trans {φ φ1 : Nat → Addr} {s s1 s' : DV.Sto} {H H1 : Hp} {b : Bool} {Q : Bool → Hp → Prop} (h : AfterB Γ φ s H b s' Q) (g : Gr φ s H φ1 s1 H1) (l : s.length ≤ s1.length) : AfterB Γ φ1 s1 H1 b s' Q :=
  fun φ' H' g' l' p => h φ' H' (g.trans g' l) (Nat.le_trans l l') p
/-! names and constants -/
theorem tv_var (i : Nat) {σ : St} {H : Hp} {Q : VK} (h : TEv Γ (fun ρ s => DV.getV ρ i s) σ H Q) : tVar i σ H Q := by
  obtain ⟨φ, ρ, s, d, s', E, R, hm, q⟩ := h
  simp only [DV.getV] at hm
  split at hm
  · rename_i d' e
    cases hm
    obtain ⟨b, v, e1, e2⟩ := E.val i _ e
    exact ⟨v, e1, q.here R b e2⟩
  · cases hm
theorem tv_cst {c : DV.D} {v : V} (hb : ∀ n, c.bnd n = true) (hv : ∀ φ H, RV Γ φ H c v) {σ : St} {H : Hp} {Q : VK} (h : TEv Γ (fun ρ s => .ok c s) σ H Q) : tC v σ H Q := by
  obtain ⟨φ, ρ, s, d, s', E, R, hm, q⟩ := h
  cases hm
  exact q.here R (hb _) (hv _ _)
/-! two, one after the other -/
theorem tv_op {m1 m2 : DV.Env → DV.Sto → DV.R DV.D} {f : DV.D → DV.D → DV.Sto → DV.R DV.D} {σ : St} {H : Hp} {Q : VK} (h : TEv Γ (fun ρ s => (m1 ρ s).bind fun x s => (m2 ρ s).bind fun y s => f x y s) σ H Q) : tOp (rOp Γ f) (TEv Γ m1) (TEv Γ m2) σ H Q := by
  obtain ⟨φ, ρ, s, d, s', E, R, hm, q⟩ := h
  obtain ⟨x, s1, e1, hm⟩ := bind_inv hm
  obtain ⟨y, s2, e2, hm⟩ := bind_inv hm
  refine ⟨φ, ρ, s, x, s1, E, R, e1, fun v1 φ1 H1 g1 l1 b1 r1 R1 => ?_⟩
  refine ⟨φ1, ρ, s1, y, s2, E.mono g1 l1, R1, e2, fun v2 φ2 H2 g2 l2 b2 r2 R2 => ?_⟩
  exact ⟨φ2, s2, x, y, d, s', R2, RV.mono g2 x v1 b1 r1, r2, D_bnd_mono l2 x b1, b2, hm, q.trans (g1.trans g2 l1) (Nat.le_trans l1 l2)⟩
theorem tv_un {m : DV.Env → DV.Sto → DV.R DV.D} {f : DV.D → DV.Sto → DV.R DV.D} {r : V → Hp → VK → Prop} {σ : St} {H : Hp} {Q : VK} (h : TEv Γ (fun ρ s => (m ρ s).bind fun x s => f x s) σ H Q)
    (hr : ∀ φ s x d s' v H', Rp Γ φ H' s → RV Γ φ H' x v → x.bnd s.length = true → f x s = .ok d s' → After Γ φ s H' d s' Q → r v H' Q) : tUn r (TEv Γ m) σ H Q := by
  obtain ⟨φ, ρ, s, d, s', E, R, hm, q⟩ := h
  obtain ⟨x, s1, e1, hm⟩ := bind_inv hm
  exact ⟨φ, ρ, s, x, s1, E, R, e1, fun v1 φ1 H1 g1 l1 b1 r1 R1 => hr φ1 s1 x d s' v1 H1 R1 r1 b1 hm (q.trans g1 l1)⟩
/-! tests -/
theorem tru_inv {α : Type} {r : DV.R DV.D} {f : Bool → DV.Sto → DV.R α} {a : α} {t : DV.Sto} (h : DV.tru r f = .ok a t) : ∃ b s, r = .ok (.bl b) s ∧ f b s = .ok a t := by
  unfold DV.tru at h
  obtain ⟨d, s, e, h⟩ := bind_inv h
  cases d with
  | bl b => exact ⟨b, s, e, h⟩
  | _ => cases h
theorem tt_val {m : DV.Env → DV.Sto → DV.R DV.D} {σ : St} {H : Hp} {Q : Bool → Hp → Prop} (h : TTv Γ m σ H Q) : tB (TEv Γ m) σ H Q := by
  obtain ⟨φ, ρ, s, b, s', E, R, hm, q⟩ := h
  refine ⟨φ, ρ, s, .bl b, s', E, R, hm, fun v φ' H' g l bb r R' => ?_⟩
  exact ⟨b, r.blE, q φ' H' g l R'⟩
theorem tt_test {m : DV.Env → DV.Sto → DV.R DV.D} {σ : St} {H : Hp} {Q : Bool → Hp → Prop} (h : TTv Γ m σ H Q) : tTest (TEv Γ m) σ H Q := tt_val h
theorem tt_not {m : DV.Env → DV.Sto → DV.R DV.D} {σ : St} {H : Hp} {Q : Bool → Hp → Prop} (h : TTv Γ (fun ρ s => DV.tru (m ρ s) fun b s => .ok (.bl (!b)) s) σ H Q) : tNot (TTv Γ m) σ H Q := by
  obtain ⟨φ, ρ, s, b, s', E, R, hm, q⟩ := h
  obtain ⟨c, s1, e1, hm⟩ := tru_inv hm
  cases hm
  exact ⟨φ, ρ, s, c, _, E, R, e1, q⟩
theorem tt_and {m1 m2 : DV.Env → DV.Sto → DV.R DV.D} {σ : St} {H : Hp} {Q : Bool → Hp → Prop} (h : TTv Γ (fun ρ s => DV.tru (m1 ρ s) fun c s => if c then DV.tru (m2 ρ s) fun c s => .ok (.bl c) s else .ok (.bl false) s) σ H Q) : tAnd (TTv Γ m1) (TTv Γ m2) σ H Q := by
  obtain ⟨φ, ρ, s, b, s', E, R, hm, q⟩ := h
  obtain ⟨c, s1, e1, hm⟩ := tru_inv hm
  refine ⟨φ, ρ, s, c, s1, E, R, e1, fun φ1 H1 g1 l1 R1 => ?_⟩
  cases c with
  | true =>
    rw [if_pos rfl] at hm ⊢
    obtain ⟨c', s2, e2, hm⟩ := tru_inv hm
    cases hm
    exact ⟨φ1, ρ, s1, _, _, E.mono g1 l1, R1, e2, q.trans g1 l1⟩
  | false =>
    rw [if_neg Bool.false_ne_true] at hm ⊢
    cases hm
    exact q φ1 H1 g1 l1 R1
theorem tt_or {m1 m2 : DV.Env → DV.Sto → DV.R DV.D} {σ : St} {H : Hp} {Q : Bool → Hp → Prop} (h : TTv Γ (fun ρ s => DV.tru (m1 ρ s) fun c s => if c then .ok (.bl true) s else DV.tru (m2 ρ s) fun c s => .ok (.bl c) s) σ H Q) : tOr (TTv Γ m1) (TTv Γ m2) σ H Q := by
  obtain ⟨φ, ρ, s, b, s', E, R, hm, q⟩ := h
  obtain ⟨c, s1, e1, hm⟩ := tru_inv hm
  refine ⟨φ, ρ, s, c, s1, E, R, e1, fun φ1 H1 g1 l1 R1 => ?_⟩
  cases c with
  | true =>
    rw [if_pos rfl] at hm ⊢
    cases hm
    exact q φ1 H1 g1 l1 R1
  | false =>
    rw [if_neg Bool.false_ne_true] at hm ⊢
    obtain ⟨c', s2, e2, hm⟩ := tru_inv hm
    cases hm
    exact ⟨φ1, ρ, s1, _, _, E.mono g1 l1, R1, e2, q.trans g1 l1⟩
theorem tv_not {m : DV.Env → DV.Sto → DV.R DV.D} {σ : St} {H : Hp} {Q : VK} (h : TEv Γ (fun ρ s => DV.tru (m ρ s) fun b s => .ok (.bl (!b)) s) σ H Q) : tNotV (TEv Γ m) σ H Q := by
  obtain ⟨φ, ρ, s, d, s', E, R, hm, q⟩ := h
  obtain ⟨c, s1, e1, hm⟩ := tru_inv hm
  cases hm
  exact ⟨φ, ρ, s, .bl c, _, E, R, e1, fun v φ1 H1 g l b r R1 => ⟨c, r.blE, q _ φ1 H1 g l rfl RV.blI R1⟩⟩
theorem tv_and {m1 m2 : DV.Env → DV.Sto → DV.R DV.D} {σ : St} {H : Hp} {Q : VK} (h : TEv Γ (fun ρ s => DV.tru (m1 ρ s) fun c s => if c then DV.tru (m2 ρ s) fun c s => .ok (.bl c) s else .ok (.bl false) s) σ H Q) : tAndV (TEv Γ m1) (TEv Γ m2) σ H Q := by
  obtain ⟨φ, ρ, s, d, s', E, R, hm, q⟩ := h
  obtain ⟨c, s1, e1, hm⟩ := tru_inv hm
  refine ⟨φ, ρ, s, .bl c, s1, E, R, e1, fun v φ1 H1 g1 l1 b1 r1 R1 => ⟨c, r1.blE, ?_⟩⟩
  cases c with
  | true =>
    rw [if_pos rfl] at hm ⊢
    obtain ⟨c, s2, e2, hm⟩ := tru_inv hm
    cases hm
    exact ⟨φ1, ρ, s1, .bl c, _, E.mono g1 l1, R1, e2, q.trans g1 l1⟩
  | false =>
    rw [if_neg Bool.false_ne_true] at hm ⊢
    cases hm
    exact q _ φ1 H1 g1 l1 rfl RV.blI R1
theorem tv_or {m1 m2 : DV.Env → DV.Sto → DV.R DV.D} {σ : St} {H : Hp} {Q : VK} (h : TEv Γ (fun ρ s => DV.tru (m1 ρ s) fun c s => if c then .ok (.bl true) s else DV.tru (m2 ρ s) fun c s => .ok (.bl c) s) σ H Q) : tOrV (TEv Γ m1) (TEv Γ m2) σ H Q := by
  obtain ⟨φ, ρ, s, d, s', E, R, hm, q⟩ := h
  obtain ⟨c, s1, e1, hm⟩ := tru_inv hm
  refine ⟨φ, ρ, s, .bl c, s1, E, R, e1, fun v φ1 H1 g1 l1 b1 r1 R1 => ⟨c, r1.blE, ?_⟩⟩
  cases c with
  | true =>
    rw [if_pos rfl] at hm ⊢
    cases hm
    exact q _ φ1 H1 g1 l1 rfl RV.blI R1
  | false =>
    rw [if_neg Bool.false_ne_true] at hm ⊢
    obtain ⟨c, s2, e2, hm⟩ := tru_inv hm
    cases hm
    exact ⟨φ1, ρ, s1, .bl c, _, E.mono g1 l1, R1, e2, q.trans g1 l1⟩
theorem tv_ite {mc m1 m2 : DV.Env → DV.Sto → DV.R DV.D} {σ : St} {H : Hp} {Q : VK} (h : TEv Γ (fun ρ s => DV.tru (mc ρ s) fun k s => if k then m1 ρ s else m2 ρ s) σ H Q) : tIf (TTv Γ mc) (TEv Γ m1) (TEv Γ m2) σ H Q := by
  obtain ⟨φ, ρ, s, d, s', E, R, hm, q⟩ := h
  obtain ⟨c, s1, e1, hm⟩ := tru_inv hm
  refine ⟨φ, ρ, s, c, s1, E, R, e1, fun φ1 H1 g1 l1 R1 => ?_⟩
  cases c with
  | true =>
    rw [if_pos rfl] at hm ⊢
    exact ⟨φ1, ρ, s1, d, s', E.mono g1 l1, R1, hm, q.trans g1 l1⟩
  | false =>
    rw [if_neg Bool.false_ne_true] at hm ⊢
    exact ⟨φ1, ρ, s1, d, s', E.mono g1 l1, R1, hm, q.trans g1 l1⟩
/-! lists of arguments -/
theorem ta_nil {σ : St} {H : Hp} {Q : List V → Hp → Prop} (h : TAv Γ (fun ρ s => .ok [] s) σ H Q) : tNil σ H Q := by
  obtain ⟨φ, ρ, s, d, s', E, R, hm, q⟩ := h
  cases hm
  exact q [] φ H (Gr.refl _ _ _) (Nat.le_refl _) rfl .nil R
theorem ta_cons {m : DV.Env → DV.Sto → DV.R DV.D} {ms : DV.Env → DV.Sto → DV.R (List DV.D)} {σ : St} {H : Hp} {Q : List V → Hp → Prop} (h : TAv Γ (fun ρ s => (m ρ s).bind fun d s => (ms ρ s).bind fun l s => .ok (d :: l) s) σ H Q) : tCons (TEv Γ m) (TAv Γ ms) σ H Q := by
  obtain ⟨φ, ρ, s, l, s', E, R, hm, q⟩ := h
  obtain ⟨x, s1, e1, hm⟩ := bind_inv hm
  obtain ⟨y, s2, e2, hm⟩ := bind_inv hm
  cases hm
  refine ⟨φ, ρ, s, x, s1, E, R, e1, fun v1 φ1 H1 g1 l1 b1 r1 R1 => ?_⟩
  refine ⟨φ1, ρ, s1, y, _, E.mono g1 l1, R1, e2, fun v2 φ2 H2 g2 l2 b2 r2 R2 => ?_⟩
  refine q (v1 :: v2) φ2 H2 (g1.trans g2 l1) (Nat.le_trans l1 l2) ?_ (.cons (RV.mono g2 x v1 b1 r1) r2) R2
  unfold DV.D.bndL
  rw [D_bnd_mono l2 x b1, b2]; rfl
theorem tv_call {ms : DV.Env → DV.Sto → DV.R (List DV.D)} {f : List DV.D → DV.Sto → DV.R DV.D} {σ : St} {H : Hp} {Q : VK} (h : TEv Γ (fun ρ s => (ms ρ s).bind fun l s => f l s) σ H Q) : tCB (rCl Γ f) (TAv Γ ms) σ H Q := by
  obtain ⟨φ, ρ, s, d, s', E, R, hm, q⟩ := h
  obtain ⟨l, s1, e1, hm⟩ := bind_inv hm
  exact ⟨φ, ρ, s, l, s1, E, R, e1, fun vs φ1 H1 g1 l1 b1 r1 R1 => ⟨φ1, s1, l, d, s', R1, r1, b1, hm, q.trans g1 l1⟩⟩
/-! slices -/
end L2
end

set_option Elab.async false
set_option linter.all false
set_option maxRecDepth 100000
set_option maxHeartbeats 4000000
noncomputable section
namespace L2
open PySem PySem.Spec PyProof.Rows
variable {Γ : Gm} {X : Cx}
/-! ### what is walked -/
/-- the iterator J tells the items of q, as long as what they are walked from stands -/
noncomputable def WalkOk (Γ : Gm) (J : It) (φ0 : Nat → Addr) (H0 : Hp) (s0 : DV.Sto) (q : DV.Sq) : Prop :=
  ∀ φ H s, Gr φ0 s0 H0 φ s H → s0.length ≤ s.length → Rp Γ φ H s → DV.chk s0 s q.src = true → ∀ i : Nat,
    (i < q.its.length → J.go i H ∧ ∀ x H', J.yld i H x H' → Same H H' ∧ ∀ d, q.its[i]? = some d → RV Γ φ H' d x) ∧ (q.its.length ≤ i → J.stop i H)
noncomputable def TIv (Γ : Gm) (m : DV.Env → DV.Sto → DV.R DV.Sq) : TI := fun σ H R => ∃ φ ρ s q s', RE Γ φ H s.length ρ σ ∧ Rp Γ φ H s ∧ m ρ s = .ok q s' ∧
  ∀ J φ' H', Gr φ s H φ' s' H' → s.length ≤ s'.length → DV.D.bndL s'.length q.its = true → Rp Γ φ' H' s' → WalkOk Γ J φ' H' s' q → R J H'
theorem PI.imp {tg e : Expr} {t t' : TI} (h : PI X tg e t) (i : ∀ σ H R, t' σ H R → t σ H R) : PI X tg e t' := fun pins s σ H R I q => h pins s σ H R I (i σ H R q)
theorem PI.or {tg e : Expr} {t t' : TI} (h : PI X tg e t) (h' : PI X tg e t') : PI X tg e (fun σ H R => t σ H R ∨ t' σ H R) := fun pins s σ H R I q => q.elim (h pins s σ H R I) (h' pins s σ H R I)
theorem walk_tup {φ0 : Nat → Addr} {H0 : Hp} {s0 : DV.Sto} {a : Addr} {xs : List V} {l : List DV.D} (h : SqT Γ.K H0 a xs) (hl : RVL Γ φ0 H0 l xs) (hb : DV.D.bndL s0.length l = true) : WalkOk Γ (Itt Γ.K a) φ0 H0 s0 ⟨l, []⟩ := by
  intro φ H s g _ R _ i
  have h' := g.w.kp.sqT h
  have hl' := RVL.mono g l xs hb hl
  refine ⟨fun hlt => ⟨⟨xs, xs[i]'(by rw [hl'.length]; exact hlt), h', List.getElem?_eq_getElem _⟩, fun x H' y => ?_⟩, fun hle => ⟨xs, h', by rw [hl'.length]; exact hle⟩⟩
  obtain ⟨e, y⟩ := y
  subst e
  refine ⟨Same.refl _, fun d hd => ?_⟩
  obtain ⟨v, e1, e2⟩ := hl'.get hd
  rw [y xs h'] at e1; cases e1
  exact e2
theorem walk_ro {φ0 : Nat → Addr} {H0 : Hp} {s0 : DV.Sto} {a : Addr} {xs : List V} {l : List DV.D} (h : SqF Γ.K H0 a xs) (hl : RVL Γ φ0 H0 l xs) (hb : DV.D.bndL s0.length l = true) : WalkOk Γ (Itl Γ.K a) φ0 H0 s0 ⟨l, []⟩ := by
  intro φ H s g _ R _ i
  have h' := h.2 _ g.w.kp
  have hl' := RVL.mono g l xs hb hl
  refine ⟨fun hlt => ⟨⟨xs, xs[i]'(by rw [hl'.length]; exact hlt), h', List.getElem?_eq_getElem _⟩, fun x H' y => ?_⟩, fun hle => ⟨xs, h', by rw [hl'.length]; exact hle⟩⟩
  obtain ⟨e, y⟩ := y
  subst e
  refine ⟨Same.refl _, fun d hd => ?_⟩
  obtain ⟨v, e1, e2⟩ := hl'.get hd
  rw [y xs h'] at e1; cases e1
  exact e2
theorem walk_lst {φ0 : Nat → Addr} {H0 : Hp} {s0 : DV.Sto} {r : Nat} {l : List DV.D} (hr : s0[r]? = some (.lst l)) : WalkOk Γ (Itl Γ.K (φ0 r)) φ0 H0 s0 ⟨l, [r]⟩ := by
  intro φ H s g _ R ck i
  have hlt0 : r < s0.length := (List.getElem?_eq_some_iff.mp hr).1
  have hs : s[r]? = some (.lst l) := by
    unfold DV.chk at ck
    simp only [List.all_cons, List.all_nil, Bool.and_true, decide_eq_true_eq] at ck
    rw [ck]; exact hr
  obtain ⟨xs, e, hl'⟩ := R.addr hs
  rw [g.w.map r hlt0] at e
  have h' : SqL Γ.K H (φ0 r) xs := SqL.of e
  refine ⟨fun hlt => ⟨⟨xs, xs[i]'(by rw [hl'.length]; exact hlt), h', List.getElem?_eq_getElem _⟩, fun x H' y => ?_⟩, fun hle => ⟨xs, h', by rw [hl'.length]; exact hle⟩⟩
  obtain ⟨e, y⟩ := y
  subst e
  refine ⟨Same.refl _, fun d hd => ?_⟩
  obtain ⟨v, e1, e2⟩ := hl'.get hd
  rw [y xs h'] at e1; cases e1
  exact e2
theorem walk_str {φ0 : Nat → Addr} {H0 : Hp} {s0 : DV.Sto} {l : List Nat} : WalkOk Γ (Its ⟨l.toArray⟩) φ0 H0 s0 ⟨l.map fun c => .str [c], []⟩ := by
  intro φ H s g _ R _ i
  have hsz : (⟨l.toArray⟩ : Str).cps.size = l.length := by simp
  refine ⟨fun hlt => ?_, fun hle => ?_⟩
  · simp only [List.length_map] at hlt
    refine ⟨show i < (⟨l.toArray⟩ : Str).cps.size by rw [hsz]; exact hlt, fun x H' y => ?_⟩
    obtain ⟨e, c, hc, rfl⟩ := y
    subst e
    refine ⟨Same.refl _, fun d hd => ?_⟩
    have hc' : l[i]? = some c := by simpa using hc
    rw [List.getElem?_map, hc'] at hd
    cases hd
    exact RV.strI (by simp; decide)
  · simp only [List.length_map] at hle
    show (⟨l.toArray⟩ : Str).cps.size ≤ i
    rw [hsz]; exact hle
theorem walk_rng {φ0 : Nat → Addr} {H0 : Hp} {s0 : DV.Sto} {a b : Int} : WalkOk Γ (Itr a (b - a).toNat) φ0 H0 s0 ⟨DV.rngL a b, []⟩ := by
  intro φ H s g _ R _ i
  have hn : (DV.rngL a b).length = (b - a).toNat := by simp [DV.rngL]
  refine ⟨fun hlt => ⟨show i < (b - a).toNat by rw [← hn]; exact hlt, fun x H' y => ?_⟩, fun hle => show (b - a).toNat ≤ i by rw [← hn]; exact hle⟩
  obtain ⟨e, rfl⟩ := y
  subst e
  refine ⟨Same.refl _, fun d hd => ?_⟩
  simp only [DV.rngL] at hd hlt
  rw [List.getElem?_map, List.getElem?_range (by simpa using hlt)] at hd
  cases hd
  exact RV.intI
theorem ti_rng1 {m : DV.Env → DV.Sto → DV.R DV.D} {σ : St} {H : Hp} {R : It → Hp → Prop} (h : TIv Γ (fun ρ s => (m ρ s).bind fun x s => match x with | .int i => if -DV.W62 ≤ i ∧ i < DV.W62 then .ok ⟨DV.rngL 0 i, []⟩ s else .bad | _ => .bad) σ H R) :
    iRng1 (tCons (TEv Γ m) tNil) σ H R := by
  obtain ⟨φ, ρ, s, q, s', E, P, hm, k⟩ := h
  obtain ⟨x, s1, e1, hm⟩ := bind_inv hm
  refine ⟨φ, ρ, s, x, s1, E, P, e1, fun v φ1 H1 g l b r P1 => ?_⟩
  cases x with
  | int i =>
    simp only at hm
    split at hm
    · rename_i hi
      cases hm
      have hw : DV.W62 = 2 ^ 62 := by decide
      rw [hw] at hi
      refine ⟨i, by rw [r.intE], hi.1, hi.2, k _ φ1 H1 g l ?_ P1 ?_⟩
      · refine bndL_iff.mpr fun d hd => ?_
        simp only [DV.rngL, List.mem_map] at hd
        obtain ⟨_, _, rfl⟩ := hd
        rfl
      · have := walk_rng (Γ := Γ) (φ0 := φ1) (H0 := H1) (s0 := s') (a := 0) (b := i)
        rwa [Int.sub_zero] at this
    · cases hm
  | _ => cases hm
/-- a for over a tuple, a list, a text -/
theorem ti_seq {m : DV.Env → DV.Sto → DV.R DV.D} {σ : St} {H : Hp} {R : It → Hp → Prop} (h : TIv Γ (fun ρ s => (m ρ s).bind fun d s => DV.seqM d s) σ H R) :
    iTup Γ.K (TEv Γ m) σ H R ∨ iList Γ.K (TEv Γ m) σ H R ∨ iStr (TEv Γ m) σ H R := by
  obtain ⟨φ, ρ, s, q, s', E, P, hm, k⟩ := h
  obtain ⟨x, s1, e1, hm⟩ := bind_inv hm
  unfold DV.seqM at hm
  cases x with
  | tup l =>
    cases hm
    refine .inl ⟨φ, ρ, s, _, _, E, P, e1, fun v φ1 H1 g l b r P1 => ?_⟩
    obtain ⟨a, xs, rfl, h1, d1⟩ := r.tupE
    unfold DV.D.bnd at b
    exact ⟨a, rfl, ⟨xs, h1⟩, k _ φ1 H1 g l b P1 (walk_tup h1 d1 b)⟩
  | str l =>
    cases hm
    refine .inr (.inr ⟨φ, ρ, s, _, _, E, P, e1, fun v φ1 H1 g ll b r P1 => ?_⟩)
    refine ⟨_, r.strE, k _ φ1 H1 g ll ?_ P1 walk_str⟩
    refine bndL_iff.mpr fun d hd => ?_
    simp only [List.mem_map] at hd
    obtain ⟨_, _, rfl⟩ := hd
    rfl
  | ref r =>
    simp only at hm
    cases hs : s1[r]? with
    | none => rw [hs] at hm; cases hm
    | some o =>
      rw [hs] at hm
      cases o with
      | lst l =>
        cases hm
        refine .inr (.inl ⟨φ, ρ, s, _, _, E, P, e1, fun v φ1 H1 g ll b rr P1 => ?_⟩)
        have e := rr.refE; subst e
        obtain ⟨xs, e2, d1⟩ := P1.addr hs
        have wf := P1.wf _ _ hs
        unfold DV.O.bnd at wf
        exact ⟨φ1 r, rfl, ⟨xs, SqL.of e2⟩, k _ φ1 H1 g ll wf P1 (walk_lst hs)⟩
      | ro l =>
        cases hm
        refine .inr (.inl ⟨φ, ρ, s, _, _, E, P, e1, fun v φ1 H1 g ll b rr P1 => ?_⟩)
        have e := rr.refE; subst e
        obtain ⟨xs, e2, d1⟩ := P1.obj _ _ hs
        have wf := P1.wf _ _ hs
        unfold DV.O.bnd at wf
        exact ⟨φ1 r, rfl, ⟨xs, e2.1⟩, k _ φ1 H1 g ll wf P1 (walk_ro e2 d1 wf)⟩
      | dic l => cases hm; exact .inr (.inl ⟨φ, ρ, s, _, _, E, P, e1, fun v φ1 H1 g ll b rr P1 => (P1.obj _ _ hs).elim⟩)
      | ins c l => cases hm
  | _ => cases hm
/-! ### zip and enumerate -/
end L2
end

set_option Elab.async false
set_option linter.all false
set_option maxRecDepth 100000
set_option maxHeartbeats 4000000
noncomputable section
namespace L2
open PySem PySem.Spec PyProof.Rows
variable {Γ : Gm} {X : Cx}
/-! ### targets -/
noncomputable def gsOf : List Nat → TGs
  | [] => gNil
  | i :: is => gCons (gName i) (gsOf is)
noncomputable def gOf (K : PySem.W.Frag) : DV.Tg → TG
  | .one i => gName i
  | .tup is => gTup K is.length (gsOf is)
theorem re_set {φ : Nat → Addr} {H : Hp} {n : Nat} {ρ ρ' : DV.Env} {σ : St} {i : Nat} {d : DV.D} {v : V} (E : RE Γ φ H n ρ σ) (r : RV Γ φ H d v) (b : d.bnd n = true) (h : DV.setV ρ i d = some ρ') : RE Γ φ H n ρ' (σ.set i (some v)) := by
  unfold DV.setV at h
  split at h
  · rename_i hi
    cases h
    refine ⟨by rw [List.length_set, List.length_set]; exact E.len, fun j e hj => ?_⟩
    by_cases hij : j = i
    · subst hij
      rw [List.getElem?_set_self hi] at hj
      cases hj
      exact ⟨b, v, by rw [List.getElem?_set_self (by rw [← E.len]; exact hi)], r⟩
    · rw [List.getElem?_set_ne (Ne.symm hij)] at hj
      obtain ⟨h1, w, h2, h3⟩ := E.val j e hj
      exact ⟨h1, w, by rw [List.getElem?_set_ne (Ne.symm hij)]; exact h2, h3⟩
  · cases h
theorem gs_ok {φ : Nat → Addr} {H : Hp} {n : Nat} {Q : St → Hp → Prop} : ∀ (is : List Nat) (l : List DV.D) (xs : List V) (ρ ρ' : DV.Env) (σ : St), RE Γ φ H n ρ σ → RVL Γ φ H l xs → DV.D.bndL n l = true → DV.setVs ρ is l = some ρ' → (∀ σ', RE Γ φ H n ρ' σ' → Q σ' H) → gsOf is xs σ H Q
  | [], [], xs, ρ, ρ', σ, E, r, _, h, k => by
    cases h
    exact ⟨r.unnil, k σ E⟩
  | [], d :: l, _, _, _, _, _, _, _, h, _ => by cases h
  | i :: is, [], _, _, _, _, _, _, _, h, _ => by cases h
  | i :: is, d :: l, xs, ρ, ρ', σ, E, r, b, h, k => by
    have h : (DV.setV ρ i d).bind (fun ρ => DV.setVs ρ is l) = some ρ' := h
    obtain ⟨x, r', rfl, h1, h2⟩ := r.uncons
    unfold DV.D.bndL at b
    rw [Bool.and_eq_true] at b
    cases e : DV.setV ρ i d with
    | none => rw [e] at h; cases h
    | some ρ1 =>
      rw [e] at h
      exact ⟨x, r', rfl, gs_ok is l r' ρ1 ρ' _ (re_set E h1 b.1 e) h2 b.2 h k⟩
theorem setVs_len {l : List DV.D} : ∀ {is : List Nat} {ρ ρ' : DV.Env}, DV.setVs ρ is l = some ρ' → is.length = l.length := by
  induction l with
  | nil => intro is ρ ρ' h; cases is with
    | nil => rfl
    | cons i is => cases h
  | cons d l ih => intro is ρ ρ' h; cases is with
    | nil => cases h
    | cons i is =>
      have h : (DV.setV ρ i d).bind (fun ρ => DV.setVs ρ is l) = some ρ' := h
      cases e : DV.setV ρ i d with
      | none => rw [e] at h; cases h
      | some ρ1 => rw [e] at h; rw [List.length_cons, List.length_cons, ih h]
theorem tg_ok {φ : Nat → Addr} {H : Hp} {n : Nat} {Q : St → Hp → Prop} {tg : DV.Tg} {d : DV.D} {v : V} {ρ ρ' : DV.Env} {σ : St} (E : RE Γ φ H n ρ σ) (r : RV Γ φ H d v) (b : d.bnd n = true) (h : DV.bindT ρ tg d = some ρ') (k : ∀ σ', RE Γ φ H n ρ' σ' → Q σ' H) : gOf Γ.K tg v σ H Q := by
  cases tg with
  | one i => exact k _ (re_set E r b h)
  | tup is =>
    cases d with
    | tup l =>
      have h : DV.setVs ρ is l = some ρ' := h
      obtain ⟨a, xs, rfl, h1, d1⟩ := r.tupE
      unfold DV.D.bnd at b
      exact ⟨a, xs, rfl, h1, by rw [d1.length, setVs_len h], gs_ok is l xs ρ ρ' σ E d1 b h k⟩
    | _ => cases h
/-! ### fresh lists -/
/-- b is no thing of the store that may change -/
noncomputable def Off (φ : Nat → Addr) (s : DV.Sto) (b : Addr) : Prop := ∀ (i : Nat) (ob : DV.O), s[i]? = some ob → isMut ob = true → φ i ≠ b
theorem Off.mono {φ φ' : Nat → Addr} {s s' : DV.Sto} {H H' : Hp} {b : Addr} {o : HO} (h : Off φ s b) (g : Gr φ s H φ' s' H') (hb : H b = some o) : Off φ' s' b := fun i ob e m z => by
  by_cases hi : i < s.length
  · obtain ⟨o0, e0⟩ : ∃ o0, s[i]? = some o0 := ⟨s[i], List.getElem?_eq_getElem hi⟩
    exact h i o0 e0 (g.mu i o0 ob e0 e m) (by rw [← g.w.map i hi]; exact z)
  · have := g.new i (by omega) (List.getElem?_eq_some_iff.mp e).1
    rw [z, hb] at this; cases this
theorem Off.new {φ : Nat → Addr} {s : DV.Sto} {H : Hp} {b : Addr} (r : Rp Γ φ H s) (h : H b = none) : Off φ s b := fun i ob e m z => by
  obtain ⟨u, hu, _⟩ := (r.obj i ob e).there m
  rw [z, h] at hu; cases hu
/-- a list that is none of the store's is changed -/
theorem Rp.foreign {φ : Nat → Addr} {s : DV.Sto} {H : Hp} {b : Addr} {ys zs : List V} (r : Rp Γ φ H s) (hb : H b = some (.lst ys)) (ho : Off φ s b) : Rp Γ φ (upd H b (.lst zs)) s := by
  have g : Gw φ s.length H φ (upd H b (.lst zs)) := ⟨fun _ _ => rfl, (Kp.refl H).put hb rfl⟩
  exact ⟨r.inj, fun i o e => (r.obj i o e).mono g (r.wf i o e) fun m u hu => by rw [upd_ne (ho i o e m)]; exact hu, r.wf, r.tab.put hb⟩
theorem Gr.foreign {φ φ' : Nat → Addr} {s s' : DV.Sto} {H H' : Hp} {b : Addr} {ys zs : List V} (g : Gr φ s H φ' s' H') (h0 : H b = none) (hb : H' b = some (.lst ys)) : Gr φ s H φ' s' (upd H' b (.lst zs)) := by
  have ne : ∀ c o, H c = some o → c ≠ b := fun c o e => ne_of_none e h0
  refine ⟨⟨g.w.map, fun c o e f => ?_⟩, g.le, g.new, g.mu, fun c hc => ?_, fun c o e nt no => ?_⟩
  · rw [upd_ne (ne c o e)]; exact g.w.kp c o e f
  · unfold upd; split
    · simp
    · exact g.st c hc
  · rw [upd_ne (ne c o e)]; exact g.fr c o e nt no
noncomputable def AfterF (Γ : Gm) (φ : Nat → Addr) (s : DV.Sto) (H : Hp) (l : List DV.D) (s' : DV.Sto) (Q : VK) : Prop :=
  ∀ p ys φ' H', Gr φ s H φ' s' H' → s.length ≤ s'.length → DV.D.bndL s'.length l = true → H' p = some (.lst ys) → H p = none → Off φ' s' p → RVL Γ φ' H' l ys → Rp Γ φ' H' s' → Q (.ref p) H'
/-- a list that is made on the spot -/
noncomputable def TFv (Γ : Gm) (m : DV.Env → DV.Sto → DV.R (List DV.D)) : TE := fun σ H Q => ∃ φ ρ s l s', RE Γ φ H s.length ρ σ ∧ Rp Γ φ H s ∧ m ρ s = .ok l s' ∧ AfterF Γ φ s H l s' Q
/-- it becomes a thing of the store -/
theorem tf_list {m : DV.Env → DV.Sto → DV.R (List DV.D)} {σ : St} {H : Hp} {Q : VK} (h : TEv Γ (fun ρ s => (m ρ s).bind fun l s => DV.alloc (.lst l) s) σ H Q) : TFv Γ m σ H Q := by
  obtain ⟨φ, ρ, s, d, s', E, R, hm, q⟩ := h
  obtain ⟨l, s1, e1, hm⟩ := bind_inv hm
  obtain ⟨rfl, rfl⟩ := alloc_inv hm
  refine ⟨φ, ρ, s, l, s1, E, R, e1, fun p ys φ' H' g hl hb hp h0 ho r R' => ?_⟩
  have gw : Gw φ' s1.length H' (fun i => if i = s1.length then p else φ' i) H' := ⟨fun i hi => if_neg (Nat.ne_of_lt hi), Kp.refl _⟩
  have key : ∀ (i : Nat) (o' : DV.O), (s1 ++ [DV.O.lst l])[i]? = some o' → (i < s1.length ∧ s1[i]? = some o') ∨ (i = s1.length ∧ o' = .lst l) := fun i o' e => by
    rcases Nat.lt_trichotomy i s1.length with h | h | h
    · rw [List.getElem?_append_left h] at e; exact .inl ⟨h, e⟩
    · subst h; simp at e; exact .inr ⟨rfl, e.symm⟩
    · rw [List.getElem?_eq_none (by simp; omega)] at e; cases e
  have G : Gr φ s H (fun i => if i = s1.length then p else φ' i) (s1 ++ [.lst l]) H' := by
    refine ⟨⟨fun i hi => by show (if i = s1.length then p else φ' i) = _; rw [if_neg (by omega)]; exact g.w.map i hi, g.w.kp⟩, by simp; omega, fun i h1 h2 => ?_, fun i o o' e e' m => ?_, g.st, g.fr⟩
    · by_cases hi : i = s1.length
      · show H (if i = s1.length then p else φ' i) = none
        rw [if_pos hi]; exact h0
      · show H (if i = s1.length then p else φ' i) = none
        rw [if_neg hi]; exact g.new i h1 (by simp at h2; omega)
    · rcases key i o' e' with ⟨_, e2⟩ | ⟨hi, _⟩
      · exact g.mu i o o' e e2 m
      · have := (List.getElem?_eq_some_iff.mp e).1; omega
  have P : Rp Γ (fun i => if i = s1.length then p else φ' i) H' (s1 ++ [.lst l]) := by
    refine ⟨fun i j oi oj ei ej mi mj e => ?_, fun i o e => ?_, fun i o e => ?_, R'.tab⟩
    · rcases key i oi ei with ⟨hi, ei⟩ | ⟨hi, _⟩ <;> rcases key j oj ej with ⟨hj, ej⟩ | ⟨hj, _⟩
      · rw [if_neg (Nat.ne_of_lt hi), if_neg (Nat.ne_of_lt hj)] at e
        exact R'.inj i j oi oj ei ej mi mj e
      · rw [if_neg (Nat.ne_of_lt hi), if_pos hj] at e
        exact absurd e (ho i oi ei mi)
      · rw [if_neg (Nat.ne_of_lt hj), if_pos hi] at e
        exact absurd e.symm (ho j oj ej mj)
      · rw [hi, hj]
    · rcases key i o e with ⟨hi, e⟩ | ⟨hi, rfl⟩
      · show RO Γ _ _ (if i = s1.length then p else φ' i) o
        rw [if_neg (Nat.ne_of_lt hi)]
        exact (R'.obj i o e).mono gw (R'.wf i o e) fun _ u hu => hu
      · show RO Γ _ _ (if i = s1.length then p else φ' i) _
        rw [if_pos hi]
        exact ⟨ys, hp, RVL.monoW gw l ys hb r⟩
    · rw [List.length_append, List.length_singleton]
      rcases key i o e with ⟨_, e⟩ | ⟨_, rfl⟩
      · exact O_bnd_mono (Nat.le_succ _) _ (R'.wf i o e)
      · exact O_bnd_mono (Nat.le_succ _) _ (by unfold DV.O.bnd; exact hb)
  exact q (.ref p) _ H' G (by simp; omega) (by unfold DV.D.bnd; simp) (by unfold RV; simp) P
/-! ### comprehensions -/
theorem re_cap {φ : Nat → Addr} {H : Hp} {n : Nat} {ρ : DV.Env} {σ : St} (E : RE Γ φ H n ρ σ) (caps : List (Option Nat)) : RE Γ φ H n (DV.capEnv ρ caps) (srcSt caps σ) := by
  refine ⟨by unfold DV.capEnv srcSt; simp, fun i d e => ?_⟩
  unfold DV.capEnv at e
  rw [List.getElem?_map] at e
  cases q : caps[i]? with
  | none => rw [q] at e; cases e
  | some o =>
    rw [q] at e
    cases o with
    | none => cases e
    | some j =>
      have e' : (ρ[j]?).join = some d := Option.some.inj e
      have ej : ρ[j]? = some (some d) := by
        cases q2 : ρ[j]? with
        | none => rw [q2] at e'; cases e'
        | some o2 => rw [q2] at e'; exact congrArg some e'
      obtain ⟨b, v, h1, h2⟩ := E.val j d ej
      refine ⟨b, v, ?_, h2⟩
      unfold srcSt
      rw [List.getElem?_map, q]
      show some ((σ[j]?).join) = _
      rw [h1]; rfl
theorem tf_comp {mI : DV.Env → DV.Sto → DV.R DV.Sq} {mc me : DV.Env → DV.Sto → DV.R DV.D} {tg : DV.Tg} {caps : List (Option Nat)} {σ : St} {H : Hp} {Q : VK}
    (h : TFv Γ (fun ρ s => (mI ρ s).bind fun q s0 => if q.its.length ≤ DV.LIM then DV.compL (fun s => DV.chk s0 s q.src) (fun d ρ s => match DV.bindT ρ tg d with
      | some ρ => DV.tru (mc ρ s) fun k s => if k then (me ρ s).bind fun v s => .ok (some v, ρ) s else .ok (none, ρ) s
      | none => .bad) q.its (DV.capEnv ρ caps) s0 else .bad) σ H Q) : tComp caps (TIv Γ mI) (gOf Γ.K tg) (TTv Γ mc) (TEv Γ me) σ H Q := by
  obtain ⟨φ, ρ, s, l, s', E, R, hm, k⟩ := h
  obtain ⟨q, s0, e1, hm⟩ := bind_inv hm
  split at hm
  case isFalse => cases hm
  rename_i hlim
  refine ⟨φ, ρ, s, q, s0, E, R, e1, fun J φ1 H1 g1 l1 b1 R1 wk D hD => ?_⟩
  have h0 : H D = none := by
    cases e : H D with
    | none => rfl
    | some o => exact absurd hD (g1.st D (by rw [e]; simp))
  refine ⟨fun i m σ' H' => ∃ φ' ρ' t acc ys rest, Gr φ1 s0 H1 φ' t H' ∧ Rp Γ φ' H' t ∧ RE Γ φ' H' t.length ρ' σ' ∧ H' D = some (.lst ys) ∧ Off φ' t D ∧ RVL Γ φ' H' acc ys ∧ DV.D.bndL t.length acc = true ∧ acc.length ≤ i ∧ i ≤ q.its.length ∧ m = q.its.length - i ∧
    DV.compL (fun s => DV.chk s0 s q.src) (fun d ρ s => match DV.bindT ρ tg d with
      | some ρ => DV.tru (mc ρ s) fun k s => if k then (me ρ s).bind fun v s => .ok (some v, ρ) s else .ok (none, ρ) s
      | none => .bad) (q.its.drop i) ρ' t = .ok rest s' ∧ l = acc ++ rest, ⟨q.its.length, ?_⟩, ?_⟩
  · obtain ⟨g2, R2⟩ := R1.same (H' := upd H1 D (.lst [])) ((Same.refl H1).new hD)
    exact ⟨φ1, DV.capEnv ρ caps, s0, [], [], l, g2, R2, re_cap ((E.mono g1 l1).mono g2 (Nat.le_refl _)) caps, upd_same, Off.new R1 hD, .nil, rfl, Nat.le_refl _, Nat.zero_le _, by simp, by rw [List.drop_zero]; exact hm, rfl⟩
  · rintro i m σ' H' ⟨φ', ρ', t, acc, ys, rest, g, R', E', hy, off, ra, ba, hai, hil, rfl, hc, hl⟩
    have hle := g.le
    rcases Nat.lt_or_ge i q.its.length with hlt | hge
    · have hd : q.its[i]? = some q.its[i] := List.getElem?_eq_getElem hlt
      rw [List.drop_eq_getElem_cons hlt] at hc
      unfold DV.compL at hc
      split at hc
      case isFalse => cases hc
      rename_i hck
      obtain ⟨hgo, hy2⟩ := (wk φ' H' t g hle R' hck i).1 hlt
      refine .inr ⟨hgo, _, fun σ2 H2 n => ⟨q.its.length - (i + 1), by omega, n⟩, fun x H2 hyl => ?_⟩
      obtain ⟨sm, rv⟩ := hy2 x H2 hyl
      obtain ⟨g2, R2⟩ := R'.same sm
      have rd := rv _ hd
      have bd : (q.its[i]).bnd t.length = true := D_bnd_mono hle _ (bndL_get b1 hd)
      obtain ⟨p, t3, hs, hc⟩ := bind_inv hc
      obtain ⟨r2, t4, hr2, hc⟩ := bind_inv hc
      cases hb : DV.bindT ρ' tg q.its[i] with
      | none => rw [hb] at hs; cases hs
      | some ρ3 =>
        rw [hb] at hs
        refine tg_ok (E'.mono g2 (Nat.le_refl _)) rd bd hb fun σ3 E3 => ?_
        obtain ⟨c, t1, ec, hs⟩ := tru_inv hs
        refine ⟨φ', ρ3, t, c, t1, E3, R2, ec, fun φ2 H4 g4 l4 R4 => ?_⟩
        have hy4 : H2 D = some (.lst ys) := sm _ _ hy
        have hD4 : H4 D = some (.lst ys) := g4.fr D _ hy4 (by nofun) off
        have off4 : Off φ2 t1 D := off.mono g4 hy4
        have G4 := (g.trans g2 hle).trans g4 hle
        cases c with
        | true =>
          rw [if_pos rfl] at hs
          refine iteT ?_
          obtain ⟨v, t2, ev, hs⟩ := bind_inv hs
          cases hs
          refine ⟨φ2, ρ3, t1, v, t3, E3.mono g4 l4, R4, ev, fun w φ3 H5 g5 l5 b5 r5 R5 => ?_⟩
          have hD5 : H5 D = some (.lst ys) := g5.fr D _ hD4 (by nofun) off4
          have off5 : Off φ3 t3 D := off4.mono g5 hD4
          refine ⟨ys, hD5, ?_, ?_⟩
          · rw [ra.length]
            have := LIM_le
            omega
          · have gw : Gw φ3 t3.length H5 φ3 (upd H5 D (.lst (ys ++ [w]))) := ⟨fun _ _ => rfl, (Kp.refl H5).put hD5 rfl⟩
            have G5 := G4.trans g5 (Nat.le_trans hle l4)
            have GG := g2.trans (g4.trans g5 l4) (Nat.le_refl _)
            have ra5 : RVL Γ φ3 H5 acc ys := RVL.mono GG _ _ ba ra
            have bb : DV.D.bndL t3.length (acc ++ [v]) = true := bndL_append (D_bndL_mono GG.le _ ba) (by unfold DV.D.bndL; rw [b5]; rfl)
            refine ⟨φ3, ρ3, t3, acc ++ [v], ys ++ [w], r2, G5.foreign hD hD5, R5.foreign hD5 off5, ?_, upd_same, off5, RVL.monoW gw _ _ bb (ra5.append (.cons r5 .nil)), bb, by simp; omega, hlt, rfl, ?_, ?_⟩
            · have E5 := (E3.mono g4 l4).mono g5 l5
              exact ⟨E5.len, fun j e hj => by
                obtain ⟨h1, z, h2, h3⟩ := E5.val j e hj
                exact ⟨h1, z, h2, RV.monoW gw _ _ h1 h3⟩⟩
            · cases hc; exact hr2
            · cases hc; rw [hl]; simp
        | false =>
          rw [if_neg Bool.false_ne_true] at hs
          refine iteF ?_
          cases hs
          have GG := g2.trans g4 (Nat.le_refl _)
          exact ⟨φ2, ρ3, t3, acc, ys, r2, G4, R4, E3.mono g4 l4, hD4, off4, RVL.mono GG _ _ ba ra, D_bndL_mono l4 _ ba, by omega, hlt, rfl, by cases hc; exact hr2, by cases hc; exact hl⟩
    · have hi : i = q.its.length := by omega
      rw [List.drop_eq_nil_of_le hge] at hc
      unfold DV.compL at hc
      split at hc
      case isFalse => cases hc
      rename_i hck
      cases hc
      refine .inl ⟨(wk φ' H' s' g hle R' hck i).2 hge, ?_⟩
      rw [List.append_nil] at hl
      subst hl
      exact k D ys φ' H' (g1.trans g l1) (Nat.le_trans l1 hle) ba hy h0 off ra R'
end L2
end

set_option Elab.async false
set_option linter.all false
set_option maxRecDepth 100000
set_option maxHeartbeats 4000000
noncomputable section
namespace L2
open PySem PySem.Spec PyProof.Rows
variable {Γ : Gm} {X : Cx}
/-! ### statements -/
noncomputable def EndC (Γ : Gm) (φ : Nat → Addr) (H : Hp) (n : Nat) (D : Ends) : DV.Ct → Prop
  | .next ρ => ∀ σ, RE Γ φ H n ρ σ → D.nx σ H
  | .ret d => ∀ v, d.bnd n = true → RV Γ φ H d v → D.rt v H
  | .cont ρ => ∀ σ, RE Γ φ H n ρ σ → D.ct σ H
  | .brk ρ => ∀ σ, RE Γ φ H n ρ σ → D.bk σ H
noncomputable def AfterC (Γ : Gm) (φ : Nat → Addr) (s : DV.Sto) (H : Hp) (c : DV.Ct) (s' : DV.Sto) (D : Ends) : Prop :=
  ∀ φ' H', Gr φ s H φ' s' H' → s.length ≤ s'.length → Rp Γ φ' H' s' → EndC Γ φ' H' s'.length D c
noncomputable def TSv (Γ : Gm) (m : DV.Env → DV.Sto → DV.R DV.Ct) : TS := fun D σ H => ∃ φ ρ s c s', RE Γ φ H s.length ρ σ ∧ Rp Γ φ H s ∧ m ρ s = .ok c s' ∧ AfterC Γ φ s H c s' D
theorem PS.imp {e : Stmt} {t t' : TS} (h : PS X e t) (i : ∀ D σ H, t' D σ H → t D σ H) : PS X e t' := fun pins s σ H Q I q => h pins s σ H Q I (i Q σ H q)
theorem PSs.imp {e : List Stmt} {t t' : TS} (h : PSs X e t) (i : ∀ D σ H, t' D σ H → t D σ H) : PSs X e t' := fun pins s σ H Q I q => h pins s σ H Q I (i Q σ H q)
theorem AfterC.trans {φ φ1 : Nat → Addr} {s s1 s' : DV.Sto} {H H1 : Hp} {c : DV.Ct} {D : Ends} (h : AfterC Γ φ s H c s' D) (g : Gr φ s H φ1 s1 H1) (l : s.length ≤ s1.length) : AfterC Γ φ1 s1 H1 c s' D :=
  fun φ' H' g' l' p => h φ' H' (g.trans g' l) (Nat.le_trans l l') p
theorem AfterC.here {φ : Nat → Addr} {s : DV.Sto} {H : Hp} {c : DV.Ct} {D : Ends} (h : AfterC Γ φ s H c s D) (p : Rp Γ φ H s) : EndC Γ φ H s.length D c := h φ H (Gr.refl φ s H) (Nat.le_refl _) p
variable {D : Ends} {σ : St} {H : Hp}
theorem ts_next {m : DV.Env → DV.Sto → DV.R DV.Ct} (hm : ∀ ρ s, m ρ s = .ok (.next ρ) s) (h : TSv Γ m D σ H) : tNext D σ H := by
  obtain ⟨φ, ρ, s, c, s', E, R, e, q⟩ := h
  rw [hm] at e; cases e
  exact q.here R σ E
theorem ts_ret {m : DV.Env → DV.Sto → DV.R DV.D} (h : TSv Γ (fun ρ s => (m ρ s).bind fun d s => .ok (.ret d) s) D σ H) : tRet (TEv Γ m) D σ H := by
  obtain ⟨φ, ρ, s, c, s', E, R, e, q⟩ := h
  obtain ⟨x, s1, e1, e⟩ := bind_inv e
  cases e
  exact ⟨φ, ρ, s, x, _, E, R, e1, fun v φ1 H1 g1 l1 b1 r1 R1 => q φ1 H1 g1 l1 R1 v b1 r1⟩
theorem ts_drop {m : DV.Env → DV.Sto → DV.R DV.D} (h : TSv Γ (fun ρ s => (m ρ s).bind fun _ s => .ok (.next ρ) s) D σ H) : tDrop (TEv Γ m) D σ H := by
  obtain ⟨φ, ρ, s, c, s', E, R, e, q⟩ := h
  obtain ⟨x, s1, e1, e⟩ := bind_inv e
  cases e
  exact ⟨φ, ρ, s, x, _, E, R, e1, fun v φ1 H1 g1 l1 b1 r1 R1 => q φ1 H1 g1 l1 R1 σ (E.mono g1 l1)⟩
theorem ts_asg {m : DV.Env → DV.Sto → DV.R DV.D} {tg : DV.Tg} (h : TSv Γ (fun ρ s => (m ρ s).bind fun d s => match DV.bindT ρ tg d with | some ρ => .ok (.next ρ) s | none => .bad) D σ H) : tAsg (TEv Γ m) (gOf Γ.K tg) D σ H := by
  obtain ⟨φ, ρ, s, c, s', E, R, e, q⟩ := h
  obtain ⟨x, s1, e1, e⟩ := bind_inv e
  refine ⟨φ, ρ, s, x, s1, E, R, e1, fun v φ1 H1 g1 l1 b1 r1 R1 => ?_⟩
  cases hb : DV.bindT ρ tg x with
  | none => rw [hb] at e; cases e
  | some ρ1 =>
    rw [hb] at e
    cases e
    exact tg_ok (E.mono g1 l1) r1 b1 hb fun σ' E' => q φ1 H1 g1 l1 R1 σ' E'
/-- a list that is made on the spot gets a name -/
theorem tf_list1 {m : DV.Env → DV.Sto → DV.R (List DV.D)} (h : TSv Γ (fun ρ s => ((m ρ s).bind fun l s => DV.alloc (.lst l) s).bind fun d s => match DV.bindT ρ tg d with | some ρ => .ok (.next ρ) s | none => .bad) D σ H) : tAsg (TFv Γ m) (gOf Γ.K tg) D σ H :=
  tf_list (ts_asg h)
noncomputable def rSetV (Γ : Gm) : TSet := fun o i v H Q => ∃ φ s x y d s', Rp Γ φ H s ∧ RV Γ φ H x o ∧ RV Γ φ H y i ∧ RV Γ φ H d v ∧ x.bnd s.length = true ∧ y.bnd s.length = true ∧ d.bnd s.length = true ∧ DV.setIx x y d s = .ok () s' ∧
  ∀ φ' H', Gr φ s H φ' s' H' → s.length ≤ s'.length → Rp Γ φ' H' s' → Q H'
theorem ts_setIx {me mo mi : DV.Env → DV.Sto → DV.R DV.D} (h : TSv Γ (fun ρ s => (me ρ s).bind fun d s => (mo ρ s).bind fun x s => (mi ρ s).bind fun y s => (DV.setIx x y d s).bind fun _ s => .ok (.next ρ) s) D σ H) :
    tAsg (TEv Γ me) (gSub (TEv Γ mo) (TEv Γ mi) (rSetV Γ)) D σ H := by
  obtain ⟨φ, ρ, s, c, s', E, R, e, q⟩ := h
  obtain ⟨d, s1, e1, e⟩ := bind_inv e
  obtain ⟨x, s2, e2, e⟩ := bind_inv e
  obtain ⟨y, s3, e3, e⟩ := bind_inv e
  obtain ⟨u, s4, e4, e⟩ := bind_inv e
  cases e
  refine ⟨φ, ρ, s, d, s1, E, R, e1, fun v1 φ1 H1 g1 l1 b1 r1 R1 => ?_⟩
  refine ⟨φ1, ρ, s1, x, s2, E.mono g1 l1, R1, e2, fun v2 φ2 H2 g2 l2 b2 r2 R2 => ?_⟩
  have G2 := g1.trans g2 l1
  have L2 := Nat.le_trans l1 l2
  refine ⟨φ2, ρ, s2, y, s3, E.mono G2 L2, R2, e3, fun v3 φ3 H3 g3 l3 b3 r3 R3 => ?_⟩
  refine ⟨φ3, s3, x, y, d, _, R3, RV.mono g3 x v2 b2 r2, r3, RV.mono (g2.trans g3 l2) d v1 b1 r1, D_bnd_mono l3 x b2, b3, D_bnd_mono (Nat.le_trans l2 l3) d b1, e4, fun φ4 H4 g4 l4 R4 => ?_⟩
  have G3 := G2.trans g3 L2
  have L3 := Nat.le_trans L2 l3
  exact q φ4 H4 (G3.trans g4 L3) (Nat.le_trans L3 l4) R4 σ (E.mono (G3.trans g4 L3) (Nat.le_trans L3 l4))
theorem set_ok : PSet X (rSetV Γ) := by
  intro pins sh σ H o i v ov iv u Q I ro ri rv h
  obtain ⟨φ, s, x, y, d, s', R, rx, ry, rd, bx, by', bd, hm, q⟩ := h
  cases x with
  | ref r =>
    have hm : (match s[r]? with
      | some (.lst l) => (match y with
        | .int i => (match DV.ixn l.length i with | some j => DV.R.ok () (s.set r (.lst (l.set j d))) | none => .bad)
        | _ => .bad)
      | some (.dic l) => if y.plain && decide (l.length < DV.LIM) then .ok () (s.set r (.dic (DV.putD y d l))) else .bad
      | _ => .bad) = .ok () s' := hm
    cases e : s[r]? with
    | none => rw [e] at hm; cases hm
    | some ob =>
      rw [e] at hm
      cases ob with
      | lst l =>
        cases y with
        | int k =>
          have hm : (match DV.ixn l.length k with | some j => DV.R.ok () (s.set r (.lst (l.set j d))) | none => .bad) = .ok () s' := hm
          cases ej : DV.ixn l.length k with
          | none => rw [ej] at hm; cases hm
          | some j =>
            rw [ej] at hm
            cases hm
            obtain ⟨xs, h1, h2⟩ := R.addr e
            have hb : DV.D.bndL s.length (l.set j d) = true := bndL_iff.mpr fun z hz => by
              rcases List.mem_or_eq_of_mem_set hz with h | h
              · exact bndL_iff.mp (by have := R.wf r _ e; unfold DV.O.bnd at this; exact this) z h
              · subst h; exact bd
            refine set_list pins sh σ H o i v ov iv u Q I ro ri rv ⟨φ r, xs, k, j, rx.refE, ry.intE, h1, ?_, ?_⟩
            · rw [h2.length]; exact ej
            · obtain ⟨g, R'⟩ := R.set (o := .lst (l.set j d)) (u := .lst (xs.set j v)) e rfl hb fun H' g e => ⟨_, e, RVL.monoW g _ _ hb (h2.set j rd)⟩
              exact q _ _ g (by simp) R'
        | _ => cases hm
      | dic l => exact (R.obj r _ e).elim
      | _ => cases hm
  | _ => cases hm
theorem ts_if {mc : DV.Env → DV.Sto → DV.R DV.D} {m1 m2 : DV.Env → DV.Sto → DV.R DV.Ct} (h : TSv Γ (fun ρ s => DV.tru (mc ρ s) fun k s => if k then m1 ρ s else m2 ρ s) D σ H) : tIfS (TTv Γ mc) (TSv Γ m1) (TSv Γ m2) D σ H := by
  obtain ⟨φ, ρ, s, d, s', E, R, hm, q⟩ := h
  obtain ⟨c, s1, e1, hm⟩ := tru_inv hm
  refine ⟨φ, ρ, s, c, s1, E, R, e1, fun φ1 H1 g1 l1 R1 => ?_⟩
  cases c with
  | true =>
    rw [if_pos rfl] at hm ⊢
    exact ⟨φ1, ρ, s1, d, s', E.mono g1 l1, R1, hm, q.trans g1 l1⟩
  | false =>
    rw [if_neg Bool.false_ne_true] at hm ⊢
    exact ⟨φ1, ρ, s1, d, s', E.mono g1 l1, R1, hm, q.trans g1 l1⟩
theorem ts_seq {m1 m2 : DV.Env → DV.Sto → DV.R DV.Ct} (h : TSv Γ (fun ρ s => (m1 ρ s).bind fun c s => match c with | .next ρ => m2 ρ s | c => .ok c s) D σ H) : tSeq (TSv Γ m1) (TSv Γ m2) D σ H := by
  obtain ⟨φ, ρ, s, c, s', E, R, hm, q⟩ := h
  obtain ⟨c1, s1, e1, hm⟩ := bind_inv hm
  refine ⟨φ, ρ, s, c1, s1, E, R, e1, fun φ1 H1 g1 l1 R1 => ?_⟩
  cases c1 with
  | next ρ1 => exact fun σ1 E1 => ⟨φ1, ρ1, s1, c, s', E1, R1, hm, q.trans g1 l1⟩
  | ret d => cases hm; exact q φ1 H1 g1 l1 R1
  | cont ρ => cases hm; exact q φ1 H1 g1 l1 R1
  | brk ρ => cases hm; exact q φ1 H1 g1 l1 R1
theorem ts_while {mc : DV.Env → DV.Sto → DV.R DV.D} {mb : DV.Env → DV.Sto → DV.R DV.Ct} (h : TSv Γ (DV.whl mc mb) D σ H) : tWhile (TTv Γ mc) (TSv Γ mb) D σ H := by
  obtain ⟨φ, ρ, s, c, s', E, R, hm, q⟩ := h
  unfold DV.whl at hm
  split at hm
  case isFalse => cases hm
  rename_i hn
  generalize hn.choose = n at hm
  refine ⟨fun n σ H => ∃ φ ρ s, RE Γ φ H s.length ρ σ ∧ Rp Γ φ H s ∧ DV.whlN mc mb n ρ s = .ok c s' ∧ AfterC Γ φ s H c s' D, ⟨n, φ, ρ, s, E, R, hm, q⟩, ?_⟩
  clear E R hm q hn
  rintro n σ H ⟨φ, ρ, s, E, R, hm, q⟩
  cases n with
  | zero => cases hm
  | succ n =>
    unfold DV.whlN at hm
    obtain ⟨b, s1, e1, hm⟩ := tru_inv hm
    refine ⟨φ, ρ, s, b, s1, E, R, e1, fun φ1 H1 g1 l1 R1 => ?_⟩
    cases b with
    | false =>
      rw [if_neg Bool.false_ne_true] at hm ⊢
      cases hm
      exact q φ1 H1 g1 l1 R1 σ (E.mono g1 l1)
    | true =>
      rw [if_pos rfl] at hm ⊢
      obtain ⟨c1, s2, e2, hm⟩ := bind_inv hm
      refine ⟨_, fun σ' H' w => ⟨n, Nat.lt_succ_self n, w⟩, φ1, ρ, s1, c1, s2, E.mono g1 l1, R1, e2, fun φ2 H2 g2 l2 R2 => ?_⟩
      have G := g1.trans g2 l1
      have L := Nat.le_trans l1 l2
      cases c1 with
      | next ρ1 => exact fun σ1 E1 => ⟨φ2, ρ1, s2, E1, R2, hm, q.trans G L⟩
      | cont ρ1 => exact fun σ1 E1 => ⟨φ2, ρ1, s2, E1, R2, hm, q.trans G L⟩
      | ret d => cases hm; exact q φ2 H2 G L R2
      | brk ρ => cases hm; exact q φ2 H2 G L R2
theorem ts_for {mI : DV.Env → DV.Sto → DV.R DV.Sq} {mb : DV.Env → DV.Sto → DV.R DV.Ct} {tg : DV.Tg} (h : TSv Γ (fun ρ s => (mI ρ s).bind fun q s0 => DV.forL (fun s => DV.chk s0 s q.src) (fun d ρ s => match DV.bindT ρ tg d with
      | some ρ => mb ρ s
      | none => .bad) q.its ρ s0) D σ H) : tFor (TIv Γ mI) (gOf Γ.K tg) (TSv Γ mb) D σ H := by
  obtain ⟨φ, ρ, s, c, s', E, R, hm, k⟩ := h
  obtain ⟨q, s0, e1, hm⟩ := bind_inv hm
  refine ⟨φ, ρ, s, q, s0, E, R, e1, fun J φ1 H1 g1 l1 b1 R1 wk => ?_⟩
  refine ⟨fun i m σ' H' => ∃ φ' ρ' t, Gr φ1 s0 H1 φ' t H' ∧ Rp Γ φ' H' t ∧ RE Γ φ' H' t.length ρ' σ' ∧ i ≤ q.its.length ∧ m = q.its.length - i ∧
    DV.forL (fun s => DV.chk s0 s q.src) (fun d ρ s => match DV.bindT ρ tg d with
      | some ρ => mb ρ s
      | none => .bad) (q.its.drop i) ρ' t = .ok c s', ⟨q.its.length, ?_⟩, ?_⟩
  · exact ⟨φ1, ρ, s0, Gr.refl _ _ _, R1, E.mono g1 l1, Nat.zero_le _, by simp, by rw [List.drop_zero]; exact hm⟩
  · rintro i m σ' H' ⟨φ', ρ', t, g, R', E', hil, rfl, hc⟩
    have hle := g.le
    rcases Nat.lt_or_ge i q.its.length with hlt | hge
    · have hd : q.its[i]? = some q.its[i] := List.getElem?_eq_getElem hlt
      rw [List.drop_eq_getElem_cons hlt] at hc
      unfold DV.forL at hc
      split at hc
      case isFalse => cases hc
      rename_i hck
      obtain ⟨hgo, hy2⟩ := (wk φ' H' t g hle R' hck i).1 hlt
      refine .inr ⟨hgo, _, fun σ2 H2 n => ⟨q.its.length - (i + 1), by omega, n⟩, fun x H2 hyl => ?_⟩
      obtain ⟨sm, rv⟩ := hy2 x H2 hyl
      obtain ⟨g2, R2⟩ := R'.same sm
      have rd := rv _ hd
      have bd : (q.its[i]).bnd t.length = true := D_bnd_mono hle _ (bndL_get b1 hd)
      obtain ⟨c1, t3, hs, hc⟩ := bind_inv hc
      cases hb : DV.bindT ρ' tg q.its[i] with
      | none => rw [hb] at hs; cases hs
      | some ρ3 =>
        rw [hb] at hs
        refine tg_ok (E'.mono g2 (Nat.le_refl _)) rd bd hb fun σ3 E3 => ?_
        refine ⟨φ', ρ3, t, c1, t3, E3, R2, hs, fun φ2 H4 g4 l4 R4 => ?_⟩
        have G4 := (g.trans g2 hle).trans g4 hle
        have L4 := Nat.le_trans hle l4
        have GG := g1.trans G4 l1
        cases c1 with
        | next ρ1 => exact fun σ1 E1 => ⟨φ2, ρ1, t3, G4, R4, E1, hlt, rfl, hc⟩
        | cont ρ1 => exact fun σ1 E1 => ⟨φ2, ρ1, t3, G4, R4, E1, hlt, rfl, hc⟩
        | ret d => cases hc; exact k φ2 H4 GG (Nat.le_trans l1 L4) R4
        | brk ρ => cases hc; exact k φ2 H4 GG (Nat.le_trans l1 L4) R4
    · rw [List.drop_eq_nil_of_le hge] at hc
      unfold DV.forL at hc
      split at hc
      case isFalse => cases hc
      rename_i hck
      cases hc
      exact .inl ⟨(wk φ' H' s' g hle R' hck i).2 hge, k φ' H' (g1.trans g l1) (Nat.le_trans l1 hle) R' σ' E'⟩
end L2
end

set_option Elab.async false
set_option linter.all false
set_option maxRecDepth 100000
set_option maxHeartbeats 4000000
noncomputable section
namespace L2
open PySem PySem.Spec PyProof.Rows
/-! ### does a text read so? -/
/-- names of a block, by their places; the block's scope -/
structure Ck where
  N : List Str
  sc : Scope
  /-- lambdas that may be made here: id, what it takes, the text -/
  lk : String → List Nat → Expr → Bool
noncomputable abbrev ck0 (N : List Str) (sc : Scope) : Ck := ⟨N, sc, fun _ _ _ => false⟩
noncomputable def Ck.vis (c : Ck) (x : Str) : Bool := match c.sc.names.lookup x with | some .local => true | some .cell => true | some .free => true | _ => false
noncomputable def Ck.loc (c : Ck) (x : Str) : Bool := match c.sc.names.lookup x with | some .local => true | some .cell => true | _ => false
noncomputable def Ck.gl (c : Ck) (x : Str) : Bool := (match c.sc.names.lookup x with | some .globalImplicit => true | _ => false) && !(x == ("__debug__" : Str)) && !decide (x = ("__name__" : Str))
noncomputable def Ck.var (c : Ck) (i : Nat) (x : Str) : Bool := decide (c.N[i]? = some x) && c.vis x && !(x == ("__debug__" : Str)) && !(x == ("__classdict__" : Str))
/-- no star, no set, no slice .. -/
noncomputable def shp : Expr → Bool
  | .Starred .. => false
  | .Set .. => false
  | .SetComp .. => false
  | .DictComp .. => false
  | .GeneratorExp .. => false
  | .Slice .. => false
  | .NamedExpr .. => false
  | _ => true
noncomputable def noComp : Expr → Bool
  | .ListComp .. => false
  | .SetComp .. => false
  | .DictComp .. => false
  | _ => true
noncomputable def noTup : Expr → Bool
  | .Tuple .. => false
  | _ => true
/-- no call without arguments -/
noncomputable def abOk : Expr → Bool
  | .Call _ [] [] _ => false
  | _ => true
noncomputable def mC : DV.Cn → Const → Bool
  | .non, .none => true
  | .bl b, .bool c => b == c
  | .int i, .int j => decide (i = j)
  | .str x, .str y => decide (y = ⟨x.toArray⟩) && decide (x.length ≤ 1000)
  | _, _ => false
noncomputable def mTgs (ck : Ck) : List Nat → List Expr → Bool
  | [], [] => true
  | i :: is, .Name x _ :: es => decide (ck.N[i]? = some x) && ck.loc x && mTgs ck is es
  | _, _ => false
noncomputable def mTg (ck : Ck) : DV.Tg → Expr → Bool
  | .one i, .Name x _ => decide (ck.N[i]? = some x) && ck.loc x
  | .tup is, .Tuple es _ _ => mTgs ck is es
  | _, _ => false
noncomputable def tgN : Expr → List Str
  | .Name x _ => [x]
  | .Tuple es _ _ => es.filterMap fun e => match e with | .Name x _ => some x | _ => none
  | _ => []
noncomputable def ckC (ck : Ck) (tgt : Expr) (caps : List (Option Nat)) (scope : Scope) : Ck := ⟨tgN tgt ++ (caps.filterMap id).map fun j => ck.N.getD j "", scope, fun _ _ _ => false⟩
noncomputable def mComp (ck : Ck) (tg : DV.Tg) (tgt iter : Expr) (caps : List (Option Nat)) (scope : Scope) : Bool :=
  compCheck (ckC ck tgt caps scope).N caps scope ck.N ck.sc && decide ((ckC ck tgt caps scope).N.Nodup) && mTg (ckC ck tgt caps scope) tg tgt && shp iter
noncomputable def biT : DV.Bi → Option Str
  | .len => some "len" | .abs => some "abs" | .min2 => some "min" | .max2 => some "max" | .max3 => some "max" | .int => some "int" | _ => none
noncomputable def biK : DV.Bi → Option (Nat × Str)
  | .isInt => some (1, "int") | .isBool => some (2, "bool") | .isStr => some (3, "str") | .isTup => some (4, "tuple") | .isList => some (5, "list") | _ => none
noncomputable def mkT : DV.Mk → Option Str
  | .tuple => some "tuple" | .list => some "list" | _ => none
/-- .. of a list that is made on the spot -/
noncomputable def mkF : DV.Mk → Option Str
  | .all => some "all" | .any => some "any" | .sum => some "sum" | .min => some "min" | _ => none
noncomputable def mtT : DV.Mt → Option (Str × Nat)
  | .append => some ("append", 1) | .pop => some ("pop", 0) | .reverse => some ("reverse", 0) | .clear => some ("clear", 0) | .index => some ("index", 1) | _ => none
noncomputable def asLam : DV.As → Bool
  | .nil => false
  | .ex _ as => asLam as
  | .lam _ _ _ => true
  | .fn _ as => asLam as
mutual
noncomputable def mE (ck : Ck) : DV.E → Expr → Bool
  | .var i, E => match E with | .Name x _ => ck.var i x | _ => false
  | .cst c, E => match E with | .Constant v _ _ => mC c v | _ => false
  | .glob g, E => match E with | .Name x _ => decide (x = (g : Str)) && ck.gl x | _ => false
  | .bin op a b, E => match E with | .BinOp l o r _ => decide (o = opOf op) && mE ck a l && mE ck b r | _ => false
  | .neg a, E => match E with | .UnaryOp .USub l _ => mE ck a l | _ => false
  | .not a, E => match E with | .UnaryOp .Not l _ => mE ck a l | _ => false
  | .cmp op a b, E => match E with | .Compare l [o] [r] _ => decide (o = copOf op) && mE ck a l && mE ck b r | _ => false
  | .chain _ _ _ _ _, _ => false
  | .isN _, _ => false
  | .notN _, _ => false
  | .isB _ _, _ => false
  | .notB _ _, _ => false
  | .and a b, E => match E with
    | .BoolOp .And [l, r] _ => mE ck a l && mE ck b r
    | .BoolOp .And (l :: m :: r :: es) p => mE ck a l && mE ck b (.BoolOp .And (m :: r :: es) p)
    | _ => false
  | .or a b, E => match E with
    | .BoolOp .Or [l, r] _ => mE ck a l && mE ck b r
    | .BoolOp .Or (l :: m :: r :: es) p => mE ck a l && mE ck b (.BoolOp .Or (m :: r :: es) p)
    | _ => false
  | .ite c a b, E => match E with | .IfExp t l r _ => mE ck c t && mE ck a l && mE ck b r | _ => false
  | .tup es, E => match E with | .Tuple xs _ _ => mEs ck es xs && decide (xs.length ≤ 1000) | _ => false
  | .lst es, E => match E with | .List xs _ => mEs ck es xs && decide (xs.length ≤ 1000) | _ => false
  | .dic _ _, _ => false
  | .slL _ _, _ => false
  | .slU _ _, _ => false
  | .slLU _ _ _, _ => false
  | .rev _, _ => false
  | .ix a b, E => match E with | .Subscript o i _ => mE ck a o && mE ck b i | _ => false
  | .call f as, E => match E with | .Call (.Name x _) xs [] _ => decide (x = (f : Str)) && ck.gl x && mAs ck as xs | _ => false
  | .callC f as, E => match E with | .Call (.Name x _) (y :: ys) [] _ => decide (x = (f : Str)) && ck.gl x && asLam as && mAsC ck as (y :: ys) | _ => false
  | .callV i es, E => match E with | .Call (.Name x _) (y :: ys) [] _ => ck.var i x && mEs ck es (y :: ys) | _ => false
  | .bi b es, E => match E with
    | .Call (.Name x _) xs [] _ => (match biK b with
      | some (_, t) => (match xs with
        | [a, .Name y _] => decide (x = ("isinstance" : Str)) && ck.gl x && decide (y = t) && ck.gl y && mEs ck es [a]
        | _ => false)
      | none => (match xs with
        | a :: xs => decide (biT b = some x) && ck.gl x && mEs ck es (a :: xs)
        | [] => false))
    | _ => false
  | .mk k l, E => match E with
    | .Call (.Name x _) [a] [] _ => ck.gl x && shp a && ((decide (mkT k = some x) && mL ck l a) || (decide (mkF k = some x) && mLf ck l a))
    | .ListComp e gs sc p => decide (k = .list) && mLc ck l (.ListComp e gs sc p)
    | _ => false
  | .mkD _ _ _, _ => false
  | .meth m o es, E => match E with
    | .Call (.Attribute ob x ap) xs [] cp => decide (mtT m = some (x, xs.length)) && abOk ob && (ap.endLine == cp.line) && mE ck o ob && mEs ck es xs
    | _ => false
  | .ext _ _, _ => false
  | .extS _ _, _ => false
  | .join o e, E => match E with
    | .Call (.Attribute ob x ap) [a] [] cp => decide (x = ("join" : Str)) && abOk ob && (ap.endLine == cp.line) && mE ck o ob && mE ck e a && shp a
    | _ => false
noncomputable def mEs (ck : Ck) : DV.Es → List Expr → Bool
  | .nil, xs => match xs with | [] => true | _ => false
  | .cons e es, xs => match xs with | x :: xs => mE ck e x && shp x && mEs ck es xs | _ => false
noncomputable def mAs (ck : Ck) : DV.As → List Expr → Bool
  | .nil, xs => match xs with | [] => true | _ => false
  | .ex e es, xs => match xs with | x :: xs => mE ck e x && shp x && mAs ck es xs | _ => false
  | .lam _ _ _, _ => false
  | .fn _ _, _ => false
noncomputable def mAsC (ck : Ck) : DV.As → List Expr → Bool
  | .nil, xs => match xs with | [] => true | _ => false
  | .ex e es, xs => match xs with | x :: xs => mE ck e x && shp x && mAsC ck es xs | _ => false
  | .lam id caps es, xs => match xs with | x :: xs => ck.lk id caps x && shp x && mAsC ck es xs | _ => false
  | .fn _ _, _ => false
noncomputable def mI (ck : Ck) (tgt : Expr) : DV.I → Expr → Bool
  | .rng1 a, E => match E with | .Call (.Name x _) [l] [] _ => decide (x = ("range" : Str)) && ck.gl x && mE ck a l && shp l | _ => false
  | .rng2 _ _, _ => false
  | .seq e, x => mE ck e x && shp x
  | .rng3 _ _ _, _ => false
  | .enum (.seq _), _ => false
  | .zip (.seq _) (.seq _), _ => false
  | .enum _, _ => false
  | .zip _ _, _ => false
  | .items _, _ => false
/-- a list that is made on the spot: a comprehension -/
noncomputable def mLc (ck : Ck) : DV.L → Expr → Bool
  | .comp tg it e caps, E => match E with | .ListComp elt [⟨tgt, iter, [], 0⟩] scope _ => mComp ck tg tgt iter caps scope && mI ck tgt it iter && mE (ckC ck tgt caps scope) e elt | _ => false
  | .compIf tg it c e caps, E => match E with | .ListComp elt [⟨tgt, iter, [i], 0⟩] scope _ => mComp ck tg tgt iter caps scope && mI ck tgt it iter && mE (ckC ck tgt caps scope) c i && mE (ckC ck tgt caps scope) e elt | _ => false
  | .disp _, _ => false
  | .seq _, _ => false
/-- .. or a display -/
noncomputable def mLf (ck : Ck) : DV.L → Expr → Bool
  | .comp tg it e caps, E => match E with | .ListComp elt [⟨tgt, iter, [], 0⟩] scope _ => mComp ck tg tgt iter caps scope && mI ck tgt it iter && mE (ckC ck tgt caps scope) e elt | _ => false
  | .compIf tg it c e caps, E => match E with | .ListComp elt [⟨tgt, iter, [i], 0⟩] scope _ => mComp ck tg tgt iter caps scope && mI ck tgt it iter && mE (ckC ck tgt caps scope) c i && mE (ckC ck tgt caps scope) e elt | _ => false
  | .disp es, E => match E with | .List xs _ => mEs ck es xs && decide (xs.length ≤ 1000) | _ => false
  | .seq _, _ => false
/-- .. or what stands -/
noncomputable def mL (ck : Ck) : DV.L → Expr → Bool
  | .comp tg it e caps, E => match E with | .ListComp elt [⟨tgt, iter, [], 0⟩] scope _ => mComp ck tg tgt iter caps scope && mI ck tgt it iter && mE (ckC ck tgt caps scope) e elt | _ => false
  | .compIf tg it c e caps, E => match E with | .ListComp elt [⟨tgt, iter, [i], 0⟩] scope _ => mComp ck tg tgt iter caps scope && mI ck tgt it iter && mE (ckC ck tgt caps scope) c i && mE (ckC ck tgt caps scope) e elt | _ => false
  | .disp es, E => match E with | .List xs _ => mEs ck es xs && decide (xs.length ≤ 1000) | _ => false
  | .seq e, x => mE ck e x
end
mutual
noncomputable def mS (ck : Ck) : DV.S → Stmt → Bool
  | .asg tg e, S => match S with
    | .Assign [t] v _ => mTg ck tg t && mE ck e v && (match tg with | .one _ => true | .tup _ => noTup v && noComp v)
    | _ => false
  | .setIx o i e, S => match S with | .Assign [.Subscript ob ix _] v _ => mE ck o ob && mE ck i ix && mE ck e v && noComp v && noTup v | _ => false
  | .aug _ _, _ => false
  | .ex e, S => match S with | .Expr v _ => mE ck e v && noComp v | _ => false
  | .ret e, S => match S with | .Return (some v) _ => mE ck e v | _ => false
  | .retN, _ => false
  | .ite c a b, S => match S with | .If t l r _ => mE ck c t && mSs ck a l && mSs ck b r | _ => false
  | .whl c b, S => match S with | .While t l [] _ => mE ck c t && mSs ck b l | _ => false
  | .for_ tg it b, S => match S with | .For tgt iter l [] _ => mTg ck tg tgt && mI ck tgt it iter && mSs ck b l | _ => false
  | .pass, _ => false
  | .cont, _ => false
  | .brk, _ => false
  | .raise, _ => true
noncomputable def mSs (ck : Ck) : DV.Ss → List Stmt → Bool
  | .nil, xs => match xs with | [] => true | _ => false
  | .cons s ss, xs => match xs with | x :: xs => mS ck s x && mSs ck ss xs | _ => false
end
theorem mE_shp {ck : Ck} {e : DV.E} {E : Expr} (h : mE ck e E = true) : shp E = true := by
  cases e <;> (unfold mE at h; first | (split at h <;> first | rfl | cases h) | cases h)
theorem mI_shp {ck : Ck} {tgt : Expr} {e : DV.I} {E : Expr} (h : mI ck tgt e E = true) : shp E = true := by
  cases e with
  | seq e => unfold mI at h; rw [Bool.and_eq_true] at h; exact h.2
  | rng1 a => unfold mI at h; split at h <;> first | rfl | cases h
  | rng2 a b => unfold mI at h; cases h
  | rng3 a b c => unfold mI at h; cases h
  | items a => unfold mI at h; cases h
  | enum a => cases a <;> (unfold mI at h; first | (split at h <;> first | rfl | cases h) | cases h)
  | zip a b => cases a <;> cases b <;> (unfold mI at h; first | (split at h <;> first | rfl | cases h) | cases h)
end L2
end

set_option Elab.async false
set_option linter.all false
set_option maxRecDepth 100000
set_option maxHeartbeats 4000000
noncomputable section
namespace L2
open PySem PySem.Spec PyProof.Rows
/-! ### shapes -/
theorem star_cons {e : Expr} {es : List Expr} {env : Env} (h : shp e = true) : starEach (e :: es) env = (false, eval e env) :: starEach es env := by
  cases e <;> first | rfl | cases h
theorem star_plain {env : Env} {pos : Pos} : ∀ {es : List Expr}, (∀ e ∈ es, shp e = true) → (backTo pos (starEach es env)).any (·.1) = false ∧ (backTo pos (starEach es env)).all (fun x => !x.1) = true
  | [], _ => ⟨rfl, rfl⟩
  | e :: es, h => by
    have h1 := star_cons (es := es) (env := env) (h e (List.mem_cons_self ..))
    obtain ⟨h2, h3⟩ := star_plain (env := env) (pos := pos) (es := es) fun x hx => h x (List.mem_cons_of_mem _ hx)
    rw [h1]
    unfold backTo at h2 h3 ⊢
    simp only [List.map_cons, List.any_cons, List.all_cons, h2, h3]
    exact ⟨rfl, rfl⟩
theorem fold_ok {e : Expr} {env : Env} (h : shp e = true) (x : Value) : foldedSetIterable e env x = pure x := by
  cases e <;> first | rfl | cases h
theorem behind_ok {e : Expr} {op : CmpOp} (h : shp e = true) : behindInMarks op e = false := by
  cases e <;> first | rfl | cases h
theorem swap_ok {e : Expr} {t : Option Expr} {l : Nat} {env : Env} (h : noComp e = true) : swapsWith e t l env = pure false := by
  cases e <;> first | rfl | cases h
theorem base_ok {e : Expr} {f : Str} {env : Env} (h : abOk e = true) : attributeBase e f env (eval e env) = eval e env := by
  cases e with
  | Call g a k p =>
    cases g with
    | Name x p' =>
      cases a with
      | nil => cases k with
        | nil => cases h
        | cons _ _ => rfl
      | cons _ _ => rfl
    | _ => rfl
  | _ => rfl
theorem stores_ok {tg e : Expr} {env : Env} (h : noTup e = true) : swappedStores [tg] e env = pure none := by
  cases e with
  | Tuple _ _ _ => cases h
  | _ => cases tg <;> rfl
theorem plainIx_ok {e : Expr} (h : shp e = true) : PlainIx e := by
  intro o i
  cases e <;> first | rfl | cases h
/-! ### a block's context -/
noncomputable def spV (Γ : Gm) (c : List DV.D → DV.Sto → DV.R DV.D) : Sp := fun vs H Q _ => rCl Γ c vs H Q
noncomputable def bNames : List Str := ["len", "abs", "min", "max", "int", "isinstance", "bool", "str", "tuple", "list", "range", "sum", "all", "any", "sorted", "zip", "enumerate", "ord"]
/-- a lambda is called: what it took, what it gets -/
noncomputable def spL (Γ : Gm) (c : List DV.D → List DV.D → DV.Sto → DV.R DV.D) (cap : List V) : Sp := fun vs H Q _ => ∃ φ s cs l d s', Rp Γ φ H s ∧ RVL Γ φ H l vs ∧ RVL Γ φ H cs cap ∧ DV.D.bndL s.length l = true ∧ DV.D.bndL s.length cs = true ∧ c cs l s = .ok d s' ∧ After Γ φ s H d s' Q
/-- a lambda may be made here -/
structure LamHere (Γ : Gm) (X : Cx) (N : List Str) (id : String) (caps : List Nat) (params : Arguments) (body : Expr) (scope : Scope) (c P : Addr) (J : LamI) : Prop where
  code : X.env.code = .ref c
  hd : PySem.W.CodeHd X.base c P
  bm : BM X.mg X.base
  ck : lamCheck scope X.env.scope = true
  df : defaultsOf params X.env = ([], [])
  lg : Γ.lg id J
  q : J.qual = X.env.qual ++ "<lambda>"
  p : J.params = params
  b : J.body = body
  s : J.scope = scope
  len : J.fr.length = caps.length
  at_ : ∀ (i j : Nat) (x : Str), caps[i]? = some j → J.fr[i]? = some x → N[j]? = some x
  fr : ∀ x ∈ J.fr, scope.names.lookup x = some .free
  cl : ∀ x, scope.names.lookup x = some .free → ∃ c, X.env.cells.lookup x = some c
  tab : (P, J.qual) ∈ Γ.T
  nd : (Γ.T.map (·.1)).Nodup
  fn : ∀ x, X.fn x = true
  kd : ∀ x c, X.env.cells.lookup x = some c → X.env.kindOf x = some .cell ∨ X.env.kindOf x = some .free
structure CG (Γ : Gm) (F : DV.Fns) (n : Nat) (X : Cx) (ck : Ck) : Prop where
  K : X.K = Γ.K
  N : X.N = ck.N
  nd : ck.N.Nodup
  xe : X.xe = fun _ _ => False
  calm : X.calm = true
  deep : DV.DEEP + 1 ≤ n
  room : Room n X.A
  sc : ∀ x k, ck.sc.names.lookup x = some k → X.env.scope.names.lookup x = some k ∨ (k = .free ∧ X.env.scope.names.lookup x = some .cell)
  fn : ∀ x, ck.sc.names.lookup x = some .cell → X.fn x = true
  bi : ∀ x ∈ bNames, X.mg x = none
  call : ∀ f : String, (∀ l s, F.call f l s = .bad) ∨ ∃ a fd ps, FnOk X.prog X.w X.K X.mg X.base CX0 n a fd ps (spV Γ (F.call f)) ∧ X.mg (f : Str) = some (.ref a) ∧ PySem.W.keepIn X.K (.ref a) = true ∧ Binds X.K fd ps []
  con : ∀ x d, F.con x = some d → ∃ v u, X.mg (x : Str) = some u ∧ RelV v u ∧ (∀ m, d.bnd m = true) ∧ ∀ φ H, RV Γ φ H d v
  lam : ∀ id caps E, ck.lk id caps E = true → ∃ c P params body scope pos J, E = .Lambda params body scope pos ∧ LamHere Γ X ck.N id caps params body scope c P J
  cl : ∀ (id : String) (J : LamI) (f : Addr) (cap : List V) (clos : List (Str × Addr)), Γ.lg id J → cap.length = J.fr.length → ClOk X.prog X.w X.K X.mg X.base n (fun H => LamAt H f J.qual J.params J.body J.scope J.fr cap clos) f (spL Γ (F.lam id) cap)
  fa : ∀ (f : String) (a : Addr), Γ.fa f = some a → X.mg (f : Str) = some (.ref a) ∧ ∃ oc od fd sl, X.K.lookup a = some ⟨oc, od, .func fd, sl⟩
section
variable {Γ : Gm} {F : DV.Fns} {n : Nat} {X : Cx} {ck : Ck}
theorem CG.vis (G : CG Γ F n X ck) {x : Str} (h : ck.vis x = true) : Vis X.env.scope x := by
  unfold Ck.vis at h
  split at h
  · rename_i e; rcases G.sc _ _ e with z | ⟨z, _⟩
    · exact .inl z
    · cases z
  · rename_i e; rcases G.sc _ _ e with z | ⟨z, _⟩
    · exact .inr (.inl z)
    · cases z
  · rename_i e; rcases G.sc _ _ e with z | ⟨_, z⟩
    · exact .inr (.inr z)
    · exact .inr (.inl z)
  · cases h
theorem CG.loc (G : CG Γ F n X ck) {x : Str} (h : ck.loc x = true) : Loc X.env.scope x ∧ (X.fn x = true ∨ X.env.scope.names.lookup x = some .local) := by
  unfold Ck.loc at h
  split at h
  · rename_i e; rcases G.sc _ _ e with z | ⟨z, _⟩
    · exact ⟨.inl z, .inr z⟩
    · cases z
  · rename_i e; rcases G.sc _ _ e with z | ⟨z, _⟩
    · exact ⟨.inr z, .inl (G.fn _ e)⟩
    · cases z
  · cases h
theorem CG.gl (G : CG Γ F n X ck) {x : Str} (h : ck.gl x = true) : Gl X x ∧ (x == ("__debug__" : Str)) = false ∧ x ≠ "__name__" := by
  unfold Ck.gl at h
  simp only [Bool.and_eq_true, Bool.not_eq_true'] at h
  obtain ⟨⟨h1, h2⟩, h3⟩ := h
  refine ⟨?_, h2, of_decide_eq_false h3⟩
  split at h1
  · rename_i e; rcases G.sc _ _ e with z | ⟨z, _⟩
    · exact z
    · cases z
  · cases h1
theorem cg_tgs (G : CG Γ F n X ck) : ∀ {is : List Nat} {es : List Expr}, mTgs ck is es = true → PGs X es (gsOf is) ∧ (assignEach es X.env).length = is.length ∧ (assignEach es X.env).findIdx? (·.1) = none
  | [], [], _ => ⟨pgs_nil, rfl, rfl⟩
  | [], _ :: _, h => by cases h
  | i :: is, [], h => by cases h
  | i :: is, e :: es, h => by
    cases e with
    | Name x p =>
      unfold mTgs at h
      simp only [Bool.and_eq_true, decide_eq_true_eq] at h
      obtain ⟨⟨h1, h2⟩, h3⟩ := h
      obtain ⟨l1, l2⟩ := G.loc h2
      obtain ⟨a, b, c⟩ := cg_tgs G h3
      have hs : assignEach (.Name x p :: es) X.env = (false, assign (.Name x p) X.env) :: assignEach es X.env := rfl
      refine ⟨pgs_cons (pg_name (by rw [G.N]; exact G.nd) (by rw [G.N]; exact h1) l1 l2) a (by rw [hs]; rfl), by rw [hs, List.length_cons, List.length_cons, b], ?_⟩
      rw [hs, List.findIdx?_cons]
      simp [c]
    | _ => cases h
theorem cg_tg (G : CG Γ F n X ck) {tg : DV.Tg} {e : Expr} (h : mTg ck tg e = true) : PG X e (gOf Γ.K tg) := by
  unfold mTg at h
  split at h
  · simp only [Bool.and_eq_true, decide_eq_true_eq] at h
    obtain ⟨l1, l2⟩ := G.loc h.2
    exact pg_name (by rw [G.N]; exact G.nd) (by rw [G.N]; exact h.1) l1 l2
  · obtain ⟨a, b, c⟩ := cg_tgs G h
    exact pg_tupK G.K G.calm a b c
  · cases h
theorem CG.comp (G : CG Γ F n X ck) {tg : DV.Tg} {tgt iter : Expr} {caps : List (Option Nat)} {scope : Scope} (h : mComp ck tg tgt iter caps scope = true) :
    compCheck (ckC ck tgt caps scope).N caps scope X.N X.env.scope = true ∧ shp iter = true ∧
    ∀ (C : Addr) (cells : List (Str × Addr)) (s : Shared) (H : Hp) (ex : List Addr), CG Γ F n (cxComp X (ckC ck tgt caps scope).N scope C cells s H ex) (ckC ck tgt caps scope) ∧ PG (cxComp X (ckC ck tgt caps scope).N scope C cells s H ex) tgt (gOf Γ.K tg) := by
  unfold mComp at h
  simp only [Bool.and_eq_true, decide_eq_true_eq] at h
  obtain ⟨⟨⟨h1, h2⟩, h3⟩, h4⟩ := h
  refine ⟨?_, h4, fun C cells s H ex => ?_⟩
  · rw [G.N]
    unfold compCheck at h1 ⊢
    simp only [Bool.and_eq_true] at h1 ⊢
    obtain ⟨⟨⟨⟨⟨a1, a2⟩, a3⟩, a4⟩, a5⟩, a6⟩ := h1
    refine ⟨⟨⟨⟨⟨a1, ?_⟩, a3⟩, a4⟩, a5⟩, a6⟩
    rw [List.all_eq_true] at a2 ⊢
    intro y hy
    have := a2 y hy
    rw [Bool.or_eq_true] at this ⊢
    rcases this with q | q
    · exact .inl q
    · right
      rw [Bool.or_eq_true] at q ⊢
      rcases q with q | q
      · rcases G.sc _ _ (eq_of_beq q) with z | ⟨z, _⟩
        · left; rw [z]; exact beq_self_eq_true _
        · cases z
      · rcases G.sc _ _ (eq_of_beq q) with z | ⟨_, z⟩
        · right; rw [z]; exact beq_self_eq_true _
        · left; rw [z]; exact beq_self_eq_true _
  · have G' : CG Γ F n (cxComp X (ckC ck tgt caps scope).N scope C cells s H ex) (ckC ck tgt caps scope) := by
      refine ⟨G.K, rfl, h2, rfl, G.calm, G.deep, G.room, fun x k e => ?_, fun x e => ?_, G.bi, G.call, G.con, fun _ _ _ h => (by cases h), G.cl, G.fa⟩
      · have q := lookup_relabel (env := X.env) e
        have q' : (relabel scope X.env).names.lookup x = some (if (k == NameKind.free && X.env.scope.kind == .function && X.env.kindOf x == some .cell) then NameKind.cell else k) := q
        show (relabel scope X.env).names.lookup x = some k ∨ _
        rw [q']
        split
        · rename_i hc
          simp only [Bool.and_eq_true] at hc
          exact .inr ⟨eq_of_beq hc.1.1, rfl⟩
        · exact .inl rfl
      · show (scope.names.lookup x == some .cell) = true
        rw [show scope.names.lookup x = some .cell from e]; rfl
    exact ⟨G', cg_tg G' h3⟩
end
end L2
end

set_option Elab.async false
set_option linter.all false
set_option maxRecDepth 100000
set_option maxHeartbeats 4000000
noncomputable section
namespace L2
open PySem PySem.Spec PyProof.Rows
section
variable {Γ : Gm} {F : DV.Fns} {n : Nat} {X : Cx} {ck : Ck} {σ : St} {H : Hp} {Q : VK}
theorem TEv.eq {m m' : DV.Env → DV.Sto → DV.R DV.D} (e : ∀ ρ s, m ρ s = m' ρ s) (q : TEv Γ m σ H Q) : TEv Γ m' σ H Q := by
  have : m = m' := funext fun ρ => funext fun s => e ρ s
  subst this; exact q
theorem TTv.eq {m m' : DV.Env → DV.Sto → DV.R DV.D} {Q : Bool → Hp → Prop} (e : ∀ ρ s, m ρ s = m' ρ s) (q : TTv Γ m σ H Q) : TTv Γ m' σ H Q := by
  have : m = m' := funext fun ρ => funext fun s => e ρ s
  subst this; exact q
theorem TAv.eq {m m' : DV.Env → DV.Sto → DV.R (List DV.D)} {Q : List V → Hp → Prop} (e : ∀ ρ s, m ρ s = m' ρ s) (q : TAv Γ m σ H Q) : TAv Γ m' σ H Q := by
  have : m = m' := funext fun ρ => funext fun s => e ρ s
  subst this; exact q
theorem TFv.eq {m m' : DV.Env → DV.Sto → DV.R (List DV.D)} (e : ∀ ρ s, m ρ s = m' ρ s) (q : TFv Γ m σ H Q) : TFv Γ m' σ H Q := by
  have : m = m' := funext fun ρ => funext fun s => e ρ s
  subst this; exact q
theorem TIv.eq {m m' : DV.Env → DV.Sto → DV.R DV.Sq} {R : It → Hp → Prop} (e : ∀ ρ s, m ρ s = m' ρ s) (q : TIv Γ m σ H R) : TIv Γ m' σ H R := by
  have : m = m' := funext fun ρ => funext fun s => e ρ s
  subst this; exact q
theorem TSv.eq {m m' : DV.Env → DV.Sto → DV.R DV.Ct} {D : Ends} (e : ∀ ρ s, m ρ s = m' ρ s) (q : TSv Γ m D σ H) : TSv Γ m' D σ H := by
  have : m = m' := funext fun ρ => funext fun s => e ρ s
  subst this; exact q
/-- a value that is tested -/
noncomputable def EvT (Γ : Gm) (X : Cx) (E : Expr) (m : DV.Env → DV.Sto → DV.R DV.D) : Prop := PE X E (TEv Γ m) ∧ PT X E (TTv Γ m)
theorem EvT.val {E : Expr} {m : DV.Env → DV.Sto → DV.R DV.D} (h : PE X E (TEv Γ m)) (he : ∀ whole, isTrue E X.env whole = (do let v ← whole; standAt E.pos; holding [v] (truthy v)) := by intro _; rfl) : EvT Γ X E m :=
  ⟨h, (pt_val h he).imp fun σ H Q q => tt_val q⟩
theorem pt_ifExp {c a b : Expr} {pos : Pos} {tA tb tc : TT} (hc : PT X c tA) (ha : PT X a tb) (hb : PT X b tc) : PT X (.IfExp c a b pos) (fun σ H Q => tA σ H fun k H1 => if k = true then tb σ H1 Q else tc σ H1 Q) := by
  intro pins s σ H Q I h
  have e : isTrue (.IfExp c a b pos) X.env (eval (.IfExp c a b pos) X.env) = (do if ← isTrue c X.env (eval c X.env) then isTrue a X.env (eval a X.env) else isTrue b X.env (eval b X.env)) := by rw [PySem.isTrue]
  rw [e]
  refine wpAny_bind (thn (hc pins s σ H _ I h) fun k s1 ⟨H1, I1, q1⟩ => ?_)
  cases k with
  | true => exact ha pins s1 σ H1 Q I1 q1
  | false => exact hb pins s1 σ H1 Q I1 q1
theorem tt_ite {mc m1 m2 : DV.Env → DV.Sto → DV.R DV.D} {Q : Bool → Hp → Prop} (h : TTv Γ (fun ρ s => DV.tru (mc ρ s) fun k s => if k then m1 ρ s else m2 ρ s) σ H Q) : TTv Γ mc σ H fun k H1 => if k = true then TTv Γ m1 σ H1 Q else TTv Γ m2 σ H1 Q := by
  obtain ⟨φ, ρ, s, d, s', E, R, hm, q⟩ := h
  obtain ⟨c, s1, e1, hm⟩ := tru_inv hm
  refine ⟨φ, ρ, s, c, s1, E, R, e1, fun φ1 H1 g1 l1 R1 => ?_⟩
  cases c with
  | true =>
    rw [if_pos rfl] at hm ⊢
    exact ⟨φ1, ρ, s1, d, s', E.mono g1 l1, R1, hm, q.trans g1 l1⟩
  | false =>
    rw [if_neg Bool.false_ne_true] at hm ⊢
    exact ⟨φ1, ρ, s1, d, s', E.mono g1 l1, R1, hm, q.trans g1 l1⟩
/-! one rule for each form -/
section
variable {a b c : DV.E} {l r t : Expr} {pos : Pos}
theorem ev_bin' (G : CG Γ F n X ck) (op : DV.BOp) (ha : EvT Γ X l (DV.ev F a)) (hb : EvT Γ X r (DV.ev F b)) : EvT Γ X (.BinOp l (opOf op) r pos) (DV.ev F (.bin op a b)) :=
  .val ((pe_op (op_bin G.K op) ha.1 hb.1).imp fun σ H Q q => tv_op (TEv.eq (fun ρ s => rfl) q))
theorem ev_neg' (ha : EvT Γ X l (DV.ev F a)) : EvT Γ X (.UnaryOp .USub l pos) (DV.ev F (.neg a)) :=
  .val ((pe_un un_neg ha.1).imp fun σ H Q q => tv_un (f := fun x s => match x with | .int i => .ok (.int (-i)) s | _ => .bad) (TEv.eq (fun ρ s => rfl) q) fun φ s x d s' v H' R r bx hm k => by
    cases x with
    | int i =>
      cases hm
      exact ⟨i, r.intE, k.here R rfl RV.intI⟩
    | _ => cases hm)
theorem ev_not' (ha : EvT Γ X l (DV.ev F a)) : EvT Γ X (.UnaryOp .Not l pos) (DV.ev F (.not a)) :=
  ⟨(pe_not ha.1).imp fun σ H Q q => tv_not (TEv.eq (fun ρ s => rfl) q), (pt_not ha.2).imp fun σ H Q q => tt_not (TTv.eq (fun ρ s => rfl) q)⟩
theorem ev_cmp' (G : CG Γ F n X ck) (op : DV.COp) (hs : shp r = true) (ha : EvT Γ X l (DV.ev F a)) (hb : EvT Γ X r (DV.ev F b)) : EvT Γ X (.Compare l [copOf op] [r] pos) (DV.ev F (.cmp op a b)) := by
  have ho := op_cmp (Γ := Γ) G.K (G.room.mono G.deep) op
  refine ⟨(pe_cmpR ho ha.1 hb.1 (behind_ok hs)).imp fun σ H Q q => tv_op (TEv.eq (fun ρ s => rfl) q), (pt_cmpR ho ha.1 hb.1 (behind_ok hs)).imp fun σ H Q q => ?_⟩
  have q := tt_test q
  exact tv_op (TEv.eq (fun ρ s => rfl) q)
theorem bool_pw {op : BoolOp} {es : List Expr} {t : TT} (h : PT X (.BoolOp op es pos) t) : PW X (.BoolOp op es pos) t := by
  intro wh pins s σ H Q I q
  have := h pins s σ H Q I q
  have e : ∀ w, isTrue (.BoolOp op es pos) X.env w = allTrue op es X.env := fun w => by rw [PySem.isTrue]
  rw [e] at this ⊢
  exact this
theorem ev_and2 (ha : EvT Γ X l (DV.ev F a)) (hb : EvT Γ X r (DV.ev F b)) : EvT Γ X (.BoolOp .And [l, r] pos) (DV.ev F (.and a b)) :=
  ⟨(pe_and ha.1 (pe_one hb.1)).imp fun σ H Q q => tv_and (TEv.eq (fun ρ s => rfl) q), (pw_and ha.2 (pw_and1 hb.2)).pt.imp fun σ H Q q => tt_and (TTv.eq (fun ρ s => rfl) q)⟩
theorem ev_and3 {es : List Expr} (ha : EvT Γ X l (DV.ev F a)) (hb : EvT Γ X (.BoolOp .And (r :: es) pos) (DV.ev F b)) : EvT Γ X (.BoolOp .And (l :: r :: es) pos) (DV.ev F (.and a b)) :=
  ⟨(pe_and ha.1 hb.1).imp fun σ H Q q => tv_and (TEv.eq (fun ρ s => rfl) q), (pw_and ha.2 (bool_pw hb.2)).pt.imp fun σ H Q q => tt_and (TTv.eq (fun ρ s => rfl) q)⟩
theorem ev_or2 (ha : EvT Γ X l (DV.ev F a)) (hb : EvT Γ X r (DV.ev F b)) : EvT Γ X (.BoolOp .Or [l, r] pos) (DV.ev F (.or a b)) :=
  ⟨(pe_or ha.1 (pe_one hb.1)).imp fun σ H Q q => tv_or (TEv.eq (fun ρ s => rfl) q), (pw_or ha.2 (pw_or1 hb.2)).pt.imp fun σ H Q q => tt_or (TTv.eq (fun ρ s => rfl) q)⟩
theorem ev_or3 {es : List Expr} (ha : EvT Γ X l (DV.ev F a)) (hb : EvT Γ X (.BoolOp .Or (r :: es) pos) (DV.ev F b)) : EvT Γ X (.BoolOp .Or (l :: r :: es) pos) (DV.ev F (.or a b)) :=
  ⟨(pe_or ha.1 hb.1).imp fun σ H Q q => tv_or (TEv.eq (fun ρ s => rfl) q), (pw_or ha.2 (bool_pw hb.2)).pt.imp fun σ H Q q => tt_or (TTv.eq (fun ρ s => rfl) q)⟩
theorem ev_ite' (hc : EvT Γ X t (DV.ev F c)) (ha : EvT Γ X l (DV.ev F a)) (hb : EvT Γ X r (DV.ev F b)) : EvT Γ X (.IfExp t l r pos) (DV.ev F (.ite c a b)) :=
  ⟨(pe_ifExp hc.2 ha.1 hb.1).imp fun σ H Q q => tv_ite (TEv.eq (fun ρ s => rfl) q), (pt_ifExp hc.2 ha.2 hb.2).imp fun σ H Q q => tt_ite (TTv.eq (fun ρ s => rfl) q)⟩
theorem ev_ix' (G : CG Γ F n X ck) (hs : shp r = true) (ha : EvT Γ X l (DV.ev F a)) (hb : EvT Γ X r (DV.ev F b)) : EvT Γ X (.Subscript l r pos) (DV.ev F (.ix a b)) :=
  .val ((pe_ix (ix_ok G.K) ha.1 hb.1 (plainIx_ok hs)).imp fun σ H Q q => tv_op (TEv.eq (fun ρ s => rfl) q))
end
end
end L2
end

set_option Elab.async false
set_option linter.all false
set_option maxRecDepth 100000
set_option maxHeartbeats 4000000
noncomputable section
namespace L2
open PySem PySem.Spec PyProof.Rows
section
variable {Γ : Gm} {F : DV.Fns} {n : Nat} {X : Cx} {ck : Ck} {σ : St} {H : Hp} {Q : VK}
theorem evs_len : ∀ {es : DV.Es} {ρ : DV.Env} {s s' : DV.Sto} {l : List DV.D} {xs : List Expr} {ck : Ck}, DV.evs F es ρ s = .ok l s' → mEs ck es xs = true → l.length = xs.length
  | .nil, ρ, s, s', l, xs, ck, h, m => by
    cases h
    cases xs with
    | nil => rfl
    | cons _ _ => rw [mEs] at m <;> first | cases m | (intros; simp_all)
  | .cons e es, ρ, s, s', l, xs, ck, h, m => by
    obtain ⟨d, s1, e1, h⟩ := bind_inv h
    obtain ⟨r, s2, e2, h⟩ := bind_inv h
    cases h
    cases xs with
    | nil => rw [mEs] at m <;> first | cases m | (intros; simp_all)
    | cons x xs =>
      rw [mEs, Bool.and_eq_true] at m
      rw [List.length_cons, List.length_cons, evs_len e2 m.2]
theorem mEs_shp : ∀ {es : DV.Es} {xs : List Expr}, mEs ck es xs = true → ∀ x ∈ xs, shp x = true
  | .nil, [], _, x, hx => by cases hx
  | .nil, _ :: _, m, _, _ => by rw [mEs] at m <;> first | cases m | (intros; simp_all)
  | .cons e es, [], m, x, hx => by cases hx
  | .cons e es, y :: xs, m, x, hx => by
    rw [mEs, Bool.and_eq_true, Bool.and_eq_true] at m
    rcases List.mem_cons.mp hx with h | h
    · rw [h]; exact m.1.2
    · exact mEs_shp m.2 x h
theorem mAs_shp : ∀ {es : DV.As} {xs : List Expr}, mAs ck es xs = true → ∀ x ∈ xs, shp x = true
  | .nil, [], _, x, hx => by cases hx
  | .nil, _ :: _, m, _, _ => by rw [mAs] at m <;> first | cases m | (intros; simp_all)
  | .ex e es, [], m, x, hx => by cases hx
  | .lam _ _ _, _, m, _, _ => by rw [mAs] at m <;> first | cases m | (intros; simp_all)
  | .fn _ _, _, m, _, _ => by rw [mAs] at m <;> first | cases m | (intros; simp_all)
  | .ex e es, y :: xs, m, x, hx => by
    rw [mAs, Bool.and_eq_true, Bool.and_eq_true] at m
    rcases List.mem_cons.mp hx with h | h
    · rw [h]; exact m.1.2
    · exact mAs_shp m.2 x h
theorem pa_cons' {e : DV.E} {x : Expr} {xs : List Expr} {ms : DV.Env → DV.Sto → DV.R (List DV.D)} (hs : shp x = true) (h1 : PE X x (TEv Γ (DV.ev F e))) (h2 : PA X xs (TAv Γ ms)) :
    PA X (x :: xs) (TAv Γ (fun ρ s => (DV.ev F e ρ s).bind fun d s => (ms ρ s).bind fun l s => .ok (d :: l) s)) :=
  (pa_cons h1 h2 (star_cons hs)).imp fun σ H Q q => ta_cons q
theorem le1000 {k : Nat} (h : k ≤ 1000) : k ≤ sizeLine := by rw [sizeLine_eq]; omega
theorem pe_tup' {es : DV.Es} {xs : List Expr} {k : Nat} {pos : Pos} (m : mEs ck es xs = true) (hz : xs.length ≤ 1000) (h : PA X xs (TAv Γ (DV.evs F es))) : EvT Γ X (.Tuple xs k pos) (DV.ev F (.tup es)) :=
  .val ((pe_tup h).imp fun σ H Q q => tv_tup' hz m q)
where
  tv_tup' {es : DV.Es} {xs : List Expr} {σ : St} {H : Hp} {Q : VK} (hz : xs.length ≤ 1000) (m : mEs ck es xs = true) (q : TEv Γ (DV.ev F (.tup es)) σ H Q) : tTup (TAv Γ (DV.evs F es)) σ H Q := by
    obtain ⟨φ, ρ, s, d, s', E, R, hm, q⟩ := q
    obtain ⟨l, s1, e1, hm⟩ := bind_inv hm
    cases hm
    refine ⟨φ, ρ, s, l, _, E, R, e1, fun vs φ1 H1 g1 l1 b1 r1 R1 => ⟨by rw [r1.length, evs_len e1 m]; exact le1000 hz, fun p hp => ?_⟩⟩
    exact (q.trans g1 l1).tup R1 r1 b1 hp
theorem pe_lst' {es : DV.Es} {xs : List Expr} {pos : Pos} (m : mEs ck es xs = true) (hz : xs.length ≤ 1000) (h : PA X xs (TAv Γ (DV.evs F es))) : EvT Γ X (.List xs pos) (DV.ev F (.lst es)) := by
  refine .val ((pe_lst h).imp fun σ H Q q => ?_)
  obtain ⟨φ, ρ, s, d, s', E, R, hm, q⟩ := q
  obtain ⟨l, s1, e1, hm⟩ := bind_inv hm
  obtain ⟨rfl, rfl⟩ := alloc_inv hm
  refine ⟨φ, ρ, s, l, _, E, R, e1, fun vs φ1 H1 g1 l1 b1 r1 R1 => ⟨by rw [r1.length, evs_len e1 m]; exact le1000 hz, fun p hp => ?_⟩⟩
  exact (q.trans g1 l1).alloc R1 r1 b1 hp
/-! calls -/
theorem pe_call' {f : String} {as : DV.As} {xs : List Expr} {p pos : Pos} (G : CG Γ F n X ck) (hg : ck.gl (f : Str) = true) (m : mAs ck as xs = true) (h : PA X xs (TAv Γ (DV.evas F as))) : EvT Γ X (.Call (.Name (f : Str) p) xs [] pos) (DV.ev F (.call f as)) := by
  refine .val ?_
  obtain ⟨g1, g2, g3⟩ := G.gl hg
  rcases G.call f with hbad | ⟨a, fd, ps, hF, hmg, hk, hb⟩
  · intro pins s σ H Q I q
    obtain ⟨φ, ρ, s, d, s', E, R, hm, q⟩ := q
    obtain ⟨l, s1, e1, hm⟩ := bind_inv hm
    rw [hbad] at hm
    cases hm
  have key : ∀ σ H Q, TEv Γ (DV.ev F (.call f as)) σ H Q → tCall (spV Γ (F.call f)) [] E0 (TAv Γ (DV.evas F as)) σ H Q := fun σ H Q q => by
    have := tv_call (TEv.eq (m' := fun ρ s => (DV.evas F as ρ s).bind fun l s => F.call f l s) (fun ρ s => rfl) q)
    unfold tCB at this
    unfold tCall spV
    simpa only [List.append_nil] using this
  cases xs with
  | nil =>
    have h0 : PE X (.Call (.Name (f : Str) p) [] [] pos) (tCall (spV Γ (F.call f)) [] E0 tNil) := pe_call0 hF G.room g1 hmg hk hb .nil pass0 g2
    cases as with
    | nil =>
      refine h0.imp fun σ H Q q => ?_
      have q1 := key σ H Q q
      unfold tCall at q1 ⊢
      exact ta_nil (TAv.eq (fun ρ s => rfl) q1)
    | _ => rw [mAs] at m <;> first | cases m | (intros; simp_all)
  | cons x xs =>
    have hs := mAs_shp m
    exact (pe_call hF G.room g1 hmg hk hb .nil pass0 h g2 (star_cons (hs x (List.mem_cons_self ..))) (star_plain fun e he => hs e (List.mem_cons_of_mem _ he)).1).imp key
noncomputable def BiC (Γ : Gm) (X : Cx) (b : DV.Bi) (x : Str) : Prop := (∃ id, bootBuiltins x = some (.builtin id) ∧ CallR X (.builtin id) (rCl Γ (DV.bi b))) ∨ ∃ T, bootBuiltins x = some (.type T) ∧ CallR X (.type T) (rCl Γ (DV.bi b))
theorem biT_ok (G : CG Γ F n X ck) {b : DV.Bi} {x : Str} (h : biT b = some x) : x ∈ bNames ∧ BiC Γ X b x := by
  cases b <;> first | cases h | skip
  · exact ⟨by decide, .inl ⟨_, b_len, bi_ok G.K G.calm (k := 1) rfl⟩⟩
  · exact ⟨by decide, .inl ⟨_, b_abs, bi_ok G.K G.calm (k := 1) rfl⟩⟩
  · exact ⟨by decide, .inr ⟨_, b_int, int_ok⟩⟩
  · exact ⟨by decide, .inl ⟨_, b_min, bi_ok G.K G.calm (k := 2) rfl⟩⟩
  · exact ⟨by decide, .inl ⟨_, b_max, bi_ok G.K G.calm (k := 2) rfl⟩⟩
  · exact ⟨by decide, .inl ⟨_, b_max, bi_ok G.K G.calm (k := 3) rfl⟩⟩
theorem pe_bi' {b : DV.Bi} {es : DV.Es} {x : Str} {y : Expr} {xs : List Expr} {p pos : Pos} (G : CG Γ F n X ck) (hb : biT b = some x) (hg : ck.gl x = true) (m : mEs ck es (y :: xs) = true) (h : PA X (y :: xs) (TAv Γ (DV.evs F es))) :
    EvT Γ X (.Call (.Name x p) (y :: xs) [] pos) (DV.ev F (.bi b es)) := by
  refine .val ?_
  obtain ⟨g1, g2, g3⟩ := G.gl hg
  obtain ⟨hm, hc⟩ := biT_ok G hb
  have hs := mEs_shp m
  have s1 := star_cons (es := xs) (env := X.env) (hs y (List.mem_cons_self ..))
  have s2 := (star_plain (env := X.env) (pos := pos) fun e he => hs e (List.mem_cons_of_mem _ he)).1
  rcases hc with ⟨id, h1, h2⟩ | ⟨T, h1, h2⟩
  · exact (pe_callB h2 g1 (G.bi _ hm) h1 h g3 g2 s1 s2).imp fun σ H Q q => tv_call (TEv.eq (fun ρ s => rfl) q)
  · exact (pe_callTy h2 g1 (G.bi _ hm) h1 h g3 g2 s1 s2).imp fun σ H Q q => tv_call (TEv.eq (fun ρ s => rfl) q)
theorem biK_ok {b : DV.Bi} {k : Nat} {t : Str} (h : biK b = some (k, t)) : (1 ≤ k ∧ k ≤ 5) ∧ t ∈ bNames ∧ bootBuiltins t = some (.type (kName k)) ∧ DV.bi b = DV.bi1 (DV.isK k) := by
  cases b <;> cases h
  · exact ⟨by omega, by decide, b_int, rfl⟩
  · exact ⟨by omega, by decide, b_bool, rfl⟩
  · exact ⟨by omega, by decide, b_str, rfl⟩
  · exact ⟨by omega, by decide, b_tuple, rfl⟩
  · exact ⟨by omega, by decide, b_list, rfl⟩
noncomputable def PEs (Γ : Gm) (F : DV.Fns) (X : Cx) : DV.Es → List Expr → Prop
  | .nil, [] => True
  | .cons e es, x :: xs => (shp x = true ∧ EvT Γ X x (DV.ev F e)) ∧ PEs Γ F X es xs
  | _, _ => False
theorem pes_pa : ∀ {es : DV.Es} {xs : List Expr}, PEs Γ F X es xs → PA X xs (TAv Γ (DV.evs F es))
  | .nil, [], _ => pa_nil.imp fun σ H Q q => ta_nil (TAv.eq (fun ρ s => rfl) q)
  | .nil, _ :: _, h => h.elim
  | .cons _ _, [], h => h.elim
  | .cons e es, x :: xs, h => (pa_cons' h.1.1 h.1.2.1 (pes_pa h.2)).imp fun σ H Q q => TAv.eq (fun ρ s => rfl) q
theorem pe_isi' {b : DV.Bi} {es : DV.Es} {k : Nat} {t : Str} {a : Expr} {p py pos : Pos} (G : CG Γ F n X ck) (hb : biK b = some (k, t)) (hg : ck.gl "isinstance" = true) (hg2 : ck.gl t = true) (h : PEs Γ F X es [a]) :
    EvT Γ X (.Call (.Name "isinstance" p) [a, .Name t py] [] pos) (DV.ev F (.bi b es)) := by
  refine .val ?_
  obtain ⟨g1, g2, g3⟩ := G.gl hg
  obtain ⟨t1, t2, t3⟩ := G.gl hg2
  obtain ⟨hk, hm, hv, hbi⟩ := biK_ok hb
  have pty : PE X (.Name t py) (tC (.ty (kName k))) := pe_bltn t1 (G.bi _ hm) hv rfl t3 t2
  cases es with
  | nil => exact h.elim
  | cons e es =>
    cases es with
    | cons _ _ => exact h.2.elim
    | nil =>
      obtain ⟨⟨hs, ha, _⟩, _⟩ := h
      have hA : PA X [a, .Name t py] (tCons (TEv Γ (DV.ev F e)) (tCons (tC (.ty (kName k))) tNil)) := pa_cons ha (pa_cons pty pa_nil (star_cons rfl)) (star_cons hs)
      refine (pe_callB (isK_ok G.K hk) g1 (G.bi _ (by decide)) b_isinstance hA g3 g2 (star_cons hs) (star_plain fun e he => by rw [List.mem_singleton.mp he]; rfl).1).imp fun σ H Q q => ?_
      obtain ⟨φ, ρ, s, d, s', E, R, hm, q⟩ := q
      obtain ⟨l, s1, e1, hm⟩ := bind_inv hm
      obtain ⟨x, s2, e2, e1⟩ := bind_inv e1
      obtain ⟨l2, s3, e3, e1⟩ := bind_inv e1
      cases e3
      cases e1
      rw [hbi] at hm
      refine ⟨φ, ρ, s, x, _, E, R, e2, fun v φ1 H1 g1 l1 b1 r1 R1 => ?_⟩
      exact ⟨v, rfl, φ1, _, [x], d, s', R1, .cons r1 .nil, by unfold DV.D.bndL; rw [b1]; rfl, hm, q.trans g1 l1⟩
end
end L2
end

set_option Elab.async false
set_option linter.all false
set_option maxRecDepth 100000
set_option maxHeartbeats 4000000
noncomputable section
namespace L2
open PySem PySem.Spec PyProof.Rows
section
variable {Γ : Gm} {F : DV.Fns} {n : Nat} {X : Cx} {ck : Ck} {σ : St} {H : Hp}
/-! ### arguments, lambdas among them -/
noncomputable def TAp (Γ : Gm) (cells : List (Str × Addr)) (N : List Str) (m : DV.Env → DV.Sto → DV.R (List DV.D)) : TA := fun σ H Q => ∃ φ ρ s l s', RE Γ φ H s.length ρ σ ∧ Rp Γ φ H s ∧ m ρ s = .ok l s' ∧
  ∀ vs φ' H', Gr φ s H φ' s' H' → s.length ≤ s'.length → DV.D.bndL s'.length l = true → PVL Γ cells N σ φ' H' l vs → Rp Γ φ' H' s' → Q vs H'
theorem TAp.eq {cells : List (Str × Addr)} {N : List Str} {m m' : DV.Env → DV.Sto → DV.R (List DV.D)} {Q : List V → Hp → Prop} (e : ∀ ρ s, m ρ s = m' ρ s) (q : TAp Γ cells N m σ H Q) : TAp Γ cells N m' σ H Q := by
  obtain ⟨φ, ρ, s, l, s', E, R, hm, q⟩ := q
  exact ⟨φ, ρ, s, l, s', E, R, by rw [← e]; exact hm, q⟩
theorem tap_nil {cells : List (Str × Addr)} {N : List Str} {Q : List V → Hp → Prop} (h : TAp Γ cells N (fun ρ s => .ok [] s) σ H Q) : tNil σ H Q := by
  obtain ⟨φ, ρ, s, l, s', E, R, hm, q⟩ := h
  cases hm
  exact q [] φ H (Gr.refl _ _ _) (Nat.le_refl _) rfl .nil R
theorem tap_ex {cells : List (Str × Addr)} {N : List Str} {m : DV.Env → DV.Sto → DV.R DV.D} {ms : DV.Env → DV.Sto → DV.R (List DV.D)} {Q : List V → Hp → Prop} (h : TAp Γ cells N (fun ρ s => (m ρ s).bind fun d s => (ms ρ s).bind fun l s => .ok (d :: l) s) σ H Q) : tCons (TEv Γ m) (TAp Γ cells N ms) σ H Q := by
  obtain ⟨φ, ρ, s, l, s', E, R, hm, q⟩ := h
  obtain ⟨x, s1, e1, hm⟩ := bind_inv hm
  obtain ⟨y, s2, e2, hm⟩ := bind_inv hm
  cases hm
  refine ⟨φ, ρ, s, x, s1, E, R, e1, fun v φ1 H1 g1 l1 b1 r1 R1 => ?_⟩
  refine ⟨φ1, ρ, s1, y, s', E.mono g1 l1, R1, e2, fun vs φ2 H2 g2 l2 b2 r2 R2 => ?_⟩
  exact q (v :: vs) φ2 H2 (g1.trans g2 l1) (Nat.le_trans l1 l2) (by unfold DV.D.bndL; rw [D_bnd_mono l2 x b1, b2]; rfl) (.cons (PVp.mono g2 b1 (.inl r1)) r2) R2
theorem getVs_get {ρ : DV.Env} : ∀ {is : List Nat} {cs : List DV.D}, DV.getVs ρ is = some cs → cs.length = is.length ∧ ∀ (i j : Nat), is[i]? = some j → ∃ d, cs[i]? = some d ∧ ρ[j]? = some (some d)
  | [], cs, h => by cases h; exact ⟨rfl, fun i j e => by cases e⟩
  | k :: is, cs, h => by
    unfold DV.getVs at h
    cases e : ρ[k]? with
    | none => rw [e] at h; cases h
    | some o =>
      cases o with
      | none => rw [e] at h; cases h
      | some d =>
        cases e2 : DV.getVs ρ is with
        | none => rw [e, e2] at h; cases h
        | some l =>
          rw [e, e2] at h
          cases h
          obtain ⟨h1, h2⟩ := getVs_get e2
          refine ⟨by rw [List.length_cons, List.length_cons, h1], fun i j ei => ?_⟩
          cases i with
          | zero => cases ei; exact ⟨d, rfl, e⟩
          | succ i => exact h2 i j ei
theorem cap_of {φ : Nat → Addr} {s : DV.Sto} {ρ : DV.Env} (E : RE Γ φ H s.length ρ σ) : ∀ {is : List Nat} {cs : List DV.D}, DV.getVs ρ is = some cs → ∃ cap, RVL Γ φ H cs cap ∧ DV.D.bndL s.length cs = true ∧ ∀ (i j : Nat) (v : V), is[i]? = some j → cap[i]? = some v → σ[j]? = some (some v)
  | [], cs, h => by cases h; exact ⟨[], .nil, rfl, fun i j v e => by cases e⟩
  | k :: is, cs, h => by
    unfold DV.getVs at h
    cases e : ρ[k]? with
    | none => rw [e] at h; cases h
    | some o =>
      cases o with
      | none => rw [e] at h; cases h
      | some d =>
        cases e2 : DV.getVs ρ is with
        | none => rw [e, e2] at h; cases h
        | some l =>
          rw [e, e2] at h
          cases h
          obtain ⟨cap, h1, h2, h3⟩ := cap_of E e2
          obtain ⟨hb, v, hσ, hv⟩ := E.val k d e
          refine ⟨v :: cap, .cons hv h1, by unfold DV.D.bndL; rw [hb, h2]; rfl, fun i j w ei ec => ?_⟩
          cases i with
          | zero => cases ei; cases ec; exact hσ
          | succ i => exact h3 i j w ei ec
theorem pa_lam {id : String} {caps : List Nat} {params : Arguments} {body : Expr} {scope : Scope} {pos : Pos} {c P : Addr} {J : LamI} {xs : List Expr} {ms : DV.Env → DV.Sto → DV.R (List DV.D)} (L : LamHere Γ X X.N id caps params body scope c P J) (h2 : PA X xs (TAp Γ X.env.cells X.N ms)) :
    PA X (.Lambda params body scope pos :: xs) (TAp Γ X.env.cells X.N (fun ρ s => match DV.getVs ρ caps with | some cs => (ms ρ s).bind fun l s => .ok (.clo id cs :: l) s | none => .bad)) := by
  refine (pa_cons (pe_lambda L.code L.hd L.bm L.ck L.df) h2).imp fun σ H Q q => ?_
  obtain ⟨φ, ρ, s, l, s', E, R, hm, q⟩ := q
  have hm : (match DV.getVs ρ caps with | some cs => (ms ρ s).bind fun l s => DV.R.ok (DV.D.clo id cs :: l) s | none => DV.R.bad) = .ok l s' := hm
  cases eg : DV.getVs ρ caps with
  | none => rw [eg] at hm; cases hm
  | some cs =>
    rw [eg] at hm
    obtain ⟨y, s2, e2, hm⟩ := bind_inv hm
    cases hm
    obtain ⟨cap, hcap, hcb, hσ⟩ := cap_of E eg
    have hlen := (getVs_get eg).1
    rw [← L.q]
    refine tLam_of2 R.tab L.nd L.tab fun f H' e st tb hf ho => ?_
    obtain ⟨g1, R1⟩ := R.sameT e st tb
    refine ⟨φ, ρ, s, y, s', E.mono g1 (Nat.le_refl _), R1, e2, fun vs φ2 H2 g2 l2 b2 r2 R2 => ?_⟩
    refine q (.ref f :: vs) φ2 H2 (g1.trans g2 (Nat.le_refl _)) l2 (by unfold DV.D.bndL DV.D.bnd; rw [D_bndL_mono l2 cs hcb, b2]; rfl) (.cons ?_ r2) R2
    have p1 : PVp Γ X.env.cells X.N σ φ H' (.clo id cs) (.ref f) := by
      refine .inr ⟨id, cs, rfl, f, J, rfl, L.lg, by rw [L.p, L.b, L.s]; exact ho, by rw [hlen, L.len], by rw [L.s]; exact L.cl, cap, RVL.mono g1 cs cap hcb hcap, fun i x v e1 e3 => ?_⟩
      have hi : i < caps.length := by rw [← L.len]; exact (List.getElem?_eq_some_iff.mp e1).1
      have hj : caps[i]? = some caps[i] := List.getElem?_eq_getElem hi
      exact ⟨by rw [L.s]; exact L.fr x (List.mem_of_getElem? e1), caps[i], L.at_ i _ x hj e1, hσ i _ v hj e3⟩
    exact p1.mono g2 (by unfold DV.D.bnd; exact hcb)
/-! ### a call with lambdas -/
theorem pe_callC' {f : String} {ms : DV.Env → DV.Sto → DV.R (List DV.D)} {e : Expr} {es : List Expr} {p pos : Pos} (G : CG Γ F n X ck) (hg : ck.gl (f : Str) = true) (hfn : ∀ x, X.fn x = true) (hkd : ∀ x c, X.env.cells.lookup x = some c → X.env.kindOf x = some .cell ∨ X.env.kindOf x = some .free)
    (hs : ∀ y ∈ e :: es, shp y = true) (h : PA X (e :: es) (TAp Γ X.env.cells X.N ms)) :
    PE X (.Call (.Name (f : Str) p) (e :: es) [] pos) (TEv Γ (fun ρ s => (ms ρ s).bind fun l s => (F.call f l s).bind fun d s' => if (d.ncl && s'.all DV.O.ncl) = true then .ok d s' else .bad)) := by
  obtain ⟨g1, g2, g3⟩ := G.gl hg
  rcases G.call f with hb | ⟨a, fd, ps, hF, hmg, hk, hB⟩
  · intro pins s σ H Q I q
    obtain ⟨φ, ρ, s, d, s', E, R, hm, q⟩ := q
    obtain ⟨l, s1, e1, hm⟩ := bind_inv hm
    rw [hb] at hm; cases hm
  · refine (pe_callC hF G.room g1 hmg hk hB hfn h g2 (star_cons (hs e (List.mem_cons_self ..))) (star_plain fun y hy => hs y (List.mem_cons_of_mem _ hy)).1).imp fun σ H Q q => ?_
    obtain ⟨φ, ρ, s, d, s', E, R, hm, q⟩ := q
    obtain ⟨l, s1, e1, hm⟩ := bind_inv hm
    obtain ⟨d2, s2, e2, hm⟩ := bind_inv hm
    split at hm
    case isFalse => cases hm
    rename_i hn
    cases hm
    rw [Bool.and_eq_true] at hn
    refine ⟨φ, ρ, s, l, s1, E, R, e1, fun vs φ1 H1 gg l1 b1 r1 R1 => fun H2 ca => ?_⟩
    obtain ⟨gs, R2⟩ := R1.same ca.same
    refine ⟨φ1, s1, l, d, s', R2, r1.caught ca hkd b1, b1, e2, fun v φ' H3 g' l' b' r' R' => ?_⟩
    have hc : Cells X.env.cells H3 := ca.cells.kp g'.w.kp
    exact q v φ' (Drop X.env.cells H3) (gg.trans (Gr.caught ca g') l1) (Nat.le_trans l1 l') b' (RV.dropC hc d v hn.1 r') (R'.dropC hc hn.2)
/-! ### a call of what a name holds -/
theorem pe_callV' {i : Nat} {x : Str} {es : DV.Es} {e : Expr} {xs : List Expr} {p pos : Pos} (G : CG Γ F n X ck) (hv : ck.var i x = true) (hs : ∀ y ∈ e :: xs, shp y = true) (h : PA X (e :: xs) (TAv Γ (DV.evs F es))) (hvar : PE X (.Name x p) (tVar i)) :
    PE X (.Call (.Name x p) (e :: xs) [] pos) (TEv Γ (DV.ev F (.callV i es))) := by
  refine (pe_callV rfl rfl rfl rfl rfl G.room hvar h (star_cons (hs e (List.mem_cons_self ..))) (star_plain fun y hy => hs y (List.mem_cons_of_mem _ hy)).1).imp fun σ H Q q => ?_
  obtain ⟨φ, ρ, s, d, s', E, R, hm, q⟩ := q
  have hm : ((DV.evs F es ρ s).bind fun l s => match ρ[i]? with
    | some (some (.fn f)) => F.call f l s
    | some (some (.clo id cs)) => F.lam id cs l s
    | _ => .bad) = .ok d s' := hm
  obtain ⟨l, s1, e1, hm⟩ := bind_inv hm
  cases eρ : ρ[i]? with
  | none => rw [eρ] at hm; cases hm
  | some o =>
    cases o with
    | none => rw [eρ] at hm; cases hm
    | some v0 =>
      obtain ⟨hb, v, hσ, rv⟩ := E.val i v0 eρ
      cases v0 with
      | fn f =>
        rw [eρ] at hm
        have hm : F.call f l s1 = .ok d s' := hm
        unfold RV at rv
        obtain ⟨a, ha, e2⟩ := rv
        subst e2
        obtain ⟨h1, h2⟩ := G.fa f a ha
        rcases G.call f with hb | ⟨a', fd, ps, hF, hmg, hk, hB⟩
        · rw [hb] at hm; cases hm
        · rw [h1] at hmg
          cases hmg
          refine ⟨a, hσ, .inr h2, φ, ρ, s, l, s1, E, R, e1, fun vs φ1 H1 g1 l1 b1 r1 R1 => ?_⟩
          exact ⟨.inr h2, _, _, ClOk.ofFn hF hB, trivial, φ1, s1, l, d, s', R1, r1, b1, hm, q.trans g1 l1⟩
      | clo id cs =>
        rw [eρ] at hm
        have hm : F.lam id cs l s1 = .ok d s' := hm
        unfold RV at rv
        unfold DV.D.bnd at hb
        obtain ⟨f, cap, J, clos, e2, hlg, hat, hcl, hcs⟩ := rv
        subst e2
        have fin : ∀ H', LamAt H' f J.qual J.params J.body J.scope J.fr cap clos → FnIn X.K H' f := fun H' h' => by
          obtain ⟨pm, c', ctv, h1, _⟩ := h'
          exact .inl ⟨_, h1⟩
        refine ⟨f, hσ, fin H hat, φ, ρ, s, l, s1, E, R, e1, fun vs φ1 H1 g1 l1 b1 r1 R1 => ?_⟩
        have hat1 := hat.kp g1.w.kp
        exact ⟨fin H1 hat1, _, _, G.cl id J f cap clos hlg hcl, hat1, φ1, s1, cs, l, d, s', R1, r1, RVL.mono g1 cs cap hb hcs, b1, D_bndL_mono l1 cs hb, hm, q.trans g1 l1⟩
      | _ => rw [eρ] at hm; cases hm
end
end L2
end

set_option Elab.async false
set_option linter.all false
set_option maxRecDepth 100000
set_option maxHeartbeats 4000000
noncomputable section
namespace L2
open PySem PySem.Spec PyProof.Rows
section
variable {Γ : Gm} {F : DV.Fns} {n : Nat} {X : Cx} {ck : Ck} {σ : St} {H : Hp} {Q : VK}
/-! ### lists that are used up -/
noncomputable def SeqV (K : PySem.W.Frag) (H : Hp) (v : V) (ys : List V) : Prop := (∃ a, v = .ref a ∧ (SqL K H a ys ∨ SqT K H a ys)) ∨ ∃ x : List Nat, v = .str ⟨x.toArray⟩ ∧ x.length ≤ DV.LIM ∧ ys = sgV x
noncomputable def TLv (Γ : Gm) (m : DV.Env → DV.Sto → DV.R (List DV.D)) : TE := fun σ H Q => ∃ φ ρ s l s', RE Γ φ H s.length ρ σ ∧ Rp Γ φ H s ∧ m ρ s = .ok l s' ∧
  ∀ v ys φ' H', Gr φ s H φ' s' H' → s.length ≤ s'.length → DV.D.bndL s'.length l = true → SeqV Γ.K H' v ys → RVL Γ φ' H' l ys → Rp Γ φ' H' s' → Q v H'
theorem tl_fresh {m : DV.Env → DV.Sto → DV.R (List DV.D)} (h : TLv Γ m σ H Q) : TFv Γ m σ H Q := by
  obtain ⟨φ, ρ, s, l, s', E, R, hm, q⟩ := h
  exact ⟨φ, ρ, s, l, s', E, R, hm, fun p ys φ' H' g hl hb hp h0 ho r R' => q (.ref p) ys φ' H' g hl hb (.inl ⟨p, rfl, .inl (SqL.of hp)⟩) r R'⟩
theorem rvl_signs {φ : Nat → Addr} : ∀ x : List Nat, RVL Γ φ H (x.map fun c => .str [c]) (sgV x)
  | [] => .nil
  | c :: x => .cons (RV.strI (by unfold DV.LIM; simp)) (rvl_signs x)
theorem bndL_signs {k : Nat} : ∀ x : List Nat, DV.D.bndL k (x.map fun c => .str [c]) = true
  | [] => rfl
  | c :: x => by rw [List.map_cons]; unfold DV.D.bndL; rw [bndL_signs x]; rfl
theorem tl_seq {m : DV.Env → DV.Sto → DV.R DV.D} (h : TLv Γ (fun ρ s => (m ρ s).bind fun d s => DV.lstM d s) σ H Q) : TEv Γ m σ H Q := by
  obtain ⟨φ, ρ, s, l, s', E, R, hm, q⟩ := h
  obtain ⟨d, s1, e1, hm⟩ := bind_inv hm
  refine ⟨φ, ρ, s, d, s1, E, R, e1, fun v φ1 H1 g1 l1 b1 r1 R1 => ?_⟩
  cases d with
  | tup l' =>
    cases hm
    obtain ⟨a, xs, rfl, h1, h2⟩ := r1.tupE
    unfold DV.D.bnd at b1
    exact q _ xs φ1 H1 g1 l1 b1 (.inl ⟨a, rfl, .inr h1⟩) h2 R1
  | str x =>
    cases hm
    exact q v (sgV x) φ1 H1 g1 l1 (bndL_signs x) (.inr ⟨x, r1.strE, r1.strL, rfl⟩) (rvl_signs x) R1
  | ref k =>
    have hm : (match s1[k]? with
      | some (.lst l) => DV.R.ok l s1
      | some (.ro l) => .ok l s1
      | _ => .bad) = .ok l s' := hm
    rw [r1.refE]
    cases e : s1[k]? with
    | none => rw [e] at hm; cases hm
    | some ob =>
      rw [e] at hm
      cases ob with
      | lst l' =>
        cases hm
        obtain ⟨xs, h1, h2⟩ := R1.addr e
        have := R1.wf k _ e
        unfold DV.O.bnd at this
        exact q _ xs φ1 H1 g1 l1 this (.inl ⟨_, rfl, .inl (SqL.of h1)⟩) h2 R1
      | ro l' =>
        cases hm
        obtain ⟨xs, h1, h2⟩ := R1.obj k _ e
        have := R1.wf k _ e
        unfold DV.O.bnd at this
        exact q _ xs φ1 H1 g1 l1 this (.inl ⟨_, rfl, .inl h1.1⟩) h2 R1
      | _ => cases hm
  | _ => cases hm
theorem TLv.eq {m m' : DV.Env → DV.Sto → DV.R (List DV.D)} (e : ∀ ρ s, m ρ s = m' ρ s) (q : TLv Γ m σ H Q) : TLv Γ m' σ H Q := by
  have : m = m' := funext fun ρ => funext fun s => e ρ s
  subst this; exact q
theorem pe_mkTuple {m : DV.Env → DV.Sto → DV.R (List DV.D)} {a : Expr} {p pos : Pos} (G : CG Γ F n X ck) (hg : ck.gl "tuple" = true) (hs : shp a = true) (h : PE X a (TLv Γ m)) :
    PE X (.Call (.Name "tuple" p) [a] [] pos) (TEv Γ (fun ρ s => (m ρ s).bind fun l s => DV.mk .tuple l s)) := by
  obtain ⟨g1, g2, g3⟩ := G.gl hg
  refine (pe_callTy ((call_tupleK G.K).or (call_tupleS G.calm)) g1 (G.bi _ (by decide)) b_tuple (pa_cons h pa_nil (star_cons hs)) g3 g2 (star_cons hs) rfl).imp fun σ H Q q => ?_
  obtain ⟨φ, ρ, s, d, s', E, R, hm, q⟩ := q
  obtain ⟨l, s1, e1, hm⟩ := bind_inv hm
  cases hm
  refine ⟨φ, ρ, s, l, _, E, R, e1, fun v ys φ1 H1 g1 l1 b1 hq r1 R1 => ?_⟩
  rcases hq with ⟨a, rfl, hq | hq⟩ | ⟨x, rfl, hx, rfl⟩
  · exact .inl ⟨a, ys, rfl, .inl ⟨hq, fun p hp => (q.trans g1 l1).tup R1 r1 b1 hp⟩⟩
  · exact .inl ⟨a, ys, rfl, .inr ⟨hq, q _ φ1 H1 g1 l1 (by unfold DV.D.bnd; exact b1) (RV.tupI hq r1) R1⟩⟩
  · exact .inr ⟨x, rfl, hx, fun p hp => (q.trans g1 l1).tup R1 r1 b1 hp⟩
theorem pe_mkList {m : DV.Env → DV.Sto → DV.R (List DV.D)} {a : Expr} {p pos : Pos} (G : CG Γ F n X ck) (hg : ck.gl "list" = true) (hs : shp a = true) (h : PE X a (TLv Γ m)) :
    PE X (.Call (.Name "list" p) [a] [] pos) (TEv Γ (fun ρ s => (m ρ s).bind fun l s => DV.mk .list l s)) := by
  obtain ⟨g1, g2, g3⟩ := G.gl hg
  refine (pe_callTy ((call_listK G.K).or (call_listS G.calm)) g1 (G.bi _ (by decide)) b_list (pa_cons h pa_nil (star_cons hs)) g3 g2 (star_cons hs) rfl).imp fun σ H Q q => ?_
  obtain ⟨φ, ρ, s, d, s', E, R, hm, q⟩ := q
  obtain ⟨l, s1, e1, hm⟩ := bind_inv hm
  obtain ⟨rfl, rfl⟩ := alloc_inv hm
  refine ⟨φ, ρ, s, l, _, E, R, e1, fun v ys φ1 H1 g1 l1 b1 hq r1 R1 => ?_⟩
  rcases hq with ⟨a, rfl, hq⟩ | ⟨x, rfl, hx, rfl⟩
  · exact .inl ⟨a, ys, rfl, hq, fun p hp => (q.trans g1 l1).alloc R1 r1 b1 hp⟩
  · exact .inr ⟨x, rfl, hx, fun p hp => (q.trans g1 l1).alloc R1 r1 b1 hp⟩
theorem pe_mk' {m : DV.Env → DV.Sto → DV.R (List DV.D)} {k : DV.Mk} {x : Str} {a : Expr} {p pos : Pos} (G : CG Γ F n X ck) (hk : mkT k = some x) (hg : ck.gl x = true) (hs : shp a = true) (h : PE X a (TLv Γ m)) :
    PE X (.Call (.Name x p) [a] [] pos) (TEv Γ (fun ρ s => (m ρ s).bind fun l s => DV.mk k l s)) := by
  cases k <;> cases hk
  · exact pe_mkTuple G hg hs h
  · exact pe_mkList G hg hs h
/-- what a built-in function makes of a fresh list -/
noncomputable def FrC (Γ : Gm) (X : Cx) (x : Str) (k : DV.Mk) : Prop := ∃ id r, bootBuiltins x = some (.builtin id) ∧ x ∈ bNames ∧ CallR X (.builtin id) r ∧ ∀ φ H s l ys p d s' Q, Rp Γ φ H s → RVL Γ φ H l ys → H p = some (.lst ys) → DV.mk k l s = .ok d s' → After Γ φ s H d s' Q → r [.ref p] H Q
theorem fits_of {is : List Int} (h : DV.fitL is = true) : PySem.SumFits is := by
  unfold DV.fitL at h
  rw [Bool.and_eq_true] at h
  have h2 := of_decide_eq_true h.2
  have h1 : ∀ i ∈ is, -1000000000 ≤ i ∧ i ≤ 1000000000 := fun i hi => of_decide_eq_true (List.all_eq_true.mp h.1 i hi)
  have hs : ∀ l : List Int, (∀ i ∈ l, -1000000000 ≤ i ∧ i ≤ 1000000000) → -(1000000000 * (l.length : Int)) ≤ l.sum ∧ l.sum ≤ 1000000000 * (l.length : Int) := by
    intro l
    induction l with
    | nil => intro _; simp
    | cons a l ih =>
      intro hl
      have := ih fun i hi => hl i (List.mem_cons_of_mem _ hi)
      have := hl a (List.mem_cons_self ..)
      rw [List.sum_cons, List.length_cons]
      push_cast
      omega
  intro j hj
  have hg : is.getD j 0 = is[j] := by rw [List.getD_eq_getElem?_getD, List.getElem?_eq_getElem hj]; rfl
  have a := h1 _ (List.getElem_mem hj)
  have b := hs (is.take (j + 1)) fun i hi => h1 i (List.mem_of_mem_take hi)
  have c : (is.take (j + 1)).length ≤ 1000000 := Nat.le_trans (List.length_take_le _ _) (by omega)
  rw [hg]
  unfold InLong
  omega
theorem fold_min : ∀ (l : List Int) (a : Int), (l.foldl min a = a ∨ l.foldl min a ∈ l) ∧ l.foldl min a ≤ a ∧ ∀ y ∈ l, l.foldl min a ≤ y
  | [], a => ⟨.inl rfl, Int.le_refl _, fun y hy => by cases hy⟩
  | b :: l, a => by
    obtain ⟨h1, h2, h3⟩ := fold_min l (min a b)
    rw [List.foldl_cons]
    refine ⟨?_, by omega, fun y hy => ?_⟩
    · rcases h1 with h | h
      · rw [h]
        rcases Int.le_total a b with z | z
        · left; omega
        · right; rw [show min a b = b by omega]; exact List.mem_cons_self ..
      · exact .inr (List.mem_cons_of_mem _ h)
    · rcases List.mem_cons.mp hy with z | z
      · rw [z]; omega
      · exact h3 y z
theorem minI_min {l : List Int} {m : Int} (h : DV.minI l = some m) : m ∈ l ∧ ∀ y ∈ l, m ≤ y := by
  cases l with
  | nil => cases h
  | cons a l =>
    cases h
    obtain ⟨h1, h2, h3⟩ := fold_min l a
    refine ⟨?_, fun y hy => ?_⟩
    · rcases h1 with h | h
      · rw [h]; exact List.mem_cons_self ..
      · exact List.mem_cons_of_mem _ h
    · rcases List.mem_cons.mp hy with z | z
      · rw [z]; exact h2
      · exact h3 y z
theorem frc_all (G : CG Γ F n X ck) {k : DV.Mk} {x : Str} (hk : mkF k = some x) : FrC Γ X x k := by
  cases k <;> cases hk
  · refine ⟨_, _, b_all, by decide, call_allL G.calm G.K, fun φ H s l ys p d s' Q R r hp hm q => ?_⟩
    unfold DV.mk at hm
    dsimp only at hm
    cases e : DV.blsOf l with
    | none => rw [e] at hm; cases hm
    | some bs =>
      rw [e] at hm
      cases hm
      have := blsOf_inv e
      subst this
      exact ⟨p, bs, rfl, SqL.of (by rw [← r.bls]; exact hp), q.here R rfl RV.blI⟩
  · refine ⟨_, _, b_any, by decide, call_anyL G.calm G.K, fun φ H s l ys p d s' Q R r hp hm q => ?_⟩
    unfold DV.mk at hm
    dsimp only at hm
    cases e : DV.blsOf l with
    | none => rw [e] at hm; cases hm
    | some bs =>
      rw [e] at hm
      cases hm
      have := blsOf_inv e
      subst this
      exact ⟨p, bs, rfl, SqL.of (by rw [← r.bls]; exact hp), q.here R rfl RV.blI⟩
  · refine ⟨_, _, b_sum, by decide, call_sumL G.calm G.K, fun φ H s l ys p d s' Q R r hp hm q => ?_⟩
    unfold DV.mk at hm
    dsimp only at hm
    cases e : DV.intsOf l with
    | none => rw [e] at hm; cases hm
    | some is =>
      rw [e] at hm
      dsimp only at hm
      split at hm
      · rename_i hf
        cases hm
        have := intsOf_inv e
        subst this
        exact ⟨p, is, rfl, SqL.of (by rw [← r.ints]; exact hp), fits_of hf, q.here R rfl RV.intI⟩
      · cases hm
  · refine ⟨_, _, b_min, by decide, call_minL G.calm G.K, fun φ H s l ys p d s' Q R r hp hm q => ?_⟩
    unfold DV.mk at hm
    dsimp only at hm
    cases e : DV.intsOf l with
    | none => rw [e] at hm; cases hm
    | some is =>
      rw [e] at hm
      have hm : (match DV.minI is with | some m => DV.R.ok (DV.D.int m) s | none => .bad) = .ok d s' := hm
      cases e2 : DV.minI is with
      | none => rw [e2] at hm; cases hm
      | some mm =>
        rw [e2] at hm
        cases hm
        have := intsOf_inv e
        subst this
        refine ⟨p, is, rfl, SqL.of (by rw [← r.ints]; exact hp), (fun (z : is = []) => by rw [z] at e2; cases e2), fun m hm hmin => ?_⟩
        obtain ⟨a, b⟩ := minI_min e2
        have : m = mm := Int.le_antisymm (hmin mm a) (b m hm)
        rw [this]
        exact q.here R rfl RV.intI
theorem pe_mkF {m : DV.Env → DV.Sto → DV.R (List DV.D)} {k : DV.Mk} {x : Str} {a : Expr} {p pos : Pos} (G : CG Γ F n X ck) (hk : mkF k = some x) (hg : ck.gl x = true) (hs : shp a = true) (h : PE X a (TFv Γ m)) :
    PE X (.Call (.Name x p) [a] [] pos) (TEv Γ (fun ρ s => (m ρ s).bind fun l s => DV.mk k l s)) := by
  obtain ⟨g1, g2, g3⟩ := G.gl hg
  obtain ⟨id, r, hb, hx, hc, hr⟩ := frc_all (Γ := Γ) G hk
  refine (pe_callB hc g1 (G.bi _ hx) hb (pa_cons h pa_nil (star_cons hs)) g3 g2 (star_cons hs) rfl).imp fun σ H Q q => ?_
  obtain ⟨φ, ρ, s, d, s', E, R, hm, q⟩ := q
  obtain ⟨l, s1, e1, hm⟩ := bind_inv hm
  exact ⟨φ, ρ, s, l, _, E, R, e1, fun p ys φ1 H1 g1 l1 b1 hp h0 ho r1 R1 => hr φ1 H1 s1 l ys p d s' Q R1 r1 hp hm (q.trans g1 l1)⟩
/-! ### methods of lists -/
theorem lst_then {φ φ' : Nat → Addr} {s s' : DV.Sto} {H' : Hp} {r : Nat} {l : List DV.D} (R : Rp Γ φ H s) (g : Gr φ s H φ' s' H') (hb : r < s.length) (e : s'[r]? = some (.lst l)) : tyV Γ.K "list" (.ref (φ r)) H := by
  obtain ⟨o0, e0⟩ : ∃ o0, s[r]? = some o0 := ⟨s[r], List.getElem?_eq_getElem hb⟩
  have hm := g.mu r o0 _ e0 e rfl
  have ho := R.obj r o0 e0
  cases o0 with
  | lst l0 =>
    obtain ⟨xs, h1, _⟩ := ho
    exact .inl ⟨rfl, xs, SqL.of h1⟩
  | ro _ => cases hm
  | dic _ => exact ho.elim
  | ins _ _ => exact ho.elim
noncomputable def mtR (Γ : Gm) (m : DV.Mt) : V → List V → Hp → VK → Prop := fun x vs H Q => ∃ φ s a l d s', Rp Γ φ H s ∧ RV Γ φ H a x ∧ RVL Γ φ H l vs ∧ a.bnd s.length = true ∧ DV.D.bndL s.length l = true ∧ DV.meth m a l s = .ok d s' ∧ After Γ φ s H d s' Q
theorem LIM_lt : DV.LIM < sizeLine := by rw [sizeLine_eq]; decide
/-- what a method asks: its list -/
theorem meth_lst {m : DV.Mt} {x : Str} {k : Nat} (hm : mtT m = some (x, k)) {a : DV.D} {l : List DV.D} {s s' : DV.Sto} {d : DV.D} (h : DV.meth m a l s = .ok d s') : ∃ r l0, a = .ref r ∧ s[r]? = some (.lst l0) := by
  have go : ∀ {r : Nat} {f : List DV.D → DV.R DV.D}, (match s[r]? with | some (.lst l) => f l | _ => .bad) = .ok d s' → ∃ l0, s[r]? = some (.lst l0) := fun {r f} h => by
    cases e : s[r]? with
    | none => rw [e] at h; cases h
    | some ob =>
      cases ob with
      | lst l0 => exact ⟨l0, rfl⟩
      | _ => rw [e] at h; cases h
  unfold DV.meth at h
  split at h
  · obtain ⟨l0, e⟩ := go h; exact ⟨_, l0, rfl, e⟩
  · obtain ⟨l0, e⟩ := go h; exact ⟨_, l0, rfl, e⟩
  · obtain ⟨l0, e⟩ := go h; exact ⟨_, l0, rfl, e⟩
  · obtain ⟨l0, e⟩ := go h; exact ⟨_, l0, rfl, e⟩
  · obtain ⟨l0, e⟩ := go h; exact ⟨_, l0, rfl, e⟩
  · cases h
theorem m_append : MtR X "list.append" (mtR Γ .append) := by
  intro pins sh σ H x vs v us Q I rx rv h
  obtain ⟨φ, s, a, l, d, s', R, ra, rl, ba, bl, hm, q⟩ := h
  obtain ⟨r, l0, rfl, e⟩ := meth_lst (m := .append) rfl hm
  cases l with
  | nil => cases hm
  | cons y t =>
    cases t with
    | cons _ _ => cases hm
    | nil =>
      simp only [DV.meth, e] at hm
      split at hm
      case isFalse => cases hm
      rename_i hlt
      cases hm
      obtain ⟨z, rfl, rz⟩ := rl.one
      obtain ⟨xs, h1, h2⟩ := R.addr e
      have hb0 : DV.D.bndL s.length l0 = true := by have := R.wf r _ e; unfold DV.O.bnd at this; exact this
      refine mt_append pins sh σ H x [z] v us Q I rx rv ⟨φ r, xs, z, ra.refE, rfl, h1, by rw [h2.length]; have := LIM_lt; omega, ?_⟩
      exact q.put R e (h2.append (.cons rz .nil)) (bndL_append hb0 bl) rfl RV.nonI
theorem m_pop : MtR X "list.pop" (mtR Γ .pop) := by
  intro pins sh σ H x vs v us Q I rx rv h
  obtain ⟨φ, s, a, l, d, s', R, ra, rl, ba, bl, hm, q⟩ := h
  obtain ⟨r, l0, rfl, e⟩ := meth_lst (m := .pop) rfl hm
  cases l with
  | cons _ _ => cases hm
  | nil =>
    simp only [DV.meth, e] at hm
    cases eg : l0.getLast? with
    | none => rw [eg] at hm; cases hm
    | some y =>
      rw [eg] at hm
      cases hm
      have hv := rl.unnil
      subst hv
      obtain ⟨xs, h1, h2⟩ := R.addr e
      have hb0 : DV.D.bndL s.length l0 = true := by have := R.wf r _ e; unfold DV.O.bnd at this; exact this
      rw [List.getLast?_eq_getElem?] at eg
      obtain ⟨w, hw, rw'⟩ := h2.get eg
      rw [← h2.length] at hw
      refine mt_pop pins sh σ H x [] v us Q I rx rv ⟨φ r, xs, w, ra.refE, rfl, h1, hw, ?_⟩
      have h3 : RVL Γ φ H l0.dropLast xs.dropLast := by
        rw [List.dropLast_eq_take, List.dropLast_eq_take, h2.length]
        exact h2.take _
      exact q.put R e h3 (bndL_sub hb0 fun d hd => List.dropLast_subset _ hd) (bndL_get hb0 eg) rw'
theorem m_reverse : MtR X "list.reverse" (mtR Γ .reverse) := by
  intro pins sh σ H x vs v us Q I rx rv h
  obtain ⟨φ, s, a, l, d, s', R, ra, rl, ba, bl, hm, q⟩ := h
  obtain ⟨r, l0, rfl, e⟩ := meth_lst (m := .reverse) rfl hm
  cases l with
  | cons _ _ => cases hm
  | nil =>
    simp only [DV.meth, e] at hm
    cases hm
    have hv := rl.unnil
    subst hv
    obtain ⟨xs, h1, h2⟩ := R.addr e
    have hb0 : DV.D.bndL s.length l0 = true := by have := R.wf r _ e; unfold DV.O.bnd at this; exact this
    refine mt_reverse pins sh σ H x [] v us Q I rx rv ⟨φ r, xs, ra.refE, rfl, h1, ?_⟩
    exact q.put R e h2.reverse (bndL_sub hb0 fun d hd => List.mem_reverse.mp hd) rfl RV.nonI
theorem m_clear : MtR X "list.clear" (mtR Γ .clear) := by
  intro pins sh σ H x vs v us Q I rx rv h
  obtain ⟨φ, s, a, l, d, s', R, ra, rl, ba, bl, hm, q⟩ := h
  obtain ⟨r, l0, rfl, e⟩ := meth_lst (m := .clear) rfl hm
  cases l with
  | cons _ _ => cases hm
  | nil =>
    simp only [DV.meth, e] at hm
    cases hm
    have hv := rl.unnil
    subst hv
    obtain ⟨xs, h1, h2⟩ := R.addr e
    refine mt_clear pins sh σ H x [] v us Q I rx rv ⟨φ r, xs, ra.refE, rfl, h1, ?_⟩
    exact q.put R e .nil rfl rfl RV.nonI
theorem idx_inv {s : DV.Sto} {x : DV.D} {e : Nat → Bool} : ∀ {l : List DV.D} {k n : Nat}, (∀ j d, l[j]? = some d → DV.eqv s DV.DEEP d x = some (e (k + j))) → DV.idx s x k l = some n → ∃ j, n = k + j ∧ j < l.length ∧ e (k + j) = true ∧ ∀ i, i < j → e (k + i) = false
  | [], k, n, _, h => by cases h
  | y :: l, k, n, he, h => by
    have e0 := he 0 y rfl
    unfold DV.idx at h
    rw [e0] at h
    cases q : e (k + 0) with
    | true =>
      rw [q] at h
      cases h
      exact ⟨0, rfl, by simp, q, fun i hi => absurd hi (Nat.not_lt_zero _)⟩
    | false =>
      rw [q] at h
      obtain ⟨j, h1, h2, h3, h4⟩ := idx_inv (l := l) (k := k + 1) (fun j d ej => by rw [show k + 1 + j = k + (j + 1) by omega]; exact he (j + 1) d ej) h
      refine ⟨j + 1, by omega, by simp; omega, by rw [show k + (j + 1) = k + 1 + j by omega]; exact h3, fun i hi => ?_⟩
      cases i with
      | zero => exact q
      | succ i => rw [show k + (i + 1) = k + 1 + i by omega]; exact h4 i (by omega)
theorem m_index (hK : X.K = Γ.K) (hroom : Room (DV.DEEP + 1) X.A) : MtR X "list.index" (mtR Γ .index) := by
  intro pins sh σ H x vs v us Q I rx rv h
  obtain ⟨φ, s, a, l, d, s', R, ra, rl, ba, bl, hm, q⟩ := h
  obtain ⟨r, l0, rfl, e⟩ := meth_lst (m := .index) rfl hm
  match l, rl, bl, hm with
  | [y], rl, bl, hm =>
    simp only [DV.meth, e] at hm
    cases ein : DV.inL s y l0 with
    | none => rw [ein] at hm; cases hm
    | some z =>
      cases ei : DV.idx s y 0 l0 with
      | none => rw [ein, ei] at hm; cases z <;> cases hm
      | some n =>
        rw [ein, ei] at hm
        cases z with
        | false => cases hm
        | true =>
          cases hm
          obtain ⟨w, ws, rfl, rw1, hws⟩ := rl.uncons
          have hv := hws.unnil
          subst hv
          obtain ⟨u, rfl, ru⟩ := rv.one
          obtain ⟨xs, h1, h2⟩ := R.addr e
          have ex := ra.refE
          subst ex
          cases rx
          obtain ⟨zz, its, nn, rr, hl, eo⟩ := I.lstM h1
          obtain ⟨f, e', g1, g2, g3⟩ := in_fun2 I hK R rw1 ru h2 rr ein (A := X.A.in1) hroom.in1
          obtain ⟨j, hj0, hj1, hj2, hj3⟩ := idx_inv (e := e') (k := 0) (fun j d ej => by rw [Nat.zero_add]; exact g3 j d ej) ei
          rw [Nat.zero_add] at hj0 hj2
          subst hj0
          have hlen : its.length = l0.length := by rw [← rr.length, h2.length]
          have hji : n < its.toArray.size := by rw [List.size_toArray]; omega
          have hzz : its.length ≤ sizeLine := by rw [← rr.length]; exact zz
          rw [sizeLine_eq] at hzz
          refine call_meets PySem.F.slot_list_index ⟨_, eo, rfl⟩ PySem.F.entry_list_index (PySem.F.args_list_index_2 _ _) (SeqAt.list_indexAt (φ r) its.toArray nn none #[] u f n hji (by omega) ?_ ?_) ⟨eo, fun y hy => g1 y hy, ?_⟩
          · have : its[n]? = some its[n] := List.getElem?_eq_getElem (by omega)
            show f its[n] = true
            rw [g2 n _ this]; exact hj2
          · intro i hi hlt
            rw [List.size_toArray] at hi
            have : its[i]? = some its[i] := List.getElem?_eq_getElem hi
            show f its[i] = false
            rw [g2 i _ this]
            have := hj3 i hlt
            rwa [Nat.zero_add] at this
          · exact ⟨.int n, H, I.tok _, ⟨_, rfl⟩, q.here R rfl RV.intI⟩
structure MtOk (Γ : Gm) (X : Cx) (m : DV.Mt) (x : Str) : Prop where
  ex : ∃ id, PySem.Slot "list" x id ∧ typeOf (.builtin id) = pure (.type "method_descriptor") ∧ MtR X id (mtR Γ m)
theorem mt_all (hK : X.K = Γ.K) (hroom : Room (DV.DEEP + 1) X.A) {m : DV.Mt} {x : Str} {k : Nat} (h : mtT m = some (x, k)) : MtOk Γ X m x := by
  cases m <;> cases h
  · exact ⟨_, PySem.F.slot_list_append, PySem.F.type_list_append, m_append⟩
  · exact ⟨_, PySem.F.slot_list_pop, PySem.F.type_list_pop, m_pop⟩
  · exact ⟨_, PySem.F.slot_list_index, PySem.F.type_list_index, m_index hK hroom⟩
  · exact ⟨_, PySem.F.slot_list_reverse, PySem.F.type_list_reverse, m_reverse⟩
  · exact ⟨_, PySem.F.slot_list_clear, PySem.F.type_list_clear, m_clear⟩
theorem pe_meth' {m : DV.Mt} {o : DV.E} {es : DV.Es} {ob : Expr} {xs : List Expr} {x : Str} {ap cp : Pos} (G : CG Γ F n X ck) (hm : mtT m = some (x, xs.length)) (hab : abOk ob = true) (hl : (ap.endLine == cp.line) = true) (ho : PE X ob (TEv Γ (DV.ev F o)))
    (hmE : mEs ck es xs = true) (h : PEs Γ F X es xs) : EvT Γ X (.Call (.Attribute ob x ap) xs [] cp) (DV.ev F (.meth m o es)) := by
  refine .val ?_
  obtain ⟨id, slot, hty, hr⟩ := (mt_all (Γ := Γ) (X := X) G.K (G.room.mono G.deep) hm).ex
  have hs := mEs_shp hmE
  have key : ∀ σ H Q, TEv Γ (DV.ev F (.meth m o es)) σ H Q → tBM Γ.K "list" (mtR Γ m) (TEv Γ (DV.ev F o)) (TAv Γ (DV.evs F es)) σ H Q := fun σ H Q q => by
    obtain ⟨φ, ρ, s, d, s', E, R, hmm, q⟩ := q
    obtain ⟨a, s1, e1, hmm⟩ := bind_inv hmm
    obtain ⟨l, s2, e2, hmm⟩ := bind_inv hmm
    refine ⟨φ, ρ, s, a, s1, E, R, e1, fun v φ1 H1 g1 l1 b1 r1 R1 => ?_⟩
    obtain ⟨r, l0, rfl, er⟩ := meth_lst hm hmm
    rw [r1.refE]
    have hk : ∀ φ2 H2, Gr φ1 s1 H1 φ2 s2 H2 → tyV Γ.K "list" (.ref (φ1 r)) H1 := fun φ2 H2 g2 => lst_then R1 g2 (by unfold DV.D.bnd at b1; exact of_decide_eq_true b1) er
    have goal2 : TAv Γ (DV.evs F es) σ H1 fun xs H2 => mtR Γ m (.ref (φ1 r)) xs H2 Q := by
      refine ⟨φ1, ρ, s1, l, s2, E.mono g1 l1, R1, e2, fun vs φ2 H2 g2 l2 b2 r2 R2 => ?_⟩
      refine ⟨φ2, s2, .ref r, l, d, s', R2, ?_, r2, D_bnd_mono l2 _ b1, b2, hmm, q.trans (g1.trans g2 l1) (Nat.le_trans l1 l2)⟩
      have := RV.mono g2 _ _ b1 r1
      rw [r1.refE] at this
      exact this
    refine ⟨?_, goal2⟩
    -- the list stood there ahead of the arguments
    have hlt : r < s1.length := by unfold DV.D.bnd at b1; exact of_decide_eq_true b1
    obtain ⟨o0, e0⟩ : ∃ o0, s1[r]? = some o0 := ⟨s1[r], List.getElem?_eq_getElem hlt⟩
    have hob := R1.obj r o0 e0
    cases o0 with
    | lst l0 =>
      obtain ⟨xs, h1, _⟩ := hob
      exact .inl ⟨rfl, xs, SqL.of h1⟩
    | ro l0 =>
      obtain ⟨xs, h1, _⟩ := hob
      exact .inl ⟨rfl, xs, h1.1⟩
    | dic _ => exact hob.elim
    | ins _ _ => exact hob.elim
  cases xs with
  | nil =>
    have p0 : PE X (.Call (.Attribute ob x ap) [] [] cp) (tBM0 X.K "list" (mtR Γ m) (TEv Γ (DV.ev F o))) := pe_bm0 PySem.F.plainAttrs_list slot hty hr ho (base_ok hab) hl
    rw [G.K] at p0
    refine p0.imp fun σ H Q q => ?_
    cases es with
    | cons _ _ => exact h.elim
    | nil =>
      obtain ⟨φ, ρ, s, d, s', E, R, hmm, k⟩ := key σ H Q q
      refine ⟨φ, ρ, s, d, s', E, R, hmm, fun v φ1 H1 g1 l1 b1 r1 R1 => ?_⟩
      obtain ⟨h1, h2⟩ := k v φ1 H1 g1 l1 b1 r1 R1
      exact ⟨h1, ta_nil (TAv.eq (fun ρ s => rfl) h2)⟩
  | cons y ys =>
    refine (pe_bmK G.K PySem.F.plainAttrs_list slot hty hr ho (pes_pa h) (base_ok hab) ?_ hl (star_cons (hs y (List.mem_cons_self ..))) (star_plain fun e he => hs e (List.mem_cons_of_mem _ he)).1).imp key
    rw [(star_plain hs).2]
    have : (y :: ys).length ≤ 1 := by
      unfold mtT at hm
      split at hm <;> first | (have := Option.some.inj hm; have := congrArg Prod.snd this; simp at this; simp; omega) | cases hm
    simp only [Bool.true_and, List.length_nil, Nat.add_zero]
    show (true && decide ((y :: ys).length + 0 + 0 < 30)) = true
    rw [Bool.true_and]
    exact decide_eq_true (by omega)
end
end L2
end

set_option Elab.async false
set_option linter.all false
set_option maxRecDepth 100000
set_option maxHeartbeats 4000000
noncomputable section
namespace L2
open PySem PySem.Spec PyProof.Rows
section
variable {Γ : Gm} {F : DV.Fns} {n : Nat} {X : Cx} {ck : Ck} {σ : St} {H : Hp} {Q : VK}
theorem strs_of {φ : Nat → Addr} {H : Hp} : ∀ {l : List DV.D} {ss : List (List Nat)} {xs : List V}, DV.strsOf l = some ss → RVL Γ φ H l xs → xs = ss.map strV
  | [], ss, xs, h, r => by cases h; exact r.unnil
  | d :: l, ss, xs, h, r => by
    obtain ⟨w, ws, rfl, r1, r2⟩ := r.uncons
    cases d with
    | str z =>
      unfold DV.strsOf at h
      cases e : DV.strsOf l with
      | none => rw [e] at h; cases h
      | some ss' =>
        rw [e] at h
        cases h
        rw [List.map_cons, ← strs_of e r2, r1.strE]; rfl
    | _ => cases h
theorem pe_join {o : DV.E} {m : DV.Env → DV.Sto → DV.R DV.D} {ob a : Expr} {ap cp : Pos} (G : CG Γ F n X ck) (hab : abOk ob = true) (hl : (ap.endLine == cp.line) = true) (ho : PE X ob (TEv Γ (DV.ev F o))) (hs : shp a = true) (h : PE X a (TEv Γ m)) :
    PE X (.Call (.Attribute ob "join" ap) [a] [] cp) (TEv Γ (fun ρ s => (DV.ev F o ρ s).bind fun x s => (m ρ s).bind fun q s => DV.joinM x q s)) := by
  refine (pe_bmK G.K PySem.F.plainAttrs_str PySem.F.slot_str_join PySem.F.type_str_join mt_join ho (pa_cons h pa_nil (star_cons hs)) (base_ok hab) ?_ hl (star_cons hs) rfl).imp fun σ H Q q => ?_
  · rw [(star_plain (es := [a]) fun e he => by rw [List.mem_singleton.mp he]; exact hs).2]; rfl
  · obtain ⟨φ, ρ, s, d, s', E, R, hmm, q⟩ := q
    obtain ⟨x, s1, e1, hmm⟩ := bind_inv hmm
    obtain ⟨y, s2, e2, hmm⟩ := bind_inv hmm
    obtain ⟨r, l, ss, rfl, rfl, er, es, hlim, rfl, rfl⟩ : ∃ r l ss, x = .str [] ∧ y = .ref r ∧ s2[r]? = some (.lst l) ∧ DV.strsOf l = some ss ∧ ss.flatten.length ≤ DV.LIM ∧ d = .str ss.flatten ∧ s' = s2 := by
      unfold DV.joinM at hmm
      split at hmm
      · split at hmm
        · split at hmm
          · split at hmm
            · split at hmm
              · cases hmm; exact ⟨_, _, _, rfl, rfl, by assumption, by assumption, by assumption, rfl, rfl⟩
              · cases hmm
            · cases hmm
          · cases hmm
        · cases hmm
      · cases hmm
    refine ⟨φ, ρ, s, _, s1, E, R, e1, fun v φ1 H1 g1 l1 b1 r1 R1 => ?_⟩
    have ev := r1.strE
    subst ev
    refine ⟨rfl, φ1, ρ, s1, _, s', E.mono g1 l1, R1, e2, fun v φ2 H2 g2 l2 b2 r2 R2 => ?_⟩
    have ew := r2.refE
    subst ew
    obtain ⟨xs, h1, h2⟩ := R2.addr er
    rw [strs_of es h2] at h1
    exact ⟨φ2 r, ss, rfl, rfl, h1, Nat.le_trans hlim LIM_le, (q.trans (g1.trans g2 l1) (Nat.le_trans l1 l2)).here R2 rfl (RV.strI hlim)⟩
/-! ### comprehensions -/
theorem PIf.imp {e : List Expr} {t t' : TT} (h : PIf X e t) (i : ∀ σ H Q, t' σ H Q → t σ H Q) : PIf X e t' := fun pins s σ H Q I q => h pins s σ H Q I (i σ H Q q)
structure CompF (Γ : Gm) (X : Cx) (m : DV.Env → DV.Sto → DV.R (List DV.D)) (E : Expr) : Prop where
  ex : ∃ elt tgt iter ifs scope pos N' caps wi g tc te, E = .ListComp elt [⟨tgt, iter, ifs, 0⟩] scope pos ∧ compCheck N' caps scope X.N X.env.scope = true ∧ PI X tgt iter wi ∧
    (∀ (C : Addr) (cells : List (Str × Addr)) (s : Shared) (H : Hp) (ex : List Addr), PG (cxComp X N' scope C cells s H ex) tgt g ∧ PIf (cxComp X N' scope C cells s H ex) ifs tc ∧ PE (cxComp X N' scope C cells s H ex) elt te) ∧
    (∀ x, foldedSetIterable iter X.env x = pure x) ∧ ∀ σ H Q, TFv Γ m σ H Q → tComp caps wi g tc te σ H Q
theorem CompF.pe {m : DV.Env → DV.Sto → DV.R (List DV.D)} {E : Expr} (h : CompF Γ X m E) (hc : X.calm = true) : PE X E (TFv Γ m) := by
  obtain ⟨elt, tgt, iter, ifs, scope, pos, N', caps, wi, g, tc, te, rfl, h1, h2, h3, h4, h5⟩ := h.ex
  exact (pe_comp N' caps h1 h2 hc h3 h4).imp h5
theorem comp_if {tg : DV.Tg} {mI : DV.Env → DV.Sto → DV.R DV.Sq} {mc me : DV.Env → DV.Sto → DV.R DV.D} {caps : List (Option Nat)} {elt tgt iter i : Expr} {scope : Scope} {pos : Pos} (G : CG Γ F n X ck) (hm : mComp ck tg tgt iter caps scope = true)
    (hi : PI X tgt iter (TIv Γ mI)) (hc : ∀ C cells s H ex, PT (cxComp X (ckC ck tgt caps scope).N scope C cells s H ex) i (TTv Γ mc)) (he : ∀ C cells s H ex, PE (cxComp X (ckC ck tgt caps scope).N scope C cells s H ex) elt (TEv Γ me)) :
    CompF Γ X (fun ρ s => (mI ρ s).bind fun q s0 => if q.its.length ≤ DV.LIM then DV.compL (fun s => DV.chk s0 s q.src) (fun d ρ s => match DV.bindT ρ tg d with
      | some ρ => DV.tru (mc ρ s) fun k s => if k then (me ρ s).bind fun v s => .ok (some v, ρ) s else .ok (none, ρ) s
      | none => .bad) q.its (DV.capEnv ρ caps) s0 else .bad) (.ListComp elt [⟨tgt, iter, [i], 0⟩] scope pos) := by
  obtain ⟨c1, c2, c3⟩ := G.comp hm
  exact ⟨elt, tgt, iter, [i], scope, pos, _, caps, _, _, _, _, rfl, c1, hi, fun C cells s H ex => ⟨(c3 C cells s H ex).2, pif_one (hc C cells s H ex), he C cells s H ex⟩, fold_ok c2, fun σ H Q q => tf_comp q⟩
theorem comp_all {tg : DV.Tg} {mI : DV.Env → DV.Sto → DV.R DV.Sq} {me : DV.Env → DV.Sto → DV.R DV.D} {caps : List (Option Nat)} {elt tgt iter : Expr} {scope : Scope} {pos : Pos} (G : CG Γ F n X ck) (hm : mComp ck tg tgt iter caps scope = true)
    (hi : PI X tgt iter (TIv Γ mI)) (he : ∀ C cells s H ex, PE (cxComp X (ckC ck tgt caps scope).N scope C cells s H ex) elt (TEv Γ me)) :
    CompF Γ X (fun ρ s => (mI ρ s).bind fun q s0 => if q.its.length ≤ DV.LIM then DV.compL (fun s => DV.chk s0 s q.src) (fun d ρ s => match DV.bindT ρ tg d with
      | some ρ => (me ρ s).bind fun v s => .ok (some v, ρ) s
      | none => .bad) q.its (DV.capEnv ρ caps) s0 else .bad) (.ListComp elt [⟨tgt, iter, [], 0⟩] scope pos) := by
  obtain ⟨c1, c2, c3⟩ := G.comp hm
  refine ⟨elt, tgt, iter, [], scope, pos, _, caps, _, _, TTv Γ (fun ρ s => .ok (.bl true) s), _, rfl, c1, hi, fun C cells s H ex => ⟨(c3 C cells s H ex).2, pif_nil.imp fun σ H Q q => ?_, he C cells s H ex⟩, fold_ok c2, fun σ H Q q => tf_comp (TFv.eq (fun ρ s => ?_) q)⟩
  · obtain ⟨φ, ρ, s, b, s', E, R, hm, q⟩ := q
    cases hm
    exact q φ H (Gr.refl _ _ _) (Nat.le_refl _) R
  · congr 1
/-! ### what is walked -/
theorem pi_seq' {tg : Expr} {e : DV.E} {E : Expr} (G : CG Γ F n X ck) (h : PE X E (TEv Γ (DV.ev F e))) : PI X tg E (TIv Γ (DV.evI F (.seq e))) := by
  refine (PI.or (pi_tupK G.K h) (PI.or (pi_listK G.K h) (pi_str h))).imp fun σ H R q => ti_seq (TIv.eq (fun ρ s => rfl) q)
theorem pi_rng1' {tg : Expr} {a : DV.E} {l : Expr} {p pos : Pos} (G : CG Γ F n X ck) (hg : ck.gl "range" = true) (hs : shp l = true) (h : PE X l (TEv Γ (DV.ev F a))) : PI X tg (.Call (.Name "range" p) [l] [] pos) (TIv Γ (DV.evI F (.rng1 a))) :=
  (pi_range1 (G.gl hg).1 (G.bi _ (by decide)) (pa_cons h pa_nil (star_cons hs)) (star_cons hs)).imp fun σ H R q => ti_rng1 (TIv.eq (fun ρ s => rfl) q)
end
end L2
end

set_option Elab.async false
set_option linter.all false
set_option maxRecDepth 100000
set_option maxHeartbeats 4000000
noncomputable section
namespace L2
open PySem PySem.Spec PyProof.Rows
section
variable {Γ : Gm} {F : DV.Fns} {n : Nat}
theorem cst_ok {X : Cx} {c : DV.Cn} {v : Const} {k : Nat} {pos : Pos} (h : mC c v = true) : EvT Γ X (.Constant v k pos) (DV.ev F (.cst c)) := by
  refine .val ?_
  unfold mC at h
  split at h
  · exact pe_non.imp fun σ H Q q => tv_cst (c := .non) (fun _ => rfl) (fun _ _ => RV.nonI) (TEv.eq (fun ρ s => rfl) q)
  · rename_i b c
    have e := eq_of_beq h
    subst e
    exact pe_bl.imp fun σ H Q q => tv_cst (c := .bl b) (fun _ => rfl) (fun _ _ => RV.blI) (TEv.eq (fun ρ s => rfl) q)
  · rename_i i j
    have e := of_decide_eq_true h
    subst e
    exact pe_int.imp fun σ H Q q => tv_cst (c := .int i) (fun _ => rfl) (fun _ _ => RV.intI) (TEv.eq (fun ρ s => rfl) q)
  · rename_i x y
    rw [Bool.and_eq_true] at h
    have e := of_decide_eq_true h.1
    have e2 := of_decide_eq_true h.2
    subst e
    exact pe_str.imp fun σ H Q q => tv_cst (c := .str x) (fun _ => rfl) (fun _ _ => RV.strI (by unfold DV.LIM; omega)) (TEv.eq (fun ρ s => rfl) q)
  · cases h
theorem disp_ok {X : Cx} {ck : Ck} {es : DV.Es} {xs : List Expr} {pos : Pos} (m : mEs ck es xs = true) (hz : xs.length ≤ 1000) (h : PA X xs (TAv Γ (DV.evs F es))) : PE X (.List xs pos) (TFv Γ (DV.evL F (.disp es))) := by
  refine (pe_lst h).imp fun σ H Q q => ?_
  obtain ⟨φ, ρ, s, l, s', E, R, hm, q⟩ := q
  refine ⟨φ, ρ, s, l, s', E, R, hm, fun vs φ1 H1 g1 l1 b1 r1 R1 => ⟨by rw [r1.length, evs_len hm m]; exact le1000 hz, fun p hp => ?_⟩⟩
  obtain ⟨g2, R2⟩ := R1.same (H' := upd H1 p (.lst vs)) ((Same.refl H1).new hp)
  refine q p vs φ1 _ (g1.trans g2 l1) l1 b1 upd_same ?_ (Off.new R1 hp) (RVL.mono g2 _ _ b1 r1) R2
  cases e : H p with
  | none => rfl
  | some o => exact absurd hp (g1.st p (by rw [e]; simp))
theorem CompF.eq {X : Cx} {m m' : DV.Env → DV.Sto → DV.R (List DV.D)} {E : Expr} (c : CompF Γ X m E) (e : ∀ ρ s, m' ρ s = m ρ s) : CompF Γ X m' E := by
  have : m' = m := funext fun ρ => funext fun s => e ρ s
  subst this; exact c
theorem and2 {a b : Bool} (h : (a && b) = true) : a = true ∧ b = true := by rw [Bool.and_eq_true] at h; exact h
theorem glob_ok {X : Cx} {ck : Ck} {g : String} {p : Pos} (G : CG Γ F n X ck) (h : ck.gl (g : Str) = true) : EvT Γ X (.Name (g : Str) p) (DV.ev F (.glob g)) := by
  refine .val ?_
  obtain ⟨g1, g2, g3⟩ := G.gl h
  cases e : F.con g with
  | none =>
    intro pins s σ H Q I q
    obtain ⟨φ, ρ, s, d, s', E, R, hm, q⟩ := q
    have hm : (match F.con g with | some d => DV.R.ok d s | none => .bad) = .ok d s' := hm
    rw [e] at hm
    cases hm
  | some d =>
    obtain ⟨v, u, h1, h2, h3, h4⟩ := G.con g d e
    exact (pe_glob g1 h1 h2 g2).imp fun σ H Q q => tv_cst (c := d) h3 h4 (TEv.eq (fun ρ s => by show (match F.con g with | some d => DV.R.ok d s | none => .bad) = DV.R.ok d s; rw [e]) q)
theorem var_ok {X : Cx} {ck : Ck} {i : Nat} {x : Str} {p : Pos} (G : CG Γ F n X ck) (h : ck.var i x = true) : EvT Γ X (.Name x p) (DV.ev F (.var i)) := by
  refine .val ?_
  unfold Ck.var at h
  obtain ⟨h, h4⟩ := and2 h
  obtain ⟨h, h3⟩ := and2 h
  obtain ⟨h1, h2⟩ := and2 h
  have e1 : (x == ("__debug__" : Str)) = false := by simpa using h3
  have e2 : (x == ("__classdict__" : Str)) = false := by simpa using h4
  exact (pe_var (by rw [G.N]; exact of_decide_eq_true h1) (G.vis h2) e1 e2).imp fun σ H Q q => tv_var i (TEv.eq (fun ρ s => rfl) q)
theorem var_pe {X : Cx} {ck : Ck} {i : Nat} {x : Str} {p : Pos} (G : CG Γ F n X ck) (h : ck.var i x = true) : PE X (.Name x p) (tVar i) := by
  unfold Ck.var at h
  obtain ⟨h, h4⟩ := and2 h
  obtain ⟨h, h3⟩ := and2 h
  obtain ⟨h1, h2⟩ := and2 h
  exact pe_var (by rw [G.N]; exact of_decide_eq_true h1) (G.vis h2) (by simpa using h3) (by simpa using h4)
theorem mAsC_shp {ck : Ck} : ∀ {es : DV.As} {xs : List Expr}, mAsC ck es xs = true → ∀ x ∈ xs, shp x = true
  | .nil, [], _, x, hx => by cases hx
  | .nil, _ :: _, h, _, _ => by unfold mAsC at h; cases h
  | .ex e es, [], h, _, _ => by unfold mAsC at h; cases h
  | .ex e es, y :: ys, h, x, hx => by
    unfold mAsC at h
    obtain ⟨h, h3⟩ := and2 h
    obtain ⟨h1, h2⟩ := and2 h
    rcases List.mem_cons.mp hx with rfl | hx
    · exact h2
    · exact mAsC_shp h3 x hx
  | .lam _ _ es, [], h, _, _ => by unfold mAsC at h; cases h
  | .lam _ _ es, y :: ys, h, x, hx => by
    unfold mAsC at h
    obtain ⟨h, h3⟩ := and2 h
    obtain ⟨h1, h2⟩ := and2 h
    rcases List.mem_cons.mp hx with rfl | hx
    · exact h2
    · exact mAsC_shp h3 x hx
  | .fn _ _, _, h, _, _ => by unfold mAsC at h; cases h
theorem mAsC_lam {ck : Ck} : ∀ {es : DV.As} {xs : List Expr}, mAsC ck es xs = true → asLam es = true → ∃ id caps E, ck.lk id caps E = true
  | .nil, _, _, h => by cases h
  | .ex e es, [], h, _ => by unfold mAsC at h; cases h
  | .ex e es, y :: ys, h, hl => by
    unfold mAsC at h
    obtain ⟨h, h3⟩ := and2 h
    exact mAsC_lam h3 hl
  | .lam id caps es, [], h, _ => by unfold mAsC at h; cases h
  | .lam id caps es, y :: ys, h, _ => by
    unfold mAsC at h
    obtain ⟨h, h3⟩ := and2 h
    obtain ⟨h1, h2⟩ := and2 h
    exact ⟨id, caps, y, h1⟩
  | .fn _ _, _, h, _ => by unfold mAsC at h; cases h
mutual
theorem sE : ∀ (e : DV.E) (E : Expr) (X : Cx) (ck : Ck), CG Γ F n X ck → mE ck e E = true → EvT Γ X E (DV.ev F e)
  | .var i, E, X, ck, G, h => by
    unfold mE at h
    split at h
    · exact var_ok G h
    · cases h
  | .cst c, E, X, ck, G, h => by
    unfold mE at h
    split at h
    · exact cst_ok h
    · cases h
  | .glob g, E, X, ck, G, h => by
    unfold mE at h
    split at h
    · obtain ⟨h1, h2⟩ := and2 h
      have e := of_decide_eq_true h1
      subst e
      exact glob_ok G h2
    · cases h
  | .bin op a b, E, X, ck, G, h => by
    unfold mE at h
    split at h
    · obtain ⟨h, h3⟩ := and2 h
      obtain ⟨h1, h2⟩ := and2 h
      have e := of_decide_eq_true h1
      subst e
      exact ev_bin' G op (sE a _ X ck G h2) (sE b _ X ck G h3)
    · cases h
  | .neg a, E, X, ck, G, h => by
    unfold mE at h
    split at h
    · exact ev_neg' (sE a _ X ck G h)
    · cases h
  | .not a, E, X, ck, G, h => by
    unfold mE at h
    split at h
    · exact ev_not' (sE a _ X ck G h)
    · cases h
  | .cmp op a b, E, X, ck, G, h => by
    unfold mE at h
    split at h
    · obtain ⟨h, h3⟩ := and2 h
      obtain ⟨h1, h2⟩ := and2 h
      have e := of_decide_eq_true h1
      subst e
      exact ev_cmp' G op (mE_shp h3) (sE a _ X ck G h2) (sE b _ X ck G h3)
    · cases h
  | .chain _ _ _ _ _, E, X, ck, G, h => by unfold mE at h; cases h
  | .isN _, E, X, ck, G, h => by unfold mE at h; cases h
  | .notN _, E, X, ck, G, h => by unfold mE at h; cases h
  | .isB _ _, E, X, ck, G, h => by unfold mE at h; cases h
  | .notB _ _, E, X, ck, G, h => by unfold mE at h; cases h
  | .and a b, E, X, ck, G, h => by
    unfold mE at h
    split at h
    · obtain ⟨h1, h2⟩ := and2 h
      exact ev_and2 (sE a _ X ck G h1) (sE b _ X ck G h2)
    · obtain ⟨h1, h2⟩ := and2 h
      exact ev_and3 (sE a _ X ck G h1) (sE b _ X ck G h2)
    · cases h
  | .or a b, E, X, ck, G, h => by
    unfold mE at h
    split at h
    · obtain ⟨h1, h2⟩ := and2 h
      exact ev_or2 (sE a _ X ck G h1) (sE b _ X ck G h2)
    · obtain ⟨h1, h2⟩ := and2 h
      exact ev_or3 (sE a _ X ck G h1) (sE b _ X ck G h2)
    · cases h
  | .ite c a b, E, X, ck, G, h => by
    unfold mE at h
    split at h
    · obtain ⟨h, h3⟩ := and2 h
      obtain ⟨h1, h2⟩ := and2 h
      exact ev_ite' (sE c _ X ck G h1) (sE a _ X ck G h2) (sE b _ X ck G h3)
    · cases h
  | .tup es, E, X, ck, G, h => by
    unfold mE at h
    split at h
    · obtain ⟨h1, h2⟩ := and2 h
      exact pe_tup' h1 (of_decide_eq_true h2) (pes_pa (sEs es _ X ck G h1))
    · cases h
  | .lst es, E, X, ck, G, h => by
    unfold mE at h
    split at h
    · obtain ⟨h1, h2⟩ := and2 h
      exact pe_lst' h1 (of_decide_eq_true h2) (pes_pa (sEs es _ X ck G h1))
    · cases h
  | .dic _ _, E, X, ck, G, h => by unfold mE at h; cases h
  | .ix a b, E, X, ck, G, h => by
    unfold mE at h
    split at h
    · obtain ⟨h1, h2⟩ := and2 h
      exact ev_ix' G (mE_shp h2) (sE a _ X ck G h1) (sE b _ X ck G h2)
    · cases h
  | .slL _ _, E, X, ck, G, h => by unfold mE at h; cases h
  | .slU _ _, E, X, ck, G, h => by unfold mE at h; cases h
  | .slLU _ _ _, E, X, ck, G, h => by unfold mE at h; cases h
  | .rev _, E, X, ck, G, h => by unfold mE at h; cases h
  | .call f as, E, X, ck, G, h => by
    unfold mE at h
    split at h
    · obtain ⟨h, h3⟩ := and2 h
      obtain ⟨h1, h2⟩ := and2 h
      have e := of_decide_eq_true h1
      subst e
      exact pe_call' G h2 h3 (sAs as _ X ck G h3)
    · cases h
  | .callC f as, E, X, ck, G, h => by
    unfold mE at h
    split at h
    · obtain ⟨h, h3⟩ := and2 h
      obtain ⟨h, h4⟩ := and2 h
      obtain ⟨h1, h2⟩ := and2 h
      have e := of_decide_eq_true h1
      subst e
      obtain ⟨id, caps, E', hlk⟩ := mAsC_lam h3 h4
      obtain ⟨_, _, _, _, _, _, _, _, L⟩ := G.lam id caps E' hlk
      exact .val ((pe_callC' G h2 L.fn L.kd (mAsC_shp h3) (sAsC as _ X ck G h3)).imp fun σ H Q q => TEv.eq (fun ρ s => rfl) q)
    · cases h
  | .callV i es, E, X, ck, G, h => by
    unfold mE at h
    split at h
    · obtain ⟨h1, h2⟩ := and2 h
      exact .val (pe_callV' G h1 (mEs_shp h2) (pes_pa (sEs es _ X ck G h2)) (var_pe G h1))
    · cases h
  | .bi b es, E, X, ck, G, h => by
    unfold mE at h
    split at h
    · split at h
      · rename_i hk
        split at h
        · obtain ⟨h, h5⟩ := and2 h
          obtain ⟨h, h4⟩ := and2 h
          obtain ⟨h, h3⟩ := and2 h
          obtain ⟨h1, h2⟩ := and2 h
          have e := of_decide_eq_true h1
          have e' := of_decide_eq_true h3
          subst e
          subst e'
          exact pe_isi' G hk h2 h4 (sEs es _ X ck G h5)
        · cases h
      · split at h
        · obtain ⟨h, h3⟩ := and2 h
          obtain ⟨h1, h2⟩ := and2 h
          exact pe_bi' G (of_decide_eq_true h1) h2 h3 (pes_pa (sEs es _ X ck G h3))
        · cases h
    · cases h
  | .mk k l, E, X, ck, G, h => by
    unfold mE at h
    split at h
    · obtain ⟨h, h4⟩ := and2 h
      obtain ⟨h2, h3⟩ := and2 h
      rw [Bool.or_eq_true] at h4
      rcases h4 with h4 | h4
      · obtain ⟨h5, h6⟩ := and2 h4
        exact .val ((pe_mk' G (of_decide_eq_true h5) h2 h3 (sL l _ X ck G h6)).imp fun σ H Q q => TEv.eq (fun ρ s => rfl) q)
      · obtain ⟨h5, h6⟩ := and2 h4
        exact .val ((pe_mkF G (of_decide_eq_true h5) h2 h3 (sLf l _ X ck G h6)).imp fun σ H Q q => TEv.eq (fun ρ s => rfl) q)
    · obtain ⟨h1, h2⟩ := and2 h
      have e := of_decide_eq_true h1
      subst e
      exact .val (((sLc l _ X ck G h2).pe G.calm).imp fun σ H Q q => tf_list (TEv.eq (fun ρ s => rfl) q))
    · cases h
  | .mkD _ _ _, E, X, ck, G, h => by unfold mE at h; cases h
  | .meth m o es, E, X, ck, G, h => by
    unfold mE at h
    split at h
    · obtain ⟨h, h5⟩ := and2 h
      obtain ⟨h, h4⟩ := and2 h
      obtain ⟨h, h3⟩ := and2 h
      obtain ⟨h1, h2⟩ := and2 h
      exact pe_meth' G (of_decide_eq_true h1) h2 h3 (sE o _ X ck G h4).1 h5 (sEs es _ X ck G h5)
    · cases h
  | .ext _ _, E, X, ck, G, h => by unfold mE at h; cases h
  | .extS _ _, E, X, ck, G, h => by unfold mE at h; cases h
  | .join o e', E, X, ck, G, h => by
    unfold mE at h
    split at h
    · obtain ⟨h, h6⟩ := and2 h
      obtain ⟨h, h5⟩ := and2 h
      obtain ⟨h, h4⟩ := and2 h
      obtain ⟨h, h3⟩ := and2 h
      obtain ⟨h1, h2⟩ := and2 h
      have e := of_decide_eq_true h1
      subst e
      exact .val ((pe_join G h2 h3 (sE o _ X ck G h4).1 h6 (sE e' _ X ck G h5).1).imp fun σ H Q q => TEv.eq (fun ρ s => rfl) q)
    · cases h
theorem sEs : ∀ (es : DV.Es) (xs : List Expr) (X : Cx) (ck : Ck), CG Γ F n X ck → mEs ck es xs = true → PEs Γ F X es xs
  | .nil, xs, X, ck, G, h => by
    unfold mEs at h
    split at h
    · exact trivial
    · cases h
  | .cons e es, xs, X, ck, G, h => by
    unfold mEs at h
    split at h
    · obtain ⟨h, h3⟩ := and2 h
      obtain ⟨h1, h2⟩ := and2 h
      exact ⟨⟨h2, sE e _ X ck G h1⟩, sEs es _ X ck G h3⟩
    · cases h
theorem sAs : ∀ (es : DV.As) (xs : List Expr) (X : Cx) (ck : Ck), CG Γ F n X ck → mAs ck es xs = true → PA X xs (TAv Γ (DV.evas F es))
  | .nil, xs, X, ck, G, h => by
    unfold mAs at h
    split at h
    · exact pa_nil.imp fun σ H Q q => ta_nil (TAv.eq (fun ρ s => rfl) q)
    · cases h
  | .ex e es, xs, X, ck, G, h => by
    unfold mAs at h
    split at h
    · obtain ⟨h, h3⟩ := and2 h
      obtain ⟨h1, h2⟩ := and2 h
      exact (pa_cons' h2 (sE e _ X ck G h1).1 (sAs es _ X ck G h3)).imp fun σ H Q q => TAv.eq (fun ρ s => rfl) q
    · cases h
  | .lam _ _ _, xs, X, ck, G, h => by unfold mAs at h; cases h
  | .fn _ _, xs, X, ck, G, h => by unfold mAs at h; cases h
theorem sAsC : ∀ (es : DV.As) (xs : List Expr) (X : Cx) (ck : Ck), CG Γ F n X ck → mAsC ck es xs = true → PA X xs (TAp Γ X.env.cells X.N (DV.evas F es))
  | .nil, xs, X, ck, G, h => by
    unfold mAsC at h
    split at h
    · exact pa_nil.imp fun σ H Q q => tap_nil (TAp.eq (fun ρ s => rfl) q)
    · cases h
  | .ex e es, xs, X, ck, G, h => by
    unfold mAsC at h
    split at h
    · obtain ⟨h, h3⟩ := and2 h
      obtain ⟨h1, h2⟩ := and2 h
      exact (pa_cons (sE e _ X ck G h1).1 (sAsC es _ X ck G h3) (star_cons h2)).imp fun σ H Q q => tap_ex (TAp.eq (fun ρ s => rfl) q)
    · cases h
  | .lam id caps es, xs, X, ck, G, h => by
    unfold mAsC at h
    split at h
    · obtain ⟨h, h3⟩ := and2 h
      obtain ⟨h1, h2⟩ := and2 h
      obtain ⟨c, P, params, body, scope, pos, J, e, L⟩ := G.lam id caps _ h1
      subst e
      rw [← G.N] at L
      exact (pa_lam L (sAsC es _ X ck G h3)).imp fun σ H Q q => TAp.eq (fun ρ s => rfl) q
    · cases h
  | .fn _ _, xs, X, ck, G, h => by unfold mAsC at h; cases h
theorem sI : ∀ (i : DV.I) (E tg : Expr) (X : Cx) (ck : Ck), CG Γ F n X ck → mI ck tg i E = true → PI X tg E (TIv Γ (DV.evI F i))
  | .seq e, E, tg, X, ck, G, h => by
    unfold mI at h
    obtain ⟨h1, h2⟩ := and2 h
    exact pi_seq' G (sE e _ X ck G h1).1
  | .rng1 a, E, tg, X, ck, G, h => by
    unfold mI at h
    split at h
    · obtain ⟨h, h4⟩ := and2 h
      obtain ⟨h, h3⟩ := and2 h
      obtain ⟨h1, h2⟩ := and2 h
      have e := of_decide_eq_true h1
      subst e
      exact pi_rng1' G h2 h4 (sE a _ X ck G h3).1
    · cases h
  | .rng2 _ _, E, tg, X, ck, G, h => by unfold mI at h; cases h
  | .rng3 _ _ _, E, tg, X, ck, G, h => by unfold mI at h; cases h
  | .enum (.seq _), E, tg, X, ck, G, h => by unfold mI at h; cases h
  | .enum (.rng1 _), E, tg, X, ck, G, h => by unfold mI at h; cases h
  | .enum (.rng2 _ _), E, tg, X, ck, G, h => by unfold mI at h; cases h
  | .enum (.rng3 _ _ _), E, tg, X, ck, G, h => by unfold mI at h; cases h
  | .enum (.enum _), E, tg, X, ck, G, h => by unfold mI at h; cases h
  | .enum (.zip _ _), E, tg, X, ck, G, h => by unfold mI at h; cases h
  | .enum (.items _), E, tg, X, ck, G, h => by unfold mI at h; cases h
  | .zip (.seq _) (.seq _), E, tg, X, ck, G, h => by unfold mI at h; cases h
  | .zip (.seq _) (.rng1 _), E, tg, X, ck, G, h => by unfold mI at h; cases h
  | .zip (.seq _) (.rng2 _ _), E, tg, X, ck, G, h => by unfold mI at h; cases h
  | .zip (.seq _) (.rng3 _ _ _), E, tg, X, ck, G, h => by unfold mI at h; cases h
  | .zip (.seq _) (.enum _), E, tg, X, ck, G, h => by unfold mI at h; cases h
  | .zip (.seq _) (.zip _ _), E, tg, X, ck, G, h => by unfold mI at h; cases h
  | .zip (.seq _) (.items _), E, tg, X, ck, G, h => by unfold mI at h; cases h
  | .zip (.rng1 _) _, E, tg, X, ck, G, h => by unfold mI at h; cases h
  | .zip (.rng2 _ _) _, E, tg, X, ck, G, h => by unfold mI at h; cases h
  | .zip (.rng3 _ _ _) _, E, tg, X, ck, G, h => by unfold mI at h; cases h
  | .zip (.enum _) _, E, tg, X, ck, G, h => by unfold mI at h; cases h
  | .zip (.zip _ _) _, E, tg, X, ck, G, h => by unfold mI at h; cases h
  | .zip (.items _) _, E, tg, X, ck, G, h => by unfold mI at h; cases h
  | .items _, E, tg, X, ck, G, h => by unfold mI at h; cases h
theorem sLc : ∀ (l : DV.L) (E : Expr) (X : Cx) (ck : Ck), CG Γ F n X ck → mLc ck l E = true → CompF Γ X (DV.evL F l) E
  | .comp tg it e caps, E, X, ck, G, h => by
    unfold mLc at h
    split at h
    · obtain ⟨h, h3⟩ := and2 h
      obtain ⟨h1, h2⟩ := and2 h
      have c := comp_all (pos := ‹Pos›) G h1 (sI it _ _ X ck G h2) fun C cells s H ex => (sE e _ _ _ ((G.comp h1).2.2 C cells s H ex).1 h3).1
      exact c.eq fun ρ s => rfl
    · cases h
  | .compIf tg it i e caps, E, X, ck, G, h => by
    unfold mLc at h
    split at h
    · obtain ⟨h, h4⟩ := and2 h
      obtain ⟨h, h3⟩ := and2 h
      obtain ⟨h1, h2⟩ := and2 h
      have c := comp_if (pos := ‹Pos›) G h1 (sI it _ _ X ck G h2) (fun C cells s H ex => (sE i _ _ _ ((G.comp h1).2.2 C cells s H ex).1 h3).2) fun C cells s H ex => (sE e _ _ _ ((G.comp h1).2.2 C cells s H ex).1 h4).1
      exact c.eq fun ρ s => rfl
    · cases h
  | .disp _, E, X, ck, G, h => by unfold mLc at h; cases h
  | .seq _, E, X, ck, G, h => by unfold mLc at h; cases h
theorem sLf : ∀ (l : DV.L) (E : Expr) (X : Cx) (ck : Ck), CG Γ F n X ck → mLf ck l E = true → PE X E (TFv Γ (DV.evL F l))
  | .comp tg it e caps, E, X, ck, G, h => by
    unfold mLf at h
    split at h
    · obtain ⟨h, h3⟩ := and2 h
      obtain ⟨h1, h2⟩ := and2 h
      have c := comp_all (pos := ‹Pos›) G h1 (sI it _ _ X ck G h2) fun C cells s H ex => (sE e _ _ _ ((G.comp h1).2.2 C cells s H ex).1 h3).1
      exact (c.eq fun ρ s => rfl).pe G.calm
    · cases h
  | .compIf tg it i e caps, E, X, ck, G, h => by
    unfold mLf at h
    split at h
    · obtain ⟨h, h4⟩ := and2 h
      obtain ⟨h, h3⟩ := and2 h
      obtain ⟨h1, h2⟩ := and2 h
      have c := comp_if (pos := ‹Pos›) G h1 (sI it _ _ X ck G h2) (fun C cells s H ex => (sE i _ _ _ ((G.comp h1).2.2 C cells s H ex).1 h3).2) fun C cells s H ex => (sE e _ _ _ ((G.comp h1).2.2 C cells s H ex).1 h4).1
      exact (c.eq fun ρ s => rfl).pe G.calm
    · cases h
  | .disp es, E, X, ck, G, h => by
    unfold mLf at h
    split at h
    · obtain ⟨h1, h2⟩ := and2 h
      exact disp_ok h1 (of_decide_eq_true h2) (pes_pa (sEs es _ X ck G h1))
    · cases h
  | .seq _, E, X, ck, G, h => by unfold mLf at h; cases h
theorem sL : ∀ (l : DV.L) (E : Expr) (X : Cx) (ck : Ck), CG Γ F n X ck → mL ck l E = true → PE X E (TLv Γ (DV.evL F l))
  | .comp tg it e caps, E, X, ck, G, h => by
    unfold mL at h
    split at h
    · obtain ⟨h, h3⟩ := and2 h
      obtain ⟨h1, h2⟩ := and2 h
      have c := comp_all (pos := ‹Pos›) G h1 (sI it _ _ X ck G h2) fun C cells s H ex => (sE e _ _ _ ((G.comp h1).2.2 C cells s H ex).1 h3).1
      exact ((c.eq fun ρ s => rfl).pe G.calm).imp fun σ H Q q => tl_fresh q
    · cases h
  | .compIf tg it i e caps, E, X, ck, G, h => by
    unfold mL at h
    split at h
    · obtain ⟨h, h4⟩ := and2 h
      obtain ⟨h, h3⟩ := and2 h
      obtain ⟨h1, h2⟩ := and2 h
      have c := comp_if (pos := ‹Pos›) G h1 (sI it _ _ X ck G h2) (fun C cells s H ex => (sE i _ _ _ ((G.comp h1).2.2 C cells s H ex).1 h3).2) fun C cells s H ex => (sE e _ _ _ ((G.comp h1).2.2 C cells s H ex).1 h4).1
      exact ((c.eq fun ρ s => rfl).pe G.calm).imp fun σ H Q q => tl_fresh q
    · cases h
  | .disp es, E, X, ck, G, h => by
    unfold mL at h
    split at h
    · obtain ⟨h1, h2⟩ := and2 h
      exact (disp_ok h1 (of_decide_eq_true h2) (pes_pa (sEs es _ X ck G h1))).imp fun σ H Q q => tl_fresh q
    · cases h
  | .seq e, E, X, ck, G, h => by
    unfold mL at h
    exact (sE e _ X ck G h).1.imp fun σ H Q q => tl_seq (TLv.eq (fun ρ s => rfl) q)
end
end
end L2
end

set_option Elab.async false
set_option linter.all false
set_option maxRecDepth 100000
set_option maxHeartbeats 4000000
noncomputable section
namespace L2
open PySem PySem.Spec PyProof.Rows
section
variable {Γ : Gm} {F : DV.Fns} {n : Nat}
theorem asg_comp {X : Cx} {ck : Ck} {m : DV.Env → DV.Sto → DV.R (List DV.D)} {E : Expr} {x : Str} {i : Nat} {px pos : Pos} (G : CG Γ F n X ck) (c : CompF Γ X m E) (hi : ck.N[i]? = some x) (hl : ck.loc x = true) :
    PS X (.Assign [.Name x px] E pos) (tAsg (TFv Γ m) (gName i)) := by
  obtain ⟨elt, tgt, iter, ifs, scope, p2, N', caps, wi, g, tc, te, rfl, h1, h2, h3, h4, h5⟩ := c.ex
  obtain ⟨l1, l2⟩ := G.loc hl
  have nd : X.N.Nodup := by rw [G.N]; exact G.nd
  have hi' : X.N[i]? = some x := by rw [G.N]; exact hi
  generalize hb : ((X.env.blockKind == .function && X.env.kindOf x == some .local && px.line == (Expr.ListComp elt [⟨tgt, iter, ifs, 0⟩] scope p2).pos.line && !(scope.names.any fun (n, k) => n == x && (k == .local || k == .cell)))) = b
  have hsw : swapsWith (.ListComp elt [⟨tgt, iter, ifs, 0⟩] scope p2) (some (.Name x px)) pos.line X.env = pure b := by rw [← hb]; rfl
  have imp : ∀ D σ H, tAsg (TFv Γ m) (gName i) D σ H → tAsg (tComp caps wi g tc te) (gName i) D σ H := fun D σ H q => h5 _ _ _ q
  cases b with
  | true =>
    have hloc : X.env.scope.names.lookup x = some .local := by
      simp only [Bool.and_eq_true] at hb
      exact eq_of_beq hb.1.1.2
    exact (ps_setComp N' caps nd hi' hloc h1 h2 G.calm h3 h4 hsw).imp imp
  | false => exact (ps_set nd hi' l1 (pe_comp N' caps h1 h2 G.calm h3 h4) hsw l2).imp imp
theorem asg1_ok {X : Cx} {ck : Ck} {e : DV.E} {v : Expr} {x : Str} {i : Nat} {px pos : Pos} (G : CG Γ F n X ck) (hi : ck.N[i]? = some x) (hl : ck.loc x = true) (h : mE ck e v = true) :
    PS X (.Assign [.Name x px] v pos) (TSv Γ (DV.ex F (.asg (.one i) e))) := by
  obtain ⟨l1, l2⟩ := G.loc hl
  have nd : X.N.Nodup := by rw [G.N]; exact G.nd
  have hi' : X.N[i]? = some x := by rw [G.N]; exact hi
  by_cases hc : noComp v = true
  · exact (ps_set nd hi' l1 (sE e v X ck G h).1 (swap_ok hc) l2).imp fun D σ H q => ts_asg (tg := .one i) (TSv.eq (fun ρ s => rfl) q)
  · have hs := mE_shp h
    cases v with
    | ListComp elt gs sc p =>
      cases e with
      | mk k l =>
        unfold mE at h
        dsimp only at h
        obtain ⟨h1, h2⟩ := and2 h
        have e := of_decide_eq_true h1
        subst e
        exact (asg_comp G (sLc l _ X ck G h2) hi hl).imp fun D σ H q => tf_list1 (tg := .one i) (TSv.eq (fun ρ s => rfl) q)
      | _ => unfold mE at h; cases h
    | SetComp _ _ _ _ => cases hs
    | DictComp _ _ _ _ _ => cases hs
    | _ => exact absurd rfl hc
mutual
theorem sS : ∀ (st : DV.S) (S : Stmt) (X : Cx) (ck : Ck), CG Γ F n X ck → mS ck st S = true → PS X S (TSv Γ (DV.ex F st))
  | .asg tg e, S, X, ck, G, h => by
    unfold mS at h
    split at h
    · obtain ⟨h, h3⟩ := and2 h
      obtain ⟨h1, h2⟩ := and2 h
      cases tg with
      | one i =>
        unfold mTg at h1
        split at h1
        · rename_i he _
          cases he
          obtain ⟨a1, a2⟩ := and2 h1
          exact asg1_ok G (of_decide_eq_true a1) a2 h2
        · rename_i he _; cases he
        · cases h1
      | tup is =>
        obtain ⟨a1, a2⟩ := and2 h3
        refine (ps_asg (sE e _ X ck G h2).1 (cg_tg G h1) (swap_ok a2) (stores_ok a1) ?_).imp fun D σ H q => ts_asg (TSv.eq (fun ρ s => rfl) q)
        unfold mTg at h1
        split at h1
        · rfl
        · rfl
        · cases h1
    · cases h
  | .setIx o i e, S, X, ck, G, h => by
    unfold mS at h
    split at h
    · rename_i ob ix p1 v p2
      obtain ⟨h, h5⟩ := and2 h
      obtain ⟨h, h4⟩ := and2 h
      obtain ⟨h, h3⟩ := and2 h
      obtain ⟨h1, h2⟩ := and2 h
      have hsh := mE_shp h2
      refine (ps_asg (sE e _ X ck G h3).1 (pg_sub (sE o _ X ck G h1).1 (sE i _ X ck G h2).1 set_ok ?_) (show swapsWith v (some (.Subscript ob ix p1)) p2.line X.env = pure false from swap_ok h4) (stores_ok h5) ?_).imp fun D σ H q => ts_setIx (TSv.eq (fun ρ s => rfl) q)
      · intro w
        cases ix <;> first | rfl | cases hsh
      · rfl
    · cases h
  | .aug _ _, S, X, ck, G, h => by unfold mS at h; cases h
  | .ex e, S, X, ck, G, h => by
    unfold mS at h
    split at h
    · obtain ⟨h1, h2⟩ := and2 h
      exact (ps_expr (sE e _ X ck G h1).1 (swap_ok h2)).imp fun D σ H q => ts_drop (TSv.eq (fun ρ s => rfl) q)
    · cases h
  | .ret e, S, X, ck, G, h => by
    unfold mS at h
    split at h
    · exact (ps_ret (sE e _ X ck G h).1).imp fun D σ H q => ts_ret (TSv.eq (fun ρ s => rfl) q)
    · cases h
  | .retN, S, X, ck, G, h => by unfold mS at h; cases h
  | .ite c a b, S, X, ck, G, h => by
    unfold mS at h
    split at h
    · obtain ⟨h, h3⟩ := and2 h
      obtain ⟨h1, h2⟩ := and2 h
      exact (ps_if (sE c _ X ck G h1).2 (sSs a _ X ck G h2) (sSs b _ X ck G h3)).imp fun D σ H q => ts_if (TSv.eq (fun ρ s => rfl) q)
    · cases h
  | .whl c b, S, X, ck, G, h => by
    unfold mS at h
    split at h
    · obtain ⟨h1, h2⟩ := and2 h
      exact (ps_while (by rw [G.xe]; exact PassesOwn.never) (sE c _ X ck G h1).2 (sSs b _ X ck G h2)).imp fun D σ H q => ts_while (TSv.eq (fun ρ s => rfl) q)
    · cases h
  | .for_ tg it b, S, X, ck, G, h => by
    unfold mS at h
    split at h
    · obtain ⟨h, h3⟩ := and2 h
      obtain ⟨h1, h2⟩ := and2 h
      exact (ps_for (by rw [G.xe]; exact PassesOwn.never) G.calm (sI it _ _ X ck G h2) (cg_tg G h1) (sSs b _ X ck G h3) (fold_ok (mI_shp h2))).imp fun D σ H q => ts_for (TSv.eq (fun ρ s => rfl) q)
    · cases h
  | .pass, S, X, ck, G, h => by unfold mS at h; cases h
  | .cont, S, X, ck, G, h => by unfold mS at h; cases h
  | .brk, S, X, ck, G, h => by unfold mS at h; cases h
  | .raise, S, X, ck, G, h => ps_never.imp fun D σ H q => by
    obtain ⟨φ, ρ, s, c, s', E, R, hm, q⟩ := q
    cases hm
theorem sSs : ∀ (st : DV.Ss) (S : List Stmt) (X : Cx) (ck : Ck), CG Γ F n X ck → mSs ck st S = true → PSs X S (TSv Γ (DV.exs F st))
  | .nil, S, X, ck, G, h => by
    unfold mSs at h
    split at h
    · exact pss_nil.imp fun D σ H q => ts_next (m := DV.exs F .nil) (fun ρ s => rfl) q
    · cases h
  | .cons s ss, S, X, ck, G, h => by
    unfold mSs at h
    split at h
    · obtain ⟨h1, h2⟩ := and2 h
      exact (pss_cons (sS s _ X ck G h1) (sSs ss _ X ck G h2)).imp fun D σ H q => ts_seq (TSv.eq (fun ρ s => rfl) q)
    · cases h
end
end
end L2
end

set_option Elab.async false
set_option linter.all false
set_option maxRecDepth 100000
set_option maxHeartbeats 4000000
noncomputable section
namespace L2
open PySem PySem.Spec PyProof.Rows
section
variable {Γ : Gm}
/-! ### what a call leaves -/
theorem old_bnd {φ φ1 : Nat → Addr} {H H1 : Hp} {s s1 : DV.Sto} (R : Rp Γ φ H s) (g : Gr φ s H φ1 s1 H1) (ho : DV.okOld s s1 = true) {i : Nat} {o : DV.O} (hi : i < s.length) (e : s1[i]? = some o) : o.bnd s.length = true := by
  unfold DV.okOld at ho
  have := List.all_eq_true.mp ho i (List.mem_range.mpr hi)
  rw [e, Bool.or_eq_true] at this
  rcases this with h | h
  · exact R.wf i o (of_decide_eq_true h).symm
  · exact h
theorem take_get {s1 : DV.Sto} {k i : Nat} {o : DV.O} (e : (s1.take k)[i]? = some o) : i < k ∧ s1[i]? = some o := by
  rw [List.getElem?_take] at e
  split at e
  · exact ⟨‹_›, e⟩
  · cases e
theorem canon_take {φ φ1 : Nat → Addr} {H H1 : Hp} {s s1 : DV.Sto} (R : Rp Γ φ H s) (g : Gr φ s H φ1 s1 H1) (R1 : Rp Γ φ1 H1 s1) (ho : DV.okOld s s1 = true) : Gr φ s H φ1 (s1.take s.length) H1 ∧ Rp Γ φ1 H1 (s1.take s.length) := by
  have hl : (s1.take s.length).length = s.length := by rw [List.length_take]; have := g.le; omega
  refine ⟨⟨g.w, by rw [hl]; exact Nat.le_refl _, fun i h1 h2 => by rw [hl] at h2; omega, fun i o o' e e' m => g.mu i o o' e (take_get e').2 m, g.st, g.fr⟩, fun i j o o' e e' m m' z => R1.inj i j o o' (take_get e).2 (take_get e').2 m m' z, fun i o e => R1.obj i o (take_get e).2, fun i o e => ?_, R1.tab⟩
  rw [hl]
  exact old_bnd R g ho (take_get e).1 (take_get e).2
theorem canon_ok {φ φ1 : Nat → Addr} {H H1 : Hp} {s s1 s' : DV.Sto} {v0 d : DV.D} {v : V} (R : Rp Γ φ H s) (g : Gr φ s H φ1 s1 H1) (R1 : Rp Γ φ1 H1 s1) (hb : v0.bnd s1.length = true) (r : RV Γ φ1 H1 v0 v) (h : DV.canon s v0 s1 = .ok d s') :
    ∃ φ', Gr φ s H φ' s' H1 ∧ s.length ≤ s'.length ∧ d.bnd s'.length = true ∧ RV Γ φ' H1 d v ∧ Rp Γ φ' H1 s' := by
  have all : d = v0 → s' = s1 → ∃ φ', Gr φ s H φ' s' H1 ∧ s.length ≤ s'.length ∧ d.bnd s'.length = true ∧ RV Γ φ' H1 d v ∧ Rp Γ φ' H1 s' := fun e1 e2 => by
    subst e1; subst e2
    exact ⟨φ1, g, g.le, hb, r, R1⟩
  unfold DV.canon at h
  split at h
  case isFalse => cases h; exact all rfl rfl
  rename_i ho
  obtain ⟨gt, Rt⟩ := canon_take R g R1 ho
  have hl : (s1.take s.length).length = s.length := by rw [List.length_take]; have := g.le; omega
  have tk : d = v0 → s' = s1.take s.length → v0.bnd s.length = true → ∃ φ', Gr φ s H φ' s' H1 ∧ s.length ≤ s'.length ∧ d.bnd s'.length = true ∧ RV Γ φ' H1 d v ∧ Rp Γ φ' H1 s' := fun e1 e2 b => by
    subst e1; subst e2
    exact ⟨φ1, gt, by rw [hl]; exact Nat.le_refl _, by rw [hl]; exact b, r, Rt⟩
  split at h
  · rename_i k
    split at h
    · cases h
      exact tk rfl rfl (by unfold DV.D.bnd; exact decide_eq_true ‹_›)
    · rename_i hk
      split at h
      · rename_i o eo
        split at h
        · rename_i hob
          cases h
          have gw : Gw φ1 s.length H1 (fun i => if i = s.length then φ1 k else φ1 i) H1 := ⟨fun i hi => if_neg (Nat.ne_of_lt hi), Kp.refl _⟩
          have key : ∀ (i : Nat) (o' : DV.O), (s1.take s.length ++ [o])[i]? = some o' → (i < s.length ∧ s1[i]? = some o') ∨ (i = s.length ∧ o' = o) := fun i o' e => by
            rcases Nat.lt_trichotomy i s.length with h | h | h
            · rw [List.getElem?_append_left (by rw [hl]; exact h)] at e; exact .inl (take_get e)
            · subst h
              rw [List.getElem?_append_right (by rw [hl]; exact Nat.le_refl _), hl, Nat.sub_self] at e
              exact .inr ⟨rfl, (Option.some.inj e).symm⟩
            · rw [List.getElem?_eq_none (by rw [List.length_append, hl]; simp; omega)] at e; cases e
          have hlen : (s1.take s.length ++ [o]).length = s.length + 1 := by rw [List.length_append, hl]; rfl
          refine ⟨fun i => if i = s.length then φ1 k else φ1 i, ⟨⟨fun i hi => ?_, g.w.kp⟩, by rw [hlen]; omega, fun i h1 h2 => ?_, fun i oo o' e e' m => ?_, g.st, g.fr⟩, by rw [hlen]; omega, by unfold DV.D.bnd; rw [hlen]; exact decide_eq_true (Nat.lt_succ_self _), ?_, ⟨fun i j oi oj ei0 ej0 mi mj e => ?_, fun i o' e => ?_, fun i o' e => ?_, R1.tab⟩⟩
          · show (if i = s.length then φ1 k else φ1 i) = φ i
            rw [if_neg (Nat.ne_of_lt hi)]; exact g.w.map i hi
          · rw [hlen] at h2
            show H (if i = s.length then φ1 k else φ1 i) = none
            rw [if_pos (by omega)]
            exact g.new k (by omega) (List.getElem?_eq_some_iff.mp eo).1
          · rcases key i o' e' with ⟨_, e2⟩ | ⟨hi, _⟩
            · exact g.mu i oo o' e e2 m
            · have := (List.getElem?_eq_some_iff.mp e).1; omega
          · rw [r.refE]
            unfold RV
            show V.ref (φ1 k) = V.ref (if s.length = s.length then φ1 k else φ1 s.length)
            rw [if_pos rfl]
          · rcases key i oi ei0 with ⟨hi, ei⟩ | ⟨hi, zi⟩ <;> rcases key j oj ej0 with ⟨hj, ej⟩ | ⟨hj, zj⟩
            · rw [if_neg (Nat.ne_of_lt hi), if_neg (Nat.ne_of_lt hj)] at e
              exact R1.inj i j oi oj ei ej mi mj e
            · rw [if_neg (Nat.ne_of_lt hi), if_pos hj] at e
              subst zj
              have := R1.inj i k oi _ ei eo mi mj e
              omega
            · rw [if_neg (Nat.ne_of_lt hj), if_pos hi] at e
              subst zi
              have := R1.inj k j _ oj eo ej mi mj e
              omega
            · rw [hi, hj]
          · rcases key i o' e with ⟨hi, e⟩ | ⟨hi, rfl⟩
            · show RO Γ _ _ (if i = s.length then φ1 k else φ1 i) o'
              rw [if_neg (Nat.ne_of_lt hi)]
              exact (R1.obj i o' e).mono gw (old_bnd R g ho hi e) fun _ u hu => hu
            · show RO Γ _ _ (if i = s.length then φ1 k else φ1 i) o'
              rw [if_pos hi]
              exact (R1.obj k _ eo).mono gw hob fun _ u hu => hu
          · rw [hlen]
            rcases key i o' e with ⟨hi, e⟩ | ⟨_, rfl⟩
            · exact O_bnd_mono (Nat.le_succ _) _ (old_bnd R g ho hi e)
            · exact O_bnd_mono (Nat.le_succ _) _ hob
        · cases h; exact all rfl rfl
      · cases h
  · split at h
    · cases h; exact tk rfl rfl ‹_›
    · cases h; exact all rfl rfl
/-! ### a program -/
/-- a lambda's text reads so -/
structure LamGood (J : LamI) (L : DV.Lm) : Prop where
  sc : LamScope (J.ps ++ J.fr) J.ps J.fr J.scope
  ps : J.ps.length = L.ps
  fr : J.fr.length = L.cs
  m : mE (ck0 (J.ps ++ J.fr) J.scope) L.body J.body = true
  bind : ∀ (clos : List (Str × Addr)) (pm : Value) (c' : Addr) (ctv : Value) (us : List Value), us.length = J.ps.length → bindArgs (PySem.W.kla_fn "<lambda>" J.qual J.params J.body J.scope clos pm (.ref c') ctv) ⟨us, []⟩ = pure (J.ps.zip us)
/-- a lambda of a def: where its code stands -/
structure LkAt (Γ : Gm) (cds : List (Addr × Addr)) (f : Str) (sc : Scope) (N : List Str) (fd : FuncData) (id : String) (caps : List Nat) (params : Arguments) (body : Expr) (scope : Scope) (c P : Addr) (J : LamI) : Prop where
  code : fd.code = .ref c
  cd : (c, P) ∈ cds
  ck : lamCheck scope sc = true
  fre : ∀ x, scope.names.lookup x = some .free → sc.names.lookup x = some .cell
  cel : ∀ y ∈ sc.names, y.2 = .cell → sc.names.lookup y.1 = some .cell
  df : ∀ env, defaultsOf params env = ([], [])
  lg : Γ.lg id J
  q : J.qual = f ++ ".<locals>." ++ "<lambda>"
  p : J.params = params
  b : J.body = body
  s : J.scope = scope
  len : J.fr.length = caps.length
  at_ : ∀ (i j : Nat) (x : Str), caps[i]? = some j → J.fr[i]? = some x → N[j]? = some x
  fr : ∀ x ∈ J.fr, scope.names.lookup x = some .free
  tab : (P, J.qual) ∈ Γ.T
noncomputable def LkOk (Γ : Gm) (cds : List (Addr × Addr)) (f : Str) (sc : Scope) (N : List Str) (fd : FuncData) (lk : String → List Nat → Expr → Bool) : Prop :=
  ∀ id caps E, lk id caps E = true → ∃ c P params body scope pos J, E = .Lambda params body scope pos ∧ LkAt Γ cds f sc N fd id caps params body scope c P J
noncomputable def Good (Γ : Gm) (cds : List (Addr × Addr)) (mg : Str → Option Value) (f : String) (d : DV.Df) : Prop := ∃ st N ps a fd lk, DefAt Γ.K mg (f : Str) st ps a fd ∧ FnScope N ps (defScope st) ∧ ps.length = d.ps ∧ N.length = d.ps + d.vs ∧ mSs ⟨N, defScope st, lk⟩ d.body (defBody st) = true ∧ LkOk Γ cds (f : Str) (defScope st) N fd lk
structure PrOk (Γ : Gm) (cds : List (Addr × Addr)) (P : DV.Pr) (mg : Str → Option Value) : Prop where
  df : ∀ f d, P.df f = some d → Good Γ cds mg f d
  con : ∀ x d, P.con x = some d → ∃ v u, mg (x : Str) = some u ∧ RelV v u ∧ (∀ m, d.bnd m = true) ∧ ∀ φ H, RV Γ φ H d v
  bi : ∀ x ∈ bNames, mg x = none
  fa : ∀ (f : String) (a : Addr), Γ.fa f = some a → mg (f : Str) = some (.ref a) ∧ ∃ oc od fd sl, Γ.K.lookup a = some ⟨oc, od, .func fd, sl⟩
  lg : ∀ id J, Γ.lg id J → ∃ L, P.lm id = some L ∧ LamGood J L
  nd : (Γ.T.map (·.1)).Nodup
/-- what may be called, at a level -/
noncomputable def CallOk (Γ : Gm) (prog : Program) (w : World) (mg : Str → Option Value) (base : Heap) (F : DV.Fns) (n : Nat) : Prop := (∀ f : String, (∀ l s, F.call f l s = .bad) ∨
      ∃ a fd ps, FnOk prog w Γ.K mg base CX0 n a fd ps (spV Γ (F.call f)) ∧ mg (f : Str) = some (.ref a) ∧ PySem.W.keepIn Γ.K (.ref a) = true ∧ Binds Γ.K fd ps []) ∧
  ∀ (id : String) (J : LamI) (f : Addr) (cap : List V) (clos : List (Str × Addr)), Γ.lg id J → cap.length = J.fr.length → ClOk prog w Γ.K mg base n (fun H => LamAt H f J.qual J.params J.body J.scope J.fr cap clos) f (spL Γ (F.lam id) cap)
theorem re_start {φ : Nat → Addr} {H : Hp} {n k : Nat} {N : List Str} {l : List DV.D} {vs : List V} (r : RVL Γ φ H l vs) (b : DV.D.bndL n l = true) (hN : N.length = l.length + k) : RE Γ φ H n (l.map some ++ List.replicate k none) (start N vs) := by
  have hl := r.length
  refine ⟨?_, fun i d e => ?_⟩
  · unfold start; simp [hl, hN]
  · by_cases hi : i < l.length
    · rw [List.getElem?_append_left (by simpa using hi), List.getElem?_map] at e
      have e' : l[i]? = some d := by
        rw [List.getElem?_eq_getElem hi] at e ⊢
        exact Option.some.inj e
      obtain ⟨v, e1, e2⟩ := r.get e'
      refine ⟨bndL_get b e', v, ?_, e2⟩
      unfold start
      rw [List.getElem?_append_left (by rw [List.length_map, hl]; exact hi), List.getElem?_map, e1]; rfl
    · rw [List.getElem?_append_right (by simpa using Nat.le_of_not_lt hi)] at e
      rw [List.getElem?_replicate] at e
      split at e <;> cases e
theorem fn_ok {cds : List (Addr × Addr)} {P : DV.Pr} {prog : Program} {w : World} {mg : Str → Option Value} {base : Heap} (hP : PrOk Γ cds P mg) (hb : ∀ y ∈ cds, PySem.W.CodeHd base y.1 y.2 ∧ BM mg base) (n : Nat) (hcall : CallOk Γ prog w mg base (DV.callN P n) (n + 31))
    {f : String} {d : DV.Df} (e : P.df f = some d) {st : Stmt} {N ps : List Str} {a : Addr} {fd : FuncData} {lk : String → List Nat → Expr → Bool} (hD : DefAt Γ.K mg (f : Str) st ps a fd) (hS : FnScope N ps (defScope st)) (h1 : ps.length = d.ps) (h2 : N.length = d.ps + d.vs) (hm : mSs ⟨N, defScope st, lk⟩ d.body (defBody st) = true) (hL : LkOk Γ cds (f : Str) (defScope st) N fd lk) :
    FnOk prog w Γ.K mg base CX0 (n + 1 + 31) a fd ps (spV Γ ((DV.callN P (n + 1)).call f)) := by
  have hlen : ∀ vs H Q E, spV Γ ((DV.callN P (n + 1)).call f) vs H Q E → vs.length = ps.length := fun vs H Q E q => by
    obtain ⟨φ, s, l, d', s', R, r, b, hc, k⟩ := q
    simp only [DV.callN, e] at hc
    split at hc
    · rw [r.length, h1]; assumption
    · cases hc
  have body : ∀ (cdv : Value), (∀ id caps E, lk id caps E = true → fd.code = cdv) → ∀ (A : Around) (outer : List Env) (sh : Shared) (H : Hp) (vs : List V) (Q : VK) (E : XK), Room (n + 31) (A.deeper (envOfC (f : Str) (defScope st) sh.heap.objs.size a cdv)) → spV Γ ((DV.callN P (n + 1)).call f) vs H Q E →
      ∃ t, PSs (cxOf CX0 prog w Γ.K mg base N (f : Str) (defScope st) a cdv A outer sh H E).nox (defBody st) t ∧ t { nx := fun _ H' => Q .non H', rt := Q } (start N vs) H := by
    intro cdv hcd A outer sh H vs Q E hr q
    have G : CG Γ (DV.callN P n) (n + 31) (cxOf CX0 prog w Γ.K mg base N (f : Str) (defScope st) a cdv A outer sh H E).nox ⟨N, defScope st, lk⟩ := by
      refine ⟨rfl, rfl, hS.nd, rfl, rfl, ?_, hr, fun x k e => .inl e, fun _ _ => rfl, hP.bi, hcall.1, ?_, fun id caps E' hlk => ?_, hcall.2, hP.fa⟩
      · show DV.DEEP + 1 ≤ n + 31
        unfold DV.DEEP; omega
      · have : (DV.callN P n).con = P.con := by cases n <;> rfl
        rw [this]; exact hP.con
      · obtain ⟨c, Pa, params, body, scope, pos, J, eE, L⟩ := hL id caps E' hlk
        obtain ⟨hb1, hb2⟩ := hb _ L.cd
        refine ⟨c, Pa, params, body, scope, pos, J, eE, ⟨?_, hb1, hb2, L.ck, L.df _, L.lg, L.q, L.p, L.b, L.s, L.len, L.at_, L.fr, fun x hx => ?_, L.tab, hP.nd, fun _ => rfl, fun x c hx => ?_⟩⟩
        · show cdv = .ref c
          rw [← hcd id caps E' hlk]; exact L.code
        · exact cell_has (L.fre x hx)
        · rcases cellsFrom_name (PySem.mem_of_lookup hx) with z | z
          · exact .inl (L.cel (x, .cell) z rfl)
          · exact absurd z (by simp)
    refine ⟨_, sSs d.body (defBody st) _ ⟨N, defScope st, lk⟩ G hm, ?_⟩
    obtain ⟨φ, s, l, d', s', R, r, b, hc, k⟩ := q
    simp only [DV.callN, e] at hc
    split at hc
    case isFalse => cases hc
    rename_i hlen
    obtain ⟨c, s1, e1, hc⟩ := bind_inv hc
    refine ⟨φ, l.map some ++ List.replicate d.vs none, s, c, s1, re_start r b (by rw [h2, hlen]), R, e1, fun φ1 H1 g1 l1 R1 => ?_⟩
    cases c with
    | ret v0 =>
      intro v hb rv
      obtain ⟨φ', g', l', b', r', R'⟩ := canon_ok R g1 R1 hb rv hc
      exact k v φ' H1 g' l' b' r' R'
    | next ρ =>
      intro σ' _
      obtain ⟨φ', g', l', b', r', R'⟩ := canon_ok (v0 := .non) R g1 R1 rfl RV.nonI hc
      exact k .non φ' H1 g' l' b' r' R'
    | cont ρ => cases hc
    | brk ρ => cases hc
  by_cases hl : ∃ id caps E, lk id caps E = true
  · obtain ⟨id, caps, E, hlk⟩ := hl
    obtain ⟨c, Pa, params, body', scope, pos, J, eE, L⟩ := hL id caps E hlk
    exact hD.fn.okC L.code hS hlen (body _ fun _ _ _ _ => L.code)
  · exact hD.fn.ok hS hlen (fun cdv => body cdv fun id caps E h => absurd ⟨id, caps, E, h⟩ hl)
theorem lamN_ok {cds : List (Addr × Addr)} {P : DV.Pr} {prog : Program} {w : World} {mg : Str → Option Value} {base : Heap} (hP : PrOk Γ cds P mg) (n : Nat) (hcall : CallOk Γ prog w mg base (DV.callN P n) (n + 31))
    (id : String) (J : LamI) (f : Addr) (cap : List V) (clos : List (Str × Addr)) (hlg : Γ.lg id J) (hcap : cap.length = J.fr.length) :
    ClOk prog w Γ.K mg base (n + 1 + 31) (fun H => LamAt H f J.qual J.params J.body J.scope J.fr cap clos) f (spL Γ ((DV.callN P (n + 1)).lam id) cap) := by
  obtain ⟨L, eL, LG⟩ := hP.lg id J hlg
  refine lam_ok2 LG.sc (fun vs H Q E q => ?_) hcap (fun pm c' ctv us hus => LG.bind clos pm c' ctv us hus) (fun A outer sh H cd vs Q hr hat hK q => ?_)
  · obtain ⟨φ, s, cs, l, d, s', R, r, rc, b, bc, hc, k⟩ := q
    simp only [DV.callN, eL] at hc
    split at hc
    · rename_i hh; rw [r.length, LG.ps]; exact hh.1
    · cases hc
  · have G : CG Γ (DV.callN P n) (n + 31) (cxLam prog w Γ.K mg base (J.ps ++ J.fr) J.qual J.scope f cd clos A outer sh H) (ck0 (J.ps ++ J.fr) J.scope) := by
      refine ⟨rfl, rfl, LG.sc.nd, rfl, rfl, ?_, hr, fun x k e => .inl e, fun x e => ?_, hP.bi, hcall.1, ?_, fun _ _ _ h => (by cases h), hcall.2, hP.fa⟩
      · show DV.DEEP + 1 ≤ n + 31
        unfold DV.DEEP; omega
      · show (J.scope.names.lookup x == some .cell) = true
        rw [show J.scope.names.lookup x = some .cell from e]; rfl
      · have : (DV.callN P n).con = P.con := by cases n <;> rfl
        rw [this]; exact hP.con
    refine ⟨_, (sE L.body J.body _ (ck0 (J.ps ++ J.fr) J.scope) G LG.m).1, ?_⟩
    obtain ⟨φ, s, cs, l, d, s', R, r, rc, b, bc, hc, k⟩ := q
    simp only [DV.callN, eL] at hc
    split at hc
    case isFalse => cases hc
    rename_i hh
    obtain ⟨h1, h2, h3⟩ := hh
    rw [Bool.and_eq_true, Bool.and_eq_true] at h3
    obtain ⟨⟨hn1, hn2⟩, hn3⟩ := h3
    obtain ⟨v0, s1, e1, hc⟩ := bind_inv hc
    obtain ⟨pm, c', ctv, _, _, hcells, _⟩ := hat
    have RD : Rp Γ φ (Drop clos H) s := R.dropC hcells hn3
    have rall : RVL Γ φ (Drop clos H) (l ++ cs) (vs ++ cap) := (RVL.dropC hcells l vs hn1 r).append (RVL.dropC hcells cs cap hn2 rc)
    refine ⟨φ, l.map some ++ cs.map some, s, v0, s1, ⟨by simp [r.length, rc.length], fun i x ei => ?_⟩, RD, e1, fun v φ1 H1 g1 l1 b1 r1 R1 gone => ?_⟩
    · rw [← List.map_append, List.getElem?_map] at ei
      have ei' : (l ++ cs)[i]? = some x := by
        cases q : (l ++ cs)[i]? with
        | none => rw [q] at ei; cases ei
        | some y => rw [q] at ei; cases ei; rfl
      obtain ⟨u, e3, e4⟩ := rall.get ei'
      refine ⟨bndL_get (bndL_append b bc) ei', u, ?_, e4⟩
      rw [← List.map_append, List.getElem?_map, e3]; rfl
    · obtain ⟨φ', g', l', b', r', R'⟩ := canon_ok RD g1 R1 b1 r1 hc
      have gp := Gr.put hcells gone hK R' g'
      obtain ⟨gs, Rs⟩ := R'.same (putC_same (H := H) gone)
      exact k v φ' _ gp l' b' (RV.mono gs d v b' r') Rs
theorem call_ok {cds : List (Addr × Addr)} {P : DV.Pr} {prog : Program} {w : World} {mg : Str → Option Value} {base : Heap} (hP : PrOk Γ cds P mg) (hb : ∀ y ∈ cds, PySem.W.CodeHd base y.1 y.2 ∧ BM mg base) : ∀ n : Nat, CallOk Γ prog w mg base (DV.callN P n) (n + 31)
  | 0 => ⟨fun f => .inl fun l s => rfl, fun id J f cap clos _ _ => ⟨fun A outer s H us vs Q _ _ _ _ q => by
      obtain ⟨φ, s, cs, l, d, s', R, r, rc, b, bc, hc, k⟩ := q
      cases hc⟩⟩
  | n + 1 => by
    have ih : CallOk Γ prog w mg base (DV.callN P n) (n + 31) := call_ok hP hb n
    refine ⟨fun f => ?_, fun id J f cap clos h1 h2 => lamN_ok hP n ih id J f cap clos h1 h2⟩
    cases e : P.df f with
    | none => exact .inl fun l s => by simp only [DV.callN, e]
    | some d =>
      obtain ⟨st, N, ps, a, fd, lk, hD, hS, h1, h2, hm, hL⟩ := hP.df f d e
      exact .inr ⟨a, fd, ps, fn_ok hP hb n ih e hD hS h1 h2 hm hL, hD.mg, hD.fn.kp, hD.bi⟩
/-! ### the law -/
/-- the script and a wish: true, whatever stands -/
noncomputable def spT (Γ : Gm) : Sp := fun vs H Q _ => ∃ (a : Addr) (ns : List Int), vs = [.ref a] ∧ SqF Γ.K H a (ns.map V.int) ∧ ns.length ≤ 63 ∧ TabsH Γ.T H ∧ ∀ H', Q (.bl true) H'
theorem rvl_ints {φ : Nat → Addr} {H : Hp} : ∀ ns : List Int, RVL Γ φ H (ns.map DV.D.int) (ns.map V.int)
  | [] => .nil
  | n :: ns => .cons RV.intI (rvl_ints ns)
theorem bndL_ints {m : Nat} : ∀ ns : List Int, DV.D.bndL m (ns.map DV.D.int) = true
  | [] => rfl
  | n :: ns => by rw [List.map_cons]; unfold DV.D.bndL; rw [bndL_ints ns]; rfl
theorem spT_of {P : DV.Pr} {k : Nat} (h : ∀ ns : List Int, ns.length ≤ 63 → ∃ s', (DV.callN P k).call "law" [.ref 0] [.ro (ns.map DV.D.int)] = .ok (.bl true) s') (vs : List V) (H : Hp) (Q : VK) (E : XK) (q : spT Γ vs H Q E) : spV Γ ((DV.callN P k).call "law") vs H Q E := by
  obtain ⟨a, ns, rfl, hS, hl, hT, hQ⟩ := q
  obtain ⟨s', hs⟩ := h ns hl
  refine ⟨fun _ => a, [.ro (ns.map DV.D.int)], [.ref 0], .bl true, s', ⟨fun i j o o' e e' m m' _ => ?_, fun i o e => ?_, fun i o e => ?_, hT⟩, .cons RV.refI .nil, ?_, hs, fun v φ' H' g l b r R => ?_⟩
  · cases i with
    | zero => cases e; cases m
    | succ i => cases e
  · cases i with
    | zero => cases e; exact ⟨_, hS, rvl_ints ns⟩
    | succ i => cases e
  · cases i with
    | zero => cases e; unfold DV.O.bnd; exact bndL_ints ns
    | succ i => cases e
  · unfold DV.D.bndL DV.D.bnd DV.D.bndL; rfl
  · rw [r.blE]; exact hQ H'
theorem good_tbl {cds : List (Addr × Addr)} {mg : Str → Option Value} : ∀ {tbl : List (String × DV.Df)}, (∀ p ∈ tbl, Good Γ cds mg p.1 p.2) → ∀ f d, tbl.lookup f = some d → Good Γ cds mg f d
  | [], _, f, d, h => by cases h
  | (g, e) :: tbl, H, f, d, h => by
    rw [List.lookup_cons] at h
    cases q : f == g with
    | true =>
      rw [q] at h
      cases h
      rw [eq_of_beq q]
      exact H (g, _) (List.mem_cons_self ..)
    | false =>
      rw [q] at h
      exact good_tbl (fun p hp => H p (List.mem_cons_of_mem _ hp)) f d h
noncomputable def GoodC (Γ : Gm) (mg : Str → Option Value) (x : String) (d : DV.D) : Prop := ∃ v u, mg (x : Str) = some u ∧ RelV v u ∧ (∀ m, d.bnd m = true) ∧ ∀ φ H, RV Γ φ H d v
theorem con_tbl {mg : Str → Option Value} : ∀ {tbl : List (String × DV.D)}, (∀ p ∈ tbl, GoodC Γ mg p.1 p.2) → ∀ f d, tbl.lookup f = some d → GoodC Γ mg f d
  | [], _, f, d, h => by cases h
  | (g, e) :: tbl, H, f, d, h => by
    rw [List.lookup_cons] at h
    cases q : f == g with
    | true =>
      rw [q] at h
      cases h
      rw [eq_of_beq q]
      exact H (g, _) (List.mem_cons_self ..)
    | false =>
      rw [q] at h
      exact con_tbl (fun p hp => H p (List.mem_cons_of_mem _ hp)) f d h
end
end L2
end

set_option Elab.async false
set_option linter.all false
set_option maxRecDepth 100000
set_option maxHeartbeats 4000000
noncomputable section
namespace L2
open PySem PySem.Spec PyProof.Rows
/-- the head, where tables of code objects are written by lambdas -/
theorem law_callT2 {P : Program} {w : World} {K : PySem.W.Frag} {mg mb : Str → Option Value} {k : Nat} {fa a : Addr} {fd : FuncData} {x : Str} {sp : Sp} {s₁ : Shared} {vs : List Value} {ns : List Int} {tabs : List (Addr × Addr)}
    (KX : K.In s₁.heap) (hns : s₁.heap.Ns mainGlobals mg) (hb : s₁.heap.Ns builtinsNs mb) (hbb : ∀ x : Str, x ≠ "__name__" → mb x = bootBuiltins x) (hlim : s₁.heap.NoLimit) (hg : s₁.gens = #[]) (hBM : BM mg s₁.heap) (hT : PySem.W.TabsAt tabs s₁.heap) (hnt : PySem.W.noTabs K = true)
    (ha : s₁.heap.get? a = some { cls := .type "list", data := .seq vs.toArray }) (hi : IntsAre vs ns) (hl : ns.length ≤ sizeLine) (hr : Room k callerA)
    (F : ∀ base : Heap, K.In base → base.Ns mainGlobals mg → BM mg base → (∀ q ∈ tabs, PySem.W.CodeHd base q.1 q.2) → FnOk P w K mg base CX0 k fa fd [x] sp) (hbind : ∀ (s : Shared) (u : Value), BindsTo s fd ⟨[u], []⟩ [(x, u)])
    (hsp : ∀ H : Hp, (∀ q ∈ tabs, H q.2 = some (.tbl #[])) → SqL K H a (ns.map V.int) → (∀ u, H a = some u → (∃ o xs, u = .frz o (.lst xs)) ∨ ∃ ps, u = .tbl ps) → sp [.ref a] H (fun v _ => v = .bl true) E0) :
    codeAny (model P w) callerA (.call (.ref fa) ⟨[.ref a], []⟩) (fun r s' => r = .ok (.ret (.bool true)) ∧ OldK s₁.heap s'.heap ∧ s'.os = s₁.os ∧ AllBare s'.gens) s₁ := by
  have rv := vals_ints hi
  have lenV := hi.length
  have tabO : ∀ b, b ∈ tabs.map (·.2) → s₁.heap.get? b = some (PySem.W.tabObj #[]) := fun b h => by
    obtain ⟨q, hq, rfl⟩ := List.mem_map.mp h
    exact (hT q hq).2
  have core : ∀ H : Hp, (∀ b u, H b = some u → (b = a ∧ ∃ o xs, u = .frz o (.lst xs)) ∨ (b ∈ tabs.map (·.2) ∧ u = .tbl #[])) → (∀ q ∈ tabs, H q.2 = some (.tbl #[])) → SqL K H a (ns.map V.int) → HOk P w H s₁.heap → (H a ≠ none → K.lookup a = none) →
      codeAny (model P w) callerA (.call (.ref fa) ⟨[.ref a], []⟩) (fun r s' => r = .ok (.ret (.bool true)) ∧ OldK s₁.heap s'.heap ∧ s'.os = s₁.os ∧ AllBare s'.gens) s₁ := by
    intro H hO hTb hS hok hK
    have un : ∀ b o, s₁.heap.get? b = some o → o.cls ≠ .type "list" → (∀ vs, o.data ≠ .fields vs) → H b = none := fun b o e n1 n2 => by
      cases q : H b with
      | none => rfl
      | some u =>
        rcases hO b u q with ⟨z, _⟩ | ⟨z, _⟩
        · rw [z, ha] at e; cases e; exact absurd rfl n1
        · rw [tabO b z] at e; cases e; exact absurd rfl (n2 #[])
    have nsK : ∀ {b : Addr} {m : Str → Option Value}, s₁.heap.Ns b m → (hidT s₁.heap H).Ns b m := fun {b m} ⟨o, es, ep, e, d, r⟩ => by
      refine ⟨o, es, ep, hidT_get e ?_, d, r⟩
      cases q : H b with
      | none => rfl
      | some u =>
        rcases hO b u q with ⟨z, _⟩ | ⟨z, _⟩
        · rw [z, ha] at e; cases e; cases d
        · rw [tabO b z] at e; cases e; cases d
    have hKb : K.In (hidT s₁.heap H) := fun b o e => hidT_get (KX b o e) (by
      cases q : H b with
      | none => rfl
      | some u =>
        rcases hO b u q with ⟨z, _⟩ | ⟨z, _⟩
        · subst z
          rw [hK (by rw [q]; simp)] at e; cases e
        · have e2 := KX b o e
          rw [tabO b z] at e2
          have h2 := List.all_eq_true.mp hnt (b, o) (PySem.W.mem_of_lookupK e)
          have e3 : o = PySem.W.tabObj #[] := (Option.some.inj e2).symm
          subst e3
          exact absurd (show false = true from h2) Bool.false_ne_true)
    have hM : Mod K mg (hidT s₁.heap H) := ⟨hKb, nsK hns, ⟨mb, nsK hb, hbb⟩, let ⟨mc, h1, h2⟩ := hlim; ⟨mc, nsK h1, h2⟩⟩
    have hB2 : BM mg (hidT s₁.heap H) := by
      obtain ⟨bm, ob, b1, b2, b3, b4, b5, b6⟩ := hBM
      exact ⟨bm, ob, b1, b2, hidT_get b3 (un bm ob b3 (by rw [b4]; nofun) (by rw [b6]; nofun)), b4, b5, b6⟩
    have hC2 : ∀ q ∈ tabs, PySem.W.CodeHd (hidT s₁.heap H) q.1 q.2 := fun q hq => by
      obtain ⟨o, vs', file, tf, flags, tg, inF, text, tt, e1, r1, r2⟩ := (hT q hq).1
      refine ⟨o, vs', file, tf, flags, tg, inF, text, tt, hidT_get e1 ?_, r1, r2⟩
      cases q2 : H q.1 with
      | none => rfl
      | some u =>
        rcases hO _ u q2 with ⟨z, _⟩ | ⟨z, _⟩
        · rw [z, ha] at e1; cases e1; exact absurd r1 (by simp)
        · rw [tabO _ z] at e1; cases e1; exact absurd r1 (by simp)
    have e0 : Env0 P w K mg (hidT s₁.heap H) callerA [] s₁ H := ⟨rfl, hM, fun b o e => of_hidT e, Nat.le_of_eq (hidT_size _ _), trivial, fun b hb => absurd (show b ∈ ([] : List Addr) from hb) (by simp), hok, .of_eq hg⟩
    refine codeAny_mono ((F _ hKb (nsK hns) hB2 hC2).run callerA [] s₁ H ⟨[.ref a], []⟩ [.ref a] [.ref a] _ _ hr e0 (hbind s₁ (.ref a)) (.cons rfl .nil) (hsp H hTb hS (fun u e => (hO a u e).elim (fun z => .inl z.2) (fun z => .inr ⟨_, z.2⟩)))) fun r s' h => ?_
    cases r with
    | error e => exact False.elim h
    | ok fl =>
      cases fl with
      | next => exact False.elim h
      | brk => exact False.elim h
      | cont => exact False.elim h
      | ret u =>
        obtain ⟨v, H', os, bare, un', hok', r', q⟩ := h
        have q' : v = .bl true := q
        subst q'
        obtain rfl : u = Value.bool true := r'
        have key : ∀ b o, s₁.heap.get? b = some o → asItWas s₁.heap s'.heap b o ∧ ∃ o', s'.heap.get? b = some o' := fun b o e => by
          cases q : H b with
          | none =>
            have z := un'.keep b o e q (by intro z; exact absurd (show b ∈ ([] : List Addr) from z) (by simp)) (by simp)
            exact ⟨.inl z, o, z⟩
          | some u =>
            rcases hO b u q with ⟨_, ob, xs, z⟩ | ⟨z, z2⟩
            · subst z
              have z2 := un'.frzs b ob _ q
              obtain ⟨e1, _⟩ := hok b _ q
              obtain ⟨e2, _⟩ := hok' b _ z2
              rw [e] at e1; cases e1
              exact ⟨.inl e2, _, e2⟩
            · subst z2
              obtain ⟨more, z3⟩ := un'.tbls b _ q
              have g : s'.heap.get? b = some { cls := .none, data := .fields (#[] ++ more) } := hok' b _ z3
              have e1 := tabO b z
              rw [e] at e1; cases e1
              obtain ⟨p, hp, ep⟩ := List.mem_map.mp z
              refine ⟨.inr (.inl ⟨?_, rfl, #[], more, rfl, g⟩), _, g⟩
              have t := ((hT p hp).1.tab (hT p hp).2).isCodeTable
              rw [ep] at t
              exact t
        exact ⟨rfl, ⟨fun b o e => (key b o e).1, fun b o e => (key b o e).2⟩, os, bare⟩
  have tbl : ∀ b, b ∈ tabs.map (·.2) → b ≠ a := fun b h z => by
    have e := tabO b h
    rw [z, ha] at e; cases e
  cases hk : K.lookup a with
  | some o =>
    have e := KX a o hk
    rw [ha] at e
    cases e
    refine core (fun b => if b ∈ tabs.map (·.2) then some (.tbl #[]) else none) (fun b u z => ?_) (fun q hq => if_pos (List.mem_map_of_mem hq)) (.inr ⟨_, vs.toArray, _, hk, rfl, rfl, rfl, by rw [List.size_toArray, lenV]; exact hl, by simpa using rv⟩) (fun b u z => ?_) fun z => ?_
    · by_cases hb : b ∈ tabs.map (·.2)
      · have z' := (if_pos hb).symm.trans z
        cases z'
        exact .inr ⟨hb, rfl⟩
      · have z' := (if_neg hb).symm.trans z
        cases z'
    · by_cases hb : b ∈ tabs.map (·.2)
      · have z' := (if_pos hb).symm.trans z
        cases z'
        exact tabO b hb
      · have z' := (if_neg hb).symm.trans z
        cases z'
    · exact absurd (if_neg fun y => tbl a y rfl) z
  | none =>
    refine core (fun b => if b = a then some (.frz { cls := .type "list", data := .seq vs.toArray } (.lst (ns.map V.int))) else if b ∈ tabs.map (·.2) then some (.tbl #[]) else none) (fun b u z => ?_) (fun q hq => ?_) (.inl (.inr ⟨{ cls := .type "list", data := .seq vs.toArray }, if_pos rfl⟩)) (fun b u z => ?_) fun _ => hk
    · by_cases hb : b = a
      · have z' := (if_pos hb).symm.trans z
        cases z'
        exact .inl ⟨hb, _, _, rfl⟩
      · have z' := (if_neg hb).symm.trans z
        by_cases hc : b ∈ tabs.map (·.2)
        · rw [if_pos hc] at z'; cases z'; exact .inr ⟨hc, rfl⟩
        · rw [if_neg hc] at z'; cases z'
    · have hm : q.2 ∈ tabs.map (·.2) := List.mem_map_of_mem hq
      show (if _ then _ else if _ then _ else _) = _
      rw [if_neg (tbl _ hm), if_pos hm]
    · by_cases hb : b = a
      · have z' := (if_pos hb).symm.trans z
        cases z'
        subst hb
        exact ⟨ha, by rw [List.length_map]; exact hl, vs, _, rv, ha⟩
      · have z' := (if_neg hb).symm.trans z
        by_cases hc : b ∈ tabs.map (·.2)
        · rw [if_pos hc] at z'; cases z'; exact tabO b hc
        · rw [if_neg hc] at z'; cases z'

theorem walk_ofT2 {ts : List Addr} {l : PySem.W.OpenLaw} {n k : Nat} {q : Program} {loose : List Str} {XP : (Str → Option Value) → Heap → Prop} {YP : World → Heap → Prop} {d : DefRec} {K : Params → PySem.W.Frag} {sp : PySem.W.Frag → Sp} {x : Str} (names : List Str)
    (hn : l.most = some n) (hn2 : n ≤ sizeLine) (hdf : d.params.defaults = []) (hr : Room k callerA)
    (hY : ∀ (w : World) (h : Heap), YP w h → (K w.params).In h ∧ ∀ P ∈ ts, h.get? P = some (PySem.W.tabObj #[])) (hrec : ∀ w : World, tabsIn (K w.params) names ts = true) (hnt : ∀ w : World, PySem.W.noTabs (K w.params) = true)
    (F : ∀ (w : World) (mg : Str → Option Value) (fa : Addr) (h : Heap), (K w.params).In h → h.Ns mainGlobals mg → mg d.name = some (.ref fa) →
      ∃ fd : FuncData, (∀ (s : Shared) (u : Value), BindsTo s fd ⟨[u], []⟩ [(x, u)]) ∧
        ∀ base : Heap, (K w.params).In base → base.Ns mainGlobals mg → BM mg base → Codes (K w.params) names base → FnOk l.prog w (K w.params) mg base CX0 k fa fd [x] (sp (K w.params)))
    (hsp : ∀ (K : PySem.W.Frag) (H : Hp) (a : Addr) (ns : List Int), ns.length ≤ n → Blank K names H → SqL K H a (ns.map V.int) → (∀ u, H a = some u → (∃ o xs, u = .frz o (.lst xs)) ∨ ∃ ps, u = .tbl ps) → sp K [.ref a] H (fun v _ => v = .bl true) E0) :
    PySem.W.WalkO q loose XP YP l.row.toRowW d [] (fun f vs => PySem.call f vs) := by
  refine Att.attach_call hn hdf fun w s₀ s₁ mg mb fa o pm cd doc a vs ns G Y ho hd hcd hmg hobj hints hlen hg => ?_
  obtain ⟨KX, tsX⟩ := hY w _ Y
  obtain ⟨fd, hb, hF⟩ := F w mg fa _ KX G.T.g hmg
  have hT : PySem.W.TabsAt ((tabsOf (K w.params) names).map (·.2)) s₁.heap := fun p hp => by
    obtain ⟨y, hy, rfl⟩ := List.mem_map.mp hp
    obtain ⟨h1, h2⟩ := mem_tabsOf.mp hy
    have z := List.all_eq_true.mp (hrec w) y.1 h1
    rw [h2] at z
    have z' : (PySem.W.codeHdIn (K w.params) y.2.1 y.2.2 && ts.contains y.2.2) = true := z
    rw [Bool.and_eq_true] at z'
    exact ⟨PySem.W.codeHd_of_K KX z'.1, tsX _ (by simpa using z'.2)⟩
  have hm : ∀ x ∈ names, ∀ c P, PySem.W.tabIn (K w.params) x = some (c, P) → (c, P) ∈ (tabsOf (K w.params) names).map (·.2) := fun x hx c P e => List.mem_map.mpr ⟨(x, c, P), mem_tabsOf.mpr ⟨hx, e⟩, rfl⟩
  refine law_callT2 (tabs := (tabsOf (K w.params) names).map (·.2)) KX G.T.g G.T.b G.T.builtins G.T.nolimit hg ?_ hT (hnt w) hobj hints (Nat.le_trans hlen hn2) hr (fun base k1 k2 k3 k4 => hF base k1 k2 k3 fun x hx c P e => k4 _ (hm x hx c P e)) hb fun H hO hS hF => hsp (K w.params) H a ns hlen (fun x hx c P e => hO _ (hm x hx c P e)) hS hF
  obtain ⟨bm, ob, h1, h2, h3, h4, h5, h6⟩ := G.T.bmain
  exact ⟨bm, ob, h1, h2, h3, h4, h5, h6⟩
/-! ### the law's promise, where lambdas are made -/
noncomputable def spB (names : List Str) (K : PySem.W.Frag) : Sp := fun vs H Q _ => ∃ (a : Addr) (ns : List Int), vs = [.ref a] ∧ SqF K H a (ns.map V.int) ∧ ns.length ≤ 63 ∧ Blank K names H ∧ ∀ H', Q (.bl true) H'
theorem spB_mk {names : List Str} {K : PySem.W.Frag} {H : Hp} {a : Addr} {ns : List Int} (hl : ns.length ≤ 63) (hB : Blank K names H) (hS : SqL K H a (ns.map V.int)) (hF : ∀ u, H a = some u → (∃ o xs, u = .frz o (.lst xs)) ∨ ∃ ps, u = .tbl ps) : spB names K [.ref a] H (fun v _ => v = .bl true) E0 := by
  refine ⟨a, ns, rfl, ⟨hS, fun H' k => ?_⟩, hl, hB, fun _ => rfl⟩
  rcases hS with (h | ⟨o, h⟩) | h
  · rcases hF _ h with ⟨_, _, z⟩ | ⟨_, z⟩ <;> cases z
  · exact .inl (.inr ⟨o, k _ _ h rfl⟩)
  · exact .inr h
noncomputable def lgOf (P : DV.Pr) : String → LamI → Prop := fun id J => ∃ L, P.lm id = some L ∧ LamGood J L
noncomputable def tabsT (names : List Str) (K : PySem.W.Frag) : List (Addr × Str) := names.map fun x => (((PySem.W.tabIn K x).getD (0, 0)).2, x ++ ".<locals>." ++ "<lambda>")
noncomputable def cdsT (names : List Str) (K : PySem.W.Frag) : List (Addr × Addr) := names.map fun x => (PySem.W.tabIn K x).getD (0, 0)
/-- where a def of the text stands -/
noncomputable def faOf (K : PySem.W.Frag) (f : String) : Option Addr := match PySem.W.nsIn K mainGlobals (f : Str) with
  | some (some (.ref a)) => (match K.lookup a with
    | some ⟨_, _, .func _, _⟩ => some a
    | _ => none)
  | _ => none
theorem faOf_inv {K : PySem.W.Frag} {f : String} {a : Addr} (h : faOf K f = some a) : PySem.W.nsIn K mainGlobals (f : Str) = some (some (.ref a)) ∧ ∃ oc od fd sl, K.lookup a = some ⟨oc, od, .func fd, sl⟩ := by
  unfold faOf at h
  split at h
  · rename_i a' e
    split at h
    · rename_i oc od fd sl e2
      cases h
      exact ⟨e, _, _, _, _, e2⟩
    · cases h
  · cases h
noncomputable abbrev gmOf (names : List Str) (P : DV.Pr) (K : PySem.W.Frag) : Gm := ⟨K, faOf K, lgOf P, tabsT names K⟩
theorem fa_ok {names : List Str} {P : DV.Pr} {K : PySem.W.Frag} {h : Heap} {mg : Str → Option Value} (X : K.In h) (G : h.Ns mainGlobals mg) : ∀ (f : String) (a : Addr), (gmOf names P K).fa f = some a → mg (f : Str) = some (.ref a) ∧ ∃ oc od fd sl, (gmOf names P K).K.lookup a = some ⟨oc, od, .func fd, sl⟩ := fun f a e => ⟨PySem.W.mg_of X G (faOf_inv e).1, (faOf_inv e).2⟩
theorem spT_of_B {names : List Str} {P : DV.Pr} {K : PySem.W.Frag} (ht : ∀ x ∈ names, (PySem.W.tabIn K x).isSome = true) {vs : List V} {H : Hp} {Q : VK} {E : XK} (q : spB names K vs H Q E) : spT (gmOf names P K) vs H Q E := by
  obtain ⟨a, ns, e, hS, hl, hB, hQ⟩ := q
  refine ⟨a, ns, e, hS, hl, TabsH.init fun p hp => ?_, hQ⟩
  simp only [tabsT, List.map_map] at hp
  obtain ⟨x, hx, rfl⟩ := List.mem_map.mp hp
  exact hB x hx _ _ (tab_some (ht x hx))
theorem cds_ok {names : List Str} {K : PySem.W.Frag} {mg : Str → Option Value} {base : Heap} (ht : ∀ x ∈ names, (PySem.W.tabIn K x).isSome = true) (bm : BM mg base) (hc : Codes K names base) : ∀ y ∈ cdsT names K, PySem.W.CodeHd base y.1 y.2 ∧ BM mg base := fun y hy => by
  obtain ⟨x, hx, rfl⟩ := List.mem_map.mp hy
  exact ⟨hc x hx _ _ (tab_some (ht x hx)), bm⟩
/-! ### lambdas of a text -/
noncomputable def lamArgs : Arguments → Option (List Str)
  | ⟨[], args, none, [], [], none, []⟩ => some (args.map (·.arg))
  | _ => none
theorem lamArgs_inv {p : Arguments} {ps : List Str} (h : lamArgs p = some ps) : ∃ args, p = ⟨[], args, none, [], [], none, []⟩ ∧ args.map (·.arg) = ps := by
  unfold lamArgs at h
  split at h
  · exact ⟨_, rfl, Option.some.inj h⟩
  · cases h
noncomputable def BindG (ps : List Str) : Prop := ∀ params, lamArgs params = some ps → ∀ (qual : Str) (body : Expr) (scope : Scope) (clos : List (Str × Addr)) (pm : Value) (c' : Addr) (ctv : Value) (us : List Value), us.length = ps.length → bindArgs (PySem.W.kla_fn "<lambda>" qual params body scope clos pm (.ref c') ctv) ⟨us, []⟩ = pure (ps.zip us)
noncomputable def lamScB (ps fr : List Str) (sc : Scope) : Bool := decide (sc.kind = .function) && !sc.isCoroutine && !sc.isGenerator && decide ((ps ++ fr).Nodup) && (ps.all fun x => decide (sc.names.lookup x = some .local) || decide (sc.names.lookup x = some .cell)) && (fr.all fun x => decide (sc.names.lookup x = some .free)) && (sc.names.all fun y => !decide (y.2 = .cell) || decide (sc.names.lookup y.1 = some .cell))
theorem lamScB_ok {ps fr : List Str} {sc : Scope} (h : lamScB ps fr sc = true) : LamScope (ps ++ fr) ps fr sc := by
  unfold lamScB at h
  simp only [Bool.and_eq_true, decide_eq_true_eq, Bool.not_eq_true', List.all_eq_true, Bool.or_eq_true] at h
  obtain ⟨⟨⟨⟨⟨⟨h1, h2⟩, h3⟩, h4⟩, h5⟩, h6⟩, h7⟩ := h
  exact ⟨h1, h2, h3, h4, rfl, h5, h6, fun y hy e => by
    rcases h7 y hy with z | z
    · rw [e] at z; simp at z
    · exact z⟩
noncomputable def freeB (scope sc : Scope) : Bool := scope.names.all fun y => !decide (scope.names.lookup y.1 = some .free) || decide (sc.names.lookup y.1 = some .cell)
theorem freeB_ok {scope sc : Scope} (h : freeB scope sc = true) : ∀ x, scope.names.lookup x = some .free → sc.names.lookup x = some .cell := fun x hx => by
  have := List.all_eq_true.mp h (x, .free) (PySem.mem_of_lookup hx)
  simp only [Bool.or_eq_true, Bool.not_eq_true', decide_eq_false_iff_not, decide_eq_true_eq] at this
  rcases this with z | z
  · exact absurd hx z
  · exact z
noncomputable def lkG (sc : Scope) (N : List Str) (tab : List (String × DV.Lm × List Str × List Str)) (id : String) (caps : List Nat) (E : Expr) : Bool := match tab.lookup id, E with
  | some (L, ps, fr), .Lambda params body scope _ => decide (lamArgs params = some ps) && decide (caps.map (fun j => N[j]?) = fr.map some) && lamCheck scope sc && freeB scope sc && lamScB ps fr scope && decide (ps.length = L.ps) && decide (fr.length = L.cs) && mE (ck0 (ps ++ fr) scope) L.body body
  | _, _ => false
theorem lkOk_of {names : List Str} {P : DV.Pr} {K : PySem.W.Frag} {f : Str} {sc : Scope} {N : List Str} {fd : FuncData} {tab : List (String × DV.Lm × List Str × List Str)} (hf : f ∈ names) (hcode : fd.code = .ref ((PySem.W.tabIn K f).getD (0, 0)).1) (hcel : ∀ y ∈ sc.names, y.2 = .cell → sc.names.lookup y.1 = some .cell)
    (htab : ∀ id t, tab.lookup id = some t → P.lm id = some t.1 ∧ BindG t.2.1) : LkOk (gmOf names P K) (cdsT names K) f sc N fd (lkG sc N tab) := by
  intro id caps E h
  unfold lkG at h
  split at h
  case h_2 => cases h
  rename_i L ps fr params body scope pos e
  simp only [Bool.and_eq_true, decide_eq_true_eq] at h
  obtain ⟨⟨⟨⟨⟨⟨⟨h1, h2⟩, h3⟩, h4⟩, h5⟩, h6⟩, h7⟩, h8⟩ := h
  obtain ⟨hL, hB⟩ := htab id _ e
  obtain ⟨args, rfl, hargs⟩ := lamArgs_inv h1
  have hlen : fr.length = caps.length := by have := congrArg List.length h2; simpa using this.symm
  have S := lamScB_ok h5
  refine ⟨((PySem.W.tabIn K f).getD (0, 0)).1, ((PySem.W.tabIn K f).getD (0, 0)).2, _, body, scope, pos, ⟨f ++ ".<locals>." ++ "<lambda>", ⟨[], args, none, [], [], none, []⟩, body, scope, ps, fr⟩, rfl, ⟨hcode, List.mem_map.mpr ⟨f, hf, rfl⟩, h3, freeB_ok h4, hcel, fun env => rfl, ⟨L, hL, ⟨S, h6, h7, h8, fun clos pm c' ctv us hus => hB _ h1 _ _ _ _ _ _ _ _ hus⟩⟩, rfl, rfl, rfl, rfl, hlen, fun i j x e1 e2 => ?_, S.frs, List.mem_map.mpr ⟨f, hf, rfl⟩⟩⟩
  have e3 : (caps.map (fun j => N[j]?))[i]? = some (N[j]?) := by rw [List.getElem?_map, e1]; rfl
  rw [h2, List.getElem?_map, e2] at e3
  exact (Option.some.inj e3).symm
theorem lkOk_no {names : List Str} {P : DV.Pr} {K : PySem.W.Frag} {f : Str} {sc : Scope} {N : List Str} {fd : FuncData} : LkOk (gmOf names P K) (cdsT names K) f sc N fd (fun _ _ _ => false) := fun _ _ _ h => by cases h
theorem lg_ok {names : List Str} {P : DV.Pr} {K : PySem.W.Frag} : ∀ id J, (gmOf names P K).lg id J → ∃ L, P.lm id = some L ∧ LamGood J L := fun _ _ h => h
theorem lt_of {P : DV.Pr} {tab : List (String × DV.Lm × List Str × List Str)} (h : ∀ p ∈ tab, P.lm p.1 = some p.2.1 ∧ BindG p.2.2.1) : ∀ id t, tab.lookup id = some t → P.lm id = some t.1 ∧ BindG t.2.1 := by
  induction tab with
  | nil => intro id t e; cases e
  | cons y l ih =>
    intro id t e
    rw [List.lookup_cons] at e
    cases q : id == y.1 with
    | true =>
      rw [q] at e
      cases e
      rw [eq_of_beq q]
      exact h y (List.mem_cons_self ..)
    | false =>
      rw [q] at e
      exact ih (fun p hp => h p (List.mem_cons_of_mem _ hp)) id t e
end L2
end

set_option linter.all false
set_option maxRecDepth 100000
noncomputable section
namespace DV
noncomputable def d_grid : Df := ⟨"grid", 2, 2, (.cons (.asg (.one 2) (.lst .nil)) (.cons (.for_ (.one 3) (.rng1 (.var 0)) (.cons (.ex (.meth .append (.var 2) (.cons (.mk .tuple (.comp (.one 0) (.rng1 (.var 0)) (.callV 1 (.cons (.var 2) (.cons (.var 0) .nil))) [none, some 1, some 3])) .nil))) .nil)) (.cons (.ret (.mk .tuple (.seq (.var 2)))) .nil)))⟩
noncomputable def w_box : Df := ⟨"_law_box", 2, 4, (.cons (.asg (.one 2) (.cst (.int 0))) (.cons (.ite (.cmp .lt (.var 1) (.bi .len (.cons (.var 0) .nil))) (.cons (.asg (.one 2) (.bi .abs (.cons (.ix (.var 0) (.var 1)) .nil))) .nil) .nil) (.cons (.ite (.cmp .ge (.var 2) (.bin .pow (.cst (.int 10)) (.cst (.int 18)))) (.cons (.ret (.lst (.cons (.var 2) .nil))) .nil) .nil) (.cons (.asg (.one 3) (.cst (.int 0))) (.cons (.for_ (.one 4) (.rng1 (.cst (.int 128))) (.cons (.asg (.one 5) (.bin .mod (.bin .mul (.bin .add (.bin .add (.bin .add (.bin .mod (.var 2) (.cst (.int 2147483647))) (.bin .mul (.cst (.int 7919)) (.var 1))) (.bin .mul (.cst (.int 104729)) (.var 4))) (.cst (.int 97))) (.cst (.int 48271))) (.cst (.int 2147483647)))) (.cons (.asg (.one 3) (.bin .add (.bin .mul (.var 3) (.cst (.int 2147483647))) (.bin .mod (.bin .add (.bin .add (.bin .mul (.var 5) (.var 5)) (.bin .mul (.cst (.int 31)) (.var 4))) (.bin .fdiv (.var 2) (.cst (.int 2147483647)))) (.cst (.int 2147483647))))) .nil))) (.cons (.ret (.lst (.cons (.var 3) .nil))) .nil))))))⟩
noncomputable def w_draw : Df := ⟨"_law_draw", 2, 1, (.cons (.asg (.one 2) (.bin .mod (.ix (.var 0) (.cst (.int 0))) (.var 1))) (.cons (.setIx (.var 0) (.cst (.int 0)) (.bin .fdiv (.ix (.var 0) (.cst (.int 0))) (.var 1))) (.cons (.ret (.var 2)) .nil)))⟩
noncomputable def d_sign_product : Df := ⟨"sign_product", 2, 1, (.cons (.asg (.one 2) (.bi .len (.cons (.var 0) .nil))) (.cons (.ret (.callC "grid" (.ex (.var 2) (.lam "sign_product.0" [2, 0, 1] .nil)))) .nil))⟩
noncomputable def d_sign_product_l0 : Lm := ⟨"sign_product.0", 2, 3, (.mk .min (.comp (.one 0) (.rng1 (.var 2)) (.bi .max2 (.cons (.ix (.ix (.var 1) (.var 2)) (.var 0)) (.cons (.ix (.ix (.var 3) (.var 0)) (.var 4)) .nil))) [none, some 3, some 0, some 4, some 1]))⟩
noncomputable def d_is_steady : Df := ⟨"is_steady", 1, 0, (.cons (.ret (.cmp .eq (.call "sign_product" (.ex (.var 0) (.ex (.var 0) .nil))) (.var 0))) .nil)⟩
noncomputable def d_round_of : Df := ⟨"round_of", 1, 0, (.cons (.ite (.or (.cmp .eq (.var 0) (.glob "FREE")) (.cmp .eq (.var 0) (.glob "NONE"))) (.cons (.ret (.var 0)) .nil) .nil) (.cons (.ret (.glob "UNBOUND")) .nil))⟩
noncomputable def d_sharpened : Df := ⟨"sharpened", 1, 2, (.cons (.ite (.not (.call "is_steady" (.ex (.var 0) .nil))) (.cons .raise .nil) .nil) (.cons (.asg (.one 1) (.bi .len (.cons (.var 0) .nil))) (.cons (.asg (.one 2) (.mk .list (.comp (.one 0) (.rng1 (.var 1)) (.call "round_of" (.ex (.ix (.ix (.var 1) (.var 0)) (.var 0)) .nil)) [none, some 0]))) (.cons (.ret (.callC "grid" (.ex (.var 1) (.lam "sharpened.0" [1, 0, 2] .nil)))) .nil))))⟩
noncomputable def d_sharpened_l0 : Lm := ⟨"sharpened.0", 2, 3, (.mk .min (.comp (.one 0) (.rng1 (.var 2)) (.bi .max3 (.cons (.ix (.ix (.var 1) (.var 2)) (.var 0)) (.cons (.ix (.var 3) (.var 0)) (.cons (.ix (.ix (.var 1) (.var 0)) (.var 4)) .nil)))) [none, some 3, some 0, some 4, some 1]))⟩
noncomputable def d_steady_power : Df := ⟨"steady_power", 1, 2, (.cons (.asg (.one 1) (.cst (.int 1))) (.cons (.asg (.one 2) (.var 0)) (.cons (.whl (.not (.call "is_steady" (.ex (.var 2) .nil))) (.cons (.aug 1 (.cst (.int 1))) (.cons (.asg (.one 2) (.call "sign_product" (.ex (.var 2) (.ex (.var 0) .nil)))) .nil))) (.cons (.ret (.tup (.cons (.var 1) (.cons (.var 2) .nil)))) .nil))))⟩
noncomputable def d_folded : Df := ⟨"folded", 4, 2, (.cons (.asg (.one 4) (.lst .nil)) (.cons (.for_ (.one 5) (.seq (.var 0)) (.cons (.ite (.cmp .eq (.ix (.var 5) (.cst (.int 0))) (.cst (.str [108, 101, 116, 116, 101, 114]))) (.cons (.ex (.meth .append (.var 4) (.cons (.callV 1 (.cons (.ix (.var 5) (.cst (.int 1))) .nil)) .nil))) .nil) (.cons (.ite (.cmp .eq (.ix (.var 5) (.cst (.int 0))) (.cst (.str [112, 97, 105, 114]))) (.cons (.ex (.meth .append (.var 4) (.cons (.callV 2 (.cons (.ix (.var 4) (.ix (.var 5) (.cst (.int 1)))) (.cons (.ix (.var 4) (.ix (.var 5) (.cst (.int 2)))) .nil))) .nil))) .nil) (.cons (.ex (.meth .append (.var 4) (.cons (.callV 3 (.cons (.ix (.var 4) (.ix (.var 5) (.cst (.int 1)))) (.cons (.ix (.var 5) (.cst (.int 2))) .nil))) .nil))) .nil)) .nil)) .nil)) (.cons (.ret (.var 4)) .nil)))⟩
noncomputable def d_counted : Df := ⟨"counted", 2, 0, (.cons (.ret (.callC "folded" (.ex (.var 0) (.lam "counted.2" [1] (.lam "counted.1" [] (.lam "counted.0" [] .nil)))))) .nil)⟩
noncomputable def d_counted_l0 : Lm := ⟨"counted.0", 2, 0, (.bin .mul (.var 0) (.var 1))⟩
noncomputable def d_counted_l1 : Lm := ⟨"counted.1", 2, 0, (.bin .add (.var 0) (.var 1))⟩
noncomputable def d_counted_l2 : Lm := ⟨"counted.2", 1, 1, (.var 1)⟩
noncomputable def w_tall_2 : Df := ⟨"_law_tall", 3, 2, (.cons (.asg (.one 3) (.lst (.cons (.tup (.cons (.cst (.str [108, 101, 116, 116, 101, 114])) (.cons (.ix (.cst (.str [97, 98, 99])) (.call "_law_draw" (.ex (.var 0) (.ex (.var 1) .nil)))) .nil))) .nil))) (.cons (.for_ (.one 4) (.rng1 (.call "_law_draw" (.ex (.var 0) (.ex (.var 2) .nil)))) (.cons (.ex (.meth .append (.var 3) (.cons (.tup (.cons (.cst (.str [112, 97, 105, 114])) (.cons (.var 4) (.cons (.bin .sub (.var 4) (.call "_law_draw" (.ex (.var 0) (.ex (.bin .add (.bi .min2 (.cons (.var 4) (.cons (.cst (.int 1)) .nil))) (.cst (.int 1))) .nil)))) .nil)))) .nil))) .nil)) (.cons (.ret (.mk .tuple (.seq (.var 3)))) .nil)))⟩
noncomputable def w_recipe : Df := ⟨"_law_recipe", 4, 6, (.cons (.asg (.one 4) (.lst .nil)) (.cons (.for_ (.one 5) (.rng1 (.bin .add (.cst (.int 1)) (.call "_law_draw" (.ex (.var 0) (.ex (.var 2) .nil))))) (.cons (.asg (.one 6) (.call "_law_draw" (.ex (.var 0) (.ex (.cst (.int 6)) .nil)))) (.cons (.asg (.one 7) (.call "_law_draw" (.ex (.var 0) (.ex (.bin .add (.var 5) (.cst (.int 1))) .nil)))) (.cons (.asg (.one 8) (.call "_law_draw" (.ex (.var 0) (.ex (.bin .add (.var 5) (.cst (.int 1))) .nil)))) (.cons (.asg (.one 9) (.bin .add (.cst (.int 1)) (.call "_law_draw" (.ex (.var 0) (.ex (.cst (.int 6)) .nil))))) (.cons (.ite (.cmp .eq (.call "_law_draw" (.ex (.var 0) (.ex (.cst (.int 3)) .nil))) (.cst (.int 2))) (.cons (.asg (.one 9) (.bin .add (.cst (.int 1)) (.call "_law_draw" (.ex (.var 0) (.ex (.bin .pow (.cst (.int 10)) (.cst (.int 30))) .nil))))) .nil) .nil) (.cons (.ite (.and (.cmp .gt (.var 5) (.cst (.int 0))) (.and (.cmp .lt (.var 6) (.cst (.int 3))) (.cmp .gt (.var 3) (.cst (.int 0))))) (.cons (.ex (.meth .append (.var 4) (.cons (.tup (.cons (.cst (.str [116, 105, 109, 101, 115])) (.cons (.bi .min2 (.cons (.var 7) (.cons (.bin .sub (.var 5) (.cst (.int 1))) .nil))) (.cons (.var 9) .nil)))) .nil))) (.cons (.asg (.one 3) (.bin .sub (.var 3) (.cst (.int 1)))) .nil)) (.cons (.ite (.and (.cmp .gt (.var 5) (.cst (.int 0))) (.cmp .lt (.var 6) (.cst (.int 5)))) (.cons (.ex (.meth .append (.var 4) (.cons (.tup (.cons (.cst (.str [112, 97, 105, 114])) (.cons (.bi .min2 (.cons (.var 7) (.cons (.bin .sub (.var 5) (.cst (.int 1))) .nil))) (.cons (.bi .min2 (.cons (.var 8) (.cons (.bin .sub (.var 5) (.cst (.int 1))) .nil))) .nil)))) .nil))) .nil) (.cons (.ex (.meth .append (.var 4) (.cons (.tup (.cons (.cst (.str [108, 101, 116, 116, 101, 114])) (.cons (.ix (.cst (.str [97, 98, 99])) (.bin .mod (.var 7) (.var 1))) .nil))) .nil))) .nil)) .nil)) .nil))))))) (.cons (.ret (.mk .tuple (.seq (.var 4)))) .nil)))⟩
noncomputable def d_long_length : Df := ⟨"long_length", 1, 0, (.cons (.ret (.ix (.call "counted" (.ex (.var 0) (.ex (.cst (.int 1)) .nil))) (.neg (.cst (.int 1))))) .nil)⟩
noncomputable def d_letter_at : Df := ⟨"letter_at", 2, 4, (.cons (.asg (.one 2) (.call "counted" (.ex (.var 0) (.ex (.cst (.int 1)) .nil)))) (.cons (.asg (.one 3) (.ix (.var 0) (.neg (.cst (.int 1))))) (.cons (.asg (.one 4) (.var 1)) (.cons (.whl (.cmp .ne (.ix (.var 3) (.cst (.int 0))) (.cst (.str [108, 101, 116, 116, 101, 114]))) (.cons (.asg (.one 5) (.ix (.var 3) (.cst (.int 1)))) (.cons (.ite (.cmp .eq (.ix (.var 3) (.cst (.int 0))) (.cst (.str [116, 105, 109, 101, 115]))) (.cons (.asg (.one 4) (.bin .mod (.var 4) (.ix (.var 2) (.var 5)))) .nil) (.cons (.ite (.cmp .ge (.var 4) (.ix (.var 2) (.var 5))) (.cons (.asg (.one 4) (.bin .sub (.var 4) (.ix (.var 2) (.var 5)))) (.cons (.asg (.one 5) (.ix (.var 3) (.cst (.int 2)))) .nil)) .nil) .nil)) (.cons (.asg (.one 3) (.ix (.var 0) (.var 5))) .nil)))) (.cons (.ret (.ix (.var 3) (.cst (.int 1)))) .nil)))))⟩
noncomputable def w_lengths : Df := ⟨"_law_lengths", 1, 2, (.cons (.asg (.one 1) (.lst .nil)) (.cons (.for_ (.one 2) (.seq (.var 0)) (.cons (.ite (.cmp .eq (.ix (.var 2) (.cst (.int 0))) (.cst (.str [108, 101, 116, 116, 101, 114]))) (.cons (.ex (.meth .append (.var 1) (.cons (.cst (.int 1)) .nil))) .nil) (.cons (.ite (.cmp .eq (.ix (.var 2) (.cst (.int 0))) (.cst (.str [112, 97, 105, 114]))) (.cons (.ex (.meth .append (.var 1) (.cons (.bin .add (.ix (.var 1) (.ix (.var 2) (.cst (.int 1)))) (.ix (.var 1) (.ix (.var 2) (.cst (.int 2))))) .nil))) .nil) (.cons (.ex (.meth .append (.var 1) (.cons (.bin .mul (.ix (.var 1) (.ix (.var 2) (.cst (.int 1)))) (.ix (.var 2) (.cst (.int 2)))) .nil))) .nil)) .nil)) .nil)) (.cons (.ret (.var 1)) .nil)))⟩
noncomputable def w_letter : Df := ⟨"_law_letter", 3, 3, (.cons (.asg (.one 3) (.bin .sub (.bi .len (.cons (.var 0) .nil)) (.cst (.int 1)))) (.cons (.whl (.cmp .ne (.ix (.ix (.var 0) (.var 3)) (.cst (.int 0))) (.cst (.str [108, 101, 116, 116, 101, 114]))) (.cons (.asg (.one 4) (.ix (.var 0) (.var 3))) (.cons (.asg (.one 5) (.ix (.var 1) (.ix (.var 4) (.cst (.int 1))))) (.cons (.ite (.cmp .eq (.ix (.var 4) (.cst (.int 0))) (.cst (.str [116, 105, 109, 101, 115]))) (.cons (.asg (.one 3) (.ix (.var 4) (.cst (.int 1)))) (.cons (.asg (.one 2) (.bin .mod (.var 2) (.var 5))) .nil)) (.cons (.ite (.cmp .lt (.var 2) (.var 5)) (.cons (.asg (.one 3) (.ix (.var 4) (.cst (.int 1)))) .nil) (.cons (.asg (.one 3) (.ix (.var 4) (.cst (.int 2)))) (.cons (.asg (.one 2) (.bin .sub (.var 2) (.var 5))) .nil))) .nil)) .nil)))) (.cons (.ret (.ix (.ix (.var 0) (.var 3)) (.cst (.int 1)))) .nil)))⟩
noncomputable def w_word_3 : Df := ⟨"_law_word", 1, 3, (.cons (.asg (.one 1) (.lst (.cons (.bin .sub (.bi .len (.cons (.var 0) .nil)) (.cst (.int 1))) .nil))) (.cons (.asg (.one 2) (.lst .nil)) (.cons (.whl (.cmp .ne (.var 1) (.lst .nil)) (.cons (.asg (.one 3) (.ix (.var 0) (.meth .pop (.var 1) .nil))) (.cons (.ite (.cmp .eq (.ix (.var 3) (.cst (.int 0))) (.cst (.str [108, 101, 116, 116, 101, 114]))) (.cons (.ex (.meth .append (.var 2) (.cons (.ix (.var 3) (.cst (.int 1))) .nil))) .nil) (.cons (.ite (.cmp .eq (.ix (.var 3) (.cst (.int 0))) (.cst (.str [112, 97, 105, 114]))) (.cons (.asg (.one 1) (.bin .add (.var 1) (.lst (.cons (.ix (.var 3) (.cst (.int 2))) (.cons (.ix (.var 3) (.cst (.int 1))) .nil))))) .nil) (.cons (.asg (.one 1) (.bin .add (.var 1) (.bin .mul (.lst (.cons (.ix (.var 3) (.cst (.int 1))) .nil)) (.ix (.var 3) (.cst (.int 2)))))) .nil)) .nil)) .nil))) (.cons (.ret (.join (.cst (.str [])) (.var 2))) .nil))))⟩
noncomputable def w_law_k38 : Df := ⟨"law", 1, 11, (.cons (.for_ (.one 1) (.rng1 (.bin .add (.bi .min2 (.cons (.cst (.int 8)) (.cons (.bi .len (.cons (.var 0) .nil)) .nil))) (.cst (.int 1)))) (.cons (.asg (.one 2) (.call "_law_box" (.ex (.var 0) (.ex (.var 1) .nil)))) (.cons (.asg (.one 3) (.cst (.int 20))) (.cons (.ite (.cmp .eq (.call "_law_draw" (.ex (.var 2) (.ex (.cst (.int 4)) .nil))) (.cst (.int 1))) (.cons (.asg (.one 3) (.cst (.int 60))) .nil) .nil) (.cons (.asg (.one 4) (.call "_law_recipe" (.ex (.var 2) (.ex (.cst (.int 3)) (.ex (.var 3) (.ex (.cst (.int 40)) .nil)))))) (.cons (.ite (.cmp .eq (.call "_law_draw" (.ex (.var 2) (.ex (.cst (.int 8)) .nil))) (.cst (.int 3))) (.cons (.asg (.one 4) (.call "_law_tall" (.ex (.var 2) (.ex (.cst (.int 3)) (.ex (.cst (.int 60)) .nil))))) .nil) .nil) (.cons (.asg (.one 5) (.call "_law_lengths" (.ex (.var 4) .nil))) (.cons (.asg (.one 6) (.call "long_length" (.ex (.var 4) .nil))) (.cons (.ite (.or (.not (.bi .isInt (.cons (.var 6) .nil))) (.or (.bi .isBool (.cons (.var 6) .nil)) (.cmp .ne (.var 6) (.ix (.var 5) (.neg (.cst (.int 1))))))) (.cons (.ret (.cst (.bl false))) .nil) .nil) (.cons (.asg (.one 7) (.bi .min2 (.cons (.var 6) (.cons (.bin .pow (.cst (.int 10)) (.cst (.int 60))) .nil)))) (.cons (.asg (.one 8) (.lst (.cons (.cst (.int 0)) (.cons (.bin .sub (.var 7) (.cst (.int 1))) (.cons (.bin .fdiv (.var 7) (.cst (.int 2))) .nil))))) (.cons (.for_ (.one 9) (.rng1 (.cst (.int 3))) (.cons (.ex (.meth .append (.var 8) (.cons (.call "_law_draw" (.ex (.var 2) (.ex (.var 7) .nil))) .nil))) .nil)) (.cons (.for_ (.one 10) (.seq (.var 8)) (.cons (.ite (.cmp .ne (.call "letter_at" (.ex (.var 4) (.ex (.var 10) .nil))) (.call "_law_letter" (.ex (.var 4) (.ex (.var 5) (.ex (.var 10) .nil))))) (.cons (.ret (.cst (.bl false))) .nil) .nil) .nil)) (.cons (.ite (.cmp .le (.var 6) (.cst (.int 200))) (.cons (.asg (.one 11) (.call "_law_word" (.ex (.var 4) .nil))) (.cons (.ite (.cmp .ne (.mk .list (.comp (.one 0) (.rng1 (.var 6)) (.call "letter_at" (.ex (.var 1) (.ex (.var 0) .nil))) [none, some 4])) (.mk .list (.seq (.var 11)))) (.cons (.ret (.cst (.bl false))) .nil) .nil) .nil)) .nil) .nil)))))))))))))) (.cons (.ret (.cst (.bl true))) .nil))⟩
noncomputable def w_on : Df := ⟨"_law_on", 3, 5, (.cons (.asg (.one 3) (.mk .list (.comp (.one 0) (.seq (.var 2)) (.cst .non) [none]))) (.cons (.for_ (.tup [4, 5, 6, 7]) (.seq (.ix (.var 0) (.cst (.int 4)))) (.cons (.ite (.and (.cmp .eq (.var 5) (.var 1)) (.notN (.ix (.var 2) (.var 4)))) (.cons (.ite (.or (.isN (.ix (.var 3) (.var 6))) (.cmp .lt (.bin .add (.ix (.var 2) (.var 4)) (.var 7)) (.ix (.var 3) (.var 6)))) (.cons (.setIx (.var 3) (.var 6) (.bin .add (.ix (.var 2) (.var 4)) (.var 7))) .nil) .nil) .nil) .nil) .nil)) (.cons (.ret (.var 3)) .nil)))⟩
end DV
end

set_option linter.all false
set_option maxRecDepth 100000
noncomputable section
namespace DV
class Has (P : Pr) (d : Df) : Prop where
  eq : P.df d.name = some d
class HasL (P : Pr) (d : Lm) : Prop where
  eq : P.lm d.id = some d
class HasC (P : Pr) (x : String) (v : D) : Prop where
  eq : P.con x = some v
/-- what a call makes of how its body ends -/
noncomputable def fin (s : Sto) (c : Ct) (s' : Sto) : R D := match c with
  | .ret v => canon s v s'
  | .next _ => canon s .non s'
  | _ => .bad
@[simp] theorem fin_ret (s : Sto) (v : D) (s' : Sto) : fin s (.ret v) s' = canon s v s' := rfl
@[simp] theorem fin_next (s : Sto) (ρ : Env) (s' : Sto) : fin s (.next ρ) s' = canon s .non s' := rfl
theorem call_def {P : Pr} (d : Df) [h : Has P d] {n : Nat} {l : List D} {s : Sto} (hl : l.length = d.ps) :
    (callN P (n + 1)).call d.name l s = (exs (callN P n) d.body (l.map some ++ List.replicate d.vs none) s).bind (fin s) := by
  simp only [callN, h.eq, hl, if_true]
  rfl
theorem lam_def {P : Pr} (d : Lm) [h : HasL P d] {n : Nat} {cs l : List D} {s : Sto} (hl : l.length = d.ps) (hc : cs.length = d.cs) (hn : (D.nclL l && D.nclL cs && s.all O.ncl) = true) :
    (callN P (n + 1)).lam d.id cs l s = (ev (callN P n) d.body (l.map some ++ cs.map some) s).bind (canon s) := by
  simp only [callN, h.eq, hl, hc, hn, and_self, if_true]
/-! ### stores -/
theorem okOld_app (s t : Sto) : okOld s (s ++ t) = true := by
  unfold okOld
  rw [List.all_eq_true]
  intro i hi
  rw [List.mem_range] at hi
  rw [List.getElem?_append_left hi]
  simp
theorem okOld_set (s t : Sto) (r : Nat) (o : O) (h : o.bnd s.length = true) : okOld s (s.set r o ++ t) = true := by
  unfold okOld
  rw [List.all_eq_true]
  intro i hi
  rw [List.mem_range] at hi
  rw [List.getElem?_append_left (by rw [List.length_set]; exact hi)]
  by_cases e : r = i
  · subst e; rw [List.getElem?_set_self hi]; simp [h]
  · rw [List.getElem?_set_ne e]; simp
/-- a value without refs -/
theorem canon_val {s t : Sto} {d : D} (h : ∀ n, d.bnd n = true) (hr : ∀ r, d ≠ .ref r) : canon s d (s ++ t) = .ok d s := by
  unfold canon
  rw [okOld_app, if_pos rfl]
  cases d with
  | ref r => exact absurd rfl (hr r)
  | _ => simp [h]
theorem canon_val0 {s : Sto} {d : D} (h : ∀ n, d.bnd n = true) (hr : ∀ r, d ≠ .ref r) : canon s d s = .ok d s := by
  have := canon_val (s := s) (t := []) h hr
  rwa [List.append_nil] at this
theorem canon_set {s t : Sto} {d : D} {r : Nat} {o : O} (h : ∀ n, d.bnd n = true) (hr : ∀ r, d ≠ .ref r) (ho : o.bnd s.length = true) : canon s d (s.set r o ++ t) = .ok d (s.set r o) := by
  unfold canon
  rw [okOld_set s t r o ho, if_pos rfl]
  have e : (s.set r o ++ t).take s.length = s.set r o := by rw [List.take_append_of_le_length (by simp), List.take_of_length_le (by simp)]
  cases d with
  | ref r => exact absurd rfl (hr r)
  | _ => simp only [h, if_true, e]
theorem canon_set0 {s : Sto} {d : D} {r : Nat} {o : O} (h : ∀ n, d.bnd n = true) (hr : ∀ r, d ≠ .ref r) (ho : o.bnd s.length = true) : canon s d (s.set r o) = .ok d (s.set r o) := by
  have := canon_set (s := s) (t := []) (r := r) h hr ho
  rwa [List.append_nil] at this
/-- one new thing handed back -/
theorem canon_new {s t u : Sto} {o : O} (ho : o.bnd s.length = true) : canon s (.ref (s.length + t.length)) (s ++ (t ++ o :: u)) = .ok (.ref s.length) (s ++ [o]) := by
  unfold canon
  rw [okOld_app, if_pos rfl]
  simp [ho, List.getElem?_append_right]
@[simp] theorem canon_int {s : Sto} {i : Int} : canon s (.int i) s = .ok (.int i) s := canon_val0 (fun _ => rfl) (by nofun)
@[simp] theorem canon_bl {s : Sto} {i : Bool} : canon s (.bl i) s = .ok (.bl i) s := canon_val0 (fun _ => rfl) (by nofun)
@[simp] theorem canon_non {s : Sto} : canon s .non s = .ok .non s := canon_val0 (fun _ => rfl) (by nofun)
@[simp] theorem canon_str {s : Sto} {x : List Nat} : canon s (.str x) s = .ok (.str x) s := canon_val0 (fun _ => rfl) (by nofun)

/-! ### whiles -/
theorem whlN_succ_of {c : Env → Sto → R D} {g : Env → Sto → R Ct} : ∀ {n : Nat} {ρ : Env} {s : Sto}, whlN c g n ρ s ≠ .bad → whlN c g (n + 1) ρ s = whlN c g n ρ s
  | 0, _, _, h => absurd rfl h
  | n + 1, ρ, s, h => by
    rw [show whlN c g (n + 1 + 1) ρ s = tru (c ρ s) (fun b s => if b then (g ρ s).bind fun c' s => match c' with
      | .next ρ => whlN c g (n + 1) ρ s | .cont ρ => whlN c g (n + 1) ρ s | .brk ρ => .ok (.next ρ) s | .ret d => .ok (.ret d) s else .ok (.next ρ) s) from rfl]
    have e : whlN c g (n + 1) ρ s = tru (c ρ s) (fun b s => if b then (g ρ s).bind fun c' s => match c' with
      | .next ρ => whlN c g n ρ s | .cont ρ => whlN c g n ρ s | .brk ρ => .ok (.next ρ) s | .ret d => .ok (.ret d) s else .ok (.next ρ) s) := rfl
    rw [e] at h ⊢
    unfold tru at h ⊢
    cases hc : c ρ s with
    | exc _ _ => rfl
    | bad => rfl
    | ok d s1 =>
      rw [hc] at h
      cases d with
      | bl b =>
        cases b with
        | false => rfl
        | true =>
          simp only [R.bind_ok, if_true] at h ⊢
          cases hg : g ρ s1 with
          | exc _ _ => rfl
          | bad => rfl
          | ok c' s2 =>
            rw [hg] at h
            simp only [R.bind_ok] at h ⊢
            cases c' with
            | next ρ' => exact whlN_succ_of h
            | cont ρ' => exact whlN_succ_of h
            | _ => rfl
      | _ => rfl
theorem whlN_mono {c : Env → Sto → R D} {g : Env → Sto → R Ct} {n : Nat} {ρ : Env} {s : Sto} (h : whlN c g n ρ s ≠ .bad) : ∀ k, whlN c g (n + k) ρ s = whlN c g n ρ s
  | 0 => rfl
  | k + 1 => by
    have e := whlN_mono h k
    rw [← Nat.add_assoc, whlN_succ_of (by rw [e]; exact h), e]
theorem whl_of {c : Env → Sto → R D} {g : Env → Sto → R Ct} {n : Nat} {ρ : Env} {s : Sto} {r : Ct} {t : Sto} (h : whlN c g n ρ s = .ok r t) : whl c g ρ s = .ok r t := by
  have hb : whlN c g n ρ s ≠ .bad := by rw [h]; nofun
  have hx : ∃ n, whlN c g n ρ s ≠ .bad := ⟨n, hb⟩
  unfold whl
  rw [dif_pos hx]
  have h1 := whlN_mono hx.choose_spec n
  have h2 := whlN_mono hb hx.choose
  rw [← h1, Nat.add_comm, h2, h]
/-- by turns: one turn, then the rest -/
theorem whl_turn {c : Env → Sto → R D} {g : Env → Sto → R Ct} {ρ ρ' : Env} {s s1 s' : Sto} (hc : c ρ s = .ok (.bl true) s1) (hg : g ρ s1 = .ok (.next ρ') s') : whl c g ρ s = whl c g ρ' s' := by
  have key : ∀ n, whlN c g (n + 1) ρ s = whlN c g n ρ' s' := fun n => by
    show tru (c ρ s) _ = _
    rw [hc, tru_bl, if_pos rfl, hg]; rfl
  unfold whl
  by_cases hx : ∃ n, whlN c g n ρ' s' ≠ .bad
  · have hy : ∃ n, whlN c g n ρ s ≠ .bad := ⟨hx.choose + 1, by rw [key]; exact hx.choose_spec⟩
    rw [dif_pos hx, dif_pos hy]
    have h1 := whlN_mono hy.choose_spec (hx.choose + 1)
    have h2 := whlN_mono (n := hx.choose + 1) (ρ := ρ) (s := s) (by rw [key]; exact hx.choose_spec) hy.choose
    rw [← h1, Nat.add_comm, h2, key]
  · have hy : ¬ ∃ n, whlN c g n ρ s ≠ .bad := fun ⟨n, hn⟩ => by
      cases n with
      | zero => exact hn rfl
      | succ n => exact hx ⟨n, by rw [← key]; exact hn⟩
    rw [dif_neg hx, dif_neg hy]
theorem whl_end {c : Env → Sto → R D} {g : Env → Sto → R Ct} {ρ : Env} {s s1 : Sto} (hc : c ρ s = .ok (.bl false) s1) : whl c g ρ s = .ok (.next ρ) s1 :=
  whl_of (n := 1) (by show tru (c ρ s) _ = _; rw [hc, tru_bl]; rfl)
/-! ### walks -/
/-- a for that keeps P from turn to turn -/
theorem for_inv {ok : Sto → Bool} {g : D → Env → Sto → R Ct} (P : Nat → Env → Sto → Prop) : ∀ (l : List D) (k : Nat) (ρ : Env) (s : Sto),
    P k ρ s → (∀ (j : Nat) (ρ : Env) (s : Sto), j ≤ l.length → P (k + j) ρ s → ok s = true) → (∀ (j : Nat) (d : D) (ρ : Env) (s : Sto), l[j]? = some d → P (k + j) ρ s → ∃ ρ' s', (g d ρ s = .ok (.next ρ') s' ∨ g d ρ s = .ok (.cont ρ') s') ∧ P (k + j + 1) ρ' s') →
    ∃ ρ' s', forL ok g l ρ s = .ok (.next ρ') s' ∧ P (k + l.length) ρ' s'
  | [], k, ρ, s, h, o, _ => ⟨ρ, s, by show (if ok s then _ else _) = _; rw [if_pos (o 0 ρ s (Nat.le_refl _) h)], h⟩
  | d :: l, k, ρ, s, h, o, t => by
    have ho := o 0 ρ s (Nat.zero_le _) h
    obtain ⟨ρ1, s1, hg, h1⟩ := t 0 d ρ s rfl h
    obtain ⟨ρ2, s2, e, h2⟩ := for_inv P l (k + 1) ρ1 s1 h1 (fun j ρ' s' hj hp => o (j + 1) ρ' s' (by simpa using hj) (by rwa [show k + (j + 1) = k + 1 + j by omega])) fun j d' ρ' s' hj hp => by
      have := t (j + 1) d' ρ' s' (by simpa using hj) (by rwa [show k + (j + 1) = k + 1 + j by omega])
      rwa [show k + (j + 1) + 1 = k + 1 + j + 1 by omega] at this
    refine ⟨ρ2, s2, ?_, by rwa [List.length_cons, show k + (l.length + 1) = k + 1 + l.length by omega]⟩
    show (if ok s then _ else _) = _
    rw [if_pos ho]
    rcases hg with hg | hg <;> (rw [hg]; exact e)
/-- a turn that goes on -/
noncomputable def Nx (Q : Env → Sto → Prop) : R Ct → Prop
  | .ok (.next ρ) s => Q ρ s
  | .ok (.cont ρ) s => Q ρ s
  | _ => False
@[simp] theorem Nx_next (Q : Env → Sto → Prop) (ρ : Env) (s : Sto) : Nx Q (.ok (.next ρ) s) = Q ρ s := rfl
@[simp] theorem Nx_cont (Q : Env → Sto → Prop) (ρ : Env) (s : Sto) : Nx Q (.ok (.cont ρ) s) = Q ρ s := rfl
theorem Nx_of {Q : Env → Sto → Prop} {r : R Ct} {ρ : Env} {s : Sto} (e : r = .ok (.next ρ) s) (h : Q ρ s) : Nx Q r := by rw [e]; exact h
theorem Nx.out {Q : Env → Sto → Prop} : ∀ {r : R Ct}, Nx Q r → ∃ ρ s, (r = .ok (.next ρ) s ∨ r = .ok (.cont ρ) s) ∧ Q ρ s
  | .ok (.next ρ) s, h => ⟨ρ, s, .inl rfl, h⟩
  | .ok (.cont ρ) s, h => ⟨ρ, s, .inr rfl, h⟩
  | .ok (.ret _) _, h => h.elim
  | .ok (.brk _) _, h => h.elim
  | .exc _ _, h => h.elim
  | .bad, h => h.elim
/-- a test: what is wanted where it is false, where it is true -/
noncomputable def Tst (A B : Sto → Prop) : R D → Prop
  | .ok (.bl false) s => A s
  | .ok (.bl true) s => B s
  | _ => False
@[simp] theorem Tst_bl (A B : Sto → Prop) (b : Bool) (s : Sto) : Tst A B (.ok (.bl b) s) = if b then B s else A s := by cases b <;> rfl
theorem for_want {ok : Sto → Bool} {g : D → Env → Sto → R Ct} {l : List D} {ρ : Env} {s : Sto} {α : Type} {f : Ct → Sto → R α} {W : R α → Prop} (P : Nat → Env → Sto → Prop) (h : P 0 ρ s)
    (o : ∀ (j : Nat) (ρ : Env) (s : Sto), j ≤ l.length → P j ρ s → ok s = true) (step : ∀ (j : Nat) (d : D) (ρ : Env) (s : Sto), l[j]? = some d → P j ρ s → Nx (P (j + 1)) (g d ρ s))
    (hf : ∀ ρ' s', P l.length ρ' s' → W (f (.next ρ') s')) : W ((forL ok g l ρ s).bind f) := by
  obtain ⟨ρ', s', e, q⟩ := for_inv P l 0 ρ s h (fun j ρ s hj hp => o j ρ s hj (by rwa [Nat.zero_add] at hp)) (fun j d ρ s hj hp => by
    rw [Nat.zero_add] at hp ⊢
    exact (step j d ρ s hj hp).out)
  rw [e]
  rw [Nat.zero_add] at q
  exact hf ρ' s' q
theorem for_bind {ok : Sto → Bool} {g : D → Env → Sto → R Ct} {l : List D} {ρ : Env} {s : Sto} {α : Type} {f : Ct → Sto → R α} {x : R α} (P : Nat → Env → Sto → Prop) (h : P 0 ρ s)
    (o : ∀ (j : Nat) (ρ : Env) (s : Sto), j ≤ l.length → P j ρ s → ok s = true) (step : ∀ (j : Nat) (d : D) (ρ : Env) (s : Sto), l[j]? = some d → P j ρ s → Nx (P (j + 1)) (g d ρ s))
    (hf : ∀ ρ' s', P l.length ρ' s' → f (.next ρ') s' = x) : (forL ok g l ρ s).bind f = x := for_want (W := (· = x)) P h o step hf

/-! ### the reading, step by step -/
section
variable {F : Fns} {ρ : Env} {s : Sto}
@[simp] theorem ev_var (i : Nat) : ev F (.var i) ρ s = getV ρ i s := rfl
@[simp] theorem ev_cst (c : Cn) : ev F (.cst c) ρ s = .ok c.d s := rfl
@[simp] theorem ev_bin (op : BOp) (a b : E) : ev F (.bin op a b) ρ s = (ev F a ρ s).bind fun x s => (ev F b ρ s).bind fun y s => binop op x y s := rfl
@[simp] theorem ev_not (a : E) : ev F (.not a) ρ s = tru (ev F a ρ s) fun b s => .ok (.bl (!b)) s := rfl
@[simp] theorem ev_cmp (op : COp) (a b : E) : ev F (.cmp op a b) ρ s = (ev F a ρ s).bind fun x s => (ev F b ρ s).bind fun y s => cmpop op x y s := rfl
@[simp] theorem ev_chain (o p : COp) (a b c : E) : ev F (.chain o p a b c) ρ s = (ev F a ρ s).bind fun x s => (ev F b ρ s).bind fun y s => tru (cmpop o x y s) fun k s => if k then (ev F c ρ s).bind fun z s => cmpop p y z s else .ok (.bl false) s := rfl
@[simp] theorem ev_isN (a : E) : ev F (.isN a) ρ s = (ev F a ρ s).bind fun x s => .ok (.bl (decide (x = .non))) s := rfl
@[simp] theorem ev_notN (a : E) : ev F (.notN a) ρ s = (ev F a ρ s).bind fun x s => .ok (.bl (!decide (x = .non))) s := rfl
@[simp] theorem ev_and (a b : E) : ev F (.and a b) ρ s = tru (ev F a ρ s) fun c s => if c then tru (ev F b ρ s) fun c s => .ok (.bl c) s else .ok (.bl false) s := rfl
@[simp] theorem ev_or (a b : E) : ev F (.or a b) ρ s = tru (ev F a ρ s) fun c s => if c then .ok (.bl true) s else tru (ev F b ρ s) fun c s => .ok (.bl c) s := rfl
@[simp] theorem ev_ite (c a b : E) : ev F (.ite c a b) ρ s = tru (ev F c ρ s) fun k s => if k then ev F a ρ s else ev F b ρ s := rfl
@[simp] theorem ev_tup (es : Es) : ev F (.tup es) ρ s = (evs F es ρ s).bind fun l s => .ok (.tup l) s := rfl
@[simp] theorem ev_lst (es : Es) : ev F (.lst es) ρ s = (evs F es ρ s).bind fun l s => alloc (.lst l) s := rfl
@[simp] theorem ev_ix (a b : E) : ev F (.ix a b) ρ s = (ev F a ρ s).bind fun x s => (ev F b ρ s).bind fun y s => ixM x y s := rfl
@[simp] theorem ev_call (f : String) (as : As) : ev F (.call f as) ρ s = (evas F as ρ s).bind fun l s => F.call f l s := rfl
@[simp] theorem ev_callC (f : String) (as : As) : ev F (.callC f as) ρ s = (evas F as ρ s).bind fun l s => (F.call f l s).bind fun d s' => if (d.ncl && s'.all O.ncl) = true then .ok d s' else .bad := rfl
@[simp] theorem ev_bi (b : Bi) (es : Es) : ev F (.bi b es) ρ s = (evs F es ρ s).bind fun l s => bi b l s := rfl
@[simp] theorem ev_mk (k : Mk) (it : L) : ev F (.mk k it) ρ s = (evL F it ρ s).bind fun q s => mk k q s := rfl
@[simp] theorem ev_mkD (k : Mk) (it : L) (d : E) : ev F (.mkD k it d) ρ s = (evL F it ρ s).bind fun q s => (ev F d ρ s).bind fun d s => mkD k q d s := rfl
@[simp] theorem ev_meth (m : Mt) (o : E) (es : Es) : ev F (.meth m o es) ρ s = (ev F o ρ s).bind fun x s => (evs F es ρ s).bind fun l s => meth m x l s := rfl
@[simp] theorem ev_extS (o e : E) : ev F (.extS o e) ρ s = (ev F o ρ s).bind fun x s => (ev F e ρ s).bind fun y s => extS x y s := rfl
@[simp] theorem ev_rev (a : E) : ev F (.rev a) ρ s = (ev F a ρ s).bind fun x s => revM x s := rfl
@[simp] theorem ev_ext (o : E) (it : L) : ev F (.ext o it) ρ s = (ev F o ρ s).bind fun x s => (evL F it ρ s).bind fun q s => extM x q s := rfl
@[simp] theorem evs_nil : evs F .nil ρ s = .ok [] s := rfl
@[simp] theorem evs_cons (e : E) (es : Es) : evs F (.cons e es) ρ s = (ev F e ρ s).bind fun d s => (evs F es ρ s).bind fun l s => .ok (d :: l) s := rfl
@[simp] theorem evas_nil : evas F .nil ρ s = .ok [] s := rfl
@[simp] theorem evas_ex (e : E) (as : As) : evas F (.ex e as) ρ s = (ev F e ρ s).bind fun d s => (evas F as ρ s).bind fun l s => .ok (d :: l) s := rfl
@[simp] theorem evas_fn (f : String) (as : As) : evas F (.fn f as) ρ s = (evas F as ρ s).bind fun l s => .ok (.fn f :: l) s := rfl
@[simp] theorem evI_seq (e : E) : evI F (.seq e) ρ s = (ev F e ρ s).bind fun d s => seqM d s := rfl
@[simp] theorem evL_disp (es : Es) : evL F (.disp es) ρ s = evs F es ρ s := rfl
@[simp] theorem evL_seq (e : E) : evL F (.seq e) ρ s = (ev F e ρ s).bind fun d s => lstM d s := rfl
noncomputable def rng1M (x : D) : M Sq := fun s => match x with | .int i => if -W62 ≤ i ∧ i < W62 then .ok ⟨rngL 0 i, []⟩ s else .bad | _ => .bad
@[simp] theorem evI_rng1 (a : E) : evI F (.rng1 a) ρ s = (ev F a ρ s).bind fun x s => rng1M x s := rfl
theorem rng1_ok {i : Int} (h0 : -W62 ≤ i) (h : i < W62) : rng1M (.int i) s = .ok ⟨rngL 0 i, []⟩ s := by unfold rng1M; simp only [h0, h, and_self, if_true]
/-- a statement, then the rest -/
noncomputable def nxt (F : Fns) (ss : Ss) (c : Ct) (s : Sto) : R Ct := match c with | .next ρ => exs F ss ρ s | c => .ok c s
@[simp] theorem nxt_next (ss : Ss) (ρ : Env) (s : Sto) : nxt F ss (.next ρ) s = exs F ss ρ s := rfl
@[simp] theorem nxt_ret (ss : Ss) (d : D) (s : Sto) : nxt F ss (.ret d) s = .ok (.ret d) s := rfl
@[simp] theorem nxt_cont (ss : Ss) (ρ : Env) (s : Sto) : nxt F ss (.cont ρ) s = .ok (.cont ρ) s := rfl
@[simp] theorem exs_nil : exs F .nil ρ s = .ok (.next ρ) s := rfl
@[simp] theorem exs_cons (st : S) (ss : Ss) : exs F (.cons st ss) ρ s = (ex F st ρ s).bind (nxt F ss) := rfl
noncomputable def setC (ρ : Option Env) (s : Sto) : R Ct := match ρ with | some ρ => .ok (.next ρ) s | none => .bad
@[simp] theorem setC_some (ρ : Env) (s : Sto) : setC (some ρ) s = .ok (.next ρ) s := rfl
@[simp] theorem ex_asg (tg : Tg) (e : E) : ex F (.asg tg e) ρ s = (ev F e ρ s).bind fun d s => setC (bindT ρ tg d) s := rfl
@[simp] theorem ex_setIx (o i e : E) : ex F (.setIx o i e) ρ s = (ev F e ρ s).bind fun d s => (ev F o ρ s).bind fun x s => (ev F i ρ s).bind fun y s => (setIx x y d s).bind fun _ s => .ok (.next ρ) s := rfl
@[simp] theorem ex_ex (e : E) : ex F (.ex e) ρ s = (ev F e ρ s).bind fun _ s => .ok (.next ρ) s := rfl
@[simp] theorem ex_ret (e : E) : ex F (.ret e) ρ s = (ev F e ρ s).bind fun d s => .ok (.ret d) s := rfl
@[simp] theorem ex_retN : ex F .retN ρ s = .ok (.ret .non) s := rfl
@[simp] theorem ex_ite (c : E) (a b : Ss) : ex F (.ite c a b) ρ s = tru (ev F c ρ s) fun k s => if k then exs F a ρ s else exs F b ρ s := rfl
@[simp] theorem ex_whl (c : E) (b : Ss) : ex F (.whl c b) ρ s = whl (ev F c) (exs F b) ρ s := rfl
noncomputable def turn (F : Fns) (tg : Tg) (b : Ss) (d : D) (ρ : Env) (s : Sto) : R Ct := match bindT ρ tg d with
  | some ρ => exs F b ρ s
  | none => .bad
@[simp] theorem ex_for (tg : Tg) (it : I) (b : Ss) : ex F (.for_ tg it b) ρ s = (evI F it ρ s).bind fun q s0 => forL (fun s => chk s0 s q.src) (turn F tg b) q.its ρ s0 := rfl
@[simp] theorem ex_cont : ex F .cont ρ s = .ok (.cont ρ) s := rfl
@[simp] theorem ex_pass : ex F .pass ρ s = .ok (.next ρ) s := rfl
@[simp] theorem bindT_one (i : Nat) (d : D) : bindT ρ (.one i) d = setV ρ i d := rfl
@[simp] theorem bindT_tup (is : List Nat) (l : List D) : bindT ρ (.tup is) (.tup l) = setVs ρ is l := rfl
@[simp] theorem setVs_nil : setVs ρ [] [] = some ρ := rfl
@[simp] theorem setVs_cons (i : Nat) (is : List Nat) (d : D) (l : List D) : setVs ρ (i :: is) (d :: l) = (setV ρ i d).bind fun ρ => setVs ρ is l := rfl
@[simp] theorem getV_0 (d : D) (ρ : Env) : getV (some d :: ρ) 0 s = .ok d s := rfl
@[simp] theorem getV_s (x : Option D) (ρ : Env) (i : Nat) : getV (x :: ρ) (i + 1) s = getV ρ i s := by unfold getV; rw [List.getElem?_cons_succ]
@[simp] theorem setV_0 (d : D) (x : Option D) (ρ : Env) : setV (x :: ρ) 0 d = some (some d :: ρ) := rfl
@[simp] theorem setV_s (d : D) (x : Option D) (ρ : Env) (i : Nat) : setV (x :: ρ) (i + 1) d = (setV ρ i d).map (x :: ·) := by
  unfold setV
  by_cases h : i < ρ.length
  · rw [if_pos (by simpa using h), if_pos h]; rfl
  · rw [if_neg (by simpa using h), if_neg h]; rfl
@[simp] theorem Cn_int (i : Int) : (Cn.int i).d = .int i := rfl
@[simp] theorem Cn_bl (i : Bool) : (Cn.bl i).d = .bl i := rfl
@[simp] theorem Cn_str (i : List Nat) : (Cn.str i).d = .str i := rfl
@[simp] theorem Cn_non : Cn.non.d = .non := rfl
@[simp] theorem add_int (a b : Int) : binop .add (.int a) (.int b) s = .ok (.int (a + b)) s := rfl
@[simp] theorem sub_int (a b : Int) : binop .sub (.int a) (.int b) s = .ok (.int (a - b)) s := rfl
theorem mul_int {a b : Int} (h : mulOk a b = true) : binop .mul (.int a) (.int b) s = .ok (.int (a * b)) s := by show (if mulOk a b then _ else _ : M D) s = _; rw [if_pos h]; rfl
theorem mulOk_l {a b : Int} (h : a.natAbs < 2 ^ 64) : mulOk a b = true := by unfold mulOk; simp [h]
theorem mulOk_r {a b : Int} (h : b.natAbs < 2 ^ 64) : mulOk a b = true := by unfold mulOk; simp [h]
theorem mod_int {a b : Int} (h : 0 < b) : binop .mod (.int a) (.int b) s = .ok (.int (a % b)) s := by show (if 0 < b then _ else _ : M D) s = _; rw [if_pos h]; rfl
theorem DIVL_ge : (10 : Int) ^ 200 ≤ (DIVL : Int) := by unfold DIVL; decide +kernel
theorem fdiv_int {a b : Int} (h : 0 < b) (h2 : b < 10 ^ 200) : binop .fdiv (.int a) (.int b) s = .ok (.int (a / b)) s := by show (if 0 < b ∧ b < (DIVL : Int) then _ else _ : M D) s = _; rw [if_pos ⟨h, Int.lt_of_lt_of_le h2 DIVL_ge⟩]; rfl
theorem pow_int {a b : Int} (h : 0 ≤ b ∧ b ≤ 1000000 ∧ a.natAbs < 2 ^ 64) : binop .pow (.int a) (.int b) s = .ok (.int (a ^ b.toNat)) s := by show (if _ then _ else _ : M D) s = _; rw [if_pos h]; rfl
@[simp] theorem lt_int (a b : Int) : cmpop .lt (.int a) (.int b) s = .ok (.bl (decide (a < b))) s := rfl
@[simp] theorem le_int (a b : Int) : cmpop .le (.int a) (.int b) s = .ok (.bl (decide (a ≤ b))) s := rfl
@[simp] theorem gt_int (a b : Int) : cmpop .gt (.int a) (.int b) s = .ok (.bl (decide (b < a))) s := rfl
@[simp] theorem ge_int (a b : Int) : cmpop .ge (.int a) (.int b) s = .ok (.bl (decide (b ≤ a))) s := rfl
@[simp] theorem eq_int (a b : Int) : cmpop .eq (.int a) (.int b) s = .ok (.bl (decide (a = b))) s := rfl
@[simp] theorem ne_int (a b : Int) : cmpop .ne (.int a) (.int b) s = .ok (.bl (!decide (a = b))) s := rfl
@[simp] theorem alloc_eq (o : O) : alloc o s = .ok (.ref s.length) (s ++ [o]) := rfl
@[simp] theorem len_tup (l : List D) : bi .len [.tup l] s = .ok (.int l.length) s := rfl
@[simp] theorem len_str (l : List Nat) : bi .len [.str l] s = .ok (.int l.length) s := rfl
theorem len_ro {r : Nat} {l : List D} (h : s[r]? = some (.ro l)) : bi .len [.ref r] s = .ok (.int l.length) s := by simp only [bi, bi1, lenM, h]
@[simp] theorem abs_int (i : Int) : bi .abs [.int i] s = .ok (.int (if i < 0 then -i else i)) s := rfl
@[simp] theorem min2_int (a b : Int) : bi .min2 [.int a, .int b] s = .ok (.int (if b < a then b else a)) s := rfl
@[simp] theorem max2_int (a b : Int) : bi .max2 [.int a, .int b] s = .ok (.int (if b > a then b else a)) s := rfl
@[simp] theorem isInt_int (a : Int) : bi .isInt [.int a] s = .ok (.bl true) s := rfl
@[simp] theorem isBool_int (a : Int) : bi .isBool [.int a] s = .ok (.bl false) s := rfl
@[simp] theorem isTup_tup (l : List D) : bi .isTup [.tup l] s = .ok (.bl true) s := rfl
theorem ix_ro {r : Nat} {l : List D} {j : Nat} {d : D} (h : s[r]? = some (.ro l)) (hj : l[j]? = some d) : ixM (.ref r) (.int (j : Int)) s = .ok d s := by
  have hl : j < l.length := (List.getElem?_eq_some_iff.mp hj).1
  have e : l[j] = d := (List.getElem?_eq_some_iff.mp hj).2
  simp [ixM, h, ixn, hl, e]
theorem ix_lst {r : Nat} {l : List D} {j : Nat} {d : D} (h : s[r]? = some (.lst l)) (hj : l[j]? = some d) : ixM (.ref r) (.int (j : Int)) s = .ok d s := by
  have hl : j < l.length := (List.getElem?_eq_some_iff.mp hj).1
  have e : l[j] = d := (List.getElem?_eq_some_iff.mp hj).2
  simp [ixM, h, ixn, hl, e]
theorem ix_tup {l : List D} {j : Nat} {d : D} (hj : l[j]? = some d) : ixM (.tup l) (.int (j : Int)) s = .ok d s := by
  have hl : j < l.length := (List.getElem?_eq_some_iff.mp hj).1
  have e : l[j] = d := (List.getElem?_eq_some_iff.mp hj).2
  simp [ixM, ixn, hl, e]
theorem append_lst {r : Nat} {l : List D} {v : D} (h : s[r]? = some (.lst l)) (hl : l.length < LIM) : meth .append (.ref r) [v] s = .ok .non (s.set r (.lst (l ++ [v]))) := by
  simp [meth, h, hl]
end
end DV
end
noncomputable section
namespace DV
theorem canon_bl_ex (s t : Sto) (b : Bool) : ∃ s', canon s (.bl b) t = .ok (.bl b) s' := by
  unfold canon
  by_cases h : okOld s t = true
  · rw [if_pos h]; exact ⟨_, rfl⟩
  · rw [if_neg h]; exact ⟨_, rfl⟩
/-- a law's end -/
noncomputable def Yes (r : R D) : Prop := ∃ s', r = .ok (.bl true) s'
theorem Yes_canon (s t : Sto) : Yes (canon s (.bl true) t) := canon_bl_ex s t true
theorem rngL_get {a b : Int} {j : Nat} {d : D} (h : (rngL a b)[j]? = some d) : (j : Int) < b - a ∧ d = .int (a + j) := by
  have hj := (List.getElem?_eq_some_iff.mp h).1
  simp only [rngL, List.length_map, List.length_range] at hj
  unfold rngL at h
  rw [List.getElem?_map, List.getElem?_range hj] at h
  exact ⟨by omega, (Option.some.inj h).symm⟩
/-- a whole law: the script alone stands in the store -/
noncomputable def LawOk (P : Pr) (k : Nat) : Prop := ∀ ns : List Int, ns.length ≤ 63 → Yes ((callN P k).call "law" [.ref 0] [.ro (ns.map D.int)])
end DV
end

set_option linter.all false
set_option maxRecDepth 100000
noncomputable section
namespace DV
/-! prices -/
noncomputable def encO : Option Int → D
  | none => .non
  | some i => .int i
@[simp] theorem encO_none : encO none = .non := rfl
@[simp] theorem encO_some (i : Int) : encO (some i) = .int i := rfl
@[simp] theorem encO_bnd (p : Option Int) (n : Nat) : (encO p).bnd n = true := by cases p <;> rfl
theorem encO_ref (p : Option Int) (r : Nat) : encO p ≠ .ref r := by cases p <;> nofun
@[simp] theorem canon_encO {s : Sto} {p : Option Int} : canon s (encO p) s = .ok (encO p) s := canon_val0 (encO_bnd p) (encO_ref p)
/-! the law's bag: numbers are taken of it -/
noncomputable def bagO (b : Nat × Nat) : O := .lst [.int b.1, .int b.2]
@[simp] theorem bagO_bnd (b : Nat × Nat) (n : Nat) : (bagO b).bnd n = true := rfl
/-- the turns of a take: mix, number, room -/
noncomputable def tkW (many : Nat) : Nat → Nat → Nat → Nat → Nat × Nat
  | 0, mix, num, _ => (num, mix)
  | n + 1, mix, num, room => if room < many then tkW many n ((mix * 48271 + 7919) % 2147483647) (num * 1073741789 + (mix * 48271 + 7919) % 2147483647 / 8 * 69621 % 1073741789) (room * 1073741789) else (num, mix)
noncomputable def tk (b : Nat × Nat) (many : Nat) : Nat × (Nat × Nat) :=
  if 0 < b.1 then (b.1 % many, (b.1 / many, b.2)) else let r := tkW many 12 b.2 0 1; (r.1 % many, (b.1, r.2))
/-! the bag itself -/
theorem set_app {s t : Sto} {r : Nat} {o : O} (h : r < s.length) : (s ++ t).set r o = s.set r o ++ t := by rw [List.set_append, if_pos h]
theorem get_app {s t : Sto} {r : Nat} {o : O} (h : s[r]? = some o) : (s ++ t)[r]? = some o := by
  rw [List.getElem?_append_left (List.getElem?_eq_some_iff.mp h).1]; exact h
theorem get_set {s : Sto} {r : Nat} {o : O} (h : r < s.length) : (s.set r o)[r]? = some o := List.getElem?_set_self h
noncomputable def bd (b : Nat × Nat) : Nat × (Nat × Nat) :=
  let x0 := tk b 3
  let x1 := tk x0.2 13
  let x2 := tk x1.2 1000000000
  let x3 := tk x2.2 1000000000000000000000000000000
  let i := tk x3.2 4
  ([x0.1, x1.1, x2.1, x3.1].getD i.1 0, i.2)
end DV
end

set_option linter.all false
set_option maxRecDepth 100000
noncomputable section
namespace DV
/-! ### comprehensions -/
section
variable {F : Fns} {ρ : Env} {s : Sto}
noncomputable def turnC (F : Fns) (tg : Tg) (e : E) (d : D) (ρ : Env) (s : Sto) : R (Option D × Env) := match bindT ρ tg d with
  | some ρ => (ev F e ρ s).bind fun v s => .ok (some v, ρ) s
  | none => .bad
noncomputable def turnI (F : Fns) (tg : Tg) (c e : E) (d : D) (ρ : Env) (s : Sto) : R (Option D × Env) := match bindT ρ tg d with
  | some ρ => tru (ev F c ρ s) fun k s => if k then (ev F e ρ s).bind fun v s => .ok (some v, ρ) s else .ok (none, ρ) s
  | none => .bad
@[simp] theorem evL_comp (tg : Tg) (it : I) (e : E) (caps : List (Option Nat)) : evL F (.comp tg it e caps) ρ s = (evI F it ρ s).bind fun q s0 => if q.its.length ≤ LIM then compL (fun s => chk s0 s q.src) (turnC F tg e) q.its (capEnv ρ caps) s0 else .bad := rfl
@[simp] theorem evL_compIf (tg : Tg) (it : I) (c e : E) (caps : List (Option Nat)) : evL F (.compIf tg it c e caps) ρ s = (evI F it ρ s).bind fun q s0 => if q.its.length ≤ LIM then compL (fun s => chk s0 s q.src) (turnI F tg c e) q.its (capEnv ρ caps) s0 else .bad := rfl
@[simp] theorem ev_slU (a hi : E) : ev F (.slU a hi) ρ s = (ev F a ρ s).bind fun x s => (ev F hi ρ s).bind fun y s => match y with | .int i => slM x none (some i) s | _ => .bad := rfl
@[simp] theorem ev_slL (a hi : E) : ev F (.slL a hi) ρ s = (ev F a ρ s).bind fun x s => (ev F hi ρ s).bind fun y s => match y with | .int i => slM x (some i) none s | _ => .bad := rfl
end
theorem comp_inv {ok : Sto → Bool} {g : D → Env → Sto → R (Option D × Env)} (P : Env → Sto → Prop) (f : D → Option D) : ∀ (l : List D) (ρ : Env) (s : Sto), P ρ s →
    (∀ ρ s, P ρ s → ok s = true) → (∀ d ∈ l, ∀ ρ s, P ρ s → ∃ ρ' s', g d ρ s = .ok (f d, ρ') s' ∧ P ρ' s') → ∃ ρ' s', compL ok g l ρ s = .ok (l.filterMap f) s' ∧ P ρ' s'
  | [], ρ, s, h, o, _ => ⟨ρ, s, by unfold compL; rw [if_pos (o ρ s h)]; rfl, h⟩
  | d :: l, ρ, s, h, o, st => by
    obtain ⟨ρ1, s1, e1, h1⟩ := st d (List.mem_cons_self ..) ρ s h
    obtain ⟨ρ2, s2, e2, h2⟩ := comp_inv P f l ρ1 s1 h1 o fun x hx => st x (List.mem_cons_of_mem _ hx)
    refine ⟨ρ2, s2, ?_, h2⟩
    unfold compL
    rw [if_pos (o ρ s h), e1]
    simp only [R.bind_ok]
    rw [e2, List.filterMap_cons]
    cases f d <;> rfl
theorem small90 {k : Int} (h : k ≤ 1000) : k ≤ 10 ^ 90 := Int.le_trans h (by decide)
theorem bndL_all {l : List D} (h : ∀ d ∈ l, ∀ n, d.bnd n = true) (n : Nat) : D.bndL n l = true := by
  induction l with
  | nil => rfl
  | cons d l ih => unfold D.bndL; rw [h d (List.mem_cons_self ..), ih fun x hx => h x (List.mem_cons_of_mem _ hx)]; rfl
theorem abc_ix {k : Nat} (h : k < 3) (s : Sto) : ixM (.str [97, 98, 99]) (.int (k : Int)) s = .ok (.str [97 + k]) s := by
  match k, h with
  | 0, _ => rfl
  | 1, _ => rfl
  | 2, _ => rfl
theorem add_str {a b : List Nat} {s : Sto} (h : a.length + b.length ≤ LIM) : binop .add (.str a) (.str b) s = .ok (.str (a ++ b)) s := by
  show (if a.length + b.length ≤ LIM then _ else _ : M D) s = _; rw [if_pos h]; rfl
theorem rep_len (l : List Nat) : ∀ n, (rep n l).length = l.length * n
  | 0 => by simp [rep]
  | n + 1 => by simp [rep, rep_len l n, Nat.mul_add]; omega
end DV
end

set_option linter.all false
set_option maxRecDepth 100000
noncomputable section
namespace DV
/-! ### words -/
/-- what a thing may be -/
noncomputable def ThingIn (s : Sto) : D → Prop
  | .fn _ => False
  | .clo _ _ => False
  | .ref k => ∃ l, s[k]? = some (.lst l)
  | _ => True
end DV
end

set_option linter.all false
set_option maxRecDepth 100000
noncomputable section
namespace DV
@[simp] theorem ev_neg {F : Fns} {ρ : Env} {s : Sto} (a : E) : ev F (.neg a) ρ s = (ev F a ρ s).bind fun x s => match x with | .int i => .ok (.int (-i)) s | _ => .bad := rfl
/-! ### a loop that goes on or tells -/
/-! ### machines -/
noncomputable def nats (l : List Nat) : List D := l.map fun (k : Nat) => D.int (k : Int)
noncomputable def sg (w : List Nat) : List D := w.map fun c => .str [c]
theorem nats_bnd {l : List Nat} : ∀ d ∈ nats l, ∀ n, d.bnd n = true := fun d hd n => by
  obtain ⟨c, _, rfl⟩ := List.mem_map.mp hd; rfl
section
variable {P : Pr}
@[simp] theorem ne_str1 (a b : Nat) (s : Sto) : cmpop .ne (.str [a]) (.str [b]) s = .ok (.bl (!decide (a = b))) s := by
  show (match eqv s DEEP (.str [a]) (.str [b]) with | some r => R.ok (D.bl (!r)) s | none => .bad) = _
  have : eqv s DEEP (.str [a]) (.str [b]) = some ([a] == [b]) := rfl
  rw [this]
  have e : ([a] == [b]) = decide (a = b) := by rw [Bool.eq_iff_iff]; simp
  rw [e]
@[simp] theorem eq_str1 (a b : Nat) (s : Sto) : cmpop .eq (.str [a]) (.str [b]) s = .ok (.bl (decide (a = b))) s := by
  show (match eqv s DEEP (.str [a]) (.str [b]) with | some r => R.ok (D.bl r) s | none => .bad) = _
  have : eqv s DEEP (.str [a]) (.str [b]) = some ([a] == [b]) := rfl
  rw [this]
  have e : ([a] == [b]) = decide (a = b) := by rw [Bool.eq_iff_iff]; simp
  rw [e]
end
end DV
end

set_option linter.all false
set_option maxRecDepth 100000
noncomputable section
namespace DV
end DV
end

set_option linter.all false
set_option maxRecDepth 100000
noncomputable section
namespace DV
/-! ### things, and what is told of them -/
end DV
end

set_option linter.all false
set_option maxRecDepth 100000
noncomputable section
namespace DV
end DV
end

set_option linter.all false
set_option maxRecDepth 100000
noncomputable section
namespace DV
end DV
end

set_option linter.all false
set_option maxRecDepth 100000
noncomputable section
namespace DV
theorem repD_len (l : List D) : ∀ n, (repD n l).length = l.length * n
  | 0 => by simp [repD]
  | n + 1 => by simp [repD, repD_len l n, Nat.mul_add]; omega
@[simp] theorem ev_slLU {F : Fns} {ρ : Env} {s : Sto} (a lo hi : E) : ev F (.slLU a lo hi) ρ s = (ev F a ρ s).bind fun x s => (ev F lo ρ s).bind fun y s => match y with | .int i => (ev F hi ρ s).bind (fun z s => match z with | .int j => slM x (some i) (some j) s | _ => .bad) | _ => .bad := rfl
end DV
end

set_option linter.all false
set_option maxRecDepth 100000
noncomputable section
namespace DV
/-! ### a box: numbers are drawn of it -/
noncomputable def boxO (N : Int) : O := .lst [.int N]
theorem box_lt {s : Sto} {r : Nat} (h : ∃ N, s[r]? = some (boxO N)) : r < s.length := by obtain ⟨b, hb⟩ := h; exact (List.getElem?_eq_some_iff.mp hb).1
theorem box_set {s : Sto} {r : Nat} {b : Int} (h : r < s.length) : ∃ b', (s.set r (boxO b))[r]? = some (boxO b') := ⟨b, get_set h⟩
theorem draw_ex {P : Pr} [Has P w_draw] (n : Nat) {s : Sto} {r : Nat} (hs : ∃ N, s[r]? = some (boxO N)) (many : Int) (h0 : 0 < many) (h : many ≤ 10 ^ 90) :
    ∃ (k : Nat) (N : Int), (k : Int) < many ∧ (callN P (n + 1)).call "_law_draw" [.ref r, .int many] s = .ok (.int k) (s.set r (boxO N)) := by
  obtain ⟨N, hN⟩ := hs
  have e0 : (callN P (n + 1)).call "_law_draw" [.ref r, .int many] s = _ := call_def w_draw (n := n) rfl
  have hm3 : many < 10 ^ 200 := by
    have : (10 : Int) ^ 90 < 10 ^ 200 := by decide +kernel
    omega
  have h1 := Int.emod_nonneg N (show many ≠ 0 by omega)
  have h2 := Int.emod_lt_of_pos N h0
  refine ⟨(N % many).toNat, N / many, by omega, ?_⟩
  rw [e0]
  have hs' : s[r]? = some (.lst [.int N]) := hN
  simp -implicitDefEqProofs [w_draw, ixM, hs', ixn, mod_int h0, fdiv_int h0 hm3, setIx]
  rw [show max (N % many) 0 = N % many by omega]
  exact canon_set0 (fun _ => rfl) (by nofun) rfl
noncomputable def BoxR (s : Sto) (x : R D) : Prop := ∃ N : Int, x = .ok (.ref s.length) (s ++ [boxO N])
theorem box_ex {P : Pr} [Has P w_box] (n : Nat) (ns : List Int) (k : Nat) {s : Sto} {r : Nat} (hs : s[r]? = some (.ro (ns.map D.int))) :
    ∃ N : Int, (callN P (n + 1)).call "_law_box" [.ref r, .int k] s = .ok (.ref s.length) (s ++ [boxO N]) := by
  have e0 : (callN P (n + 1)).call "_law_box" [.ref r, .int k] s = _ := call_def w_box (n := n) rfl
  have hlen : bi .len [.ref r] s = .ok (.int ns.length) s := by rw [len_ro hs, List.length_map]
  have m1 : ∀ a : Int, mulOk 7919 a = true := fun a => mulOk_l (by decide)
  have m2 : ∀ a : Int, mulOk a 48271 = true := fun a => mulOk_r (by decide)
  have m3 : ∀ a : Int, mulOk 104729 a = true := fun a => mulOk_l (by decide)
  have m4 : ∀ a : Int, mulOk a 2147483647 = true := fun a => mulOk_r (by decide)
  have m5 : ∀ a : Int, mulOk 31 a = true := fun a => mulOk_l (by decide)
  have m6 : ∀ a : Int, mulOk (a % 2147483647) (a % 2147483647) = true := fun a => mulOk_l (by
    have h1 := Int.emod_nonneg a (show (2147483647 : Int) ≠ 0 by decide)
    have h2 := Int.emod_lt_of_pos a (show (0 : Int) < 2147483647 by decide)
    omega)
  have cn : ∀ N : Int, canon s (.ref s.length) (s ++ [.lst [.int N]]) = .ok (.ref s.length) (s ++ [boxO N]) := fun N => by
    have := canon_new (s := s) (t := []) (u := []) (o := boxO N) rfl
    simp only [List.length_nil, Nat.add_zero, List.nil_append] at this
    exact this
  have tail : ∀ c : Int, BoxR s ((exs (callN P n) (.cons (.ite (.cmp .ge (.var 2) (.bin .pow (.cst (.int 10)) (.cst (.int 18)))) (.cons (.ret (.lst (.cons (.var 2) .nil))) .nil) .nil) (.cons (.asg (.one 3) (.cst (.int 0))) (.cons (.for_ (.one 4) (.rng1 (.cst (.int 128))) (.cons (.asg (.one 5) (.bin .mod (.bin .mul (.bin .add (.bin .add (.bin .add (.bin .mod (.var 2) (.cst (.int 2147483647))) (.bin .mul (.cst (.int 7919)) (.var 1))) (.bin .mul (.cst (.int 104729)) (.var 4))) (.cst (.int 97))) (.cst (.int 48271))) (.cst (.int 2147483647)))) (.cons (.asg (.one 3) (.bin .add (.bin .mul (.var 3) (.cst (.int 2147483647))) (.bin .mod (.bin .add (.bin .add (.bin .mul (.var 5) (.var 5)) (.bin .mul (.cst (.int 31)) (.var 4))) (.bin .fdiv (.var 2) (.cst (.int 2147483647)))) (.cst (.int 2147483647))))) .nil))) (.cons (.ret (.lst (.cons (.var 3) .nil))) .nil))))
      [some (.ref r), some (.int k), some (.int c), none, none, none] s).bind (fin s)) := by
    intro c
    by_cases hc : (10 : Int) ^ 18 ≤ c
    · have hc' : (1000000000000000000 : Int) ≤ c := hc
      exact ⟨c, by simp -implicitDefEqProofs [pow_int, hc', cn]⟩
    · have hc' : ¬ (1000000000000000000 : Int) ≤ c := hc
      simp -implicitDefEqProofs [pow_int, hc']
      rw [rng1_ok (by decide) (by decide)]
      simp only [R.bind_ok]
      refine for_want (W := BoxR s) (fun j ρ t => t = s ∧ ∃ (N : Int) (x y : Option D), ρ = [some (.ref r), some (.int k), some (.int c), some (.int N), x, y]) ⟨rfl, 0, _, _, rfl⟩ (fun _ _ _ _ _ => rfl) ?_ ?_
      · rintro j d ρ t hj ⟨rfl, N, x, y, rfl⟩
        obtain ⟨_, rfl⟩ := rngL_get hj
        conv => arg 2; simp -implicitDefEqProofs [turn, mul_int (m1 _), mul_int (m2 _), mul_int (m3 _), mul_int (m4 _), mul_int (m5 _), mul_int (m6 _), mod_int, fdiv_int]
        exact ⟨rfl, _, _, _, rfl⟩
      · rintro ρ t ⟨rfl, N, x, y, rfl⟩
        exact ⟨N, by simp -implicitDefEqProofs [cn]⟩
  rw [e0]
  by_cases hk : k < ns.length
  · have hx : ixM (.ref r) (.int k) s = .ok (.int (ns.getD k 0)) s := ix_ro hs (by simp [hk])
    obtain ⟨N, e⟩ := tail (if ns.getD k 0 < 0 then -ns.getD k 0 else ns.getD k 0)
    refine ⟨N, ?_⟩
    rw [← e]
    simp -implicitDefEqProofs [w_box, hlen, hk, hx]
  · obtain ⟨N, e⟩ := tail 0
    refine ⟨N, ?_⟩
    rw [← e]
    simp -implicitDefEqProofs [w_box, hlen, hk]
end DV
end

set_option linter.all false
set_option maxRecDepth 100000
noncomputable section
namespace DV
theorem eq_str_th {s : Sto} {d : D} (h : ThingIn s d) (w : List Nat) : ∃ b : Bool, cmpop .eq d (.str w) s = .ok (.bl b) s ∧ (b = true ↔ d = .str w) := by
  cases d with
  | str v => exact ⟨v == w, rfl, by
      rw [beq_iff_eq]
      constructor
      · intro h; rw [h]
      · intro h; cases h; rfl⟩
  | ref k =>
    obtain ⟨l, e⟩ := h
    refine ⟨false, ?_, by constructor <;> intro h <;> cases h⟩
    have : eqv s DEEP (.ref k) (.str w) = some false := by
      show eqAtom s (.ref k) (.str w) = _
      unfold eqAtom eqLit
      simp only [kd, e]; rfl
    simp only [cmpop, eqM, this]
  | fn _ => exact h.elim
  | clo _ _ => exact h.elim
  | _ => exact ⟨false, rfl, by constructor <;> intro h <;> cases h⟩
theorem two {l : List D} (h : l.length = 2) : ∃ a b, l = [a, b] := by
  match l, h with
  | [a, b], _ => exact ⟨a, b, rfl⟩
@[simp] theorem evI_enum {F : Fns} {ρ : Env} {s : Sto} (e : E) : evI F (.enum (.seq e)) ρ s = (ev F e ρ s).bind fun d s => (enumM d s).bind fun q s => .ok ⟨enumL 0 q.its, q.src⟩ s := rfl
end DV
end

set_option linter.all false
set_option maxRecDepth 100000
noncomputable section
namespace DV
theorem eq_strs (v w : List Nat) (s : Sto) : cmpop .eq (.str v) (.str w) s = .ok (.bl (decide (v = w))) s := by
  obtain ⟨b, e, q⟩ := eq_str_th (s := s) (d := .str v) trivial w
  rw [e]
  congr 2
  rw [Bool.eq_iff_iff, q, decide_eq_true_iff]
  constructor
  · intro h; cases h; rfl
  · intro h; rw [h]
end DV
end

set_option linter.all false
set_option maxRecDepth 100000
noncomputable section
namespace DV
theorem draw_on {P : Pr} [Has P w_draw] (n : Nat) {s t : Sto} {r : Nat} (hr : r < s.length) (b : Int) (many : Int) (h0 : 0 < many) (h : many ≤ 10 ^ 90) :
    ∃ (k : Nat) (b' : Int), (k : Int) < many ∧ (callN P (n + 1)).call "_law_draw" [.ref r, .int many] (s.set r (boxO b) ++ t) = .ok (.int k) (s.set r (boxO b') ++ t) := by
  obtain ⟨k, b', h1, h2⟩ := draw_ex (P := P) n (s := s.set r (boxO b) ++ t) (r := r) ⟨b, get_app (get_set hr)⟩ many h0 h
  refine ⟨k, b', h1, ?_⟩
  rw [h2, set_app (by rw [List.length_set]; exact hr), List.set_set]
theorem app_onB {s t : Sto} {r : Nat} {b : Int} {l : List D} {v : D} (h : l.length < LIM) : meth .append (.ref s.length) [v] (s.set r (boxO b) ++ (.lst l :: t)) = .ok .non (s.set r (boxO b) ++ (.lst (l ++ [v]) :: t)) := by
  rw [append_lst (l := l) (by rw [List.getElem?_append_right (by simp)]; simp) h]
  congr 1
  rw [List.set_append, if_neg (by simp)]
  simp
noncomputable def recTail : Ss := (.cons (.ite (.and (.cmp .gt (.var 5) (.cst (.int 0))) (.and (.cmp .lt (.var 6) (.cst (.int 3))) (.cmp .gt (.var 3) (.cst (.int 0))))) (.cons (.ex (.meth .append (.var 4) (.cons (.tup (.cons (.cst (.str [116, 105, 109, 101, 115])) (.cons (.bi .min2 (.cons (.var 7) (.cons (.bin .sub (.var 5) (.cst (.int 1))) .nil))) (.cons (.var 9) .nil)))) .nil))) (.cons (.asg (.one 3) (.bin .sub (.var 3) (.cst (.int 1)))) .nil)) (.cons (.ite (.and (.cmp .gt (.var 5) (.cst (.int 0))) (.cmp .lt (.var 6) (.cst (.int 5)))) (.cons (.ex (.meth .append (.var 4) (.cons (.tup (.cons (.cst (.str [112, 97, 105, 114])) (.cons (.bi .min2 (.cons (.var 7) (.cons (.bin .sub (.var 5) (.cst (.int 1))) .nil))) (.cons (.bi .min2 (.cons (.var 8) (.cons (.bin .sub (.var 5) (.cst (.int 1))) .nil))) .nil)))) .nil))) .nil) (.cons (.ex (.meth .append (.var 4) (.cons (.tup (.cons (.cst (.str [108, 101, 116, 116, 101, 114])) (.cons (.ix (.cst (.str [97, 98, 99])) (.bin .mod (.var 7) (.var 1))) .nil))) .nil))) .nil)) .nil)) .nil)
end DV
end

set_option linter.all false
set_option maxRecDepth 100000
noncomputable section
namespace DV
/-! ### square tables of signs -/
noncomputable def row (m : Nat) (f : Nat → Int) : List D := (List.range m).map fun j => .int (f j)
@[simp] theorem row_len {m : Nat} {f : Nat → Int} : (row m f).length = m := by unfold row; simp
theorem tup_seq {l : List D} (s : Sto) : seqM (.tup l) s = .ok ⟨l, []⟩ s := rfl
/-- each item's part -/
theorem comp_map {ok : Sto → Bool} {g : D → Env → Sto → R (Option D × Env)} (P : Env → Sto → Prop) (f : D → D) (l : List D) (ρ : Env) (s : Sto) (h : P ρ s)
    (o : ∀ ρ s, P ρ s → ok s = true) (st : ∀ d ∈ l, ∀ ρ s, P ρ s → ∃ ρ' s', g d ρ s = .ok (some (f d), ρ') s' ∧ P ρ' s') : ∃ ρ' s', compL ok g l ρ s = .ok (l.map f) s' ∧ P ρ' s' := by
  obtain ⟨ρ', s', e, p⟩ := comp_inv P (fun d => some (f d)) l ρ s h o st
  refine ⟨ρ', s', ?_, p⟩
  rw [e]; congr 1; induction l <;> simp_all
/-- the same of range(n), by a function of the number -/
theorem comp_rng {ok : Sto → Bool} {g : D → Env → Sto → R (Option D × Env)} (P : Env → Sto → Prop) (f : Nat → D) (n : Nat) (ρ : Env) (s : Sto) (h : P ρ s)
    (o : ∀ ρ s, P ρ s → ok s = true) (st : ∀ j, j < n → ∀ ρ s, P ρ s → ∃ ρ' s', g (.int (j : Int)) ρ s = .ok (some (f j), ρ') s' ∧ P ρ' s') : ∃ ρ' s', compL ok g (rngL 0 (n : Int)) ρ s = .ok ((List.range n).map f) s' ∧ P ρ' s' := by
  obtain ⟨ρ', s', e, p⟩ := comp_map (g := g) P (fun d => match d with | .int i => f i.toNat | d => d) (rngL 0 (n : Int)) ρ s h o fun d hd ρ s hp => by
    obtain ⟨j, hj⟩ := List.getElem?_of_mem hd
    obtain ⟨h2, rfl⟩ := rngL_get hj
    obtain ⟨ρ', s', e, p⟩ := st j (by omega) ρ s hp
    refine ⟨ρ', s', ?_, p⟩
    rw [Int.zero_add, e]; rfl
  refine ⟨ρ', s', ?_, p⟩
  rw [e]
  congr 1
  unfold rngL
  rw [List.map_map, show ((n : Int) - 0).toNat = n by omega]
  exact List.map_congr_left fun j _ => by
    show f ((0 : Int) + (j : Int)).toNat = f j
    congr 1; omega
theorem rngL_len (n : Nat) : (rngL 0 (n : Int)).length = n := by simp [rngL]
theorem rngL_at {n j : Nat} {d : D} (h : (rngL 0 (n : Int))[j]? = some d) : j < n ∧ d = .int (j : Int) := by
  obtain ⟨h1, rfl⟩ := rngL_get h
  exact ⟨by omega, by rw [Int.zero_add]⟩
theorem app_mid {s t : Sto} {l : List D} {v : D} (h : l.length < LIM) : meth .append (.ref s.length) [v] (s ++ .lst l :: t) = .ok .non (s ++ .lst (l ++ [v]) :: t) := by
  rw [append_lst (l := l) (by rw [List.getElem?_append_right (Nat.le_refl _)]; simp) h, List.set_append_right _ _ (Nat.le_refl _)]
  simp
/-! ### the product, as the law forms it -/
end DV
end

set_option linter.all false
set_option maxRecDepth 100000
noncomputable section
namespace DV
/-! ### a machine drawn of a box -/
end DV
end

set_option linter.all false
set_option maxRecDepth 100000
noncomputable section
namespace DV
/-! ### the signs of a letter -/
noncomputable def lines (m : Nat) (f : Nat → Nat → Int) : Sto := (List.range m).map fun i => .lst (row m (f i))
@[simp] theorem lines_len {m : Nat} {f : Nat → Nat → Int} : (lines m f).length = m := by unfold lines; simp
noncomputable def refs (p m : Nat) : List D := (List.range m).map fun i => .ref (p + i)
end DV
end

set_option linter.all false
set_option maxRecDepth 100000
noncomputable section
namespace DV
/-! ### walks -/
@[simp] theorem evI_zip {F : Fns} {ρ : Env} {s : Sto} (a b : E) : evI F (.zip (.seq a) (.seq b)) ρ s = (ev F a ρ s).bind fun x s => (ev F b ρ s).bind fun y s => (drawM x s).bind fun p s => (drawM y s).bind fun q s => .ok ⟨zipL p.its q.its, p.src ++ q.src⟩ s := rfl
theorem ix_str {l : List Nat} {j c : Nat} {s : Sto} (hj : l[j]? = some c) : ixM (.str l) (.int (j : Int)) s = .ok (.str [c]) s := by
  have hl : j < l.length := (List.getElem?_eq_some_iff.mp hj).1
  have e : l[j] = c := (List.getElem?_eq_some_iff.mp hj).2
  simp [ixM, ixn, hl, e]
end DV
end

set_option linter.all false
set_option maxRecDepth 100000
noncomputable section
namespace DV
end DV
end

set_option linter.all false
set_option maxRecDepth 100000
noncomputable section
namespace DV
end DV
end

set_option linter.all false
set_option maxRecDepth 100000
noncomputable section
namespace DV
/-! ### the sharp, as the law forms it -/
noncomputable def shN (f : Nat → Nat → Int) (i j : Nat) : Nat → Int
  | 0 => 3
  | k + 1 => let b := max (max (f i k) (if f k k = 1 then 2 else f k k)) (f k j); if b < shN f i j k then b else shN f i j k
noncomputable def sh (m : Nat) (f : Nat → Nat → Int) (i j : Nat) : Int := shN f i j m
theorem app_tail {s : Sto} {l : List D} {v : D} (h : l.length < LIM) : meth .append (.ref s.length) [v] (s ++ [.lst l]) = .ok .non (s ++ [.lst (l ++ [v])]) := app_mid (t := []) h
/-! ### two tables, the same or not -/
end DV
end

set_option linter.all false
set_option maxRecDepth 100000
noncomputable section
namespace DV
/-! ### steps of a recipe -/
noncomputable def sLet : List Nat := [108, 101, 116, 116, 101, 114]
noncomputable def sPair : List Nat := [112, 97, 105, 114]
noncomputable def sTimes : List Nat := [116, 105, 109, 101, 115]
theorem nclL_all {l : List D} (h : ∀ d ∈ l, d.ncl = true) : D.nclL l = true := by
  induction l with
  | nil => rfl
  | cons d l ih => unfold D.nclL; rw [h d (List.mem_cons_self ..), ih fun x hx => h x (List.mem_cons_of_mem _ hx)]; rfl
theorem nats_ncl {l : List Nat} : D.nclL (nats l) = true := nclL_all fun d hd => by obtain ⟨x, _, rfl⟩ := List.mem_map.mp hd; rfl
theorem ints_ncl {l : List Int} : D.nclL (l.map D.int) = true := nclL_all fun d hd => by obtain ⟨x, _, rfl⟩ := List.mem_map.mp hd; rfl
theorem all_set {s : Sto} {r : Nat} {o : O} (h : s.all O.ncl = true) (ho : o.ncl = true) : (s.set r o).all O.ncl = true := by
  rw [List.all_eq_true] at h ⊢
  intro x hx
  rcases List.mem_or_eq_of_mem_set hx with h1 | h1
  · exact h x h1
  · rw [h1]; exact ho
section
variable {s : Sto} {r : Nat} {b : Int} {A B C : List D} {T : Sto}
end
end DV
end

set_option linter.all false
set_option maxRecDepth 100000
noncomputable section
namespace DV
end DV
end

set_option linter.all false
set_option maxRecDepth 100000
noncomputable section
namespace DV
/-! ### some power of a table is steady, soon -/
section
variable {m : Nat} {f : Nat → Nat → Int} {x : Int}
end
end DV
end

set_option linter.all false
set_option maxRecDepth 100000
noncomputable section
namespace DV
/-! ### steps whose parts stand before them -/
end DV
end

set_option linter.all false
set_option maxRecDepth 100000
noncomputable section
namespace DV
/-! ### what a recipe counts -/
theorem take_snoc {α : Type} {l : List α} {k : Nat} {x : α} (h : l[k]? = some x) : l.take (k + 1) = l.take k ++ [x] := by
  rw [List.take_succ, h]; rfl
noncomputable def TB : Int := 2 ^ (2 + 104 * 99)
theorem pow_mono {a b : Nat} (h : a ≤ b) : (2 : Int) ^ a ≤ 2 ^ b := by
  have h2 : (2 : Nat) ^ a ≤ 2 ^ b := Nat.pow_le_pow_right (by decide) h
  have : ((2 ^ a : Nat) : Int) ≤ ((2 ^ b : Nat) : Int) := by exact_mod_cast h2
  simpa using this
theorem big_ok {v : Int} (h0 : 0 ≤ v) (h : v ≤ TB + 100000) : v.natAbs < BIG := by
  have h1 : TB + 100000 < 2 ^ 11000 := by unfold TB; decide +kernel
  have h2 : (2 : Nat) ^ 11000 ≤ BIG := by unfold BIG; exact Nat.pow_le_pow_right (by decide) (by decide)
  have h3 : ((2 ^ 11000 : Nat) : Int) = (2 : Int) ^ 11000 := by push_cast; rfl
  omega
theorem c_big {c : Int} (h0 : 0 ≤ c) (h : c ≤ 2 ^ 103) : c.natAbs < BIG := big_ok h0 (Int.le_trans h (by
  have : (2 : Int) ^ 103 ≤ TB := by unfold TB; exact pow_mono (by omega)
  omega))
theorem mulOk_b {a b : Int} (h1 : a.natAbs < BIG) (h2 : b.natAbs < BIG) : mulOk a b = true := by
  unfold mulOk; simp [h1, h2]
/-! ### the law's own count -/
end DV
end

set_option linter.all false
set_option maxRecDepth 100000
noncomputable section
namespace DV
/-! ### closures -/
section
variable {F : Fns} {ρ : Env} {s : Sto}
/-- what is held is called -/
noncomputable def apV (F : Fns) (d : D) (l : List D) (s : Sto) : R D := match d with
  | .fn f => F.call f l s
  | .clo id cs => F.lam id cs l s
  | _ => .bad
theorem ev_callV {i : Nat} {d : D} (es : Es) (h : ρ[i]? = some (some d)) : ev F (.callV i es) ρ s = (evs F es ρ s).bind fun l s => apV F d l s := by
  show (evs F es ρ s).bind (fun l s => match ρ[i]? with
    | some (some (.fn f)) => F.call f l s
    | some (some (.clo id cs)) => F.lam id cs l s
    | _ => .bad) = _
  rw [h]
  cases d <;> rfl
theorem evas_lam {id : String} {caps : List Nat} {cs : List D} (as : As) (h : getVs ρ caps = some cs) : evas F (.lam id caps as) ρ s = (evas F as ρ s).bind fun l s => .ok (.clo id cs :: l) s := by
  show (match getVs ρ caps with
    | some cs => (evas F as ρ s).bind fun l s => R.ok (D.clo id cs :: l) s
    | none => .bad) = _
  rw [h]
end
theorem all_snoc {s : Sto} {o : O} (h : s.all O.ncl = true) (ho : o.ncl = true) : (s ++ [o]).all O.ncl = true := by rw [List.all_append, h]; simp [ho]
/-! ### a recipe with times in place of sharps -/
theorem canon_one {s : Sto} {o : O} (ho : o.bnd s.length = true) : canon s (.ref s.length) (s ++ [o]) = .ok (.ref s.length) (s ++ [o]) := by
  have := canon_new (s := s) (t := []) (u := []) ho
  simpa using this
/-! ### a recipe is folded -/
end DV
end

set_option linter.all false
set_option maxRecDepth 100000
noncomputable section
namespace DV
/-! ### the program's square tables -/
/-! ### products and sharps, as the program forms them -/
section
variable {P : Pr} [Has P d_grid] [Has P d_sign_product] [HasL P d_sign_product_l0]
end
end DV
end

set_option linter.all false
set_option maxRecDepth 100000
noncomputable section
namespace DV
section
variable {P : Pr} [Has P d_grid] [Has P d_sign_product] [HasL P d_sign_product_l0] [Has P d_is_steady]
variable [Has P d_round_of] [Has P d_sharpened] [HasL P d_sharpened_l0] [HasC P "FREE" (.int 0)] [HasC P "UNBOUND" (.int 2)] [HasC P "NONE" (.int 3)]
end
/-! ### a steady power -/
section
variable {P : Pr} [Has P d_grid] [Has P d_sign_product] [HasL P d_sign_product_l0] [Has P d_is_steady] [Has P d_steady_power]
end
end DV
end

set_option linter.all false
set_option maxRecDepth 100000
noncomputable section
namespace DV
/-! ### recipes drawn of a box -/
inductive Rst where
  | let_ (c : Nat) | pair (i j : Nat) | times (i n : Nat)
noncomputable def Rst.d : Rst → D
  | .let_ c => .tup [.str [108, 101, 116, 116, 101, 114], .str [c]]
  | .pair i j => .tup [.str [112, 97, 105, 114], .int i, .int j]
  | .times i n => .tup [.str [116, 105, 109, 101, 115], .int i, .int n]
theorem Rst.bnd (x : Rst) (n : Nat) : x.d.bnd n = true := by cases x <;> rfl
noncomputable def RsOk (k : Nat) : Rst → Prop
  | .let_ c => 97 ≤ c ∧ c < 100
  | .pair i j => i < k ∧ j < k
  | .times i n => i < k ∧ 1 ≤ n ∧ n ≤ 10 ^ 30
noncomputable def RssOk (l : List Rst) : Prop := ∀ k x, l[k]? = some x → RsOk k x
theorem RssOk.nil : RssOk [] := fun k x h => by cases h
theorem RssOk.snoc {l : List Rst} {x : Rst} (h : RssOk l) (hx : RsOk l.length x) : RssOk (l ++ [x]) := fun k y e => by
  by_cases hk : k < l.length
  · rw [List.getElem?_append_left hk] at e; exact h k y e
  · have hk2 := (List.getElem?_eq_some_iff.mp e).1
    simp at hk2
    have : k = l.length := by omega
    subst this
    rw [List.getElem?_append_right (Nat.le_refl _), Nat.sub_self] at e
    cases e; exact hx
noncomputable def recHead : Ss → Ss := fun t => (.cons (.asg (.one 6) (.call "_law_draw" (.ex (.var 0) (.ex (.cst (.int 6)) .nil)))) (.cons (.asg (.one 7) (.call "_law_draw" (.ex (.var 0) (.ex (.bin .add (.var 5) (.cst (.int 1))) .nil)))) (.cons (.asg (.one 8) (.call "_law_draw" (.ex (.var 0) (.ex (.bin .add (.var 5) (.cst (.int 1))) .nil)))) (.cons (.asg (.one 9) (.bin .add (.cst (.int 1)) (.call "_law_draw" (.ex (.var 0) (.ex (.cst (.int 6)) .nil))))) (.cons (.ite (.cmp .eq (.call "_law_draw" (.ex (.var 0) (.ex (.cst (.int 3)) .nil))) (.cst (.int 2))) (.cons (.asg (.one 9) (.bin .add (.cst (.int 1)) (.call "_law_draw" (.ex (.var 0) (.ex (.bin .pow (.cst (.int 10)) (.cst (.int 30))) .nil))))) .nil) .nil) t)))))
noncomputable def envR (s : Sto) (r : Nat) (most z : Int) (x5 x6 x7 x8 x9 : Option D) : Env := [some (.ref r), some (.int 3), some (.int most), some (.int z), some (.ref s.length), x5, x6, x7, x8, x9]
theorem recTail_ok {F : Fns} {s : Sto} {r : Nat} {b most z : Int} {k way one other many : Nat} {l : List Rst} (hl : l.length = k) (hk : k < 1000) (h1 : one < k + 1) (h2 : other < k + 1) (hm : 1 ≤ many) (hm2 : many ≤ 10 ^ 30) :
    ∃ (x : Rst) (z' : Int), RsOk k x ∧ exs F recTail (envR s r most z (some (.int k)) (some (.int way)) (some (.int one)) (some (.int other)) (some (.int many))) (s.set r (boxO b) ++ [.lst (l.map Rst.d)]) = .ok (.next (envR s r most z' (some (.int k)) (some (.int way)) (some (.int one)) (some (.int other)) (some (.int many)))) (s.set r (boxO b) ++ [.lst ((l ++ [x]).map Rst.d)]) := by
  have ap : ∀ v, meth .append (.ref s.length) [v] (s.set r (boxO b) ++ [.lst (l.map Rst.d)]) = .ok .non (s.set r (boxO b) ++ [.lst (l.map Rst.d ++ [v])]) := fun v => app_onB (by unfold LIM; rw [List.length_map]; omega)
  have hmin : ∀ a : Nat, 0 < k → (if (k : Int) - 1 < (a : Int) then (k : Int) - 1 else (a : Int)) = ((min a (k - 1) : Nat) : Int) := fun a _ => by omega
  unfold recTail envR
  by_cases hA : 0 < k ∧ (way : Int) < 3 ∧ (0 : Int) < z
  · obtain ⟨a1, a2, a3⟩ := hA
    have a1' : (0 : Int) < (k : Int) := by omega
    refine ⟨.times (min one (k - 1)) many, z - 1, ⟨by omega, hm, hm2⟩, ?_⟩
    simp -implicitDefEqProofs only [exs_cons, exs_nil, ex_ite, ev_and, ev_cmp, ev_var, ev_cst, Cn_int, Cn_str, getV_0, getV_s, R.bind_ok, gt_int, lt_int, a1', a2, a3, decide_true, tru_bl, if_true, ex_ex, ev_meth, evs_cons, evs_nil, ev_tup, ev_bi, ev_bin, sub_int, min2_int, hmin one a1, ap, nxt_next, ex_asg, bindT_one, setV_s, setV_0, Option.map_some, setC_some, List.map_append]
    rfl
  · have c1 : ev F (.and (.cmp .gt (.var 5) (.cst (.int 0))) (.and (.cmp .lt (.var 6) (.cst (.int 3))) (.cmp .gt (.var 3) (.cst (.int 0))))) [some (.ref r), some (.int 3), some (.int most), some (.int z), some (.ref s.length), some (.int k), some (.int way), some (.int one), some (.int other), some (.int many)] (s.set r (boxO b) ++ [.lst (l.map Rst.d)]) = .ok (.bl false) (s.set r (boxO b) ++ [.lst (l.map Rst.d)]) := by
      by_cases a1 : (0 : Int) < (k : Int)
      · by_cases a2 : (way : Int) < 3
        · have a3 : ¬ (0 : Int) < z := fun q => hA ⟨by omega, a2, q⟩
          simp -implicitDefEqProofs only [ev_and, ev_cmp, ev_var, ev_cst, Cn_int, getV_0, getV_s, R.bind_ok, gt_int, lt_int, a1, a2, a3, decide_true, decide_false, tru_bl, if_true]
        · simp -implicitDefEqProofs only [ev_and, ev_cmp, ev_var, ev_cst, Cn_int, getV_0, getV_s, R.bind_ok, gt_int, lt_int, a1, a2, decide_true, decide_false, tru_bl, if_true, if_false, Bool.false_eq_true]
      · simp -implicitDefEqProofs only [ev_and, ev_cmp, ev_var, ev_cst, Cn_int, getV_0, getV_s, R.bind_ok, gt_int, a1, decide_false, tru_bl, if_false, Bool.false_eq_true]
    by_cases hB : 0 < k ∧ (way : Int) < 5
    · obtain ⟨a1, a2⟩ := hB
      have a1' : (0 : Int) < (k : Int) := by omega
      refine ⟨.pair (min one (k - 1)) (min other (k - 1)), z, ⟨by omega, by omega⟩, ?_⟩
      rw [exs_cons, ex_ite, c1]
      simp -implicitDefEqProofs only [tru_bl, if_false, Bool.false_eq_true, exs_cons, exs_nil, ex_ite, ev_and, ev_cmp, ev_var, ev_cst, Cn_int, Cn_str, getV_0, getV_s, R.bind_ok, gt_int, lt_int, a1', a2, decide_true, if_true, ex_ex, ev_meth, evs_cons, evs_nil, ev_tup, ev_bi, ev_bin, sub_int, min2_int, hmin one a1, hmin other a1, ap, nxt_next, List.map_append]
      rfl
    · have c2 : ev F (.and (.cmp .gt (.var 5) (.cst (.int 0))) (.cmp .lt (.var 6) (.cst (.int 5)))) [some (.ref r), some (.int 3), some (.int most), some (.int z), some (.ref s.length), some (.int k), some (.int way), some (.int one), some (.int other), some (.int many)] (s.set r (boxO b) ++ [.lst (l.map Rst.d)]) = .ok (.bl false) (s.set r (boxO b) ++ [.lst (l.map Rst.d)]) := by
        by_cases a1 : (0 : Int) < (k : Int)
        · have a2 : ¬ (way : Int) < 5 := fun q => hB ⟨by omega, q⟩
          simp -implicitDefEqProofs only [ev_and, ev_cmp, ev_var, ev_cst, Cn_int, getV_0, getV_s, R.bind_ok, gt_int, lt_int, a1, a2, decide_true, decide_false, tru_bl, if_true]
        · simp -implicitDefEqProofs only [ev_and, ev_cmp, ev_var, ev_cst, Cn_int, getV_0, getV_s, R.bind_ok, gt_int, a1, decide_false, tru_bl, if_false, Bool.false_eq_true]
      have em : ((one : Int) % 3) = ((one % 3 : Nat) : Int) := by omega
      refine ⟨.let_ (97 + one % 3), z, ⟨by omega, by omega⟩, ?_⟩
      rw [exs_cons, ex_ite, c1]
      simp -implicitDefEqProofs only [tru_bl, if_false, Bool.false_eq_true, exs_cons, exs_nil, ex_ite, c2, ex_ex, ev_meth, evs_cons, evs_nil, ev_tup, ev_ix, ev_bin, ev_var, ev_cst, Cn_int, Cn_str, getV_0, getV_s, R.bind_ok, mod_int (show (0 : Int) < 3 by decide), em, abc_ix (show one % 3 < 3 by omega), ap, nxt_next, List.map_append]
      rfl
noncomputable def RecR (s : Sto) (r most : Nat) (x : R D) : Prop := ∃ (l : List Rst) (b : Int), RssOk l ∧ 1 ≤ l.length ∧ l.length ≤ most ∧ x = .ok (.tup (l.map Rst.d)) (s.set r (boxO b))
theorem recipe_ok {P : Pr} [Has P w_draw] [Has P w_recipe] (n : Nat) {s : Sto} {r : Nat} (hs : ∃ b, s[r]? = some (boxO b)) (most : Nat) (h0 : 1 ≤ most) (hm : most ≤ 500) (z : Int) : RecR s r most ((callN P (n + 2)).call "_law_recipe" [.ref r, .int 3, .int most, .int z] s) := by
  have e0 : (callN P (n + 2)).call "_law_recipe" [.ref r, .int 3, .int most, .int z] s = _ := call_def w_recipe (n := n + 1) rfl
  have body : w_recipe.body = .cons (.asg (.one 4) (.lst .nil)) (.cons (.for_ (.one 5) (.rng1 (.bin .add (.cst (.int 1)) (.call "_law_draw" (.ex (.var 0) (.ex (.var 2) .nil))))) (recHead recTail)) (.cons (.ret (.mk .tuple (.seq (.var 4)))) .nil)) := rfl
  have hr := box_lt hs
  obtain ⟨b0, hb0⟩ := hs
  have es : s.set r (boxO b0) = s := by
    rw [show boxO b0 = s[r] from ((List.getElem?_eq_some_iff.mp hb0).2).symm, List.set_getElem_self]
  obtain ⟨d, b1, hd, ed⟩ := draw_on (P := P) n (t := [.lst []]) hr b0 most (by omega) (small90 (by omega))
  rw [es] at ed
  have key := for_inv (ok := fun s1 => chk (s.set r (boxO b1) ++ [O.lst []]) s1 []) (g := turn (callN P (n + 1)) (.one 5) (recHead recTail)) (fun k ρ t => ∃ (l : List Rst) (b : Int) (z : Int) (x5 x6 x7 x8 x9 : Option D), RssOk l ∧ l.length = k ∧ ρ = envR s r most z x5 x6 x7 x8 x9 ∧ t = s.set r (boxO b) ++ [.lst (l.map Rst.d)]) (rngL 0 ((d + 1 : Nat) : Int)) 0 (envR s r most z none none none none none) (s.set r (boxO b1) ++ [O.lst []]) ⟨[], b1, z, none, none, none, none, none, .nil, rfl, rfl, rfl⟩ (fun _ _ _ _ _ => rfl) (by
    rintro k dd ρ t hk ⟨l, b, z, x5, x6, x7, x8, x9, hl, hlk, rfl, rfl⟩
    have hk5 := (rngL_at hk).1
    rw [(rngL_at hk).2, Nat.zero_add] at *
    obtain ⟨way, c1, _, f1⟩ := draw_on (P := P) n (t := [.lst (l.map Rst.d)]) hr b 6 (by decide) (by decide)
    obtain ⟨one, c2, h1, f2⟩ := draw_on (P := P) n (t := [.lst (l.map Rst.d)]) hr c1 ((k : Int) + 1) (by omega) (small90 (by omega))
    obtain ⟨other, c3, h2, f3⟩ := draw_on (P := P) n (t := [.lst (l.map Rst.d)]) hr c2 ((k : Int) + 1) (by omega) (small90 (by omega))
    obtain ⟨q4, c4, h4, f4⟩ := draw_on (P := P) n (t := [.lst (l.map Rst.d)]) hr c3 6 (by decide) (by decide)
    obtain ⟨q5, c5, h5, f5⟩ := draw_on (P := P) n (t := [.lst (l.map Rst.d)]) hr c4 3 (by decide) (by decide)
    obtain ⟨q6, c6, h6, f6⟩ := draw_on (P := P) n (t := [.lst (l.map Rst.d)]) hr c5 (10 ^ 30) (by decide) (by decide)
    have hp30 : ∀ s : Sto, binop .pow (.int 10) (.int 30) s = .ok (.int (10 ^ 30)) s := fun s => pow_int (by decide)
    obtain ⟨many, b', hm1, hm2, eh⟩ : ∃ (many : Nat) (b' : Int), 1 ≤ many ∧ many ≤ 10 ^ 30 ∧ turn (callN P (n + 1)) (.one 5) (recHead recTail) (.int k) (envR s r most z x5 x6 x7 x8 x9) (s.set r (boxO b) ++ [.lst (l.map Rst.d)]) = exs (callN P (n + 1)) recTail (envR s r most z (some (.int k)) (some (.int way)) (some (.int one)) (some (.int other)) (some (.int many))) (s.set r (boxO b') ++ [.lst (l.map Rst.d)]) := by
      unfold turn recHead envR
      generalize recTail = rt
      by_cases h52 : (q5 : Int) = 2
      · refine ⟨q6 + 1, c6, by omega, by omega, ?_⟩
        simp -implicitDefEqProofs only [bindT_one, setV_s, setV_0, Option.map_some, exs_cons, exs_nil, ex_asg, ev_call, evas_ex, evas_nil, ev_var, ev_bin, ev_cst, Cn_int, getV_0, getV_s, R.bind_ok, f1, f2, f3, f4, add_int, setC_some, nxt_next, ex_ite, ev_cmp, f5, eq_int, h52, decide_true, tru_bl, if_true, hp30, f6, show ((1 : Int) + (q6 : Int)) = ((q6 + 1 : Nat) : Int) by omega]
      · refine ⟨q4 + 1, c5, by omega, ?_, ?_⟩
        · have : q4 + 1 ≤ 6 := by omega
          exact Nat.le_trans this (by decide)
        · simp -implicitDefEqProofs only [bindT_one, setV_s, setV_0, Option.map_some, exs_cons, exs_nil, ex_asg, ev_call, evas_ex, evas_nil, ev_var, ev_bin, ev_cst, Cn_int, getV_0, getV_s, R.bind_ok, f1, f2, f3, f4, add_int, setC_some, nxt_next, ex_ite, ev_cmp, f5, eq_int, h52, decide_false, Bool.false_eq_true, tru_bl, if_false, show ((1 : Int) + (q4 : Int)) = ((q4 + 1 : Nat) : Int) by omega]
    obtain ⟨x, z', hx, et⟩ := recTail_ok (F := callN P (n + 1)) (s := s) (r := r) (b := b') (most := most) (z := z) (k := k) (way := way) (one := one) (other := other) (many := many) (l := l) hlk (by omega) (by omega) (by omega) hm1 hm2
    exact ⟨_, _, .inl (eh.trans et), l ++ [x], b', z', _, _, _, _, _, hl.snoc (by rw [hlk]; exact hx), by simp [hlk], rfl, rfl⟩)
  obtain ⟨ρ', s', ek, l, b, z', x5, x6, x7, x8, x9, hl, hlk, rfl, rfl⟩ := key
  rw [rngL_len, Nat.zero_add] at hlk
  have hl3 : (s.set r (boxO b) ++ [O.lst (l.map Rst.d)])[s.length]? = some (.lst (l.map Rst.d)) := by rw [List.getElem?_append_right (by simp)]; simp
  refine ⟨l, b, hl, by omega, by omega, ?_⟩
  rw [e0, body, show (List.map some [D.ref r, .int 3, .int most, .int z] ++ List.replicate w_recipe.vs none) = [some (D.ref r), some (.int 3), some (.int most), some (.int z), none, none, none, none, none, none] from rfl]
  simp -implicitDefEqProofs only [exs_cons, exs_nil, ex_asg, ev_lst, evs_nil, R.bind_ok, alloc_eq, bindT_one, setV_s, setV_0, Option.map_some, setC_some, nxt_next, ex_for, evI_rng1, ev_bin, ev_cst, Cn_int, ev_call, evas_ex, evas_nil, ev_var, getV_0, getV_s, ed, add_int, show ((1 : Int) + (d : Int)) = ((d + 1 : Nat) : Int) by omega]
  rw [rng1_ok (by unfold W62; omega) (by unfold W62; omega)]
  simp only [R.bind_ok]
  rw [show ([some (D.ref r), some (.int 3), some (.int most), some (.int z), some (.ref s.length), none, none, none, none, none] : Env) = envR s r most z none none none none none from rfl, ek]
  unfold envR
  simp -implicitDefEqProofs only [R.bind_ok, nxt_next, exs_cons, exs_nil, ex_ret, ev_mk, evL_seq, ev_var, getV_0, getV_s, lstM, hl3, mk, nxt_ret, fin_ret]
  refine canon_set (fun m => ?_) (by nofun) rfl
  unfold D.bnd
  exact bndL_all (fun x hx n => by obtain ⟨y, _, rfl⟩ := List.mem_map.mp hx; exact y.bnd n) m
end DV
end

set_option linter.all false
set_option maxRecDepth 100000
noncomputable section
namespace DV
theorem rl0 {ch : Nat} {s : Sto} : ixM (Rst.let_ ch).d (.int 0) s = .ok (.str sLet) s := rfl
theorem rl1 {ch : Nat} {s : Sto} : ixM (Rst.let_ ch).d (.int 1) s = .ok (.str [ch]) s := rfl
theorem rp0 {i j : Nat} {s : Sto} : ixM (Rst.pair i j).d (.int 0) s = .ok (.str sPair) s := rfl
theorem rp1 {i j : Nat} {s : Sto} : ixM (Rst.pair i j).d (.int 1) s = .ok (.int i) s := rfl
theorem rp2 {i j : Nat} {s : Sto} : ixM (Rst.pair i j).d (.int 2) s = .ok (.int j) s := rfl
theorem rt0 {i n : Nat} {s : Sto} : ixM (Rst.times i n).d (.int 0) s = .ok (.str sTimes) s := rfl
theorem rt1 {i n : Nat} {s : Sto} : ixM (Rst.times i n).d (.int 1) s = .ok (.int i) s := rfl
theorem rt2 {i n : Nat} {s : Sto} : ixM (Rst.times i n).d (.int 2) s = .ok (.int n) s := rfl
/-! ### a recipe (a tuple, each times with its own number) is folded -/
theorem folded_okR {P : Pr} [Has P d_folded] (n : Nat) {l : List Rst} (hl : l.length ≤ 5100) (hk : RssOk l) {s : Sto} (d1 d2 d3 : D) (W : Nat → D) (hW : ∀ k n, (W k).bnd n = true)
    (h1 : ∀ k ch, l[k]? = some (.let_ ch) → apV (callN P n) d1 [.str [ch]] (s ++ [.lst ((List.range k).map W)]) = .ok (W k) (s ++ [.lst ((List.range k).map W)]))
    (h2 : ∀ k i j, l[k]? = some (.pair i j) → apV (callN P n) d2 [W i, W j] (s ++ [.lst ((List.range k).map W)]) = .ok (W k) (s ++ [.lst ((List.range k).map W)]))
    (h3 : ∀ k i m, l[k]? = some (.times i m) → apV (callN P n) d3 [W i, .int (m : Nat)] (s ++ [.lst ((List.range k).map W)]) = .ok (W k) (s ++ [.lst ((List.range k).map W)])) :
    (callN P (n + 1)).call "folded" [.tup (l.map Rst.d), d1, d2, d3] s = .ok (.ref s.length) (s ++ [.lst ((List.range l.length).map W)]) := by
  have e0 : (callN P (n + 1)).call "folded" [.tup (l.map Rst.d), d1, d2, d3] s = _ := call_def d_folded (n := n) rfl
  rw [e0, show (List.map some [D.tup (l.map Rst.d), d1, d2, d3] ++ List.replicate d_folded.vs none) = [some (D.tup (l.map Rst.d)), some d1, some d2, some d3, none, none] from rfl]
  simp -implicitDefEqProofs only [d_folded]
  simp -implicitDefEqProofs only [exs_cons, exs_nil, ex_asg, ev_lst, evs_nil, R.bind_ok, alloc_eq, bindT_one, setV_s, setV_0, Option.map_some, setC_some, nxt_next, ex_for, evI_seq, ev_var, getV_0, getV_s]
  rw [show seqM (.tup (l.map Rst.d)) (s ++ [O.lst []]) = .ok ⟨l.map Rst.d, []⟩ (s ++ [O.lst []]) from rfl]
  simp only [R.bind_ok]
  rw [R.bind_assoc]
  refine for_bind (fun k ρ t => ∃ (x : Option D), ρ = [some (D.tup (l.map Rst.d)), some d1, some d2, some d3, some (.ref s.length), x] ∧ t = s ++ [.lst ((List.range k).map W)]) ⟨none, rfl, rfl⟩ (fun _ _ _ _ _ => rfl) ?_ ?_
  · rintro k d ρ t hkk ⟨x, rfl, rfl⟩
    rw [List.getElem?_map] at hkk
    obtain ⟨v, hv, hd⟩ : ∃ v, l[k]? = some v ∧ Rst.d v = d := by
      cases e : l[k]? with
      | none => rw [e] at hkk; cases hkk
      | some v => rw [e] at hkk; exact ⟨v, rfl, Option.some.inj hkk⟩
    subst hd
    have hkl := (List.getElem?_eq_some_iff.mp hv).1
    have hok := hk k v hv
    have L1 : ((List.range k).map W).length < LIM := by unfold LIM; rw [List.length_map, List.length_range]; omega
    have g0 : (s ++ [O.lst ((List.range k).map W)])[s.length]? = some (.lst ((List.range k).map W)) := by rw [List.getElem?_append_right (Nat.le_refl _)]; simp
    have gW : ∀ i, i < k → ixM (.ref s.length) (.int (i : Int)) (s ++ [O.lst ((List.range k).map W)]) = .ok (W i) (s ++ [O.lst ((List.range k).map W)]) := fun i hi => ix_lst g0 (by rw [List.getElem?_map, List.getElem?_range hi]; rfl)
    refine Nx_of (ρ := [some (D.tup (l.map Rst.d)), some d1, some d2, some d3, some (.ref s.length), some v.d]) (s := s ++ [.lst ((List.range (k + 1)).map W)]) ?_ ⟨_, rfl, rfl⟩
    rw [List.range_succ, List.map_append]
    unfold turn
    cases v with
    | let_ ch =>
      have hc1 := h1 k ch hv
      simp -implicitDefEqProofs only [bindT_one, setV_s, setV_0, Option.map_some, exs_cons, exs_nil, ex_ite, ev_cmp, ev_ix, ev_var, ev_cst, Cn_int, Cn_str, getV_0, getV_s, R.bind_ok, rl0, eq_strs, show (sLet = [108, 101, 116, 116, 101, 114]) = True from eq_self _, decide_true, tru_bl, if_true, ex_ex, ev_meth, evs_cons, evs_nil]
      rw [ev_callV (d := d1) _ rfl]
      simp -implicitDefEqProofs only [evs_cons, evs_nil, ev_ix, ev_var, ev_cst, Cn_int, getV_0, getV_s, R.bind_ok, rl1, hc1]
      rw [app_tail L1]; rfl
    | pair i j =>
      obtain ⟨hi, hj⟩ := hok
      have hc1 := h2 k i j hv
      simp -implicitDefEqProofs only [bindT_one, setV_s, setV_0, Option.map_some, exs_cons, exs_nil, ex_ite, ev_cmp, ev_ix, ev_var, ev_cst, Cn_int, Cn_str, getV_0, getV_s, R.bind_ok, rp0, eq_strs, show (sPair = [108, 101, 116, 116, 101, 114]) = False by decide, show (sPair = [112, 97, 105, 114]) = True from eq_self _, decide_true, decide_false, Bool.false_eq_true, tru_bl, if_true, if_false, ex_ex, ev_meth, evs_cons, evs_nil]
      rw [ev_callV (d := d2) _ rfl]
      simp -implicitDefEqProofs only [evs_cons, evs_nil, ev_ix, ev_var, ev_cst, Cn_int, getV_0, getV_s, R.bind_ok, rp1, rp2, gW i hi, gW j hj, hc1]
      rw [app_tail L1]; rfl
    | times i m =>
      obtain ⟨hi, _⟩ := hok
      have hc1 := h3 k i m hv
      simp -implicitDefEqProofs only [bindT_one, setV_s, setV_0, Option.map_some, exs_cons, exs_nil, ex_ite, ev_cmp, ev_ix, ev_var, ev_cst, Cn_int, Cn_str, getV_0, getV_s, R.bind_ok, rt0, eq_strs, show (sTimes = [108, 101, 116, 116, 101, 114]) = False by decide, show (sTimes = [112, 97, 105, 114]) = False by decide, decide_false, Bool.false_eq_true, tru_bl, if_false, ex_ex, ev_meth, evs_cons, evs_nil]
      rw [ev_callV (d := d3) _ rfl]
      simp -implicitDefEqProofs only [evs_cons, evs_nil, ev_ix, ev_var, ev_cst, Cn_int, getV_0, getV_s, R.bind_ok, rt1, rt2, gW i hi, hc1]
      rw [app_tail L1]; rfl
  · rintro ρ t ⟨x, rfl, rfl⟩
    rw [List.length_map]
    simp -implicitDefEqProofs only [nxt_next, exs_cons, exs_nil, ex_ret, ev_var, getV_0, getV_s, R.bind_ok, nxt_ret, fin_ret]
    exact canon_one (by unfold O.bnd; exact bndL_all (fun d hd n => by obtain ⟨x, _, rfl⟩ := List.mem_map.mp hd; exact hW x n) _)
/-! ### how long its words are -/
noncomputable def lenOf (vs : List Nat) : Rst → Nat
  | .let_ _ => 1
  | .pair i j => vs.getD i 0 + vs.getD j 0
  | .times i n => vs.getD i 0 * n
noncomputable def lens (l : List Rst) : List Nat := l.foldl (fun vs x => vs ++ [lenOf vs x]) []
theorem lens_snoc {l : List Rst} {x : Rst} : lens (l ++ [x]) = lens l ++ [lenOf (lens l) x] := by unfold lens; rw [List.foldl_append]; rfl
theorem lens_take {l : List Rst} {k : Nat} {x : Rst} (h : l[k]? = some x) : lens (l.take (k + 1)) = lens (l.take k) ++ [lenOf (lens (l.take k)) x] := by rw [take_snoc h, lens_snoc]
theorem lens_len {l : List Rst} : ∀ k, k ≤ l.length → (lens (l.take k)).length = k
  | 0, _ => by simp [lens]
  | k + 1, h => by
    rw [lens_take (List.getElem?_eq_getElem (show k < l.length by omega)), List.length_append, lens_len k (by omega)]; rfl
theorem lens_more : ∀ (l : List Rst) (vs : List Nat), ∃ t, l.foldl (fun vs x => vs ++ [lenOf vs x]) vs = vs ++ t
  | [], vs => ⟨[], by simp⟩
  | x :: l, vs => by
    obtain ⟨t, e⟩ := lens_more l (vs ++ [lenOf vs x])
    exact ⟨lenOf vs x :: t, by rw [List.foldl_cons, e]; simp⟩
theorem lens_pre {l : List Rst} {k i : Nat} (hk : k ≤ l.length) (hi : i < k) : (lens (l.take k)).getD i 0 = (lens l).getD i 0 := by
  obtain ⟨t, e⟩ := lens_more (l.drop k) (lens (l.take k))
  have : lens l = lens (l.take k) ++ t := by
    rw [← e]
    conv => lhs; rw [← List.take_append_drop k l]
    unfold lens; rw [List.foldl_append]
  have hl := lens_len (l := l) k hk
  rw [this, List.getD_eq_getElem?_getD, List.getD_eq_getElem?_getD, List.getElem?_append_left (by omega)]
theorem lens_at {l : List Rst} {k : Nat} {x : Rst} (h : l[k]? = some x) : (lens l).getD k 0 = lenOf (lens (l.take k)) x := by
  have hk := (List.getElem?_eq_some_iff.mp h).1
  rw [← lens_pre (k := k + 1) (by omega) (Nat.lt_succ_self k), lens_take h]
  have hl := lens_len (l := l) k (by omega)
  rw [List.getD_eq_getElem?_getD, List.getElem?_append_right (by omega), hl, Nat.sub_self]; rfl
/-- each is at least one, none too big -/
theorem lens_bd {l : List Rst} (hl : RssOk l) : ∀ k, k < l.length → 1 ≤ (lens l).getD k 0 ∧ (lens l).getD k 0 ≤ 2 ^ (101 * k) := by
  intro k
  induction k using Nat.strongRecOn with
  | _ k ih =>
    intro hk
    have hx := List.getElem?_eq_getElem hk
    have hok := hl k _ hx
    rw [lens_at hx]
    generalize l[k] = x at hok
    cases x with
    | let_ c => exact ⟨Nat.le_refl _, Nat.one_le_two_pow⟩
    | pair i j =>
      obtain ⟨hi, hj⟩ := hok
      show 1 ≤ (lens (l.take k)).getD i 0 + (lens (l.take k)).getD j 0 ∧ (lens (l.take k)).getD i 0 + (lens (l.take k)).getD j 0 ≤ _
      rw [lens_pre (by omega) hi, lens_pre (by omega) hj]
      have h1 := ih i hi (by omega)
      have h2 := ih j hj (by omega)
      obtain ⟨k', rfl⟩ : ∃ k', k = k' + 1 := ⟨k - 1, by omega⟩
      have p1 : 2 ^ (101 * i) ≤ 2 ^ (101 * k') := Nat.pow_le_pow_right (by decide) (by omega)
      have p2 : 2 ^ (101 * j) ≤ 2 ^ (101 * k') := Nat.pow_le_pow_right (by decide) (by omega)
      have p3 : 2 ^ (101 * (k' + 1)) = 2 ^ (101 * k') * 2 ^ 101 := by rw [show 101 * (k' + 1) = 101 * k' + 101 by omega, Nat.pow_add]
      have p4 : 2 ^ (101 * k') * 2 ≤ 2 ^ (101 * k') * 2 ^ 101 := Nat.mul_le_mul_left _ (by decide)
      rw [p3]
      omega
    | times i m =>
      obtain ⟨hi, hm1, hm2⟩ := hok
      show 1 ≤ (lens (l.take k)).getD i 0 * m ∧ (lens (l.take k)).getD i 0 * m ≤ _
      rw [lens_pre (by omega) hi]
      have h1 := ih i hi (by omega)
      obtain ⟨k', rfl⟩ : ∃ k', k = k' + 1 := ⟨k - 1, by omega⟩
      have p1 : 2 ^ (101 * i) ≤ 2 ^ (101 * k') := Nat.pow_le_pow_right (by decide) (by omega)
      have p3 : 2 ^ (101 * (k' + 1)) = 2 ^ (101 * k') * 2 ^ 101 := by rw [show 101 * (k' + 1) = 101 * k' + 101 by omega, Nat.pow_add]
      rw [p3]
      exact ⟨Nat.mul_pos (by omega) (by omega), Nat.mul_le_mul (Nat.le_trans h1.2 p1) (Nat.le_trans hm2 (by decide))⟩
end DV
end

set_option linter.all false
set_option maxRecDepth 100000
noncomputable section
namespace DV
theorem lens_full {l : List Rst} : (List.range l.length).map (fun k => D.int (((lens l).getD k 0 : Nat) : Int)) = nats (lens l) := by
  have hl := lens_len (l := l) l.length (Nat.le_refl _)
  rw [List.take_length] at hl
  apply List.ext_getElem?
  intro i
  by_cases hi : i < l.length
  · rw [List.getElem?_map, List.getElem?_range hi]
    unfold nats
    rw [List.getElem?_map, List.getElem?_eq_getElem (show i < (lens l).length by omega)]
    simp [List.getD_eq_getElem?_getD, List.getElem?_eq_getElem (show i < (lens l).length by omega)]
  · rw [List.getElem?_eq_none (by simp; omega), List.getElem?_eq_none (by unfold nats; simp; omega)]
theorem lens_big {l : List Rst} (hl : RssOk l) (h5 : l.length ≤ 500) {k : Nat} (hk : k < l.length) : ((((lens l).getD k 0 : Nat) : Int)).natAbs < BIG := by
  have h1 := (lens_bd hl k hk).2
  have h2 : 2 ^ (101 * k) ≤ 2 ^ 50600 := Nat.pow_le_pow_right (by decide) (by omega)
  have h3 : 2 ^ 50600 < BIG := by unfold BIG; exact Nat.pow_lt_pow_right (by decide) (by decide)
  rw [Int.natAbs_natCast]
  omega
theorem n30_big {n : Nat} (h : n ≤ 10 ^ 30) : ((n : Int)).natAbs < BIG := c_big (by omega) (by
  have : ((n : Nat) : Int) ≤ ((10 ^ 30 : Nat) : Int) := by exact_mod_cast h
  exact Int.le_trans this (by decide +kernel))
section
variable {P : Pr} [Has P d_folded] [Has P d_counted] [HasL P d_counted_l0] [HasL P d_counted_l1] [HasL P d_counted_l2]
theorem countedR_ok (n : Nat) {l : List Rst} (h5 : l.length ≤ 500) (hk : RssOk l) {s : Sto} (hs : s.all O.ncl = true) :
    (callN P (n + 3)).call "counted" [.tup (l.map Rst.d), .int 1] s = .ok (.ref s.length) (s ++ [.lst (nats (lens l))]) := by
  have e0 : (callN P (n + 3)).call "counted" [.tup (l.map Rst.d), .int 1] s = _ := call_def d_counted (n := n + 2) rfl
  have hlen := lens_len (l := l) l.length (Nat.le_refl _)
  rw [List.take_length] at hlen
  have nc : ∀ k, (s ++ [O.lst ((List.range k).map fun k => D.int (((lens l).getD k 0 : Nat) : Int))]).all O.ncl = true := fun k => by
    rw [List.all_append, hs]
    simp only [List.all_cons, List.all_nil, O.ncl, Bool.true_and, Bool.and_true]
    exact nclL_all fun d hd => by obtain ⟨x, _, rfl⟩ := List.mem_map.mp hd; rfl
  have hf := folded_okR (P := P) (n + 1) (by omega) hk (s := s) (.clo "counted.2" [.int 1]) (.clo "counted.1" []) (.clo "counted.0" []) (fun k => .int (((lens l).getD k 0 : Nat) : Int)) (fun _ _ => rfl)
    (fun k ch hv => by
      refine (lam_def d_counted_l2 (n := n) rfl rfl (by rw [nc k]; rfl)).trans ?_
      rw [lens_at hv]
      exact canon_int)
    (fun k i j hv => by
      refine (lam_def d_counted_l1 (n := n) rfl rfl (by rw [nc k]; rfl)).trans ?_
      have hkl := (List.getElem?_eq_some_iff.mp hv).1
      obtain ⟨h1, h2⟩ := hk k _ hv
      have e : (((lens l).getD k 0 : Nat) : Int) = (((lens l).getD i 0 : Nat) : Int) + (((lens l).getD j 0 : Nat) : Int) := by
        rw [lens_at hv, show lenOf (lens (l.take k)) (.pair i j) = (lens (l.take k)).getD i 0 + (lens (l.take k)).getD j 0 from rfl, lens_pre (by omega) h1, lens_pre (by omega) h2]
        omega
      rw [e]
      exact canon_int)
    (fun k i m hv => by
      refine (lam_def d_counted_l0 (n := n) rfl rfl (by rw [nc k]; rfl)).trans ?_
      have hkl := (List.getElem?_eq_some_iff.mp hv).1
      obtain ⟨h1, hm1, hm2⟩ := hk k _ hv
      have e : (((lens l).getD k 0 : Nat) : Int) = (((lens l).getD i 0 : Nat) : Int) * (m : Int) := by
        rw [lens_at hv, show lenOf (lens (l.take k)) (.times i m) = (lens (l.take k)).getD i 0 * m from rfl, lens_pre (by omega) h1, Int.natCast_mul]
      rw [e]
      have mo : mulOk (((lens l).getD i 0 : Nat) : Int) (m : Int) = true := mulOk_b (lens_big hk h5 (by omega)) (n30_big hm2)
      show (ev (callN P n) (.bin .mul (.var 0) (.var 1)) [some (.int (((lens l).getD i 0 : Nat) : Int)), some (.int (m : Int))] _).bind (canon _) = _
      simp -implicitDefEqProofs only [ev_bin, ev_var, getV_0, getV_s, R.bind_ok, mul_int mo]
      exact canon_int)
  rw [e0, show (List.map some [D.tup (l.map Rst.d), .int 1] ++ List.replicate d_counted.vs none) = [some (D.tup (l.map Rst.d)), some (.int 1)] from rfl]
  simp -implicitDefEqProofs only [d_counted, exs_cons, exs_nil, ex_ret, ev_callC, evas_ex, ev_var, getV_0, getV_s, R.bind_ok]
  rw [evas_lam (cs := [.int 1]) _ rfl, evas_lam (cs := []) _ rfl, evas_lam (cs := []) _ rfl]
  simp -implicitDefEqProofs only [evas_nil, R.bind_ok, hf]
  have := nc l.length
  rw [if_pos (by rw [this]; rfl)]
  rw [lens_full]
  simp -implicitDefEqProofs only [R.bind_ok, nxt_ret, fin_ret]
  exact canon_one (by unfold O.bnd; exact bndL_all nats_bnd _)
end
/-! ### a letter far within: where it comes from -/
/-- at place p of the word of step k stands c -/
inductive At (l : List Rst) : Nat → Nat → Nat → Prop where
  | let_ {k p c} : l[k]? = some (.let_ c) → At l k p c
  | left {k p c i j} : l[k]? = some (.pair i j) → p < (lens l).getD i 0 → At l i p c → At l k p c
  | right {k p c i j} : l[k]? = some (.pair i j) → (lens l).getD i 0 ≤ p → At l j (p - (lens l).getD i 0) c → At l k p c
  | times {k p c i n} : l[k]? = some (.times i n) → At l i (p % (lens l).getD i 0) c → At l k p c
theorem at_ex {l : List Rst} (hl : RssOk l) : ∀ k p, k < l.length → ∃ c, At l k p c := by
  intro k
  induction k using Nat.strongRecOn with
  | _ k ih =>
    intro p hk
    have hx := List.getElem?_eq_getElem hk
    have hok := hl k _ hx
    generalize l[k] = x at hok hx
    cases x with
    | let_ c => exact ⟨c, .let_ hx⟩
    | pair i j =>
      by_cases h : p < (lens l).getD i 0
      · obtain ⟨c, hc⟩ := ih i hok.1 p (by have := hok.1; omega)
        exact ⟨c, .left hx h hc⟩
      · obtain ⟨c, hc⟩ := ih j hok.2 (p - (lens l).getD i 0) (by have := hok.2; omega)
        exact ⟨c, .right hx (by omega) hc⟩
    | times i n =>
      obtain ⟨c, hc⟩ := ih i hok.1 (p % (lens l).getD i 0) (by have := hok.1; omega)
      exact ⟨c, .times hx hc⟩
theorem ne_strs (v w : List Nat) (s : Sto) : cmpop .ne (.str v) (.str w) s = .ok (.bl (!decide (v = w))) s := by
  show (match eqv s DEEP (.str v) (.str w) with | some r => R.ok (D.bl (!r)) s | none => .bad) = _
  have : eqv s DEEP (.str v) (.str w) = some (v == w) := rfl
  rw [this]
  by_cases h : v = w <;> simp [h]
noncomputable def cd38 : E := (.cmp .ne (.ix (.var 3) (.cst (.int 0))) (.cst (.str [108, 101, 116, 116, 101, 114])))
noncomputable def bd38 : Ss := (.cons (.asg (.one 5) (.ix (.var 3) (.cst (.int 1)))) (.cons (.ite (.cmp .eq (.ix (.var 3) (.cst (.int 0))) (.cst (.str [116, 105, 109, 101, 115]))) (.cons (.asg (.one 4) (.bin .mod (.var 4) (.ix (.var 2) (.var 5)))) .nil) (.cons (.ite (.cmp .ge (.var 4) (.ix (.var 2) (.var 5))) (.cons (.asg (.one 4) (.bin .sub (.var 4) (.ix (.var 2) (.var 5)))) (.cons (.asg (.one 5) (.ix (.var 3) (.cst (.int 2)))) .nil)) .nil) .nil)) (.cons (.asg (.one 3) (.ix (.var 0) (.var 5))) .nil)))
theorem lbody38 : d_letter_at.body = (.cons (.asg (.one 2) (.call "counted" (.ex (.var 0) (.ex (.cst (.int 1)) .nil)))) (.cons (.asg (.one 3) (.ix (.var 0) (.neg (.cst (.int 1))))) (.cons (.asg (.one 4) (.var 1)) (.cons (.whl cd38 bd38) (.cons (.ret (.ix (.var 3) (.cst (.int 1)))) .nil))))) := rfl
theorem at_loop {F : Fns} {l : List Rst} (hl : RssOk l) {t : Sto} {q : Nat} (hq : t[q]? = some (.lst (nats (lens l)))) (x1 : Option D) {k p c : Nat} (h : At l k p c) : ∀ (x : Rst) (x5 : Option D), l[k]? = some x → ∃ (x4 y5 : Option D), whl (ev F cd38) (exs F bd38) [some (.tup (l.map Rst.d)), x1, some (.ref q), some x.d, some (.int (p : Int)), x5] t = .ok (.next [some (.tup (l.map Rst.d)), x1, some (.ref q), some (Rst.let_ c).d, x4, y5]) t := by
  have glen : ∀ i, i < l.length → ixM (.ref q) (.int (i : Int)) t = .ok (.int (((lens l).getD i 0 : Nat) : Int)) t := fun i hi => ix_lst hq (by
    have hle := lens_len (l := l) l.length (Nat.le_refl _)
    rw [List.take_length] at hle
    unfold nats
    rw [List.getElem?_map, List.getD_eq_getElem?_getD, List.getElem?_eq_getElem (by omega)]; rfl)
  have grec : ∀ (i : Nat) (y : Rst), l[i]? = some y → ixM (.tup (l.map Rst.d)) (.int (i : Int)) t = .ok y.d t := fun i y hy => ix_tup (by rw [List.getElem?_map, hy]; rfl)
  induction h with
  | let_ hx =>
    intro x x5 hk
    rw [hx] at hk
    cases hk
    refine ⟨_, x5, whl_end (s1 := t) ?_⟩
    unfold cd38
    simp -implicitDefEqProofs only [ev_cmp, ev_ix, ev_var, ev_cst, Cn_int, Cn_str, getV_0, getV_s, R.bind_ok, rl0, ne_strs, show (sLet = [108, 101, 116, 116, 101, 114]) = True from eq_self _, decide_true, Bool.not_true]
  | @left k p c i j hx hp h ih =>
    intro x x5 hk
    rw [hx] at hk
    cases hk
    have hik := (hl k _ hx).1
    have hkl := (List.getElem?_eq_some_iff.mp hx).1
    have hxi := List.getElem?_eq_getElem (show i < l.length by omega)
    obtain ⟨x4, y5, e⟩ := ih l[i] (some (.int (i : Int))) hxi
    refine ⟨x4, y5, (whl_turn (s1 := t) (ρ' := [some (.tup (l.map Rst.d)), x1, some (.ref q), some l[i].d, some (.int (p : Int)), some (.int (i : Int))]) (s' := t) ?_ ?_).trans e⟩
    · unfold cd38
      simp -implicitDefEqProofs only [ev_cmp, ev_ix, ev_var, ev_cst, Cn_int, Cn_str, getV_0, getV_s, R.bind_ok, rp0, ne_strs, show (sPair = [108, 101, 116, 116, 101, 114]) = False by decide, decide_false, Bool.not_false]
    · unfold bd38
      have hp' : ¬ (((lens l).getD i 0 : Nat) : Int) ≤ (p : Int) := by omega
      simp -implicitDefEqProofs only [exs_cons, exs_nil, ex_asg, ev_ix, ev_var, ev_cst, Cn_int, Cn_str, getV_0, getV_s, R.bind_ok, rp1, bindT_one, setV_s, setV_0, Option.map_some, setC_some, nxt_next, ex_ite, ev_cmp, rp0, eq_strs, show (sPair = [116, 105, 109, 101, 115]) = False by decide, decide_false, Bool.false_eq_true, tru_bl, if_false, glen i (by omega), ge_int, hp', grec i _ hxi]
  | @right k p c i j hx hp h ih =>
    intro x x5 hk
    rw [hx] at hk
    cases hk
    have hjk := (hl k _ hx).2
    have hik := (hl k _ hx).1
    have hkl := (List.getElem?_eq_some_iff.mp hx).1
    have hxi := List.getElem?_eq_getElem (show j < l.length by omega)
    obtain ⟨x4, y5, e⟩ := ih l[j] (some (.int (j : Int))) hxi
    refine ⟨x4, y5, (whl_turn (s1 := t) (ρ' := [some (.tup (l.map Rst.d)), x1, some (.ref q), some l[j].d, some (.int ((p - (lens l).getD i 0 : Nat) : Int)), some (.int (j : Int))]) (s' := t) ?_ ?_).trans e⟩
    · unfold cd38
      simp -implicitDefEqProofs only [ev_cmp, ev_ix, ev_var, ev_cst, Cn_int, Cn_str, getV_0, getV_s, R.bind_ok, rp0, ne_strs, show (sPair = [108, 101, 116, 116, 101, 114]) = False by decide, decide_false, Bool.not_false]
    · unfold bd38
      have hp' : (((lens l).getD i 0 : Nat) : Int) ≤ (p : Int) := by omega
      have hs : (p : Int) - (((lens l).getD i 0 : Nat) : Int) = ((p - (lens l).getD i 0 : Nat) : Int) := by omega
      simp -implicitDefEqProofs only [exs_cons, exs_nil, ex_asg, ev_ix, ev_var, ev_cst, Cn_int, Cn_str, getV_0, getV_s, R.bind_ok, rp1, rp2, bindT_one, setV_s, setV_0, Option.map_some, setC_some, nxt_next, ex_ite, ev_cmp, rp0, eq_strs, show (sPair = [116, 105, 109, 101, 115]) = False by decide, decide_false, decide_true, Bool.false_eq_true, tru_bl, if_false, if_true, glen i (by omega), ge_int, hp', ev_bin, sub_int, hs, grec j _ hxi]
  | @times k p c i n hx h ih =>
    intro x x5 hk
    rw [hx] at hk
    cases hk
    have hik := (hl k _ hx).1
    have hkl := (List.getElem?_eq_some_iff.mp hx).1
    have hxi := List.getElem?_eq_getElem (show i < l.length by omega)
    obtain ⟨x4, y5, e⟩ := ih l[i] (some (.int (i : Int))) hxi
    have hpos := (lens_bd hl i (by omega)).1
    have hm : binop .mod (.int (p : Int)) (.int (((lens l).getD i 0 : Nat) : Int)) t = .ok (.int ((p % (lens l).getD i 0 : Nat) : Int)) t := by rw [mod_int (by omega)]; simp
    refine ⟨x4, y5, (whl_turn (s1 := t) (ρ' := [some (.tup (l.map Rst.d)), x1, some (.ref q), some l[i].d, some (.int ((p % (lens l).getD i 0 : Nat) : Int)), some (.int (i : Int))]) (s' := t) ?_ ?_).trans e⟩
    · unfold cd38
      simp -implicitDefEqProofs only [ev_cmp, ev_ix, ev_var, ev_cst, Cn_int, Cn_str, getV_0, getV_s, R.bind_ok, rt0, ne_strs, show (sTimes = [108, 101, 116, 116, 101, 114]) = False by decide, decide_false, Bool.not_false]
    · unfold bd38
      simp -implicitDefEqProofs only [exs_cons, exs_nil, ex_asg, ev_ix, ev_var, ev_cst, Cn_int, Cn_str, getV_0, getV_s, R.bind_ok, rt1, bindT_one, setV_s, setV_0, Option.map_some, setC_some, nxt_next, ex_ite, ev_cmp, rt0, eq_strs, show (sTimes = [116, 105, 109, 101, 115]) = True from eq_self _, decide_true, tru_bl, if_true, ev_bin, glen i (by omega), hm, grec i _ hxi]
end DV
end

set_option linter.all false
set_option maxRecDepth 100000
noncomputable section
namespace DV
theorem ev_negi {F : Fns} {ρ : Env} {s : Sto} : ev F (.neg (.cst (.int 1))) ρ s = .ok (.int (-1)) s := rfl
theorem ix_last {l : List D} {d : D} (hd : l[l.length - 1]? = some d) (s : Sto) : ixM (.tup l) (.int (-1)) s = .ok d s := by
  have hl := (List.getElem?_eq_some_iff.mp hd).1
  have hx : ixn l.length (-1) = some (l.length - 1) := by
    unfold ixn
    rw [if_neg (by decide), if_pos (by omega)]
    congr 1; omega
  simp only [ixM, hx, Option.bind_some, hd]
theorem ixL_last {s : Sto} {r : Nat} {l : List D} {d : D} (h : s[r]? = some (.lst l)) (hd : l[l.length - 1]? = some d) : ixM (.ref r) (.int (-1)) s = .ok d s := by
  have hl := (List.getElem?_eq_some_iff.mp hd).1
  have hx : ixn l.length (-1) = some (l.length - 1) := by
    unfold ixn
    rw [if_neg (by decide), if_pos (by omega)]
    congr 1; omega
  simp only [ixM, h, hx, Option.bind_some, hd]
section
variable {P : Pr} [Has P d_folded] [Has P d_counted] [HasL P d_counted_l0] [HasL P d_counted_l1] [HasL P d_counted_l2] [Has P d_letter_at] [Has P d_long_length]
theorem letter_at_ok (n : Nat) {l : List Rst} (h5 : l.length ≤ 500) (h1 : 1 ≤ l.length) (hk : RssOk l) {s : Sto} (hs : s.all O.ncl = true) {p c : Nat} (h : At l (l.length - 1) p c) :
    (callN P (n + 4)).call "letter_at" [.tup (l.map Rst.d), .int p] s = .ok (.str [c]) s := by
  have e0 : (callN P (n + 4)).call "letter_at" [.tup (l.map Rst.d), .int p] s = _ := call_def d_letter_at (n := n + 3) rfl
  have e1 := countedR_ok (P := P) n h5 hk hs
  have hq : (s ++ [O.lst (nats (lens l))])[s.length]? = some (.lst (nats (lens l))) := by rw [List.getElem?_append_right (Nat.le_refl _)]; simp
  have hx := List.getElem?_eq_getElem (show l.length - 1 < l.length by omega)
  obtain ⟨x4, y5, ew⟩ := at_loop (F := callN P (n + 3)) hk hq (some (.int (p : Int))) h l[l.length - 1] none hx
  have il : ∀ s, ixM (.tup (l.map Rst.d)) (.int (-1)) s = .ok l[l.length - 1].d s := fun s => ix_last (by rw [List.length_map, List.getElem?_map, hx]; rfl) s
  rw [e0, lbody38, show (List.map some [D.tup (l.map Rst.d), .int p] ++ List.replicate d_letter_at.vs none) = [some (D.tup (l.map Rst.d)), some (.int (p : Int)), none, none, none, none] from rfl]
  simp -implicitDefEqProofs only [exs_cons, exs_nil, ex_asg, ev_call, evas_ex, evas_nil, ev_var, ev_cst, Cn_int, getV_0, getV_s, R.bind_ok, e1, bindT_one, setV_s, setV_0, Option.map_some, setC_some, nxt_next, ev_ix, ev_negi, il, ex_whl]
  rw [ew]
  simp -implicitDefEqProofs only [R.bind_ok, nxt_next, exs_cons, exs_nil, ex_ret, ev_ix, ev_var, ev_cst, Cn_int, getV_0, getV_s, rl1, nxt_ret, fin_ret]
  exact canon_val (fun _ => rfl) (by nofun)
theorem long_length_ok (n : Nat) {l : List Rst} (h5 : l.length ≤ 500) (h1 : 1 ≤ l.length) (hk : RssOk l) {s : Sto} (hs : s.all O.ncl = true) :
    (callN P (n + 4)).call "long_length" [.tup (l.map Rst.d)] s = .ok (.int (((lens l).getD (l.length - 1) 0 : Nat) : Int)) s := by
  have e0 : (callN P (n + 4)).call "long_length" [.tup (l.map Rst.d)] s = _ := call_def d_long_length (n := n + 3) rfl
  have e1 := countedR_ok (P := P) n h5 hk hs
  have hq : (s ++ [O.lst (nats (lens l))])[s.length]? = some (.lst (nats (lens l))) := by rw [List.getElem?_append_right (Nat.le_refl _)]; simp
  have hle := lens_len (l := l) l.length (Nat.le_refl _)
  rw [List.take_length] at hle
  have il : ixM (.ref s.length) (.int (-1)) (s ++ [O.lst (nats (lens l))]) = .ok (.int (((lens l).getD (l.length - 1) 0 : Nat) : Int)) (s ++ [O.lst (nats (lens l))]) := ixL_last hq (by
    unfold nats
    rw [List.length_map, hle, List.getElem?_map, List.getD_eq_getElem?_getD, List.getElem?_eq_getElem (by omega)]; rfl)
  rw [e0, show (List.map some [D.tup (l.map Rst.d)] ++ List.replicate d_long_length.vs none) = [some (D.tup (l.map Rst.d))] from rfl]
  simp -implicitDefEqProofs only [d_long_length, exs_cons, exs_nil, ex_ret, ev_ix, ev_call, evas_ex, evas_nil, ev_var, ev_cst, Cn_int, getV_0, getV_s, R.bind_ok, e1, ev_negi, il, nxt_ret, fin_ret]
  exact canon_val (fun _ => rfl) (by nofun)
end
end DV
end

set_option linter.all false
set_option maxRecDepth 100000
noncomputable section
namespace DV
noncomputable def cl38 : E := (.cmp .ne (.ix (.ix (.var 0) (.var 3)) (.cst (.int 0))) (.cst (.str [108, 101, 116, 116, 101, 114])))
noncomputable def bl38 : Ss := (.cons (.asg (.one 4) (.ix (.var 0) (.var 3))) (.cons (.asg (.one 5) (.ix (.var 1) (.ix (.var 4) (.cst (.int 1))))) (.cons (.ite (.cmp .eq (.ix (.var 4) (.cst (.int 0))) (.cst (.str [116, 105, 109, 101, 115]))) (.cons (.asg (.one 3) (.ix (.var 4) (.cst (.int 1)))) (.cons (.asg (.one 2) (.bin .mod (.var 2) (.var 5))) .nil)) (.cons (.ite (.cmp .lt (.var 2) (.var 5)) (.cons (.asg (.one 3) (.ix (.var 4) (.cst (.int 1)))) .nil) (.cons (.asg (.one 3) (.ix (.var 4) (.cst (.int 2)))) (.cons (.asg (.one 2) (.bin .sub (.var 2) (.var 5))) .nil))) .nil)) .nil)))
theorem wbody38 : w_letter.body = (.cons (.asg (.one 3) (.bin .sub (.bi .len (.cons (.var 0) .nil)) (.cst (.int 1)))) (.cons (.whl cl38 bl38) (.cons (.ret (.ix (.ix (.var 0) (.var 3)) (.cst (.int 1)))) .nil))) := rfl
theorem letter_loop {F : Fns} {l : List Rst} (hl : RssOk l) {t : Sto} {q : Nat} (hq : t[q]? = some (.lst (nats (lens l)))) {k p c : Nat} (h : At l k p c) : ∀ (x4 x5 : Option D), k < l.length → ∃ (k' : Nat) (x2 y4 y5 : Option D), l[k']? = some (.let_ c) ∧ whl (ev F cl38) (exs F bl38) [some (.tup (l.map Rst.d)), some (.ref q), some (.int (p : Int)), some (.int (k : Int)), x4, x5] t = .ok (.next [some (.tup (l.map Rst.d)), some (.ref q), x2, some (.int (k' : Int)), y4, y5]) t := by
  have glen : ∀ i, i < l.length → ixM (.ref q) (.int (i : Int)) t = .ok (.int (((lens l).getD i 0 : Nat) : Int)) t := fun i hi => ix_lst hq (by
    have hle := lens_len (l := l) l.length (Nat.le_refl _)
    rw [List.take_length] at hle
    unfold nats
    rw [List.getElem?_map, List.getD_eq_getElem?_getD, List.getElem?_eq_getElem (by omega)]; rfl)
  have grec : ∀ (i : Nat) (y : Rst), l[i]? = some y → ixM (.tup (l.map Rst.d)) (.int (i : Int)) t = .ok y.d t := fun i y hy => ix_tup (by rw [List.getElem?_map, hy]; rfl)
  induction h with
  | @let_ k p c hx =>
    intro x4 x5 hk
    refine ⟨k, _, x4, x5, hx, whl_end (s1 := t) ?_⟩
    unfold cl38
    simp -implicitDefEqProofs only [ev_cmp, ev_ix, ev_var, ev_cst, Cn_int, Cn_str, getV_0, getV_s, R.bind_ok, grec k _ hx, rl0, ne_strs, show (sLet = [108, 101, 116, 116, 101, 114]) = True from eq_self _, decide_true, Bool.not_true]
  | @left k p c i j hx hp h ih =>
    intro x4 x5 hk
    have hik := (hl k _ hx).1
    obtain ⟨k', x2, y4, y5, hk', e⟩ := ih (some (Rst.pair i j).d) (some (.int (((lens l).getD i 0 : Nat) : Int))) (by omega)
    refine ⟨k', x2, y4, y5, hk', (whl_turn (s1 := t) (ρ' := [some (.tup (l.map Rst.d)), some (.ref q), some (.int (p : Int)), some (.int (i : Int)), some (Rst.pair i j).d, some (.int (((lens l).getD i 0 : Nat) : Int))]) (s' := t) ?_ ?_).trans e⟩
    · unfold cl38
      simp -implicitDefEqProofs only [ev_cmp, ev_ix, ev_var, ev_cst, Cn_int, Cn_str, getV_0, getV_s, R.bind_ok, grec k _ hx, rp0, ne_strs, show (sPair = [108, 101, 116, 116, 101, 114]) = False by decide, decide_false, Bool.not_false]
    · unfold bl38
      have hp' : (p : Int) < (((lens l).getD i 0 : Nat) : Int) := by omega
      simp -implicitDefEqProofs only [exs_cons, exs_nil, ex_asg, ev_ix, ev_var, ev_cst, Cn_int, Cn_str, getV_0, getV_s, R.bind_ok, grec k _ hx, rp1, bindT_one, setV_s, setV_0, Option.map_some, setC_some, nxt_next, ex_ite, ev_cmp, rp0, eq_strs, show (sPair = [116, 105, 109, 101, 115]) = False by decide, decide_false, decide_true, Bool.false_eq_true, tru_bl, if_false, if_true, glen i (by omega), lt_int, hp']
  | @right k p c i j hx hp h ih =>
    intro x4 x5 hk
    have hik := (hl k _ hx).1
    have hjk := (hl k _ hx).2
    obtain ⟨k', x2, y4, y5, hk', e⟩ := ih (some (Rst.pair i j).d) (some (.int (((lens l).getD i 0 : Nat) : Int))) (by omega)
    refine ⟨k', x2, y4, y5, hk', (whl_turn (s1 := t) (ρ' := [some (.tup (l.map Rst.d)), some (.ref q), some (.int ((p - (lens l).getD i 0 : Nat) : Int)), some (.int (j : Int)), some (Rst.pair i j).d, some (.int (((lens l).getD i 0 : Nat) : Int))]) (s' := t) ?_ ?_).trans e⟩
    · unfold cl38
      simp -implicitDefEqProofs only [ev_cmp, ev_ix, ev_var, ev_cst, Cn_int, Cn_str, getV_0, getV_s, R.bind_ok, grec k _ hx, rp0, ne_strs, show (sPair = [108, 101, 116, 116, 101, 114]) = False by decide, decide_false, Bool.not_false]
    · unfold bl38
      have hp' : ¬ (p : Int) < (((lens l).getD i 0 : Nat) : Int) := by omega
      have hs : (p : Int) - (((lens l).getD i 0 : Nat) : Int) = ((p - (lens l).getD i 0 : Nat) : Int) := by omega
      simp -implicitDefEqProofs only [exs_cons, exs_nil, ex_asg, ev_ix, ev_var, ev_cst, Cn_int, Cn_str, getV_0, getV_s, R.bind_ok, grec k _ hx, rp1, rp2, bindT_one, setV_s, setV_0, Option.map_some, setC_some, nxt_next, ex_ite, ev_cmp, rp0, eq_strs, show (sPair = [116, 105, 109, 101, 115]) = False by decide, decide_false, Bool.false_eq_true, tru_bl, if_false, glen i (by omega), lt_int, hp', ev_bin, sub_int, hs]
  | @times k p c i n hx h ih =>
    intro x4 x5 hk
    have hik := (hl k _ hx).1
    have hpos := (lens_bd hl i (by omega)).1
    have hm : binop .mod (.int (p : Int)) (.int (((lens l).getD i 0 : Nat) : Int)) t = .ok (.int ((p % (lens l).getD i 0 : Nat) : Int)) t := by rw [mod_int (by omega)]; simp
    obtain ⟨k', x2, y4, y5, hk', e⟩ := ih (some (Rst.times i n).d) (some (.int (((lens l).getD i 0 : Nat) : Int))) (by omega)
    refine ⟨k', x2, y4, y5, hk', (whl_turn (s1 := t) (ρ' := [some (.tup (l.map Rst.d)), some (.ref q), some (.int ((p % (lens l).getD i 0 : Nat) : Int)), some (.int (i : Int)), some (Rst.times i n).d, some (.int (((lens l).getD i 0 : Nat) : Int))]) (s' := t) ?_ ?_).trans e⟩
    · unfold cl38
      simp -implicitDefEqProofs only [ev_cmp, ev_ix, ev_var, ev_cst, Cn_int, Cn_str, getV_0, getV_s, R.bind_ok, grec k _ hx, rt0, ne_strs, show (sTimes = [108, 101, 116, 116, 101, 114]) = False by decide, decide_false, Bool.not_false]
    · unfold bl38
      simp -implicitDefEqProofs only [exs_cons, exs_nil, ex_asg, ev_ix, ev_var, ev_cst, Cn_int, Cn_str, getV_0, getV_s, R.bind_ok, grec k _ hx, rt1, bindT_one, setV_s, setV_0, Option.map_some, setC_some, nxt_next, ex_ite, ev_cmp, rt0, eq_strs, show (sTimes = [116, 105, 109, 101, 115]) = True from eq_self _, decide_true, tru_bl, if_true, ev_bin, glen i (by omega), hm]
theorem letter_ok {P : Pr} [Has P w_letter] (n : Nat) {l : List Rst} (h1 : 1 ≤ l.length) (hk : RssOk l) {s : Sto} {q : Nat} (hq : s[q]? = some (.lst (nats (lens l)))) {p c : Nat} (h : At l (l.length - 1) p c) :
    (callN P (n + 1)).call "_law_letter" [.tup (l.map Rst.d), .ref q, .int p] s = .ok (.str [c]) s := by
  have e0 : (callN P (n + 1)).call "_law_letter" [.tup (l.map Rst.d), .ref q, .int p] s = _ := call_def w_letter (n := n) rfl
  obtain ⟨k', x2, y4, y5, hk', ew⟩ := letter_loop (F := callN P n) hk hq h none none (by omega)
  have grec : ixM (.tup (l.map Rst.d)) (.int (k' : Int)) s = .ok (Rst.let_ c).d s := ix_tup (by rw [List.getElem?_map, hk']; rfl)
  rw [e0, wbody38, show (List.map some [D.tup (l.map Rst.d), .ref q, .int p] ++ List.replicate w_letter.vs none) = [some (D.tup (l.map Rst.d)), some (.ref q), some (.int (p : Int)), none, none, none] from rfl]
  simp -implicitDefEqProofs only [exs_cons, exs_nil, ex_asg, ev_bin, ev_bi, evs_cons, evs_nil, ev_var, ev_cst, Cn_int, getV_0, getV_s, R.bind_ok, len_tup, List.length_map, sub_int, show ((l.length : Int) - 1) = ((l.length - 1 : Nat) : Int) by omega, bindT_one, setV_s, setV_0, Option.map_some, setC_some, nxt_next, ex_whl]
  rw [ew]
  simp -implicitDefEqProofs only [R.bind_ok, nxt_next, exs_cons, exs_nil, ex_ret, ev_ix, ev_var, ev_cst, Cn_int, getV_0, getV_s, grec, rl1, nxt_ret, fin_ret]
  exact canon_val0 (fun _ => rfl) (by nofun)
end DV
end

set_option linter.all false
set_option maxRecDepth 100000
noncomputable section
namespace DV
theorem lens_get {l : List Rst} {k i : Nat} (hk : k ≤ l.length) (hi : i < k) : (nats (lens (l.take k)))[i]? = some (.int (((lens (l.take k)).getD i 0 : Nat) : Int)) := by
  have := lens_len (l := l) k hk
  unfold nats
  rw [List.getElem?_map, List.getD_eq_getElem?_getD, List.getElem?_eq_getElem (by omega)]; rfl
theorem lengthsW_ok {P : Pr} [Has P w_lengths] (n : Nat) {l : List Rst} (hl : RssOk l) (h5 : l.length ≤ 500) (s : Sto) :
    (callN P (n + 1)).call "_law_lengths" [.tup (l.map Rst.d)] s = .ok (.ref s.length) (s ++ [.lst (nats (lens l))]) := by
  have e0 : (callN P (n + 1)).call "_law_lengths" [.tup (l.map Rst.d)] s = _ := call_def w_lengths (n := n) rfl
  rw [e0, show (List.map some [D.tup (l.map Rst.d)] ++ List.replicate w_lengths.vs none) = [some (D.tup (l.map Rst.d)), none, none] from rfl]
  simp -implicitDefEqProofs only [w_lengths]
  simp -implicitDefEqProofs only [exs_cons, exs_nil, ex_asg, ev_lst, evs_nil, R.bind_ok, alloc_eq, bindT_one, setV_s, setV_0, Option.map_some, setC_some, nxt_next, ex_for, evI_seq, ev_var, getV_0, getV_s, tup_seq]
  rw [R.bind_assoc]
  refine for_bind (fun k ρ t => ∃ (x : Option D), ρ = [some (D.tup (l.map Rst.d)), some (.ref s.length), x] ∧ t = s ++ [.lst (nats (lens (l.take k)))]) ⟨none, rfl, rfl⟩ (fun _ _ _ _ _ => rfl) ?_ ?_
  · rintro k d ρ t hk ⟨x, rfl, rfl⟩
    rw [List.getElem?_map] at hk
    obtain ⟨v, hv, hd⟩ : ∃ v, l[k]? = some v ∧ Rst.d v = d := by
      cases e : l[k]? with
      | none => rw [e] at hk; cases hk
      | some v => rw [e] at hk; exact ⟨v, rfl, Option.some.inj hk⟩
    subst hd
    have hkl := (List.getElem?_eq_some_iff.mp hv).1
    have hok := hl k v hv
    have n1 := lens_len (l := l) k (by omega)
    have L1 : (nats (lens (l.take k))).length < LIM := by unfold nats LIM; rw [List.length_map]; omega
    have g0 : (s ++ [O.lst (nats (lens (l.take k)))])[s.length]? = some (.lst (nats (lens (l.take k)))) := by rw [List.getElem?_append_right (Nat.le_refl _)]; simp
    refine Nx_of (ρ := [some (D.tup (l.map Rst.d)), some (.ref s.length), some v.d]) (s := s ++ [.lst (nats (lens (l.take (k + 1))))]) ?_ ⟨_, rfl, rfl⟩
    rw [lens_take hv]
    unfold turn
    cases v with
    | let_ ch =>
      simp -implicitDefEqProofs only [bindT_one, setV_s, setV_0, Option.map_some, exs_cons, exs_nil, ex_ite, ev_cmp, ev_ix, ev_var, ev_cst, Cn_int, Cn_str, getV_0, getV_s, R.bind_ok, rl0, eq_strs, show (sLet = [108, 101, 116, 116, 101, 114]) = True from eq_self _, decide_true, tru_bl, if_true, ex_ex, ev_meth, evs_cons, evs_nil, app_tail L1, nxt_next]
      unfold nats
      rw [List.map_append]
      rfl
    | pair i j =>
      obtain ⟨h1, h2⟩ := hok
      have i1 : ixM (.ref s.length) (.int (i : Int)) (s ++ [O.lst (nats (lens (l.take k)))]) = _ := ix_lst g0 (lens_get (by omega) h1)
      have i2 : ixM (.ref s.length) (.int (j : Int)) (s ++ [O.lst (nats (lens (l.take k)))]) = _ := ix_lst g0 (lens_get (by omega) h2)
      simp -implicitDefEqProofs only [bindT_one, setV_s, setV_0, Option.map_some, exs_cons, exs_nil, ex_ite, ev_cmp, ev_ix, ev_var, ev_cst, Cn_int, Cn_str, getV_0, getV_s, R.bind_ok, rp0, rp1, rp2, eq_strs, show (sPair = [108, 101, 116, 116, 101, 114]) = False by decide, show (sPair = [112, 97, 105, 114]) = True from eq_self _, decide_true, decide_false, Bool.false_eq_true, tru_bl, if_true, if_false, ex_ex, ev_meth, evs_cons, evs_nil, ev_bin, i1, i2, add_int, app_tail L1, nxt_next]
      unfold nats
      rw [List.map_append, ← Int.natCast_add]
      rfl
    | times i m =>
      obtain ⟨h1, hm1, hm2⟩ := hok
      have i1 : ixM (.ref s.length) (.int (i : Int)) (s ++ [O.lst (nats (lens (l.take k)))]) = _ := ix_lst g0 (lens_get (by omega) h1)
      have mo : mulOk (((lens (l.take k)).getD i 0 : Nat) : Int) (m : Int) = true := by rw [lens_pre (by omega) h1]; exact mulOk_b (lens_big hl h5 (by omega)) (n30_big hm2)
      simp -implicitDefEqProofs only [bindT_one, setV_s, setV_0, Option.map_some, exs_cons, exs_nil, ex_ite, ev_cmp, ev_ix, ev_var, ev_cst, Cn_int, Cn_str, getV_0, getV_s, R.bind_ok, rt0, rt1, rt2, eq_strs, show (sTimes = [108, 101, 116, 116, 101, 114]) = False by decide, show (sTimes = [112, 97, 105, 114]) = False by decide, decide_false, Bool.false_eq_true, tru_bl, if_false, ex_ex, ev_meth, evs_cons, evs_nil, ev_bin, i1, mul_int mo, app_tail L1, nxt_next]
      unfold nats
      rw [List.map_append, ← Int.natCast_mul]
      rfl
  · rintro ρ t ⟨x, rfl, rfl⟩
    rw [List.length_map, List.take_length]
    simp -implicitDefEqProofs only [nxt_next, exs_cons, exs_nil, ex_ret, ev_var, getV_0, getV_s, R.bind_ok, nxt_ret, fin_ret]
    exact canon_one (by unfold O.bnd; exact bndL_all nats_bnd _)
end DV
end

set_option linter.all false
set_option maxRecDepth 100000
noncomputable section
namespace DV
noncomputable def tb38 : Ss := (.cons (.ex (.meth .append (.var 3) (.cons (.tup (.cons (.cst (.str [112, 97, 105, 114])) (.cons (.var 4) (.cons (.bin .sub (.var 4) (.call "_law_draw" (.ex (.var 0) (.ex (.bin .add (.bi .min2 (.cons (.var 4) (.cons (.cst (.int 1)) .nil))) (.cst (.int 1))) .nil)))) .nil)))) .nil))) .nil)
theorem tall2_ok {P : Pr} [Has P w_draw] [Has P w_tall_2] (n : Nat) {s : Sto} {r : Nat} (hs : ∃ b, s[r]? = some (boxO b)) (most : Nat) (h0 : 1 ≤ most) (hm : most ≤ 200) : RecR s r most ((callN P (n + 2)).call "_law_tall" [.ref r, .int 3, .int most] s) := by
  have e0 : (callN P (n + 2)).call "_law_tall" [.ref r, .int 3, .int most] s = _ := call_def w_tall_2 (n := n + 1) rfl
  have body : w_tall_2.body = .cons (.asg (.one 3) (.lst (.cons (.tup (.cons (.cst (.str [108, 101, 116, 116, 101, 114])) (.cons (.ix (.cst (.str [97, 98, 99])) (.call "_law_draw" (.ex (.var 0) (.ex (.var 1) .nil)))) .nil))) .nil))) (.cons (.for_ (.one 4) (.rng1 (.call "_law_draw" (.ex (.var 0) (.ex (.var 2) .nil)))) tb38) (.cons (.ret (.mk .tuple (.seq (.var 3)))) .nil)) := rfl
  have hr := box_lt hs
  obtain ⟨c, b1, hc, e1⟩ := draw_ex (P := P) n hs 3 (by decide) (by decide)
  obtain ⟨d, b2, hd, e2⟩ := draw_on (P := P) n (t := [.lst ([Rst.let_ (97 + c)].map Rst.d)]) hr b1 most (by omega) (small90 (by omega))
  have key := for_inv (ok := fun s1 => chk (s.set r (boxO b2) ++ [O.lst ([Rst.let_ (97 + c)].map Rst.d)]) s1 []) (g := turn (callN P (n + 1)) (.one 4) tb38) (fun k ρ t => ∃ (l : List Rst) (b : Int) (x : Option D), RssOk l ∧ l.length = k + 1 ∧ ρ = [some (D.ref r), some (.int 3), some (.int (most : Int)), some (.ref s.length), x] ∧ t = s.set r (boxO b) ++ [.lst (l.map Rst.d)]) (rngL 0 (d : Int)) 0 [some (D.ref r), some (.int 3), some (.int (most : Int)), some (.ref s.length), none] (s.set r (boxO b2) ++ [O.lst ([Rst.let_ (97 + c)].map Rst.d)]) ⟨[.let_ (97 + c)], b2, none, RssOk.nil.snoc (x := .let_ (97 + c)) ⟨by omega, by omega⟩, rfl, rfl, rfl⟩ (fun _ _ _ _ _ => rfl) (by
    rintro k dd ρ t hk ⟨l, b, x, hl, hlk, rfl, rfl⟩
    have hk5 := (rngL_at hk).1
    rw [(rngL_at hk).2]
    rw [Nat.zero_add] at hlk ⊢
    have hmn : (if (1 : Int) < (k : Int) then (1 : Int) else (k : Int)) + 1 = ((min k 1 + 1 : Nat) : Int) := by omega
    obtain ⟨q, b', hq, f1⟩ := draw_on (P := P) n (t := [.lst (l.map Rst.d)]) hr b ((min k 1 + 1 : Nat) : Int) (by omega) (small90 (by omega))
    have hs' : (k : Int) - (q : Int) = ((k - q : Nat) : Int) := by omega
    have ap : ∀ v, meth .append (.ref s.length) [v] (s.set r (boxO b') ++ [.lst (l.map Rst.d)]) = .ok .non (s.set r (boxO b') ++ [.lst (l.map Rst.d ++ [v])]) := fun v => app_onB (by unfold LIM; rw [List.length_map]; omega)
    refine ⟨[some (D.ref r), some (.int 3), some (.int (most : Int)), some (.ref s.length), some (.int (k : Int))], s.set r (boxO b') ++ [.lst ((l ++ [Rst.pair k (k - q)]).map Rst.d)], .inl ?_, l ++ [Rst.pair k (k - q)], b', _, hl.snoc (x := .pair k (k - q)) ⟨by omega, by omega⟩, by simp [hlk], rfl, rfl⟩
    unfold turn tb38
    simp -implicitDefEqProofs only [bindT_one, setV_s, setV_0, Option.map_some, exs_cons, exs_nil, ex_ex, ev_meth, evs_cons, evs_nil, ev_tup, ev_cst, Cn_str, Cn_int, ev_var, ev_bin, ev_call, evas_ex, evas_nil, ev_bi, getV_0, getV_s, R.bind_ok, min2_int, add_int, hmn, f1, sub_int, hs', ap, nxt_next, List.map_append]
    rfl)
  obtain ⟨ρ', s', ek, l, b, x, hl, hlk, rfl, rfl⟩ := key
  rw [rngL_len, Nat.zero_add] at hlk
  have hl3 : (s.set r (boxO b) ++ [O.lst (l.map Rst.d)])[s.length]? = some (.lst (l.map Rst.d)) := by rw [List.getElem?_append_right (by simp)]; simp
  refine ⟨l, b, hl, by omega, by omega, ?_⟩
  rw [e0, body, show (List.map some [D.ref r, .int 3, .int most] ++ List.replicate w_tall_2.vs none) = [some (D.ref r), some (.int 3), some (.int (most : Int)), none, none] from rfl]
  simp -implicitDefEqProofs only [exs_cons, exs_nil, ex_asg, ev_lst, evs_cons, evs_nil, ev_tup, ev_cst, Cn_str, ev_ix, ev_call, evas_ex, evas_nil, ev_var, getV_0, getV_s, R.bind_ok, e1, abc_ix (show c < 3 by omega), alloc_eq, List.length_set, bindT_one, setV_s, setV_0, Option.map_some, setC_some, nxt_next, ex_for, evI_rng1]
  have hmap : [Rst.let_ (97 + c)].map Rst.d = [D.tup [.str [108, 101, 116, 116, 101, 114], .str [97 + c]]] := by simp only [List.map_cons, List.map_nil, Rst.d]
  rw [hmap] at e2 ek
  rw [e2]
  simp -implicitDefEqProofs only [R.bind_ok]
  rw [rng1_ok (by unfold W62; omega) (by unfold W62; omega)]
  simp -implicitDefEqProofs only [R.bind_ok]
  rw [ek]
  simp -implicitDefEqProofs only [R.bind_ok, nxt_next, exs_cons, exs_nil, ex_ret, ev_mk, evL_seq, ev_var, getV_0, getV_s, lstM, hl3, mk, nxt_ret, fin_ret]
  refine canon_set (fun m => ?_) (by nofun) rfl
  unfold D.bnd
  exact bndL_all (fun x hx n => by obtain ⟨y, _, rfl⟩ := List.mem_map.mp hx; exact y.bnd n) m
end DV
end

set_option linter.all false
set_option maxRecDepth 100000
noncomputable section
namespace DV
/-! ### a recipe folded over any kind of thing -/
section
variable {α : Type} (d : α) (fl : Nat → α) (fp : α → α → α) (ft : α → Nat → α)
noncomputable def foV (vs : List α) : Rst → α
  | .let_ c => fl c
  | .pair i j => fp (vs.getD i d) (vs.getD j d)
  | .times i n => ft (vs.getD i d) n
noncomputable def foR (l : List Rst) : List α := l.foldl (fun vs x => vs ++ [foV d fl fp ft vs x]) []
theorem foR_take {l : List Rst} {k : Nat} {x : Rst} (h : l[k]? = some x) : foR d fl fp ft (l.take (k + 1)) = foR d fl fp ft (l.take k) ++ [foV d fl fp ft (foR d fl fp ft (l.take k)) x] := by
  rw [take_snoc h]; unfold foR; rw [List.foldl_append]; rfl
theorem foR_len {l : List Rst} : ∀ k, k ≤ l.length → (foR d fl fp ft (l.take k)).length = k
  | 0, _ => by simp [foR]
  | k + 1, h => by
    rw [foR_take d fl fp ft (List.getElem?_eq_getElem (show k < l.length by omega)), List.length_append, foR_len k (by omega)]; rfl
theorem foR_more : ∀ (l : List Rst) (vs : List α), ∃ t, l.foldl (fun vs x => vs ++ [foV d fl fp ft vs x]) vs = vs ++ t
  | [], vs => ⟨[], by simp⟩
  | x :: l, vs => by
    obtain ⟨t, e⟩ := foR_more l (vs ++ [foV d fl fp ft vs x])
    exact ⟨foV d fl fp ft vs x :: t, by rw [List.foldl_cons, e]; simp⟩
theorem foR_pre {l : List Rst} {k i : Nat} (hk : k ≤ l.length) (hi : i < k) : (foR d fl fp ft (l.take k)).getD i d = (foR d fl fp ft l).getD i d := by
  obtain ⟨t, e⟩ := foR_more d fl fp ft (l.drop k) (foR d fl fp ft (l.take k))
  have : foR d fl fp ft l = foR d fl fp ft (l.take k) ++ t := by
    rw [← e]
    conv => lhs; rw [← List.take_append_drop k l]
    unfold foR; rw [List.foldl_append]
  have hl := foR_len d fl fp ft (l := l) k hk
  rw [this, List.getD_eq_getElem?_getD, List.getD_eq_getElem?_getD, List.getElem?_append_left (by omega)]
theorem foR_at {l : List Rst} {k : Nat} {x : Rst} (h : l[k]? = some x) : (foR d fl fp ft l).getD k d = foV d fl fp ft (foR d fl fp ft (l.take k)) x := by
  have hk := (List.getElem?_eq_some_iff.mp h).1
  rw [← foR_pre d fl fp ft (k := k + 1) (by omega) (Nat.lt_succ_self k), foR_take d fl fp ft h]
  have hl := foR_len d fl fp ft (l := l) k (by omega)
  rw [List.getD_eq_getElem?_getD, List.getElem?_append_right (by omega), hl, Nat.sub_self]; rfl
theorem foR_l {l : List Rst} {k c : Nat} (h : l[k]? = some (.let_ c)) : (foR d fl fp ft l).getD k d = fl c := foR_at d fl fp ft h
theorem foR_p {l : List Rst} {k i j : Nat} (h : l[k]? = some (.pair i j)) (hi : i < k) (hj : j < k) : (foR d fl fp ft l).getD k d = fp ((foR d fl fp ft l).getD i d) ((foR d fl fp ft l).getD j d) := by
  have hk := (List.getElem?_eq_some_iff.mp h).1
  rw [foR_at d fl fp ft h, ← foR_pre d fl fp ft (k := k) (by omega) hi, ← foR_pre d fl fp ft (k := k) (by omega) hj]; rfl
theorem foR_t {l : List Rst} {k i n : Nat} (h : l[k]? = some (.times i n)) (hi : i < k) : (foR d fl fp ft l).getD k d = ft ((foR d fl fp ft l).getD i d) n := by
  have hk := (List.getElem?_eq_some_iff.mp h).1
  rw [foR_at d fl fp ft h, ← foR_pre d fl fp ft (k := k) (by omega) hi]; rfl
end
theorem lens_p {l : List Rst} {k i j : Nat} (h : l[k]? = some (.pair i j)) (hi : i < k) (hj : j < k) : (lens l).getD k 0 = (lens l).getD i 0 + (lens l).getD j 0 := by
  have hk := (List.getElem?_eq_some_iff.mp h).1
  rw [lens_at h, show lenOf (lens (l.take k)) (.pair i j) = (lens (l.take k)).getD i 0 + (lens (l.take k)).getD j 0 from rfl, lens_pre (by omega) hi, lens_pre (by omega) hj]
theorem lens_t {l : List Rst} {k i n : Nat} (h : l[k]? = some (.times i n)) (hi : i < k) : (lens l).getD k 0 = (lens l).getD i 0 * n := by
  have hk := (List.getElem?_eq_some_iff.mp h).1
  rw [lens_at h, show lenOf (lens (l.take k)) (.times i n) = (lens (l.take k)).getD i 0 * n from rfl, lens_pre (by omega) hi]
theorem lens_l {l : List Rst} {k c : Nat} (h : l[k]? = some (.let_ c)) : (lens l).getD k 0 = 1 := by rw [lens_at h]; rfl
/-- the words of a recipe -/
noncomputable def wds (l : List Rst) : List (List Nat) := foR [] (fun c => [c]) (· ++ ·) (fun w n => rep n w) l
noncomputable def wd (l : List Rst) (k : Nat) : List Nat := (wds l).getD k []
theorem wd_l {l : List Rst} {k c : Nat} (h : l[k]? = some (.let_ c)) : wd l k = [c] := foR_l _ _ _ _ h
theorem wd_p {l : List Rst} {k i j : Nat} (h : l[k]? = some (.pair i j)) (hi : i < k) (hj : j < k) : wd l k = wd l i ++ wd l j := foR_p _ _ _ _ h hi hj
theorem wd_t {l : List Rst} {k i n : Nat} (h : l[k]? = some (.times i n)) (hi : i < k) : wd l k = rep n (wd l i) := foR_t _ _ _ _ h hi
theorem wd_len {l : List Rst} (hl : RssOk l) : ∀ k, k < l.length → (wd l k).length = (lens l).getD k 0 := by
  intro k
  induction k using Nat.strongRecOn with
  | _ k ih =>
    intro hk
    have hx := List.getElem?_eq_getElem hk
    have hok := hl k _ hx
    generalize l[k] = x at hok hx
    cases x with
    | let_ c => rw [wd_l hx, lens_l hx]; rfl
    | pair i j => rw [wd_p hx hok.1 hok.2, lens_p hx hok.1 hok.2, List.length_append, ih i hok.1 (by have := hok.1; omega), ih j hok.2 (by have := hok.2; omega)]
    | times i n => rw [wd_t hx hok.1, lens_t hx hok.1, rep_len, ih i hok.1 (by have := hok.1; omega)]
theorem rep_get {w : List Nat} : ∀ (n p : Nat), p < w.length * n → (rep n w)[p]? = w[p % w.length]?
  | 0, p, h => by simp at h
  | n + 1, p, h => by
    show (w ++ rep n w)[p]? = _
    by_cases hp : p < w.length
    · rw [List.getElem?_append_left hp, Nat.mod_eq_of_lt hp]
    · rw [List.getElem?_append_right (by omega), rep_get n (p - w.length) (by rw [Nat.mul_succ] at h; omega), Nat.mod_eq_sub_mod (show p ≥ w.length by omega)]
theorem wd_at {l : List Rst} (hl : RssOk l) {k p c : Nat} (h : At l k p c) : k < l.length → p < (lens l).getD k 0 → (wd l k)[p]? = some c := by
  induction h with
  | @let_ k p c hx =>
    intro hk hp
    rw [lens_l hx] at hp
    rw [wd_l hx, show p = 0 by omega]; rfl
  | @left k p c i j hx hp h ih =>
    intro hk _
    have h1 := (hl k _ hx).1
    rw [wd_p hx h1 (hl k _ hx).2, List.getElem?_append_left (by rw [wd_len hl i (by omega)]; exact hp)]
    exact ih (by omega) hp
  | @right k p c i j hx hp h ih =>
    intro hk hpk
    have h1 := (hl k _ hx).1
    have h2 := (hl k _ hx).2
    rw [lens_p hx h1 h2] at hpk
    rw [wd_p hx h1 h2, List.getElem?_append_right (by rw [wd_len hl i (by omega)]; exact hp), wd_len hl i (by omega)]
    exact ih (by omega) (by omega)
  | @times k p c i n hx h ih =>
    intro hk hpk
    have h1 := (hl k _ hx).1
    rw [lens_t hx h1] at hpk
    have hpos := (lens_bd hl i (by omega)).1
    rw [wd_t hx h1, rep_get n p (by rw [wd_len hl i (by omega)]; exact hpk), wd_len hl i (by omega)]
    exact ih (by omega) (Nat.mod_lt _ (by omega))
/-! ### lists of numbers that wait -/
theorem ne_nil {s : Sto} {r q : Nat} {C : List D} (h1 : s[r]? = some (.lst C)) (h2 : s[q]? = some (.lst [])) : cmpop .ne (.ref r) (.ref q) s = .ok (.bl (!decide (C = []))) s := by
  have : eqv s DEEP (.ref r) (.ref q) = some (decide (C = [])) := by
    show (match s[r]?, s[q]? with
      | some (O.lst l), some (O.lst m) => if l.length = m.length then eqL (eqv s 29) l m else some false
      | _, _ => none) = _
    rw [h1, h2]
    cases C with
    | nil => rfl
    | cons a l => simp
  show (match eqv s DEEP (.ref r) (.ref q) with | some r => R.ok (D.bl (!r)) s | none => .bad) = _
  rw [this]
theorem pop_lst {s : Sto} {r : Nat} {l : List D} {d : D} (h : s[r]? = some (.lst (l ++ [d]))) : meth .pop (.ref r) [] s = .ok d (s.set r (.lst l)) := by
  simp [meth, h]
theorem addL {s : Sto} {a b : Nat} {l m : List D} (h1 : s[a]? = some (.lst l)) (h2 : s[b]? = some (.lst m)) (h : l.length + m.length ≤ LIM) : binop .add (.ref a) (.ref b) s = .ok (.ref s.length) (s ++ [.lst (l ++ m)]) := by
  simp [binop, h1, h2, h]
theorem mulL {s : Sto} {a : Nat} {l : List D} {k : Nat} (h1 : s[a]? = some (.lst l)) (h : k ≤ 1000000) (h2 : l.length * k ≤ LIM) : binop .mul (.ref a) (.int (k : Int)) s = .ok (.ref s.length) (s ++ [.lst (repD k l)]) := by
  have e : (0 : Int) ≤ (k : Int) ∧ (k : Int) ≤ 1000000 ∧ l.length * ((k : Int)).toNat ≤ LIM := ⟨by omega, by omega, by simpa using h2⟩
  simp only [binop, h1, if_pos e, alloc_eq]
  rw [Int.toNat_natCast]
theorem getL {s : Sto} {o : O} : (s ++ [o])[s.length]? = some o := by rw [List.getElem?_append_right (Nat.le_refl _)]; simp
theorem repD_nats (n i : Nat) : repD n [D.int (i : Int)] = nats (List.replicate n i) := by
  induction n with
  | zero => rfl
  | succ n ih => show [D.int (i : Int)] ++ repD n _ = _; rw [ih, List.replicate_succ]; rfl
theorem nats_app (a b : List Nat) : nats (a ++ b) = nats a ++ nats b := by unfold nats; exact List.map_append
theorem sg_app (a b : List Nat) : sg (a ++ b) = sg a ++ sg b := by unfold sg; exact List.map_append
theorem nats_len (a : List Nat) : (nats a).length = a.length := by unfold nats; exact List.length_map _
theorem sg_len (a : List Nat) : (sg a).length = a.length := by unfold sg; exact List.length_map _
noncomputable def cw38 : E := (.cmp .ne (.var 1) (.lst .nil))
noncomputable def bw38 : Ss := (.cons (.asg (.one 3) (.ix (.var 0) (.meth .pop (.var 1) .nil))) (.cons (.ite (.cmp .eq (.ix (.var 3) (.cst (.int 0))) (.cst (.str [108, 101, 116, 116, 101, 114]))) (.cons (.ex (.meth .append (.var 2) (.cons (.ix (.var 3) (.cst (.int 1))) .nil))) .nil) (.cons (.ite (.cmp .eq (.ix (.var 3) (.cst (.int 0))) (.cst (.str [112, 97, 105, 114]))) (.cons (.asg (.one 1) (.bin .add (.var 1) (.lst (.cons (.ix (.var 3) (.cst (.int 2))) (.cons (.ix (.var 3) (.cst (.int 1))) .nil))))) .nil) (.cons (.asg (.one 1) (.bin .add (.var 1) (.bin .mul (.lst (.cons (.ix (.var 3) (.cst (.int 1))) .nil)) (.ix (.var 3) (.cst (.int 2)))))) .nil)) .nil)) .nil))
theorem body_w38 : w_word_3.body = (.cons (.asg (.one 1) (.lst (.cons (.bin .sub (.bi .len (.cons (.var 0) .nil)) (.cst (.int 1))) .nil))) (.cons (.asg (.one 2) (.lst .nil)) (.cons (.whl cw38 bw38) (.cons (.ret (.join (.cst (.str [])) (.var 2))) .nil)))) := rfl
structure Wt (s0 s : Sto) (r q : Nat) (W u : List Nat) : Prop where
  pre : ∃ t, s = s0 ++ t
  q0 : s0.length ≤ q
  r0 : s0.length ≤ r
  rq : r ≠ q
  gr : s[r]? = some (.lst (nats W))
  gq : s[q]? = some (.lst (sg u))
theorem pre_set {s0 s : Sto} {r : Nat} {o : O} (h : ∃ t, s = s0 ++ t) (hr : s0.length ≤ r) : ∃ t, s.set r o = s0 ++ t := by
  obtain ⟨t, rfl⟩ := h
  exact ⟨t.set (r - s0.length) o, by rw [List.set_append_right _ _ hr]⟩
theorem pre_app {s0 s t : Sto} (h : ∃ t, s = s0 ++ t) : ∃ t', s ++ t = s0 ++ t' := by
  obtain ⟨t', rfl⟩ := h
  exact ⟨t' ++ t, by rw [List.append_assoc]⟩
theorem word_go {F : Fns} {l : List Rst} (hl : RssOk l) {s0 : Sto} {q : Nat} : ∀ k, k < l.length → ∀ (s : Sto) (r : Nat) (W u : List Nat) (x3 : Option D), Wt s0 s r q (W ++ [k]) u → W.length + (lens l).getD k 0 ≤ 1000 → u.length + (lens l).getD k 0 ≤ 1000 →
    ∃ (s' : Sto) (r' : Nat) (y3 : Option D), Wt s0 s' r' q W (u ++ wd l k) ∧ whl (ev F cw38) (exs F bw38) [some (.tup (l.map Rst.d)), some (.ref r), some (.ref q), x3] s = whl (ev F cw38) (exs F bw38) [some (.tup (l.map Rst.d)), some (.ref r'), some (.ref q), y3] s' := by
  intro k
  induction k using Nat.strongRecOn with
  | _ k ih =>
    intro hk s r W u x3 h hW hu
    have hx := List.getElem?_eq_getElem hk
    have hok := hl k _ hx
    generalize l[k] = x at hok hx
    have grec : ∀ t, ixM (.tup (l.map Rst.d)) (.int (k : Int)) t = .ok x.d t := fun t => ix_tup (by rw [List.getElem?_map, hx]; rfl)
    have hr := (List.getElem?_eq_some_iff.mp h.gr).1
    have hq := (List.getElem?_eq_some_iff.mp h.gq).1
    have hc : ev F cw38 [some (.tup (l.map Rst.d)), some (.ref r), some (.ref q), x3] s = .ok (.bl true) (s ++ [.lst []]) := by
      unfold cw38
      simp -implicitDefEqProofs only [exs_cons, exs_nil, ex_asg, ex_ite, ex_ret, ex_ex, ex_for, ex_whl, ex_setIx, ex_cont, ex_pass, ev_var, ev_cst, ev_bin, ev_not, ev_cmp, ev_and, ev_or, ev_ite, ev_tup, ev_lst, ev_ix, ev_call, ev_bi, ev_mk, ev_mkD, ev_meth, ev_isN, ev_notN, evs_nil, evs_cons, evas_nil, evas_ex, evI_seq, evI_rng1, evL_seq, Cn_bl, Cn_int, Cn_non, Cn_str, R.bind_ok, bindT_one, bindT_tup, setVs_nil, setVs_cons, setV_s, setV_0, getV_0, getV_s, Option.map_some, Option.bind_some, setC_some, nxt_next, nxt_ret, nxt_cont, fin_ret, fin_next, add_int, sub_int, lt_int, le_int, gt_int, ge_int, eq_int, ne_int, alloc_eq, tru_bl, if_true, if_false, Bool.false_eq_true, decide_true, decide_false, Bool.not_true, Bool.not_false, ne_nil (get_app h.gr) getL, show (nats (W ++ [k]) = []) = False by rw [nats_app]; simp [nats]]
    have h9 : s[r]? = some (O.lst (nats W ++ [D.int (k : Int)])) := by have := h.gr; rwa [nats_app] at this
    have hp : meth .pop (.ref r) [] (s ++ [O.lst []]) = .ok (.int (k : Int)) ((s ++ [O.lst []]).set r (.lst (nats W))) := pop_lst (get_app h9)
    generalize hs2 : (s ++ [O.lst []]).set r (.lst (nats W)) = s2 at hp
    have l2 : s2.length = s.length + 1 := by rw [← hs2]; simp
    have h2 : Wt s0 s2 r q W u := by
      refine ⟨?_, h.q0, h.r0, h.rq, ?_, ?_⟩
      · rw [← hs2]; exact pre_set (pre_app h.pre) h.r0
      · rw [← hs2]; exact get_set (by simp; omega)
      · rw [← hs2, List.getElem?_set_ne h.rq]; exact get_app h.gq
    cases x with
    | let_ c =>
      refine ⟨s2.set q (O.lst (sg (u ++ [c]))), r, some (Rst.let_ c).d, ⟨pre_set h2.pre h.q0, h.q0, h.r0, h.rq, ?_, ?_⟩, whl_turn hc ?_⟩
      · rw [List.getElem?_set_ne (Ne.symm h.rq)]; exact h2.gr
      · rw [wd_l hx]; exact get_set (by omega)
      · unfold bw38
        simp -implicitDefEqProofs only [exs_cons, exs_nil, ex_asg, ex_ite, ex_ret, ex_ex, ex_for, ex_whl, ex_setIx, ex_cont, ex_pass, ev_var, ev_cst, ev_bin, ev_not, ev_cmp, ev_and, ev_or, ev_ite, ev_tup, ev_lst, ev_ix, ev_call, ev_bi, ev_mk, ev_mkD, ev_meth, ev_isN, ev_notN, evs_nil, evs_cons, evas_nil, evas_ex, evI_seq, evI_rng1, evL_seq, Cn_bl, Cn_int, Cn_non, Cn_str, R.bind_ok, bindT_one, bindT_tup, setVs_nil, setVs_cons, setV_s, setV_0, getV_0, getV_s, Option.map_some, Option.bind_some, setC_some, nxt_next, nxt_ret, nxt_cont, fin_ret, fin_next, add_int, sub_int, lt_int, le_int, gt_int, ge_int, eq_int, ne_int, alloc_eq, tru_bl, if_true, if_false, Bool.false_eq_true, decide_true, decide_false, Bool.not_true, Bool.not_false, hp, grec, rl0, rl1, eq_strs, show (sLet = [108, 101, 116, 116, 101, 114]) = True from eq_self _, append_lst h2.gq (by rw [sg_len]; unfold LIM; omega), sg_app]
        rfl
    | pair i j =>
      obtain ⟨hi, hj⟩ := hok
      rw [lens_p hx hi hj] at hW hu
      have b1 := (lens_bd hl i (by omega)).1
      have b2 := (lens_bd hl j (by omega)).1
      have g1 : (s2 ++ [O.lst [D.int (j : Int), D.int (i : Int)]] ++ [O.lst (nats W ++ [D.int (j : Int), D.int (i : Int)])])[(s2 ++ [O.lst [D.int (j : Int), D.int (i : Int)]]).length]? = some (.lst (nats (W ++ [j] ++ [i]))) := by
        rw [getL, nats_app, nats_app, List.append_assoc]; rfl
      have w3 : Wt s0 (s2 ++ [O.lst [D.int (j : Int), D.int (i : Int)]] ++ [O.lst (nats W ++ [D.int (j : Int), D.int (i : Int)])]) (s2 ++ [O.lst [D.int (j : Int), D.int (i : Int)]]).length q (W ++ [j] ++ [i]) u := ⟨pre_app (pre_app h2.pre), h.q0, by have := h.r0; simp; omega, by simp; omega, g1, get_app (get_app h2.gq)⟩
      obtain ⟨s4, r4, y4, w4, e4⟩ := ih i hi (by omega) _ _ _ _ (some (Rst.pair i j).d) w3 (by simp only [List.length_append, List.length_cons, List.length_nil]; omega) (by omega)
      obtain ⟨s5, r5, y5, w5, e5⟩ := ih j hj (by omega) _ _ _ _ y4 w4 (by omega) (by rw [List.length_append, wd_len hl i (by omega)]; omega)
      refine ⟨s5, r5, y5, by rw [wd_p hx hi hj, ← List.append_assoc]; exact w5, ?_⟩
      rw [← e5, ← e4]
      refine whl_turn hc ?_
      unfold bw38
      have ha := addL (s := s2 ++ [O.lst [D.int (j : Int), D.int (i : Int)]]) (a := r) (b := s2.length) (get_app h2.gr) getL (by rw [nats_len]; unfold LIM; simp; omega)
      simp -implicitDefEqProofs only [exs_cons, exs_nil, ex_asg, ex_ite, ex_ret, ex_ex, ex_for, ex_whl, ex_setIx, ex_cont, ex_pass, ev_var, ev_cst, ev_bin, ev_not, ev_cmp, ev_and, ev_or, ev_ite, ev_tup, ev_lst, ev_ix, ev_call, ev_bi, ev_mk, ev_mkD, ev_meth, ev_isN, ev_notN, evs_nil, evs_cons, evas_nil, evas_ex, evI_seq, evI_rng1, evL_seq, Cn_bl, Cn_int, Cn_non, Cn_str, R.bind_ok, bindT_one, bindT_tup, setVs_nil, setVs_cons, setV_s, setV_0, getV_0, getV_s, Option.map_some, Option.bind_some, setC_some, nxt_next, nxt_ret, nxt_cont, fin_ret, fin_next, add_int, sub_int, lt_int, le_int, gt_int, ge_int, eq_int, ne_int, alloc_eq, tru_bl, if_true, if_false, Bool.false_eq_true, decide_true, decide_false, Bool.not_true, Bool.not_false, hp, grec, rp0, rp1, rp2, eq_strs, show (sPair = [108, 101, 116, 116, 101, 114]) = False by decide, show (sPair = [112, 97, 105, 114]) = True from eq_self _, ha]
    | times i n =>
      obtain ⟨hi, hn1, hn2⟩ := hok
      rw [lens_t hx hi] at hW hu
      have b1 := (lens_bd hl i (by omega)).1
      have bn : n ≤ (lens l).getD i 0 * n := Nat.le_mul_of_pos_left n (by omega)
      have rl : (repD n [D.int (i : Int)]).length = n := by rw [repD_len]; simp
      have go : ∀ m s r u x3, Wt s0 s r q (W ++ List.replicate m i) u → W.length + m + (lens l).getD i 0 ≤ 1001 → u.length + (lens l).getD i 0 * m ≤ 1000 → m ≤ n →
          ∃ (s' : Sto) (r' : Nat) (y3 : Option D), Wt s0 s' r' q W (u ++ rep m (wd l i)) ∧ whl (ev F cw38) (exs F bw38) [some (.tup (l.map Rst.d)), some (.ref r), some (.ref q), x3] s = whl (ev F cw38) (exs F bw38) [some (.tup (l.map Rst.d)), some (.ref r'), some (.ref q), y3] s' := by
        intro m
        induction m with
        | zero => intro s r u x3 hw _ _ _; exact ⟨s, r, x3, by simpa [rep] using hw, rfl⟩
        | succ m ihm =>
          intro s r u x3 hw hb hu hm
          rw [List.replicate_succ', ← List.append_assoc] at hw
          rw [Nat.mul_succ] at hu
          obtain ⟨s4, r4, y4, w4, e4⟩ := ih i hi (by omega) _ _ _ _ x3 hw (by simp only [List.length_append, List.length_replicate]; omega) (by omega)
          obtain ⟨s5, r5, y5, w5, e5⟩ := ihm s4 r4 (u ++ wd l i) y4 w4 (by omega) (by rw [List.length_append, wd_len hl i (by omega)]; omega) (by omega)
          exact ⟨s5, r5, y5, by rw [show rep (m + 1) (wd l i) = wd l i ++ rep m (wd l i) from rfl, ← List.append_assoc]; exact w5, e4.trans e5⟩
      have g1 : (s2 ++ [O.lst [D.int (i : Int)]] ++ [O.lst (repD n [D.int (i : Int)])] ++ [O.lst (nats W ++ repD n [D.int (i : Int)])])[(s2 ++ [O.lst [D.int (i : Int)]] ++ [O.lst (repD n [D.int (i : Int)])]).length]? = some (.lst (nats (W ++ List.replicate n i))) := by
        rw [getL, nats_app, repD_nats]
      have hin : (lens l).getD i 0 + n ≤ (lens l).getD i 0 * n + 1 := by
        obtain ⟨a, ha⟩ : ∃ a, (lens l).getD i 0 = a + 1 := ⟨_, (Nat.succ_pred_eq_of_pos b1).symm⟩
        obtain ⟨b, hb⟩ : ∃ b, n = b + 1 := ⟨_, (Nat.succ_pred_eq_of_pos hn1).symm⟩
        rw [ha, hb, Nat.add_mul, Nat.mul_add]; omega
      obtain ⟨s5, r5, y5, w5, e5⟩ := go n _ _ u (some (Rst.times i n).d) ⟨pre_app (pre_app (pre_app h2.pre)), h.q0, by have := h.r0; simp; omega, by simp; omega, g1, get_app (get_app (get_app h2.gq))⟩ (by omega) (by omega) (Nat.le_refl _)
      refine ⟨s5, r5, y5, by rw [wd_t hx hi]; exact w5, ?_⟩
      rw [← e5]
      refine whl_turn hc ?_
      unfold bw38
      have hm := mulL (s := s2 ++ [O.lst [D.int (i : Int)]]) (a := s2.length) (k := n) getL (by omega) (by unfold LIM; simp; omega)
      have ha := addL (s := s2 ++ [O.lst [D.int (i : Int)]] ++ [O.lst (repD n [D.int (i : Int)])]) (a := r) (b := (s2 ++ [O.lst [D.int (i : Int)]]).length) (get_app (get_app h2.gr)) getL (by rw [nats_len, rl]; unfold LIM; omega)
      simp -implicitDefEqProofs only [exs_cons, exs_nil, ex_asg, ex_ite, ex_ret, ex_ex, ex_for, ex_whl, ex_setIx, ex_cont, ex_pass, ev_var, ev_cst, ev_bin, ev_not, ev_cmp, ev_and, ev_or, ev_ite, ev_tup, ev_lst, ev_ix, ev_call, ev_bi, ev_mk, ev_mkD, ev_meth, ev_isN, ev_notN, evs_nil, evs_cons, evas_nil, evas_ex, evI_seq, evI_rng1, evL_seq, Cn_bl, Cn_int, Cn_non, Cn_str, R.bind_ok, bindT_one, bindT_tup, setVs_nil, setVs_cons, setV_s, setV_0, getV_0, getV_s, Option.map_some, Option.bind_some, setC_some, nxt_next, nxt_ret, nxt_cont, fin_ret, fin_next, add_int, sub_int, lt_int, le_int, gt_int, ge_int, eq_int, ne_int, alloc_eq, tru_bl, if_true, if_false, Bool.false_eq_true, decide_true, decide_false, Bool.not_true, Bool.not_false, hp, grec, rt0, rt1, rt2, eq_strs, show (sTimes = [108, 101, 116, 116, 101, 114]) = False by decide, show (sTimes = [112, 97, 105, 114]) = False by decide, hm, ha]
theorem strs_sg : ∀ u : List Nat, strsOf (sg u) = some (u.map fun c => [c])
  | [] => rfl
  | a :: u => by show (strsOf (sg u)).map ([a] :: ·) = _; rw [strs_sg u]; rfl
theorem flat1 : ∀ u : List Nat, (u.map fun c => [c]).flatten = u
  | [] => rfl
  | a :: u => by rw [List.map_cons, List.flatten_cons, flat1 u]; rfl
theorem join_sg {s : Sto} {q : Nat} {u : List Nat} (h : s[q]? = some (.lst (sg u))) (hu : u.length ≤ LIM) : joinM (.str []) (.ref q) s = .ok (.str u) s := by
  simp only [joinM, h, strs_sg, flat1, if_pos hu]
theorem ev_join {F : Fns} {ρ : Env} {s : Sto} (o e : E) : ev F (.join o e) ρ s = (ev F o ρ s).bind fun x s => (ev F e ρ s).bind fun y s => joinM x y s := rfl
theorem wordW_ok {P : Pr} [Has P w_word_3] (n : Nat) {l : List Rst} (h1 : 1 ≤ l.length) (hl : RssOk l) (hL : (lens l).getD (l.length - 1) 0 ≤ 900) (s : Sto) :
    (callN P (n + 1)).call "_law_word" [.tup (l.map Rst.d)] s = .ok (.str (wd l (l.length - 1))) s := by
  have e0 : (callN P (n + 1)).call "_law_word" [.tup (l.map Rst.d)] s = _ := call_def w_word_3 (n := n) rfl
  have w0 : Wt s (s ++ [O.lst [D.int ((l.length - 1 : Nat) : Int)]] ++ [O.lst []]) s.length (s ++ [O.lst [D.int ((l.length - 1 : Nat) : Int)]]).length ([] ++ [l.length - 1]) [] := ⟨⟨_, List.append_assoc _ _ _⟩, by simp, Nat.le_refl _, by simp, get_app (by rw [getL]; rfl), by rw [getL]; rfl⟩
  obtain ⟨s', r', y3, w', e'⟩ := word_go (F := callN P n) hl (l.length - 1) (by omega) _ _ _ _ none w0 (by rw [List.length_nil]; omega) (by rw [List.length_nil]; omega)
  rw [List.nil_append] at w'
  have hend : whl (ev (callN P n) cw38) (exs (callN P n) bw38) [some (.tup (l.map Rst.d)), some (.ref r'), some (.ref (s ++ [O.lst [D.int ((l.length - 1 : Nat) : Int)]]).length), y3] s' = .ok (.next [some (.tup (l.map Rst.d)), some (.ref r'), some (.ref (s ++ [O.lst [D.int ((l.length - 1 : Nat) : Int)]]).length), y3]) (s' ++ [.lst []]) := by
    refine whl_end ?_
    unfold cw38
    simp -implicitDefEqProofs only [exs_cons, exs_nil, ex_asg, ex_ite, ex_ret, ex_ex, ex_for, ex_whl, ex_setIx, ex_cont, ex_pass, ev_var, ev_cst, ev_bin, ev_not, ev_cmp, ev_and, ev_or, ev_ite, ev_tup, ev_lst, ev_ix, ev_call, ev_bi, ev_mk, ev_mkD, ev_meth, ev_isN, ev_notN, evs_nil, evs_cons, evas_nil, evas_ex, evI_seq, evI_rng1, evL_seq, Cn_bl, Cn_int, Cn_non, Cn_str, R.bind_ok, bindT_one, bindT_tup, setVs_nil, setVs_cons, setV_s, setV_0, getV_0, getV_s, Option.map_some, Option.bind_some, setC_some, nxt_next, nxt_ret, nxt_cont, fin_ret, fin_next, add_int, sub_int, lt_int, le_int, gt_int, ge_int, eq_int, ne_int, alloc_eq, tru_bl, if_true, if_false, Bool.false_eq_true, decide_true, decide_false, Bool.not_true, Bool.not_false, ne_nil (get_app w'.gr) getL, show (nats [] = ([] : List D)) = True from eq_self _]
  have hcv : ((l.length : Int) - 1) = ((l.length - 1 : Nat) : Int) := by omega
  rw [e0, body_w38, show (List.map some [D.tup (l.map Rst.d)] ++ List.replicate w_word_3.vs none) = [some (D.tup (l.map Rst.d)), none, none, none] from rfl]
  simp -implicitDefEqProofs only [exs_cons, exs_nil, ex_asg, ex_ite, ex_ret, ex_ex, ex_for, ex_whl, ex_setIx, ex_cont, ex_pass, ev_var, ev_cst, ev_bin, ev_not, ev_cmp, ev_and, ev_or, ev_ite, ev_tup, ev_lst, ev_ix, ev_call, ev_bi, ev_mk, ev_mkD, ev_meth, ev_isN, ev_notN, evs_nil, evs_cons, evas_nil, evas_ex, evI_seq, evI_rng1, evL_seq, Cn_bl, Cn_int, Cn_non, Cn_str, R.bind_ok, bindT_one, bindT_tup, setVs_nil, setVs_cons, setV_s, setV_0, getV_0, getV_s, Option.map_some, Option.bind_some, setC_some, nxt_next, nxt_ret, nxt_cont, fin_ret, fin_next, add_int, sub_int, lt_int, le_int, gt_int, ge_int, eq_int, ne_int, alloc_eq, tru_bl, if_true, if_false, Bool.false_eq_true, decide_true, decide_false, Bool.not_true, Bool.not_false, len_tup, List.length_map, hcv]
  rw [e', hend]
  have hw := wd_len hl (l.length - 1) (by omega)
  simp -implicitDefEqProofs only [exs_cons, exs_nil, ex_asg, ex_ite, ex_ret, ex_ex, ex_for, ex_whl, ex_setIx, ex_cont, ex_pass, ev_var, ev_cst, ev_bin, ev_not, ev_cmp, ev_and, ev_or, ev_ite, ev_tup, ev_lst, ev_ix, ev_call, ev_bi, ev_mk, ev_mkD, ev_meth, ev_isN, ev_notN, evs_nil, evs_cons, evas_nil, evas_ex, evI_seq, evI_rng1, evL_seq, Cn_bl, Cn_int, Cn_non, Cn_str, R.bind_ok, bindT_one, bindT_tup, setVs_nil, setVs_cons, setV_s, setV_0, getV_0, getV_s, Option.map_some, Option.bind_some, setC_some, nxt_next, nxt_ret, nxt_cont, fin_ret, fin_next, add_int, sub_int, lt_int, le_int, gt_int, ge_int, eq_int, ne_int, alloc_eq, tru_bl, if_true, if_false, Bool.false_eq_true, decide_true, decide_false, Bool.not_true, Bool.not_false, ev_join, join_sg (get_app w'.gq) (show (wd l (l.length - 1)).length ≤ LIM by rw [hw]; unfold LIM; omega)]
  obtain ⟨t, rfl⟩ := w'.pre
  rw [List.append_assoc]
  exact canon_val (fun _ => rfl) (by nofun)
end DV
end

set_option linter.all false
set_option maxRecDepth 100000
noncomputable section
namespace DV
theorem eqv_strS {s : Sto} {n : Nat} {a : List Nat} : eqv s n (.str a) (.str a) = some true := by
  cases n with
  | zero => show eqAtom s (.str a) (.str a) = _; simp [eqAtom, eqLit]
  | succ n => show eqAtom s (.str a) (.str a) = _; simp [eqAtom, eqLit]
theorem eqL_sg {s : Sto} {n : Nat} : ∀ w : List Nat, eqL (eqv s n) (sg w) (sg w) = some true
  | [] => rfl
  | a :: w => by
    show (match eqv s n (.str [a]) (.str [a]), eqL (eqv s n) (sg w) (sg w) with | some x, some y => some (x && y) | _, _ => none) = _
    rw [eqv_strS, eqL_sg w]; rfl
theorem ne_sameS {s : Sto} {p q : Nat} {w : List Nat} (hp : s[p]? = some (.lst (sg w))) (hq : s[q]? = some (.lst (sg w))) : cmpop .ne (.ref p) (.ref q) s = .ok (.bl false) s := by
  have : eqv s DEEP (.ref p) (.ref q) = some true := by
    show (match s[p]?, s[q]? with
      | some (O.lst l), some (O.lst m) => if l.length = m.length then eqL (eqv s 29) l m else some false
      | _, _ => none) = _
    rw [hp, hq]
    simp only [if_true]
    exact eqL_sg w
  show (match eqv s DEEP (.ref p) (.ref q) with | some r => R.ok (D.bl (!r)) s | none => .bad) = _
  rw [this]; rfl
theorem sg_range (w : List Nat) : (List.range w.length).map (fun p => D.str [w.getD p 0]) = sg w := by
  apply List.ext_getElem?
  intro i
  by_cases hi : i < w.length
  · rw [List.getElem?_map, List.getElem?_range hi]
    unfold sg
    rw [List.getElem?_map, List.getElem?_eq_getElem hi]
    simp [List.getD_eq_getElem?_getD, List.getElem?_eq_getElem hi]
  · rw [List.getElem?_eq_none (by simp; omega), List.getElem?_eq_none (by rw [sg_len]; omega)]
noncomputable def p38 : S := (.for_ (.one 9) (.rng1 (.cst (.int 3))) (.cons (.ex (.meth .append (.var 8) (.cons (.call "_law_draw" (.ex (.var 2) (.ex (.var 7) .nil))) .nil))) .nil))
noncomputable def q38 : S := (.for_ (.one 10) (.seq (.var 8)) (.cons (.ite (.cmp .ne (.call "letter_at" (.ex (.var 4) (.ex (.var 10) .nil))) (.call "_law_letter" (.ex (.var 4) (.ex (.var 5) (.ex (.var 10) .nil))))) (.cons (.ret (.cst (.bl false))) .nil) .nil) .nil))
noncomputable def r38 : S := (.ite (.cmp .le (.var 6) (.cst (.int 200))) (.cons (.asg (.one 11) (.call "_law_word" (.ex (.var 4) .nil))) (.cons (.ite (.cmp .ne (.mk .list (.comp (.one 0) (.rng1 (.var 6)) (.call "letter_at" (.ex (.var 1) (.ex (.var 0) .nil))) [none, some 4])) (.mk .list (.seq (.var 11)))) (.cons (.ret (.cst (.bl false))) .nil) .nil) .nil)) .nil)
noncomputable def m38 : Ss → Ss := fun t => (.cons (.asg (.one 5) (.call "_law_lengths" (.ex (.var 4) .nil))) (.cons (.asg (.one 6) (.call "long_length" (.ex (.var 4) .nil))) (.cons (.ite (.or (.not (.bi .isInt (.cons (.var 6) .nil))) (.or (.bi .isBool (.cons (.var 6) .nil)) (.cmp .ne (.var 6) (.ix (.var 5) (.neg (.cst (.int 1))))))) (.cons (.ret (.cst (.bl false))) .nil) .nil) (.cons (.asg (.one 7) (.bi .min2 (.cons (.var 6) (.cons (.bin .pow (.cst (.int 10)) (.cst (.int 60))) .nil)))) (.cons (.asg (.one 8) (.lst (.cons (.cst (.int 0)) (.cons (.bin .sub (.var 7) (.cst (.int 1))) (.cons (.bin .fdiv (.var 7) (.cst (.int 2))) .nil))))) t)))))
noncomputable def i38 : S := (.ite (.cmp .eq (.call "_law_draw" (.ex (.var 2) (.ex (.cst (.int 4)) .nil))) (.cst (.int 1))) (.cons (.asg (.one 3) (.cst (.int 60))) .nil) .nil)
noncomputable def j38 : S := (.ite (.cmp .eq (.call "_law_draw" (.ex (.var 2) (.ex (.cst (.int 8)) .nil))) (.cst (.int 3))) (.cons (.asg (.one 4) (.call "_law_tall" (.ex (.var 2) (.ex (.cst (.int 3)) (.ex (.cst (.int 60)) .nil))))) .nil) .nil)
theorem body38 : w_law_k38.body = (.cons (.for_ (.one 1) (.rng1 (.bin .add (.bi .min2 (.cons (.cst (.int 8)) (.cons (.bi .len (.cons (.var 0) .nil)) .nil))) (.cst (.int 1)))) (.cons (.asg (.one 2) (.call "_law_box" (.ex (.var 0) (.ex (.var 1) .nil)))) (.cons (.asg (.one 3) (.cst (.int 20))) (.cons i38 (.cons (.asg (.one 4) (.call "_law_recipe" (.ex (.var 2) (.ex (.cst (.int 3)) (.ex (.var 3) (.ex (.cst (.int 40)) .nil)))))) (.cons j38 (m38 (.cons p38 (.cons q38 (.cons r38 .nil)))))))))) (.cons (.ret (.cst (.bl true))) .nil)) := rfl
section
variable {P : Pr} [Has P w_box] [Has P w_draw] [Has P w_recipe] [Has P w_lengths] [Has P w_letter] [Has P w_word_3] [Has P w_tall_2] [Has P w_law_k38]
  [Has P d_folded] [Has P d_counted] [HasL P d_counted_l0] [HasL P d_counted_l1] [HasL P d_counted_l2] [Has P d_letter_at] [Has P d_long_length]
theorem p38_ok (n : Nat) {s : Sto} {r : Nat} (hr : r < s.length) (b : Int) {high : Nat} (h1 : 1 ≤ high) (h2 : high ≤ 10 ^ 60) (A : O) (ps : List Nat) (hps : ps.length = 3) (x0 x1 x3 x4 x5 x6 x9 x10 x11 : Option D) :
    ∃ (qs : List Nat) (b' : Int) (y9 : Option D), qs.length = 6 ∧ ex (callN P (n + 4)) p38 [x0, x1, some (.ref r), x3, x4, x5, x6, some (.int (high : Int)), some (.ref (s.length + 1)), x9, x10, x11] (s.set r (boxO b) ++ [A, .lst (nats ps)]) = .ok (.next [x0, x1, some (.ref r), x3, x4, x5, x6, some (.int (high : Int)), some (.ref (s.length + 1)), y9, x10, x11]) (s.set r (boxO b') ++ [A, .lst (nats qs)]) := by
  have key := for_inv (ok := fun s1 => chk (s.set r (boxO b) ++ [A, O.lst (nats ps)]) s1 []) (g := turn (callN P (n + 4)) (.one 9) (.cons (.ex (.meth .append (.var 8) (.cons (.call "_law_draw" (.ex (.var 2) (.ex (.var 7) .nil))) .nil))) .nil)) (fun k ρ t => ∃ (qs : List Nat) (b : Int) (y9 : Option D), qs.length = 3 + k ∧ k ≤ 3 ∧ ρ = [x0, x1, some (.ref r), x3, x4, x5, x6, some (.int (high : Int)), some (.ref (s.length + 1)), y9, x10, x11] ∧ t = s.set r (boxO b) ++ [A, .lst (nats qs)]) (rngL 0 ((3 : Nat) : Int)) 0 [x0, x1, some (.ref r), x3, x4, x5, x6, some (.int (high : Int)), some (.ref (s.length + 1)), x9, x10, x11] (s.set r (boxO b) ++ [A, .lst (nats ps)]) ⟨ps, b, x9, hps, by omega, rfl, rfl⟩ (fun _ _ _ _ _ => rfl) (by
    rintro k dd ρ t hk ⟨qs, b, y9, hq, hk3, rfl, rfl⟩
    have hk5 := (rngL_at hk).1
    rw [(rngL_at hk).2]
    rw [Nat.zero_add] at hq ⊢
    obtain ⟨v, b', hv, f1⟩ := draw_on (P := P) (n + 3) (t := [A, .lst (nats qs)]) hr b (high : Int) (by omega) (Int.le_trans (show (high : Int) ≤ 10 ^ 60 by omega) (by decide))
    have ap : meth .append (.ref (s.length + 1)) [.int (v : Int)] (s.set r (boxO b') ++ [A, .lst (nats qs)]) = .ok .non (s.set r (boxO b') ++ [A, .lst (nats (qs ++ [v]))]) := by
      have hg : (s.set r (boxO b') ++ [A, .lst (nats qs)])[s.length + 1]? = some (O.lst (nats qs)) := by rw [List.getElem?_append_right (by simp), List.length_set, Nat.add_sub_cancel_left]; rfl
      rw [append_lst hg (by rw [nats_len]; unfold LIM; omega), List.set_append_right _ _ (by simp), List.length_set, Nat.add_sub_cancel_left, nats_app]; rfl
    refine ⟨_, _, .inl ?_, qs ++ [v], b', some (.int (k : Int)), by simp; omega, by omega, rfl, rfl⟩
    unfold turn
    simp -implicitDefEqProofs only [exs_cons, exs_nil, ex_asg, ex_ite, ex_ret, ex_ex, ex_for, ex_whl, ex_setIx, ex_cont, ex_pass, ev_var, ev_cst, ev_bin, ev_not, ev_cmp, ev_and, ev_or, ev_ite, ev_tup, ev_lst, ev_ix, ev_call, ev_bi, ev_mk, ev_mkD, ev_meth, ev_isN, ev_notN, evs_nil, evs_cons, evas_nil, evas_ex, evI_seq, evI_rng1, evL_seq, Cn_bl, Cn_int, Cn_non, Cn_str, R.bind_ok, bindT_one, bindT_tup, setVs_nil, setVs_cons, setV_s, setV_0, getV_0, getV_s, Option.map_some, Option.bind_some, setC_some, nxt_next, nxt_ret, nxt_cont, fin_ret, fin_next, add_int, sub_int, lt_int, le_int, gt_int, ge_int, eq_int, ne_int, alloc_eq, tru_bl, if_true, if_false, Bool.false_eq_true, decide_true, decide_false, Bool.not_true, Bool.not_false, f1, ap])
  obtain ⟨ρ', s', ek, qs, b', y9, hq, _, rfl, rfl⟩ := key
  refine ⟨qs, b', y9, by rw [hq, rngL_len], ?_⟩
  unfold p38
  simp -implicitDefEqProofs only [exs_cons, exs_nil, ex_asg, ex_ite, ex_ret, ex_ex, ex_for, ex_whl, ex_setIx, ex_cont, ex_pass, ev_var, ev_cst, ev_bin, ev_not, ev_cmp, ev_and, ev_or, ev_ite, ev_tup, ev_lst, ev_ix, ev_call, ev_bi, ev_mk, ev_mkD, ev_meth, ev_isN, ev_notN, evs_nil, evs_cons, evas_nil, evas_ex, evI_seq, evI_rng1, evL_seq, Cn_bl, Cn_int, Cn_non, Cn_str, R.bind_ok, bindT_one, bindT_tup, setVs_nil, setVs_cons, setV_s, setV_0, getV_0, getV_s, Option.map_some, Option.bind_some, setC_some, nxt_next, nxt_ret, nxt_cont, fin_ret, fin_next, add_int, sub_int, lt_int, le_int, gt_int, ge_int, eq_int, ne_int, alloc_eq, tru_bl, if_true, if_false, Bool.false_eq_true, decide_true, decide_false, Bool.not_true, Bool.not_false]
  rw [rng1_ok (by unfold W62; omega) (by unfold W62; omega)]
  simp -implicitDefEqProofs only [exs_cons, exs_nil, ex_asg, ex_ite, ex_ret, ex_ex, ex_for, ex_whl, ex_setIx, ex_cont, ex_pass, ev_var, ev_cst, ev_bin, ev_not, ev_cmp, ev_and, ev_or, ev_ite, ev_tup, ev_lst, ev_ix, ev_call, ev_bi, ev_mk, ev_mkD, ev_meth, ev_isN, ev_notN, evs_nil, evs_cons, evas_nil, evas_ex, evI_seq, evI_rng1, evL_seq, Cn_bl, Cn_int, Cn_non, Cn_str, R.bind_ok, bindT_one, bindT_tup, setVs_nil, setVs_cons, setV_s, setV_0, getV_0, getV_s, Option.map_some, Option.bind_some, setC_some, nxt_next, nxt_ret, nxt_cont, fin_ret, fin_next, add_int, sub_int, lt_int, le_int, gt_int, ge_int, eq_int, ne_int, alloc_eq, tru_bl, if_true, if_false, Bool.false_eq_true, decide_true, decide_false, Bool.not_true, Bool.not_false]
  exact ek
theorem q38_ok (n : Nat) {l : List Rst} (h5 : l.length ≤ 500) (h1 : 1 ≤ l.length) (hk : RssOk l) {s : Sto} (hs : s.all O.ncl = true) {q p : Nat} (hq : s[q]? = some (.lst (nats (lens l)))) {qs : List Nat} (hp : s[p]? = some (.lst (nats qs))) (x0 x1 x2 x3 x6 x7 x9 x10 x11 : Option D) :
    ∃ (y10 : Option D), ex (callN P (n + 4)) q38 [x0, x1, x2, x3, some (.tup (l.map Rst.d)), some (.ref q), x6, x7, some (.ref p), x9, x10, x11] s = .ok (.next [x0, x1, x2, x3, some (.tup (l.map Rst.d)), some (.ref q), x6, x7, some (.ref p), x9, y10, x11]) s := by
  have key := for_inv (ok := fun s1 => chk s s1 [p]) (g := turn (callN P (n + 4)) (.one 10) (.cons (.ite (.cmp .ne (.call "letter_at" (.ex (.var 4) (.ex (.var 10) .nil))) (.call "_law_letter" (.ex (.var 4) (.ex (.var 5) (.ex (.var 10) .nil))))) (.cons (.ret (.cst (.bl false))) .nil) .nil) .nil)) (fun k ρ t => ∃ (y10 : Option D), ρ = [x0, x1, x2, x3, some (.tup (l.map Rst.d)), some (.ref q), x6, x7, some (.ref p), x9, y10, x11] ∧ t = s) (nats qs) 0 [x0, x1, x2, x3, some (.tup (l.map Rst.d)), some (.ref q), x6, x7, some (.ref p), x9, x10, x11] s ⟨x10, rfl, rfl⟩ (fun _ _ _ _ h => by obtain ⟨_, _, rfl⟩ := h; simp [chk]) (by
    rintro k dd ρ t hkk ⟨y10, rfl, rfl⟩
    unfold nats at hkk
    rw [List.getElem?_map] at hkk
    obtain ⟨v, hv, rfl⟩ := Option.map_eq_some_iff.mp hkk
    obtain ⟨c, hc⟩ := at_ex hk (l.length - 1) v (by omega)
    have e1 := letter_at_ok (P := P) n h5 h1 hk hs hc
    have e2 := letter_ok (P := P) (n + 3) h1 hk hq hc
    refine ⟨_, _, .inl ?_, some (.int (v : Int)), rfl, rfl⟩
    unfold turn
    simp -implicitDefEqProofs only [exs_cons, exs_nil, ex_asg, ex_ite, ex_ret, ex_ex, ex_for, ex_whl, ex_setIx, ex_cont, ex_pass, ev_var, ev_cst, ev_bin, ev_not, ev_cmp, ev_and, ev_or, ev_ite, ev_tup, ev_lst, ev_ix, ev_call, ev_bi, ev_mk, ev_mkD, ev_meth, ev_isN, ev_notN, evs_nil, evs_cons, evas_nil, evas_ex, evI_seq, evI_rng1, evL_seq, Cn_bl, Cn_int, Cn_non, Cn_str, R.bind_ok, bindT_one, bindT_tup, setVs_nil, setVs_cons, setV_s, setV_0, getV_0, getV_s, Option.map_some, Option.bind_some, setC_some, nxt_next, nxt_ret, nxt_cont, fin_ret, fin_next, add_int, sub_int, lt_int, le_int, gt_int, ge_int, eq_int, ne_int, alloc_eq, tru_bl, if_true, if_false, Bool.false_eq_true, decide_true, decide_false, Bool.not_true, Bool.not_false, e1, e2, ne_strs, show ([c] = [c]) = True from eq_self _])
  obtain ⟨ρ', s', ek, y10, rfl, rfl⟩ := key
  refine ⟨y10, ?_⟩
  have h2 : seqM (.ref p) s' = .ok ⟨nats qs, [p]⟩ s' := by simp only [seqM, hp]
  unfold q38
  simp -implicitDefEqProofs only [exs_cons, exs_nil, ex_asg, ex_ite, ex_ret, ex_ex, ex_for, ex_whl, ex_setIx, ex_cont, ex_pass, ev_var, ev_cst, ev_bin, ev_not, ev_cmp, ev_and, ev_or, ev_ite, ev_tup, ev_lst, ev_ix, ev_call, ev_bi, ev_mk, ev_mkD, ev_meth, ev_isN, ev_notN, evs_nil, evs_cons, evas_nil, evas_ex, evI_seq, evI_rng1, evL_seq, Cn_bl, Cn_int, Cn_non, Cn_str, R.bind_ok, bindT_one, bindT_tup, setVs_nil, setVs_cons, setV_s, setV_0, getV_0, getV_s, Option.map_some, Option.bind_some, setC_some, nxt_next, nxt_ret, nxt_cont, fin_ret, fin_next, add_int, sub_int, lt_int, le_int, gt_int, ge_int, eq_int, ne_int, alloc_eq, tru_bl, if_true, if_false, Bool.false_eq_true, decide_true, decide_false, Bool.not_true, Bool.not_false, h2]
  exact ek
theorem r38_ok (n : Nat) {l : List Rst} (h5 : l.length ≤ 500) (h1 : 1 ≤ l.length) (hk : RssOk l) {s : Sto} (hs : s.all O.ncl = true) (x0 x1 x2 x3 x5 x7 x8 x9 x10 x11 : Option D) :
    ∃ (y11 : Option D) (T : Sto), T.all O.ncl = true ∧ ex (callN P (n + 4)) r38 [x0, x1, x2, x3, some (.tup (l.map Rst.d)), x5, some (.int (((lens l).getD (l.length - 1) 0 : Nat) : Int)), x7, x8, x9, x10, x11] s = .ok (.next [x0, x1, x2, x3, some (.tup (l.map Rst.d)), x5, some (.int (((lens l).getD (l.length - 1) 0 : Nat) : Int)), x7, x8, x9, x10, y11]) (s ++ T) := by
  by_cases h2 : (((lens l).getD (l.length - 1) 0 : Nat) : Int) ≤ 200
  · have hw := wd_len hk (l.length - 1) (by omega)
    have e1 := wordW_ok (P := P) (n + 3) h1 hk (show (lens l).getD (l.length - 1) 0 ≤ 900 by omega) s
    generalize hW : wd l (l.length - 1) = w at e1 hw
    obtain ⟨ρ1, s1, e2, h3, _⟩ := comp_rng (ok := fun s1 => chk s s1 []) (g := turnC (callN P (n + 4)) (.one 0) (.call "letter_at" (.ex (.var 1) (.ex (.var 0) .nil)))) (fun ρ u => u = s ∧ ∃ x, ρ = [x, some (.tup (l.map Rst.d))]) (fun p => D.str [w.getD p 0]) w.length [none, some (.tup (l.map Rst.d))] s ⟨rfl, none, rfl⟩ (fun _ _ _ => rfl) (by
      rintro j hj ρ u ⟨rfl, x, rfl⟩
      obtain ⟨c, hc⟩ := at_ex hk (l.length - 1) j (by omega)
      have e3 := letter_at_ok (P := P) n h5 h1 hk hs hc
      have e4 := wd_at hk hc (by omega) (by omega)
      rw [hW] at e4
      have e5 : w.getD j 0 = c := by rw [List.getD_eq_getElem?_getD, e4]; rfl
      refine ⟨[some (.int (j : Int)), some (.tup (l.map Rst.d))], u, ?_, rfl, _, rfl⟩
      unfold turnC
      rw [e5]
      simp -implicitDefEqProofs only [exs_cons, exs_nil, ex_asg, ex_ite, ex_ret, ex_ex, ex_for, ex_whl, ex_setIx, ex_cont, ex_pass, ev_var, ev_cst, ev_bin, ev_not, ev_cmp, ev_and, ev_or, ev_ite, ev_tup, ev_lst, ev_ix, ev_call, ev_bi, ev_mk, ev_mkD, ev_meth, ev_isN, ev_notN, evs_nil, evs_cons, evas_nil, evas_ex, evI_seq, evI_rng1, evL_seq, Cn_bl, Cn_int, Cn_non, Cn_str, R.bind_ok, bindT_one, bindT_tup, setVs_nil, setVs_cons, setV_s, setV_0, getV_0, getV_s, Option.map_some, Option.bind_some, setC_some, nxt_next, nxt_ret, nxt_cont, fin_ret, fin_next, add_int, sub_int, lt_int, le_int, gt_int, ge_int, eq_int, ne_int, alloc_eq, tru_bl, if_true, if_false, Bool.false_eq_true, decide_true, decide_false, Bool.not_true, Bool.not_false, e3])
    subst h3
    rw [sg_range] at e2
    have nS : (O.lst (sg w)).ncl = true := nclL_all fun d hd => by obtain ⟨x, _, rfl⟩ := List.mem_map.mp hd; rfl
    refine ⟨some (.str w), [.lst (sg w), .lst (sg w)], by simp [nS], ?_⟩
    have e6 : lstM (.str w) (s1 ++ [O.lst (sg w)]) = .ok (sg w) (s1 ++ [O.lst (sg w)]) := rfl
    have e7 := ne_sameS (s := s1 ++ [O.lst (sg w)] ++ [O.lst (sg w)]) (p := s1.length) (q := (s1 ++ [O.lst (sg w)]).length) (w := w) (get_app getL) getL
    have mkl : ∀ q (s : Sto), mk .list q s = .ok (.ref s.length) (s ++ [.lst q]) := fun _ _ => rfl
    unfold r38
    have d2 : (((lens l).getD (l.length - 1) 0 : Nat) : Int) = (w.length : Int) := by omega
    rw [d2] at h2 ⊢
    have cE : capEnv [x0, x1, x2, x3, some (D.tup (l.map Rst.d)), x5, some (.int (w.length : Int)), x7, x8, x9, x10, some (D.str w)] [none, some 4] = [none, some (.tup (l.map Rst.d))] := rfl
    simp -implicitDefEqProofs only [exs_cons, exs_nil, ex_asg, ex_ite, ex_ret, ex_ex, ex_for, ex_whl, ex_setIx, ex_cont, ex_pass, ev_var, ev_cst, ev_bin, ev_not, ev_cmp, ev_and, ev_or, ev_ite, ev_tup, ev_lst, ev_ix, ev_call, ev_bi, ev_mk, ev_mkD, ev_meth, ev_isN, ev_notN, evs_nil, evs_cons, evas_nil, evas_ex, evI_seq, evI_rng1, evL_seq, Cn_bl, Cn_int, Cn_non, Cn_str, R.bind_ok, bindT_one, bindT_tup, setVs_nil, setVs_cons, setV_s, setV_0, getV_0, getV_s, Option.map_some, Option.bind_some, setC_some, nxt_next, nxt_ret, nxt_cont, fin_ret, fin_next, add_int, sub_int, lt_int, le_int, gt_int, ge_int, eq_int, ne_int, alloc_eq, tru_bl, if_true, if_false, Bool.false_eq_true, decide_true, decide_false, Bool.not_true, Bool.not_false, h2, e1, evL_comp, rng1_ok (s := s1) (i := (w.length : Int)) (by unfold W62; omega) (by unfold W62; omega), cE, e2, if_pos (show (rngL 0 (w.length : Int)).length ≤ LIM by rw [rngL_len]; unfold LIM; omega), mkl, e6, e7]
    rw [List.append_assoc]; rfl
  · refine ⟨x11, [], rfl, ?_⟩
    unfold r38
    simp -implicitDefEqProofs only [exs_cons, exs_nil, ex_asg, ex_ite, ex_ret, ex_ex, ex_for, ex_whl, ex_setIx, ex_cont, ex_pass, ev_var, ev_cst, ev_bin, ev_not, ev_cmp, ev_and, ev_or, ev_ite, ev_tup, ev_lst, ev_ix, ev_call, ev_bi, ev_mk, ev_mkD, ev_meth, ev_isN, ev_notN, evs_nil, evs_cons, evas_nil, evas_ex, evI_seq, evI_rng1, evL_seq, Cn_bl, Cn_int, Cn_non, Cn_str, R.bind_ok, bindT_one, bindT_tup, setVs_nil, setVs_cons, setV_s, setV_0, getV_0, getV_s, Option.map_some, Option.bind_some, setC_some, nxt_next, nxt_ret, nxt_cont, fin_ret, fin_next, add_int, sub_int, lt_int, le_int, gt_int, ge_int, eq_int, ne_int, alloc_eq, tru_bl, if_true, if_false, Bool.false_eq_true, decide_true, decide_false, Bool.not_true, Bool.not_false, h2]
    rw [List.append_nil]
end
end DV
end

set_option linter.all false
set_option maxRecDepth 100000
noncomputable section
namespace DV
section
variable {P : Pr} [Has P w_box] [Has P w_draw] [Has P w_recipe] [Has P w_lengths] [Has P w_letter] [Has P w_word_3] [Has P w_tall_2] [Has P w_law_k38]
  [Has P d_folded] [Has P d_counted] [HasL P d_counted_l0] [HasL P d_counted_l1] [HasL P d_counted_l2] [Has P d_letter_at] [Has P d_long_length]
theorem i38_ok (n : Nat) {s : Sto} {r : Nat} (hs : ∃ b, s[r]? = some (boxO b)) (x0 x1 x4 x5 x6 x7 x8 x9 x10 x11 : Option D) :
    ∃ (most : Nat) (b : Int), 1 ≤ most ∧ most ≤ 60 ∧ ex (callN P (n + 4)) i38 [x0, x1, some (.ref r), some (.int 20), x4, x5, x6, x7, x8, x9, x10, x11] s = .ok (.next [x0, x1, some (.ref r), some (.int (most : Int)), x4, x5, x6, x7, x8, x9, x10, x11]) (s.set r (boxO b)) := by
  obtain ⟨v, b, hv, e⟩ := draw_ex (P := P) (n + 3) hs 4 (by decide) (by decide)
  by_cases h : (v : Int) = 1
  · refine ⟨60, b, by decide, by decide, ?_⟩
    unfold i38
    simp -implicitDefEqProofs only [exs_cons, exs_nil, ex_asg, ex_ite, ex_ret, ex_ex, ex_for, ex_whl, ex_setIx, ex_cont, ex_pass, ev_var, ev_cst, ev_bin, ev_not, ev_cmp, ev_and, ev_or, ev_ite, ev_tup, ev_lst, ev_ix, ev_call, ev_bi, ev_mk, ev_mkD, ev_meth, ev_isN, ev_notN, evs_nil, evs_cons, evas_nil, evas_ex, evI_seq, evI_rng1, evL_seq, Cn_bl, Cn_int, Cn_non, Cn_str, R.bind_ok, bindT_one, bindT_tup, setVs_nil, setVs_cons, setV_s, setV_0, getV_0, getV_s, Option.map_some, Option.bind_some, setC_some, nxt_next, nxt_ret, nxt_cont, fin_ret, fin_next, add_int, sub_int, lt_int, le_int, gt_int, ge_int, eq_int, ne_int, alloc_eq, tru_bl, if_true, if_false, Bool.false_eq_true, decide_true, decide_false, Bool.not_true, Bool.not_false, e, h]
    rfl
  · refine ⟨20, b, by decide, by decide, ?_⟩
    unfold i38
    simp -implicitDefEqProofs only [exs_cons, exs_nil, ex_asg, ex_ite, ex_ret, ex_ex, ex_for, ex_whl, ex_setIx, ex_cont, ex_pass, ev_var, ev_cst, ev_bin, ev_not, ev_cmp, ev_and, ev_or, ev_ite, ev_tup, ev_lst, ev_ix, ev_call, ev_bi, ev_mk, ev_mkD, ev_meth, ev_isN, ev_notN, evs_nil, evs_cons, evas_nil, evas_ex, evI_seq, evI_rng1, evL_seq, Cn_bl, Cn_int, Cn_non, Cn_str, R.bind_ok, bindT_one, bindT_tup, setVs_nil, setVs_cons, setV_s, setV_0, getV_0, getV_s, Option.map_some, Option.bind_some, setC_some, nxt_next, nxt_ret, nxt_cont, fin_ret, fin_next, add_int, sub_int, lt_int, le_int, gt_int, ge_int, eq_int, ne_int, alloc_eq, tru_bl, if_true, if_false, Bool.false_eq_true, decide_true, decide_false, Bool.not_true, Bool.not_false, e, h]
    rfl
theorem j38_ok (n : Nat) {s : Sto} {r : Nat} (hs : ∃ b, s[r]? = some (boxO b)) {l : List Rst} (hl : RssOk l) (h1 : 1 ≤ l.length) (h6 : l.length ≤ 60) (x0 x1 x3 x5 x6 x7 x8 x9 x10 x11 : Option D) :
    ∃ (l' : List Rst) (b : Int), RssOk l' ∧ 1 ≤ l'.length ∧ l'.length ≤ 60 ∧ ex (callN P (n + 4)) j38 [x0, x1, some (.ref r), x3, some (.tup (l.map Rst.d)), x5, x6, x7, x8, x9, x10, x11] s = .ok (.next [x0, x1, some (.ref r), x3, some (.tup (l'.map Rst.d)), x5, x6, x7, x8, x9, x10, x11]) (s.set r (boxO b)) := by
  obtain ⟨v, b, hv, e⟩ := draw_ex (P := P) (n + 3) hs 8 (by decide) (by decide)
  have hr := box_lt hs
  by_cases h : (v : Int) = 3
  · obtain ⟨l', b', hl', h1', h2', e'⟩ := tall2_ok (P := P) (n + 2) (s := s.set r (boxO b)) (box_set hr) 60 (by decide) (by decide)
    rw [List.set_set, show (((60 : Nat) : Int)) = 60 from rfl] at e'
    refine ⟨l', b', hl', h1', h2', ?_⟩
    unfold j38
    simp -implicitDefEqProofs only [exs_cons, exs_nil, ex_asg, ex_ite, ex_ret, ex_ex, ex_for, ex_whl, ex_setIx, ex_cont, ex_pass, ev_var, ev_cst, ev_bin, ev_not, ev_cmp, ev_and, ev_or, ev_ite, ev_tup, ev_lst, ev_ix, ev_call, ev_bi, ev_mk, ev_mkD, ev_meth, ev_isN, ev_notN, evs_nil, evs_cons, evas_nil, evas_ex, evI_seq, evI_rng1, evL_seq, Cn_bl, Cn_int, Cn_non, Cn_str, R.bind_ok, bindT_one, bindT_tup, setVs_nil, setVs_cons, setV_s, setV_0, getV_0, getV_s, Option.map_some, Option.bind_some, setC_some, nxt_next, nxt_ret, nxt_cont, fin_ret, fin_next, add_int, sub_int, lt_int, le_int, gt_int, ge_int, eq_int, ne_int, alloc_eq, tru_bl, if_true, if_false, Bool.false_eq_true, decide_true, decide_false, Bool.not_true, Bool.not_false, e, h, e']
  · refine ⟨l, b, hl, h1, h6, ?_⟩
    unfold j38
    simp -implicitDefEqProofs only [exs_cons, exs_nil, ex_asg, ex_ite, ex_ret, ex_ex, ex_for, ex_whl, ex_setIx, ex_cont, ex_pass, ev_var, ev_cst, ev_bin, ev_not, ev_cmp, ev_and, ev_or, ev_ite, ev_tup, ev_lst, ev_ix, ev_call, ev_bi, ev_mk, ev_mkD, ev_meth, ev_isN, ev_notN, evs_nil, evs_cons, evas_nil, evas_ex, evI_seq, evI_rng1, evL_seq, Cn_bl, Cn_int, Cn_non, Cn_str, R.bind_ok, bindT_one, bindT_tup, setVs_nil, setVs_cons, setV_s, setV_0, getV_0, getV_s, Option.map_some, Option.bind_some, setC_some, nxt_next, nxt_ret, nxt_cont, fin_ret, fin_next, add_int, sub_int, lt_int, le_int, gt_int, ge_int, eq_int, ne_int, alloc_eq, tru_bl, if_true, if_false, Bool.false_eq_true, decide_true, decide_false, Bool.not_true, Bool.not_false, e, h]
theorem m38_ok (n : Nat) {l : List Rst} (h5 : l.length ≤ 500) (h1 : 1 ≤ l.length) (hk : RssOk l) {s : Sto} (hs : s.all O.ncl = true) (rest : Ss) (x0 x1 x2 x3 x5 x6 x7 x8 x9 x10 x11 : Option D) :
    ∃ (high : Nat), 1 ≤ high ∧ high ≤ 10 ^ 60 ∧ exs (callN P (n + 4)) (m38 rest) [x0, x1, x2, x3, some (.tup (l.map Rst.d)), x5, x6, x7, x8, x9, x10, x11] s = exs (callN P (n + 4)) rest [x0, x1, x2, x3, some (.tup (l.map Rst.d)), some (.ref s.length), some (.int (((lens l).getD (l.length - 1) 0 : Nat) : Int)), some (.int (high : Int)), some (.ref (s.length + 1)), x9, x10, x11] (s ++ [.lst (nats (lens l)), .lst (nats [0, high - 1, high / 2])]) := by
  have e1 := lengthsW_ok (P := P) (n + 3) hk h5 s
  have n1 : (s ++ [O.lst (nats (lens l))]).all O.ncl = true := all_snoc hs nats_ncl
  have e2 := long_length_ok (P := P) n h5 h1 hk n1
  have hle := lens_len (l := l) l.length (Nat.le_refl _)
  rw [List.take_length] at hle
  have hpos := (lens_bd hk (l.length - 1) (by omega)).1
  have il : ixM (.ref s.length) (.int (-1)) (s ++ [O.lst (nats (lens l))]) = .ok (.int (((lens l).getD (l.length - 1) 0 : Nat) : Int)) (s ++ [O.lst (nats (lens l))]) := ixL_last getL (by
    unfold nats
    rw [List.length_map, hle, List.getElem?_map, List.getD_eq_getElem?_getD, List.getElem?_eq_getElem (by omega)]; rfl)
  generalize hLv : (lens l).getD (l.length - 1) 0 = L at *
  have hp60 : ∀ s : Sto, binop .pow (.int 10) (.int 60) s = .ok (.int (10 ^ 60)) s := fun s => pow_int (by decide)
  have hmin : (if (10 : Int) ^ 60 < (L : Int) then (10 : Int) ^ 60 else (L : Int)) = ((min L (10 ^ 60) : Nat) : Int) := by
    by_cases hq : 10 ^ 60 < L
    · rw [if_pos (by exact_mod_cast hq), Nat.min_eq_right (Nat.le_of_lt hq)]; rfl
    · rw [if_neg (by exact_mod_cast hq), Nat.min_eq_left (by omega)]
  generalize hH : min L (10 ^ 60) = high at hmin
  have hh1 : 1 ≤ high := by omega
  refine ⟨high, hh1, by omega, ?_⟩
  unfold m38
  generalize hw : [0, high - 1, high / 2] = ws
  have hws : O.lst [D.int 0, D.int ((high : Int) - 1), D.int ((high : Int) / 2)] = .lst (nats ws) := by
    rw [← hw, show (high : Int) - 1 = ((high - 1 : Nat) : Int) by omega, show (high : Int) / 2 = ((high / 2 : Nat) : Int) by omega]; rfl
  simp -implicitDefEqProofs only [exs_cons, exs_nil, ex_asg, ex_ite, ex_ret, ex_ex, ex_for, ex_whl, ex_setIx, ex_cont, ex_pass, ev_var, ev_cst, ev_bin, ev_not, ev_cmp, ev_and, ev_or, ev_ite, ev_tup, ev_lst, ev_ix, ev_call, ev_bi, ev_mk, ev_mkD, ev_meth, ev_isN, ev_notN, evs_nil, evs_cons, evas_nil, evas_ex, evI_seq, evI_rng1, evL_seq, Cn_bl, Cn_int, Cn_non, Cn_str, R.bind_ok, bindT_one, bindT_tup, setVs_nil, setVs_cons, setV_s, setV_0, getV_0, getV_s, Option.map_some, Option.bind_some, setC_some, nxt_next, nxt_ret, nxt_cont, fin_ret, fin_next, add_int, sub_int, lt_int, le_int, gt_int, ge_int, eq_int, ne_int, alloc_eq, tru_bl, if_true, if_false, Bool.false_eq_true, decide_true, decide_false, Bool.not_true, Bool.not_false, e1, e2, isInt_int, isBool_int, ev_negi, il, show ((L : Int) = (L : Int)) = True from eq_self _, hp60, min2_int, hmin, fdiv_int (show (0 : Int) < 2 by decide) (show (2 : Int) < 10 ^ 200 by decide), hws]
  simp only [List.append_assoc, List.length_append, List.length_cons, List.length_nil, Nat.zero_add, List.cons_append, List.nil_append]
theorem law38 (n : Nat) : LawOk P (n + 5) := by
  intro ns hl
  have e0 : (callN P (n + 5)).call "law" [.ref 0] [.ro (ns.map D.int)] = _ := call_def w_law_k38 (n := n + 4) rfl
  rw [e0, body38, show (List.map some [D.ref 0] ++ List.replicate w_law_k38.vs none) = [some (.ref 0), none, none, none, none, none, none, none, none, none, none, none] from rfl]
  have hs0 : ([.ro (ns.map D.int)] : Sto)[0]? = some (.ro (ns.map D.int)) := rfl
  have hlen : bi .len [.ref 0] [.ro (ns.map D.int)] = .ok (.int ns.length) [.ro (ns.map D.int)] := by rw [len_ro hs0, List.length_map]
  have hk : (if (ns.length : Int) < 8 then (ns.length : Int) else 8) + 1 = ((min ns.length 8 + 1 : Nat) : Int) := by omega
  simp -implicitDefEqProofs only [exs_cons, exs_nil, ex_asg, ex_ite, ex_ret, ex_ex, ex_for, ex_whl, ex_setIx, ex_cont, ex_pass, ev_var, ev_cst, ev_bin, ev_not, ev_cmp, ev_and, ev_or, ev_ite, ev_tup, ev_lst, ev_ix, ev_call, ev_bi, ev_mk, ev_mkD, ev_meth, ev_isN, ev_notN, evs_nil, evs_cons, evas_nil, evas_ex, evI_seq, evI_rng1, evL_seq, Cn_bl, Cn_int, Cn_non, Cn_str, R.bind_ok, bindT_one, bindT_tup, setVs_nil, setVs_cons, setV_s, setV_0, getV_0, getV_s, Option.map_some, Option.bind_some, setC_some, nxt_next, nxt_ret, nxt_cont, fin_ret, fin_next, add_int, sub_int, lt_int, le_int, gt_int, ge_int, eq_int, ne_int, alloc_eq, tru_bl, if_true, if_false, Bool.false_eq_true, decide_true, decide_false, Bool.not_true, Bool.not_false, hlen, min2_int, hk]
  rw [rng1_ok (by unfold W62; omega) (by unfold W62; omega)]
  simp only [R.bind_ok]
  rw [R.bind_assoc]
  refine for_want (W := Yes) (fun j ρ t => t[0]? = some (.ro (ns.map D.int)) ∧ t.all O.ncl = true ∧ ∃ x1 x2 x3 x4 x5 x6 x7 x8 x9 x10 x11, ρ = [some (.ref 0), x1, x2, x3, x4, x5, x6, x7, x8, x9, x10, x11]) ⟨rfl, by
      simp only [List.all_cons, List.all_nil, Bool.and_true]; exact ints_ncl, _, _, _, _, _, _, _, _, _, _, _, rfl⟩ (fun _ _ _ _ _ => rfl) ?_ ?_
  · rintro j d ρ t hj ⟨ht, hn, x1, x2, x3, x4, x5, x6, x7, x8, x9, x10, x11, rfl⟩
    have hd := (rngL_at hj).2
    subst hd
    have ht0 : 0 < t.length := (List.getElem?_eq_some_iff.mp ht).1
    obtain ⟨N0, hbox⟩ := box_ex (P := P) (n + 3) ns j ht
    have hSr : ∃ b, (t ++ [boxO N0])[t.length]? = some (boxO b) := ⟨N0, by simp⟩
    have hS0 : (t ++ [boxO N0]).all O.ncl = true := all_snoc hn rfl
    have hr : t.length < (t ++ [boxO N0]).length := box_lt hSr
    have hSg : (t ++ [boxO N0])[0]? = some (.ro (ns.map D.int)) := get_app ht
    generalize t ++ [boxO N0] = S at hbox hSr hS0 hr hSg
    generalize t.length = r at *
    have hr0 : r ≠ 0 := by omega
    obtain ⟨most, b1, hm1, hm2, e1⟩ := i38_ok (P := P) n hSr (some (.ref 0)) (some (.int (j : Int))) x4 x5 x6 x7 x8 x9 x10 x11
    obtain ⟨l, b2, hl1, hl2, hl3, e2⟩ := recipe_ok (P := P) (n + 2) (s := S.set r (boxO b1)) (box_set hr) most hm1 (by omega) 40
    rw [List.set_set] at e2
    obtain ⟨l', b3, hl1', hl2', hl3', e3⟩ := j38_ok (P := P) n (s := S.set r (boxO b2)) (box_set hr) hl1 hl2 (by omega) (some (.ref 0)) (some (.int (j : Int))) (some (.int (most : Int))) x5 x6 x7 x8 x9 x10 x11
    rw [List.set_set] at e3
    obtain ⟨high, hh1, hh2, e4⟩ := m38_ok (P := P) n (l := l') (by omega) hl2' hl1' (s := S.set r (boxO b3)) (all_set hS0 rfl) (.cons p38 (.cons q38 (.cons r38 .nil))) (some (.ref 0)) (some (.int (j : Int))) (some (.ref r)) (some (.int (most : Int))) x5 x6 x7 x8 x9 x10 x11
    rw [List.length_set] at e4
    obtain ⟨qs, b5, y9, hq6, e5⟩ := p38_ok (P := P) n hr b3 hh1 hh2 (.lst (nats (lens l'))) [0, high - 1, high / 2] rfl (some (.ref 0)) (some (.int (j : Int))) (some (.int (most : Int))) (some (.tup (l'.map Rst.d))) (some (.ref S.length)) (some (.int (((lens l').getD (l'.length - 1) 0 : Nat) : Int))) x9 x10 x11
    have n5 : (S.set r (boxO b5) ++ [O.lst (nats (lens l')), O.lst (nats qs)]).all O.ncl = true := by
      rw [List.all_append, all_set hS0 rfl]
      simp only [List.all_cons, List.all_nil, O.ncl, nats_ncl, Bool.true_and]
    obtain ⟨y10, e6⟩ := q38_ok (P := P) n (l := l') (by omega) hl2' hl1' n5 (q := S.length) (p := S.length + 1) (by rw [List.getElem?_append_right (by simp)]; simp) (qs := qs) (by rw [List.getElem?_append_right (by simp)]; simp) (some (.ref 0)) (some (.int (j : Int))) (some (.ref r)) (some (.int (most : Int))) (some (.int (((lens l').getD (l'.length - 1) 0 : Nat) : Int))) (some (.int (high : Int))) y9 x10 x11
    obtain ⟨y11, T, hT, e7⟩ := r38_ok (P := P) n (l := l') (by omega) hl2' hl1' n5 (some (.ref 0)) (some (.int (j : Int))) (some (.ref r)) (some (.int (most : Int))) (some (.ref S.length)) (some (.int (high : Int))) (some (.ref (S.length + 1))) y9 y10 x11
    refine Nx_of (ρ := [some (.ref 0), some (.int (j : Int)), some (.ref r), some (.int (most : Int)), some (.tup (l'.map Rst.d)), some (.ref S.length), some (.int (((lens l').getD (l'.length - 1) 0 : Nat) : Int)), some (.int (high : Int)), some (.ref (S.length + 1)), y9, y10, y11]) (s := S.set r (boxO b5) ++ [O.lst (nats (lens l')), O.lst (nats qs)] ++ T) ?_ ⟨?_, ?_, _, _, _, _, _, _, _, _, _, _, _, rfl⟩
    · unfold turn
      simp -implicitDefEqProofs only [exs_cons, exs_nil, ex_asg, ex_ite, ex_ret, ex_ex, ex_for, ex_whl, ex_setIx, ex_cont, ex_pass, ev_var, ev_cst, ev_bin, ev_not, ev_cmp, ev_and, ev_or, ev_ite, ev_tup, ev_lst, ev_ix, ev_call, ev_bi, ev_mk, ev_mkD, ev_meth, ev_isN, ev_notN, evs_nil, evs_cons, evas_nil, evas_ex, evI_seq, evI_rng1, evL_seq, Cn_bl, Cn_int, Cn_non, Cn_str, R.bind_ok, bindT_one, bindT_tup, setVs_nil, setVs_cons, setV_s, setV_0, getV_0, getV_s, Option.map_some, Option.bind_some, setC_some, nxt_next, nxt_ret, nxt_cont, fin_ret, fin_next, add_int, sub_int, lt_int, le_int, gt_int, ge_int, eq_int, ne_int, alloc_eq, tru_bl, if_true, if_false, Bool.false_eq_true, decide_true, decide_false, Bool.not_true, Bool.not_false, hbox, e1, e2, e3, e4, e5, e6, e7]
    · rw [List.append_assoc, List.getElem?_append_left (by simp; omega), List.getElem?_set_ne hr0]
      exact hSg
    · rw [List.all_append, n5, hT]; rfl
  · rintro ρ t ⟨ht, hn, x1, x2, x3, x4, x5, x6, x7, x8, x9, x10, x11, rfl⟩
    simp -implicitDefEqProofs only [exs_cons, exs_nil, ex_asg, ex_ite, ex_ret, ex_ex, ex_for, ex_whl, ex_setIx, ex_cont, ex_pass, ev_var, ev_cst, ev_bin, ev_not, ev_cmp, ev_and, ev_or, ev_ite, ev_tup, ev_lst, ev_ix, ev_call, ev_bi, ev_mk, ev_mkD, ev_meth, ev_isN, ev_notN, evs_nil, evs_cons, evas_nil, evas_ex, evI_seq, evI_rng1, evL_seq, Cn_bl, Cn_int, Cn_non, Cn_str, R.bind_ok, bindT_one, bindT_tup, setVs_nil, setVs_cons, setV_s, setV_0, getV_0, getV_s, Option.map_some, Option.bind_some, setC_some, nxt_next, nxt_ret, nxt_cont, fin_ret, fin_next, add_int, sub_int, lt_int, le_int, gt_int, ge_int, eq_int, ne_int, alloc_eq, tru_bl, if_true, if_false, Bool.false_eq_true, decide_true, decide_false, Bool.not_true, Bool.not_false]
    exact Yes_canon _ _
end
end DV
end

set_option Elab.async false
set_option linter.all false
set_option maxRecDepth 100000
set_option maxHeartbeats 4000000
noncomputable section
namespace My
open PySem L2
noncomputable def top (i : Nat) : Stmt := PySem.Challenge.pw_leasttolls_k38_lengths_and_letters_of_lo.main.body.getD i (.Pass ⟨0, 0, 0, 0⟩)
theorem bd_0 : BindG ["letter"] := fun params h _ _ _ _ _ _ _ us hl => by
  obtain ⟨args, rfl, ha⟩ := lamArgs_inv h
  match args, us, ha, hl with
  | [⟨a0, _, _⟩], [u0], ha, _ =>
    simp only [List.map_cons, List.map_nil, List.cons.injEq, and_true] at ha
    obtain rfl := ha
    rfl
theorem bd_1 : BindG ["one", "many"] := fun params h _ _ _ _ _ _ _ us hl => by
  obtain ⟨args, rfl, ha⟩ := lamArgs_inv h
  match args, us, ha, hl with
  | [⟨a0, _, _⟩, ⟨a1, _, _⟩], [u0, u1], ha, _ =>
    simp only [List.map_cons, List.map_nil, List.cons.injEq, and_true] at ha
    obtain ⟨rfl, rfl⟩ := ha
    rfl
theorem bd_2 : BindG ["one", "other"] := fun params h _ _ _ _ _ _ _ us hl => by
  obtain ⟨args, rfl, ha⟩ := lamArgs_inv h
  match args, us, ha, hl with
  | [⟨a0, _, _⟩, ⟨a1, _, _⟩], [u0, u1], ha, _ =>
    simp only [List.map_cons, List.map_nil, List.cons.injEq, and_true] at ha
    obtain ⟨rfl, rfl⟩ := ha
    rfl
noncomputable def tabN : List Str := ["counted"]
noncomputable abbrev s_folded : Stmt := top 1
theorem sc_folded : FnScope ["steps", "of_letter", "of_pair", "of_times", "values", "step"] ["steps", "of_letter", "of_pair", "of_times"] (defScope s_folded) := ⟨rfl, rfl, rfl, by decide +kernel, rfl, by decide +kernel, by decide +kernel⟩
theorem m_folded : mSs ⟨["steps", "of_letter", "of_pair", "of_times", "values", "step"], defScope s_folded, fun _ _ _ => false⟩ DV.d_folded.body (defBody s_folded) = true := by decide +kernel
noncomputable abbrev s_counted : Stmt := top 2
theorem sc_counted : FnScope ["steps", "for_letter"] ["steps", "for_letter"] (defScope s_counted) := ⟨rfl, rfl, rfl, by decide +kernel, rfl, by decide +kernel, by decide +kernel⟩
noncomputable abbrev tab_counted : List (String × DV.Lm × List Str × List Str) := [("counted.0", DV.d_counted_l0, ["one", "many"], []), ("counted.1", DV.d_counted_l1, ["one", "other"], []), ("counted.2", DV.d_counted_l2, ["letter"], ["for_letter"])]
theorem m_counted : mSs ⟨["steps", "for_letter"], defScope s_counted, lkG (defScope s_counted) ["steps", "for_letter"] tab_counted⟩ DV.d_counted.body (defBody s_counted) = true := by decide +kernel
theorem ce_counted : ∀ y ∈ (defScope s_counted).names, y.2 = .cell → (defScope s_counted).names.lookup y.1 = some .cell := by decide +kernel
noncomputable abbrev s_long_length : Stmt := top 4
theorem sc_long_length : FnScope ["recipe"] ["recipe"] (defScope s_long_length) := ⟨rfl, rfl, rfl, by decide +kernel, rfl, by decide +kernel, by decide +kernel⟩
theorem m_long_length : mSs ⟨["recipe"], defScope s_long_length, fun _ _ _ => false⟩ DV.d_long_length.body (defBody s_long_length) = true := by decide +kernel
noncomputable abbrev s_letter_at : Stmt := top 5
theorem sc_letter_at : FnScope ["recipe", "at", "longs", "step", "place", "part"] ["recipe", "at"] (defScope s_letter_at) := ⟨rfl, rfl, rfl, by decide +kernel, rfl, by decide +kernel, by decide +kernel⟩
theorem m_letter_at : mSs ⟨["recipe", "at", "longs", "step", "place", "part"], defScope s_letter_at, fun _ _ _ => false⟩ DV.d_letter_at.body (defBody s_letter_at) = true := by decide +kernel
noncomputable abbrev s__law_box : Stmt := top 7
theorem sc__law_box : FnScope ["_law_script", "_law_at", "_law_cell", "_law_number", "_law_j", "_law_part"] ["_law_script", "_law_at"] (defScope s__law_box) := ⟨rfl, rfl, rfl, by decide +kernel, rfl, by decide +kernel, by decide +kernel⟩
theorem m__law_box : mSs ⟨["_law_script", "_law_at", "_law_cell", "_law_number", "_law_j", "_law_part"], defScope s__law_box, fun _ _ _ => false⟩ DV.w_box.body (defBody s__law_box) = true := by decide +kernel
noncomputable abbrev s__law_draw : Stmt := top 8
theorem sc__law_draw : FnScope ["_law_box_here", "_law_many", "_law_found"] ["_law_box_here", "_law_many"] (defScope s__law_draw) := ⟨rfl, rfl, rfl, by decide +kernel, rfl, by decide +kernel, by decide +kernel⟩
theorem m__law_draw : mSs ⟨["_law_box_here", "_law_many", "_law_found"], defScope s__law_draw, fun _ _ _ => false⟩ DV.w_draw.body (defBody s__law_draw) = true := by decide +kernel
noncomputable abbrev s__law_recipe : Stmt := top 9
theorem sc__law_recipe : FnScope ["_law_box_here", "_law_letters", "_law_most", "_law_times", "_law_steps", "_law_k", "_law_way", "_law_one", "_law_other", "_law_many"] ["_law_box_here", "_law_letters", "_law_most", "_law_times"] (defScope s__law_recipe) := ⟨rfl, rfl, rfl, by decide +kernel, rfl, by decide +kernel, by decide +kernel⟩
theorem m__law_recipe : mSs ⟨["_law_box_here", "_law_letters", "_law_most", "_law_times", "_law_steps", "_law_k", "_law_way", "_law_one", "_law_other", "_law_many"], defScope s__law_recipe, fun _ _ _ => false⟩ DV.w_recipe.body (defBody s__law_recipe) = true := by decide +kernel
noncomputable abbrev s__law_lengths : Stmt := top 10
theorem sc__law_lengths : FnScope ["_law_recipe_here", "_law_found", "_law_step"] ["_law_recipe_here"] (defScope s__law_lengths) := ⟨rfl, rfl, rfl, by decide +kernel, rfl, by decide +kernel, by decide +kernel⟩
theorem m__law_lengths : mSs ⟨["_law_recipe_here", "_law_found", "_law_step"], defScope s__law_lengths, fun _ _ _ => false⟩ DV.w_lengths.body (defBody s__law_lengths) = true := by decide +kernel
noncomputable abbrev s__law_letter : Stmt := top 11
theorem sc__law_letter : FnScope ["_law_recipe_here", "_law_many", "_law_at", "_law_here", "_law_step", "_law_first"] ["_law_recipe_here", "_law_many", "_law_at"] (defScope s__law_letter) := ⟨rfl, rfl, rfl, by decide +kernel, rfl, by decide +kernel, by decide +kernel⟩
theorem m__law_letter : mSs ⟨["_law_recipe_here", "_law_many", "_law_at", "_law_here", "_law_step", "_law_first"], defScope s__law_letter, fun _ _ _ => false⟩ DV.w_letter.body (defBody s__law_letter) = true := by decide +kernel
noncomputable abbrev s__law_word : Stmt := top 12
theorem sc__law_word : FnScope ["_law_recipe_here", "_law_waiting", "_law_word_here", "_law_step"] ["_law_recipe_here"] (defScope s__law_word) := ⟨rfl, rfl, rfl, by decide +kernel, rfl, by decide +kernel, by decide +kernel⟩
theorem m__law_word : mSs ⟨["_law_recipe_here", "_law_waiting", "_law_word_here", "_law_step"], defScope s__law_word, fun _ _ _ => false⟩ DV.w_word_3.body (defBody s__law_word) = true := by decide +kernel
noncomputable abbrev s__law_tall : Stmt := top 13
theorem sc__law_tall : FnScope ["_law_box_here", "_law_letters", "_law_most", "_law_steps", "_law_k"] ["_law_box_here", "_law_letters", "_law_most"] (defScope s__law_tall) := ⟨rfl, rfl, rfl, by decide +kernel, rfl, by decide +kernel, by decide +kernel⟩
theorem m__law_tall : mSs ⟨["_law_box_here", "_law_letters", "_law_most", "_law_steps", "_law_k"], defScope s__law_tall, fun _ _ _ => false⟩ DV.w_tall_2.body (defBody s__law_tall) = true := by decide +kernel
noncomputable abbrev s_law : Stmt := top 14
theorem sc_law : FnScope ["_law_script", "_law_k", "_law_box_here", "_law_most", "_law_recipe_here", "_law_many", "_law_found", "_law_high", "_law_places", "_law_turn", "_law_at", "_law_word_here"] ["_law_script"] (defScope s_law) := ⟨rfl, rfl, rfl, by decide +kernel, rfl, by decide +kernel, by decide +kernel⟩
theorem m_law : mSs ⟨["_law_script", "_law_k", "_law_box_here", "_law_most", "_law_recipe_here", "_law_many", "_law_found", "_law_high", "_law_places", "_law_turn", "_law_at", "_law_word_here"], defScope s_law, fun _ _ _ => false⟩ DV.w_law_k38.body (defBody s_law) = true := by decide +kernel
noncomputable def tbl : List (String × DV.Df) := [("folded", DV.d_folded), ("counted", DV.d_counted), ("long_length", DV.d_long_length), ("letter_at", DV.d_letter_at), ("_law_box", DV.w_box), ("_law_draw", DV.w_draw), ("_law_recipe", DV.w_recipe), ("_law_lengths", DV.w_lengths), ("_law_letter", DV.w_letter), ("_law_word", DV.w_word_3), ("_law_tall", DV.w_tall_2), ("law", DV.w_law_k38)]
noncomputable def ctbl : List (String × DV.D) := []
noncomputable def ltbl : List (String × DV.Lm) := [("counted.0", DV.d_counted_l0), ("counted.1", DV.d_counted_l1), ("counted.2", DV.d_counted_l2)]
noncomputable def P : DV.Pr := ⟨fun f => tbl.lookup f, fun f => ltbl.lookup f, fun x => ctbl.lookup x⟩
noncomputable instance : DV.HasL P DV.d_counted_l0 := ⟨rfl⟩
noncomputable instance : DV.HasL P DV.d_counted_l1 := ⟨rfl⟩
noncomputable instance : DV.HasL P DV.d_counted_l2 := ⟨rfl⟩
theorem lt_counted : ∀ id t, tab_counted.lookup id = some t → P.lm id = some t.1 ∧ BindG t.2.1 := fun id t h => lt_of (P := P) (tab := tab_counted) (by
  intro p hp
  simp only [tab_counted, List.mem_cons, List.not_mem_nil, or_false] at hp
  rcases hp with rfl | rfl | rfl
  · exact ⟨rfl, bd_1⟩
  · exact ⟨rfl, bd_2⟩
  · exact ⟨rfl, bd_0⟩) id t h
noncomputable instance : DV.Has P DV.d_folded := ⟨rfl⟩
noncomputable instance : DV.Has P DV.d_counted := ⟨rfl⟩
noncomputable instance : DV.Has P DV.d_long_length := ⟨rfl⟩
noncomputable instance : DV.Has P DV.d_letter_at := ⟨rfl⟩
noncomputable instance : DV.Has P DV.w_box := ⟨rfl⟩
noncomputable instance : DV.Has P DV.w_draw := ⟨rfl⟩
noncomputable instance : DV.Has P DV.w_recipe := ⟨rfl⟩
noncomputable instance : DV.Has P DV.w_lengths := ⟨rfl⟩
noncomputable instance : DV.Has P DV.w_letter := ⟨rfl⟩
noncomputable instance : DV.Has P DV.w_word_3 := ⟨rfl⟩
noncomputable instance : DV.Has P DV.w_tall_2 := ⟨rfl⟩
noncomputable instance : DV.Has P DV.w_law_k38 := ⟨rfl⟩
theorem all_mk {l : PySem.W.OpenLaw} {w : World} {K : PySem.W.Frag} {h : Heap} {mg : Str → Option Value} {fa : Addr} (X : K.In h) (G : h.Ns mainGlobals mg) (hfa : mg "law" = some (.ref fa))
    {f0 : Addr} {od0 an0 : Option Addr} {sl0 : Array (Option Value)} {oc0 kV0 dc0 pm0 cd0 ct0 : Value}
    (a0 : PySem.W.nsIn K mainGlobals "folded" = some (some (.ref f0))) (l0 : K.lookup f0 = some ⟨oc0, od0, .func (PySem.W.fnOf "folded" "folded" (defArgs s_folded) (defBody s_folded) (defScope s_folded) .none kV0 dc0 pm0 an0 cd0 ct0), sl0⟩) (c0 : PySem.W.codeIn K cd0 "folded" = true) (k0 : PySem.W.keepIn K (.ref f0) = true)
    {f1 : Addr} {od1 an1 : Option Addr} {sl1 : Array (Option Value)} {oc1 kV1 dc1 pm1 cd1 ct1 : Value}
    (a1 : PySem.W.nsIn K mainGlobals "counted" = some (some (.ref f1))) (l1 : K.lookup f1 = some ⟨oc1, od1, .func (PySem.W.fnOf "counted" "counted" (defArgs s_counted) (defBody s_counted) (defScope s_counted) .none kV1 dc1 pm1 an1 cd1 ct1), sl1⟩) (c1 : PySem.W.codeIn K cd1 "counted" = true) (k1 : PySem.W.keepIn K (.ref f1) = true)
    {f2 : Addr} {od2 an2 : Option Addr} {sl2 : Array (Option Value)} {oc2 kV2 dc2 pm2 cd2 ct2 : Value}
    (a2 : PySem.W.nsIn K mainGlobals "long_length" = some (some (.ref f2))) (l2 : K.lookup f2 = some ⟨oc2, od2, .func (PySem.W.fnOf "long_length" "long_length" (defArgs s_long_length) (defBody s_long_length) (defScope s_long_length) .none kV2 dc2 pm2 an2 cd2 ct2), sl2⟩) (c2 : PySem.W.codeIn K cd2 "long_length" = true) (k2 : PySem.W.keepIn K (.ref f2) = true)
    {f3 : Addr} {od3 an3 : Option Addr} {sl3 : Array (Option Value)} {oc3 kV3 dc3 pm3 cd3 ct3 : Value}
    (a3 : PySem.W.nsIn K mainGlobals "letter_at" = some (some (.ref f3))) (l3 : K.lookup f3 = some ⟨oc3, od3, .func (PySem.W.fnOf "letter_at" "letter_at" (defArgs s_letter_at) (defBody s_letter_at) (defScope s_letter_at) .none kV3 dc3 pm3 an3 cd3 ct3), sl3⟩) (c3 : PySem.W.codeIn K cd3 "letter_at" = true) (k3 : PySem.W.keepIn K (.ref f3) = true)
    {f4 : Addr} {od4 an4 : Option Addr} {sl4 : Array (Option Value)} {oc4 kV4 dc4 pm4 cd4 ct4 : Value}
    (a4 : PySem.W.nsIn K mainGlobals "_law_box" = some (some (.ref f4))) (l4 : K.lookup f4 = some ⟨oc4, od4, .func (PySem.W.fnOf "_law_box" "_law_box" (defArgs s__law_box) (defBody s__law_box) (defScope s__law_box) .none kV4 dc4 pm4 an4 cd4 ct4), sl4⟩) (c4 : PySem.W.codeIn K cd4 "_law_box" = true) (k4 : PySem.W.keepIn K (.ref f4) = true)
    {f5 : Addr} {od5 an5 : Option Addr} {sl5 : Array (Option Value)} {oc5 kV5 dc5 pm5 cd5 ct5 : Value}
    (a5 : PySem.W.nsIn K mainGlobals "_law_draw" = some (some (.ref f5))) (l5 : K.lookup f5 = some ⟨oc5, od5, .func (PySem.W.fnOf "_law_draw" "_law_draw" (defArgs s__law_draw) (defBody s__law_draw) (defScope s__law_draw) .none kV5 dc5 pm5 an5 cd5 ct5), sl5⟩) (c5 : PySem.W.codeIn K cd5 "_law_draw" = true) (k5 : PySem.W.keepIn K (.ref f5) = true)
    {f6 : Addr} {od6 an6 : Option Addr} {sl6 : Array (Option Value)} {oc6 kV6 dc6 pm6 cd6 ct6 : Value}
    (a6 : PySem.W.nsIn K mainGlobals "_law_recipe" = some (some (.ref f6))) (l6 : K.lookup f6 = some ⟨oc6, od6, .func (PySem.W.fnOf "_law_recipe" "_law_recipe" (defArgs s__law_recipe) (defBody s__law_recipe) (defScope s__law_recipe) .none kV6 dc6 pm6 an6 cd6 ct6), sl6⟩) (c6 : PySem.W.codeIn K cd6 "_law_recipe" = true) (k6 : PySem.W.keepIn K (.ref f6) = true)
    {f7 : Addr} {od7 an7 : Option Addr} {sl7 : Array (Option Value)} {oc7 kV7 dc7 pm7 cd7 ct7 : Value}
    (a7 : PySem.W.nsIn K mainGlobals "_law_lengths" = some (some (.ref f7))) (l7 : K.lookup f7 = some ⟨oc7, od7, .func (PySem.W.fnOf "_law_lengths" "_law_lengths" (defArgs s__law_lengths) (defBody s__law_lengths) (defScope s__law_lengths) .none kV7 dc7 pm7 an7 cd7 ct7), sl7⟩) (c7 : PySem.W.codeIn K cd7 "_law_lengths" = true) (k7 : PySem.W.keepIn K (.ref f7) = true)
    {f8 : Addr} {od8 an8 : Option Addr} {sl8 : Array (Option Value)} {oc8 kV8 dc8 pm8 cd8 ct8 : Value}
    (a8 : PySem.W.nsIn K mainGlobals "_law_letter" = some (some (.ref f8))) (l8 : K.lookup f8 = some ⟨oc8, od8, .func (PySem.W.fnOf "_law_letter" "_law_letter" (defArgs s__law_letter) (defBody s__law_letter) (defScope s__law_letter) .none kV8 dc8 pm8 an8 cd8 ct8), sl8⟩) (c8 : PySem.W.codeIn K cd8 "_law_letter" = true) (k8 : PySem.W.keepIn K (.ref f8) = true)
    {f9 : Addr} {od9 an9 : Option Addr} {sl9 : Array (Option Value)} {oc9 kV9 dc9 pm9 cd9 ct9 : Value}
    (a9 : PySem.W.nsIn K mainGlobals "_law_word" = some (some (.ref f9))) (l9 : K.lookup f9 = some ⟨oc9, od9, .func (PySem.W.fnOf "_law_word" "_law_word" (defArgs s__law_word) (defBody s__law_word) (defScope s__law_word) .none kV9 dc9 pm9 an9 cd9 ct9), sl9⟩) (c9 : PySem.W.codeIn K cd9 "_law_word" = true) (k9 : PySem.W.keepIn K (.ref f9) = true)
    {f10 : Addr} {od10 an10 : Option Addr} {sl10 : Array (Option Value)} {oc10 kV10 dc10 pm10 cd10 ct10 : Value}
    (a10 : PySem.W.nsIn K mainGlobals "_law_tall" = some (some (.ref f10))) (l10 : K.lookup f10 = some ⟨oc10, od10, .func (PySem.W.fnOf "_law_tall" "_law_tall" (defArgs s__law_tall) (defBody s__law_tall) (defScope s__law_tall) .none kV10 dc10 pm10 an10 cd10 ct10), sl10⟩) (c10 : PySem.W.codeIn K cd10 "_law_tall" = true) (k10 : PySem.W.keepIn K (.ref f10) = true)
    {f11 : Addr} {od11 an11 : Option Addr} {sl11 : Array (Option Value)} {oc11 kV11 dc11 pm11 cd11 ct11 : Value}
    (a11 : PySem.W.nsIn K mainGlobals "law" = some (some (.ref f11))) (l11 : K.lookup f11 = some ⟨oc11, od11, .func (PySem.W.fnOf "law" "law" (defArgs s_law) (defBody s_law) (defScope s_law) .none kV11 dc11 pm11 an11 cd11 ct11), sl11⟩) (c11 : PySem.W.codeIn K cd11 "law" = true) (k11 : PySem.W.keepIn K (.ref f11) = true)
    (z_len : PySem.W.nsIn K mainGlobals "len" = some none)
    (z_abs : PySem.W.nsIn K mainGlobals "abs" = some none)
    (z_min : PySem.W.nsIn K mainGlobals "min" = some none)
    (z_max : PySem.W.nsIn K mainGlobals "max" = some none)
    (z_int : PySem.W.nsIn K mainGlobals "int" = some none)
    (z_isinstance : PySem.W.nsIn K mainGlobals "isinstance" = some none)
    (z_bool : PySem.W.nsIn K mainGlobals "bool" = some none)
    (z_str : PySem.W.nsIn K mainGlobals "str" = some none)
    (z_tuple : PySem.W.nsIn K mainGlobals "tuple" = some none)
    (z_list : PySem.W.nsIn K mainGlobals "list" = some none)
    (z_range : PySem.W.nsIn K mainGlobals "range" = some none)
    (z_sum : PySem.W.nsIn K mainGlobals "sum" = some none)
    (z_all : PySem.W.nsIn K mainGlobals "all" = some none)
    (z_any : PySem.W.nsIn K mainGlobals "any" = some none)
    (z_sorted : PySem.W.nsIn K mainGlobals "sorted" = some none)
    (z_zip : PySem.W.nsIn K mainGlobals "zip" = some none)
    (z_enumerate : PySem.W.nsIn K mainGlobals "enumerate" = some none)
    (z_ord : PySem.W.nsIn K mainGlobals "ord" = some none)
    (tb_counted : (PySem.W.tabIn K "counted").isSome = true)
    (tnd : decide (((tabsT tabN K).map (·.1)).Nodup) = true)
    : ∃ fd : FuncData, (∀ (s : Shared) (v : Value), BindsTo s fd ⟨[v], []⟩ [("_law_script", v)]) ∧ ∀ base : Heap, K.In base → base.Ns mainGlobals mg → BM mg base → Codes K tabN base → FnOk l.prog w K mg base CX0 43 fa fd ["_law_script"] (spB tabN K) := by
  have e := hfa.symm.trans (PySem.W.mg_of X G a11)
  cases e
  have F0 := fun_mk (st := s_folded) l0 c0 k0
  have D0 : DefAt K mg "folded" s_folded ["steps", "of_letter", "of_pair", "of_times"] f0 _ := ⟨F0, PySem.W.mg_of X G a0, F0.binds (ps := ["steps", "of_letter", "of_pair", "of_times"]) fun _ _ _ _ _ _ us hl => match us, hl with | [_, _, _, _], _ => rfl⟩
  have F1 := fun_mk (st := s_counted) l1 c1 k1
  have D1 : DefAt K mg "counted" s_counted ["steps", "for_letter"] f1 _ := ⟨F1, PySem.W.mg_of X G a1, F1.binds (ps := ["steps", "for_letter"]) fun _ _ _ _ _ _ us hl => match us, hl with | [_, _], _ => rfl⟩
  have F2 := fun_mk (st := s_long_length) l2 c2 k2
  have D2 : DefAt K mg "long_length" s_long_length ["recipe"] f2 _ := ⟨F2, PySem.W.mg_of X G a2, F2.binds (ps := ["recipe"]) fun _ _ _ _ _ _ us hl => match us, hl with | [_], _ => rfl⟩
  have F3 := fun_mk (st := s_letter_at) l3 c3 k3
  have D3 : DefAt K mg "letter_at" s_letter_at ["recipe", "at"] f3 _ := ⟨F3, PySem.W.mg_of X G a3, F3.binds (ps := ["recipe", "at"]) fun _ _ _ _ _ _ us hl => match us, hl with | [_, _], _ => rfl⟩
  have F4 := fun_mk (st := s__law_box) l4 c4 k4
  have D4 : DefAt K mg "_law_box" s__law_box ["_law_script", "_law_at"] f4 _ := ⟨F4, PySem.W.mg_of X G a4, F4.binds (ps := ["_law_script", "_law_at"]) fun _ _ _ _ _ _ us hl => match us, hl with | [_, _], _ => rfl⟩
  have F5 := fun_mk (st := s__law_draw) l5 c5 k5
  have D5 : DefAt K mg "_law_draw" s__law_draw ["_law_box_here", "_law_many"] f5 _ := ⟨F5, PySem.W.mg_of X G a5, F5.binds (ps := ["_law_box_here", "_law_many"]) fun _ _ _ _ _ _ us hl => match us, hl with | [_, _], _ => rfl⟩
  have F6 := fun_mk (st := s__law_recipe) l6 c6 k6
  have D6 : DefAt K mg "_law_recipe" s__law_recipe ["_law_box_here", "_law_letters", "_law_most", "_law_times"] f6 _ := ⟨F6, PySem.W.mg_of X G a6, F6.binds (ps := ["_law_box_here", "_law_letters", "_law_most", "_law_times"]) fun _ _ _ _ _ _ us hl => match us, hl with | [_, _, _, _], _ => rfl⟩
  have F7 := fun_mk (st := s__law_lengths) l7 c7 k7
  have D7 : DefAt K mg "_law_lengths" s__law_lengths ["_law_recipe_here"] f7 _ := ⟨F7, PySem.W.mg_of X G a7, F7.binds (ps := ["_law_recipe_here"]) fun _ _ _ _ _ _ us hl => match us, hl with | [_], _ => rfl⟩
  have F8 := fun_mk (st := s__law_letter) l8 c8 k8
  have D8 : DefAt K mg "_law_letter" s__law_letter ["_law_recipe_here", "_law_many", "_law_at"] f8 _ := ⟨F8, PySem.W.mg_of X G a8, F8.binds (ps := ["_law_recipe_here", "_law_many", "_law_at"]) fun _ _ _ _ _ _ us hl => match us, hl with | [_, _, _], _ => rfl⟩
  have F9 := fun_mk (st := s__law_word) l9 c9 k9
  have D9 : DefAt K mg "_law_word" s__law_word ["_law_recipe_here"] f9 _ := ⟨F9, PySem.W.mg_of X G a9, F9.binds (ps := ["_law_recipe_here"]) fun _ _ _ _ _ _ us hl => match us, hl with | [_], _ => rfl⟩
  have F10 := fun_mk (st := s__law_tall) l10 c10 k10
  have D10 : DefAt K mg "_law_tall" s__law_tall ["_law_box_here", "_law_letters", "_law_most"] f10 _ := ⟨F10, PySem.W.mg_of X G a10, F10.binds (ps := ["_law_box_here", "_law_letters", "_law_most"]) fun _ _ _ _ _ _ us hl => match us, hl with | [_, _, _], _ => rfl⟩
  have F11 := fun_mk (st := s_law) l11 c11 k11
  have D11 : DefAt K mg "law" s_law ["_law_script"] fa _ := ⟨F11, PySem.W.mg_of X G a11, F11.binds (ps := ["_law_script"]) fun _ _ _ _ _ _ us hl => match us, hl with | [_], _ => rfl⟩
  have hP : PrOk (gmOf tabN P K) (cdsT tabN K) P mg := by
    refine ⟨fun f d h => good_tbl (tbl := tbl) ?_ f d h, fun x d h => con_tbl (tbl := ctbl) ?_ x d h, ?_, fa_ok X G, lg_ok, of_decide_eq_true tnd⟩
    · intro p hp
      unfold tbl at hp
      simp only [List.mem_cons, List.not_mem_nil, or_false] at hp
      rcases hp with rfl | rfl | rfl | rfl | rfl | rfl | rfl | rfl | rfl | rfl | rfl | rfl
      · exact ⟨_, _, _, _, _, _, D0, sc_folded, rfl, rfl, m_folded, lkOk_no⟩
      · exact ⟨_, _, _, _, _, _, D1, sc_counted, rfl, rfl, m_counted, lkOk_of (by decide) (PySem.W.law_code X G (tab_some tb_counted) (PySem.W.mg_of X G a1) (X _ _ l1) rfl) ce_counted lt_counted⟩
      · exact ⟨_, _, _, _, _, _, D2, sc_long_length, rfl, rfl, m_long_length, lkOk_no⟩
      · exact ⟨_, _, _, _, _, _, D3, sc_letter_at, rfl, rfl, m_letter_at, lkOk_no⟩
      · exact ⟨_, _, _, _, _, _, D4, sc__law_box, rfl, rfl, m__law_box, lkOk_no⟩
      · exact ⟨_, _, _, _, _, _, D5, sc__law_draw, rfl, rfl, m__law_draw, lkOk_no⟩
      · exact ⟨_, _, _, _, _, _, D6, sc__law_recipe, rfl, rfl, m__law_recipe, lkOk_no⟩
      · exact ⟨_, _, _, _, _, _, D7, sc__law_lengths, rfl, rfl, m__law_lengths, lkOk_no⟩
      · exact ⟨_, _, _, _, _, _, D8, sc__law_letter, rfl, rfl, m__law_letter, lkOk_no⟩
      · exact ⟨_, _, _, _, _, _, D9, sc__law_word, rfl, rfl, m__law_word, lkOk_no⟩
      · exact ⟨_, _, _, _, _, _, D10, sc__law_tall, rfl, rfl, m__law_tall, lkOk_no⟩
      · exact ⟨_, _, _, _, _, _, D11, sc_law, rfl, rfl, m_law, lkOk_no⟩
    · intro p hp
      unfold ctbl at hp
      simp only [List.mem_cons, List.not_mem_nil, or_false] at hp
    · intro x hx
      unfold bNames at hx
      simp only [List.mem_cons, List.not_mem_nil, or_false] at hx
      rcases hx with rfl | rfl | rfl | rfl | rfl | rfl | rfl | rfl | rfl | rfl | rfl | rfl | rfl | rfl | rfl | rfl | rfl | rfl
      · exact PySem.W.mg_none_of X G z_len
      · exact PySem.W.mg_none_of X G z_abs
      · exact PySem.W.mg_none_of X G z_min
      · exact PySem.W.mg_none_of X G z_max
      · exact PySem.W.mg_none_of X G z_int
      · exact PySem.W.mg_none_of X G z_isinstance
      · exact PySem.W.mg_none_of X G z_bool
      · exact PySem.W.mg_none_of X G z_str
      · exact PySem.W.mg_none_of X G z_tuple
      · exact PySem.W.mg_none_of X G z_list
      · exact PySem.W.mg_none_of X G z_range
      · exact PySem.W.mg_none_of X G z_sum
      · exact PySem.W.mg_none_of X G z_all
      · exact PySem.W.mg_none_of X G z_any
      · exact PySem.W.mg_none_of X G z_sorted
      · exact PySem.W.mg_none_of X G z_zip
      · exact PySem.W.mg_none_of X G z_enumerate
      · exact PySem.W.mg_none_of X G z_ord
  have ht : ∀ x ∈ tabN, (PySem.W.tabIn K x).isSome = true := by
    intro x hx
    simp only [tabN, List.mem_cons, List.not_mem_nil, or_false] at hx
    rcases hx with rfl
    · exact tb_counted
  refine ⟨_, fun s v => .of_eq rfl, fun base _ _ bm hk => (fn_ok hP (cds_ok ht bm hk) 11 (call_ok hP (cds_ok ht bm hk) 11) (d := DV.w_law_k38) (f := "law") rfl D11 sc_law rfl rfl m_law lkOk_no).imp (fun vs H Q E q => spT_of (fun ns h => DV.law38 (P := P) 7 ns h) vs H Q E (spT_of_B ht q))⟩
end My
end
open PySem PySem.W PyProof.Rows
set_option maxRecDepth 100000 in
set_option maxHeartbeats 0 in
theorem PySem.Challenge.cw_leasttolls_k38_lengths_and_letters_of_lo_holds : PySem.Challenge.rw_leasttolls_k38_lengths_and_letters_of_lo.Holds := by
  w_on; o_law; k_head; (case hw => w_witness2)
  k_fill
  refine L2.walk_ofT2 (l := PySem.Challenge.rw_leasttolls_k38_lengths_and_letters_of_lo) (n := 63) (k := 43) (x := "_law_script") (sp := L2.spB My.tabN) My.tabN rfl (by decide) rfl ⟨rfl, by decide, by decide⟩ (fun w h Y => ⟨PySem.W.km_in_of Y, PySem.W.km_tabs_of Y⟩) (fun w => ?R) (fun w => ?NT) ?F (fun K H a ns hl hB hS hF => L2.spB_mk hl hB hS hF)
  case R => kernel_rfl
  case NT => kernel_rfl
  case F =>
    intro w mg fa h KX G hmg
    refine' My.all_mk KX G hmg ?a0 ?l0 ?c0 ?k0 ?a1 ?l1 ?c1 ?k1 ?a2 ?l2 ?c2 ?k2 ?a3 ?l3 ?c3 ?k3 ?a4 ?l4 ?c4 ?k4 ?a5 ?l5 ?c5 ?k5 ?a6 ?l6 ?c6 ?k6 ?a7 ?l7 ?c7 ?k7 ?a8 ?l8 ?c8 ?k8 ?a9 ?l9 ?c9 ?k9 ?a10 ?l10 ?c10 ?k10 ?a11 ?l11 ?c11 ?k11 ?z_len ?z_abs ?z_min ?z_max ?z_int ?z_isinstance ?z_bool ?z_str ?z_tuple ?z_list ?z_range ?z_sum ?z_all ?z_any ?z_sorted ?z_zip ?z_enumerate ?z_ord ?tb_counted ?tnd
    (case a0 => k_is)
    (case l0 => k_is)
    (case c0 => k_is)
    (case k0 => k_is)
    (case a1 => k_is)
    (case l1 => k_is)
    (case c1 => k_is)
    (case k1 => k_is)
    (case a2 => k_is)
    (case l2 => k_is)
    (case c2 => k_is)
    (case k2 => k_is)
    (case a3 => k_is)
    (case l3 => k_is)
    (case c3 => k_is)
    (case k3 => k_is)
    (case a4 => k_is)
    (case l4 => k_is)
    (case c4 => k_is)
    (case k4 => k_is)
    (case a5 => k_is)
    (case l5 => k_is)
    (case c5 => k_is)
    (case k5 => k_is)
    (case a6 => k_is)
    (case l6 => k_is)
    (case c6 => k_is)
    (case k6 => k_is)
    (case a7 => k_is)
    (case l7 => k_is)
    (case c7 => k_is)
    (case k7 => k_is)
    (case a8 => k_is)
    (case l8 => k_is)
    (case c8 => k_is)
    (case k8 => k_is)
    (case a9 => k_is)
    (case l9 => k_is)
    (case c9 => k_is)
    (case k9 => k_is)
    (case a10 => k_is)
    (case l10 => k_is)
    (case c10 => k_is)
    (case k10 => k_is)
    (case a11 => k_is)
    (case l11 => k_is)
    (case c11 => k_is)
    (case k11 => k_is)
    (case z_len => k_is)
    (case z_abs => k_is)
    (case z_min => k_is)
    (case z_max => k_is)
    (case z_int => k_is)
    (case z_isinstance => k_is)
    (case z_bool => k_is)
    (case z_str => k_is)
    (case z_tuple => k_is)
    (case z_list => k_is)
    (case z_range => k_is)
    (case z_sum => k_is)
    (case z_all => k_is)
    (case z_any => k_is)
    (case z_sorted => k_is)
    (case z_zip => k_is)
    (case z_enumerate => k_is)
    (case z_ord => k_is)
    (case tb_counted => kernel_rfl)
    (case tnd => kernel_rfl)
