import PyProof.Rows.All
import Wide.All
import OpenK.AllK
import Wide.FinOn
import Lean
import PyProof.EqAt
import PyProof.EqKinds
import PyProof.TupleCall
import PyProof.MinMaxWalk
import PyProof.WalkInts
import PyProof.NeKinds
import PyProof.SliceStr2
import PyProof.StrBlockI
import PyProof.MaxThree
import PySem.Challenge.RW_leasttolls_k09_tables_of_letters
set_option Elab.async false
set_option linter.all false
set_option maxRecDepth 100000
/-! THE HAND LAYER, for ints, bools, texts, own classes, LISTS and tuples (index, slices, in, append, pop ..), calls, loops. Paste it whole ahead of your own text; what your proof does not reach may be deleted. -/
namespace L2
open PySem PySem.Spec PyProof.Rows

/-- a key: an int or a str -/
abbrev Key := Sum Int Str
def keyIs : Key → Value → Bool
  | .inl k, v => Value.isInt k v
  | .inr x, v => Value.isStrOf x v
def keyH (w : World) : Key → Int
  | .inl k => hashInt k
  | .inr x => hashStr w x
theorem keyIs_shape : ∀ {k : Key} {v : Value}, keyIs k v = true → (∃ i t, k = Sum.inl i ∧ v = Value.int i t) ∨ (∃ x t, k = Sum.inr x ∧ v = Value.str x t)
  | .inl i, v, h => by
    obtain ⟨t, e⟩ := Value.isInt_shape (k := i) (v := v) h
    exact .inl ⟨i, t, rfl, e⟩
  | .inr x, v, h => by
    obtain ⟨t, e⟩ := Value.isStrOf_shape (x := x) (v := v) h
    exact .inr ⟨x, t, rfl, e⟩
theorem keyIs_int (i : Int) (t : Tok) : keyIs (.inl i) (.int i t) = true := by simp [keyIs, Value.isInt]
theorem keyIs_str (x : Str) (t : Tok) : keyIs (.inr x) (.str x t) = true := by simp [keyIs, Value.isStrOf]
theorem key_ll (a b : Int) : decide ((Sum.inl a : Key) = Sum.inl b) = (a == b) := by
  by_cases e : a = b
  · subst e; simp
  · have h : ¬ (Sum.inl a : Key) = Sum.inl b := fun q => e (Sum.inl.inj q)
    rw [decide_eq_false h]
    exact (beq_eq_false_iff_ne.mpr e).symm
theorem key_rr (a b : Str) : decide ((Sum.inr a : Key) = Sum.inr b) = decide (a = b) := by
  by_cases e : a = b
  · subst e; simp
  · have h : ¬ (Sum.inr a : Key) = Sum.inr b := fun q => e (Sum.inr.inj q)
    rw [decide_eq_false h, decide_eq_false e]
theorem key_lr (a : Int) (b : Str) : decide ((Sum.inl a : Key) = Sum.inr b) = false := decide_eq_false (fun q => nomatch q)
theorem key_rl (a : Str) (b : Int) : decide ((Sum.inr a : Key) = Sum.inl b) = false := decide_eq_false (fun q => nomatch q)

def mixKind (prog : Program) (w : World) : PySem.KeyKind prog w Key where
  is := keyIs
  hash := keyH w
  inj := fun v a b ha hb => by
    rcases keyIs_shape ha with ⟨i, t, rfl, rfl⟩ | ⟨x, t, rfl, rfl⟩
    · rcases keyIs_shape hb with ⟨j, u, rfl, e⟩ | ⟨y, u, rfl, e⟩
      · injection e with e1 _; rw [e1]
      · exact nomatch e
    · rcases keyIs_shape hb with ⟨j, u, rfl, e⟩ | ⟨y, u, rfl, e⟩
      · exact nomatch e
      · injection e with e1 _; rw [e1]
  byValue := fun k v h => by
    rcases keyIs_shape h with ⟨i, t, rfl, rfl⟩ | ⟨x, t, rfl, rfl⟩ <;> rfl
  pyHash := fun hv h => by
    rcases keyIs_shape hv with ⟨i, t, rfl, rfl⟩ | ⟨x, t, rfl, rfl⟩
    · exact wpAny_pyHash_int h
    · exact wpAny_pyHash_str h
  eqBool := fun hu hv h => by
    rcases keyIs_shape hu with ⟨i, t, rfl, rfl⟩ | ⟨x, t, rfl, rfl⟩
    · rcases keyIs_shape hv with ⟨j, u, rfl, rfl⟩ | ⟨y, u, rfl, rfl⟩
      · rw [key_ll] at h; exact wpAny_eqBool_int h
      · rw [key_lr] at h; exact SeqAt.EqAt.int_str i t y u _ _ _ _ h
    · rcases keyIs_shape hv with ⟨j, u, rfl, rfl⟩ | ⟨y, u, rfl, rfl⟩
      · rw [key_rl] at h; exact SeqAt.EqAt.str_int x t j u _ _ _ _ h
      · rw [key_rr] at h; exact wpAny_eqBool_str h
  «strs» := fun k x t v h => by
    rcases keyIs_shape h with ⟨i, u, rfl, e⟩ | ⟨y, u, rfl, e⟩
    · exact nomatch e
    · injection e with e1 _
      subst e1
      cases v <;> rfl

theorem mixKind_is (prog : Program) (w : World) (k : Key) (v : Value) : (mixKind prog w).is k v = keyIs k v := rfl
theorem mixKind_int (prog : Program) (w : World) (i : Int) (t : Tok) : (mixKind prog w).is (.inl i) (.int i t) = true := keyIs_int i t
theorem mixKind_str (prog : Program) (w : World) (x : Str) (t : Tok) : (mixKind prog w).is (.inr x) (.str x t) = true := keyIs_str x t
end L2

namespace L2
open PySem PySem.Spec PyProof.Rows

/-- a value, without the heap -/
inductive V where
  | non | bl (b : Bool) | int (i : Int) | str (x : Str) | byt (b : Array UInt8) | flt (b : UInt64) | ref (a : Addr) | ty (n : String)
  deriving DecidableEq

def RelV : V → Value → Prop
  | .non, u => u = Value.none
  | .bl b, u => u = Value.bool b
  | .int i, u => ∃ t, u = Value.int i t
  | .str x, u => ∃ t, u = Value.str x t
  | .byt b, u => ∃ t, u = Value.bytes b t
  | .flt b, u => ∃ t, u = Value.float b t
  | .ref a, u => u = Value.ref a
  | .ty n, u => u = Value.type n

abbrev Vals : List V → List Value → Prop := Paired RelV
theorem Vals.length {xs : List V} {us : List Value} (r : Vals xs us) : xs.length = us.length := Paired.length r
theorem Vals.get : ∀ {xs : List V} {us : List Value} {i : Nat} {x : V}, Vals xs us → xs[i]? = some x → ∃ u, us[i]? = some u ∧ RelV x u
  | _, _, _, _, .nil, e => by simp at e
  | _, _, 0, _, .cons r _, e => by simp at e; subst e; exact ⟨_, rfl, r⟩
  | _, _, i + 1, x, .cons _ t, e => by
    obtain ⟨u, h1, h2⟩ := Vals.get (i := i) (x := x) t (by simpa using e)
    exact ⟨u, by simpa using h1, h2⟩
theorem Vals.set {x : V} {u : Value} (r : RelV x u) : ∀ {xs : List V} {us : List Value} (i : Nat), Vals xs us → Vals (xs.set i x) (us.set i u)
  | _, _, _, .nil => .nil
  | _, _, 0, .cons _ t => .cons r t
  | _, _, i + 1, .cons q t => .cons q (Vals.set r i t)
theorem Vals.append : ∀ {xs ys : List V} {us ws : List Value}, Vals xs us → Vals ys ws → Vals (xs ++ ys) (us ++ ws)
  | _, _, _, _, .nil, s => s
  | _, _, _, _, .cons r t, s => .cons r (Vals.append t s)
theorem Vals.take : ∀ {xs : List V} {us : List Value} (n : Nat), Vals xs us → Vals (xs.take n) (us.take n)
  | _, _, 0, _ => .nil
  | _, _, _ + 1, .nil => .nil
  | _, _, n + 1, .cons r t => .cons r (Vals.take n t)
theorem Vals.drop : ∀ {xs : List V} {us : List Value} (n : Nat), Vals xs us → Vals (xs.drop n) (us.drop n)
  | _, _, 0, r => r
  | _, _, _ + 1, .nil => .nil
  | _, _, n + 1, .cons _ t => Vals.drop n t
theorem Vals.none_of : ∀ {xs : List V} {us : List Value} {i : Nat}, Vals xs us → xs[i]? = none → us[i]? = none := fun {xs us i} r e => by
  have h1 := r.length
  have h2 : xs.length ≤ i := List.getElem?_eq_none_iff.mp e
  exact List.getElem?_eq_none_iff.mpr (by omega)

def RelO : Option V → Option Value → Prop
  | some v, some u => RelV v u
  | none, none => True
  | _, _ => False
def KV {κ : Type} : List (κ × V) → List (κ × Value) → Prop := Paired fun (p : κ × V) (q : κ × Value) => p.1 = q.1 ∧ RelV p.2 q.2

/-- a key of a dict (00_mix): an int or a text -/
def kV : Key → V
  | .inl i => .int i
  | .inr x => .str x

/-- what stands at a tracked address -/
inductive HO where
  /-- a list -/
  | lst (xs : List V)
  /-- a tuple (never changes) -/
  | tup (xs : List V)
  /-- a dict whose keys are ints and texts; one whose keys are tuples of ints and texts (the empty one is both) -/
  | dK (kvs : List (Key × V)) | dT (kvs : List (List Key × V))
  /-- a set of ints: its members, its size -/
  | set (S : Int → Bool) (n : Nat)
  /-- an instance of the class at C, its dict at dx, its attributes -/
  | ins (C dx : Addr) (fs : List (Str × V))
  /-- the dict of the instance at x -/
  | own (x : Addr)
  /-- the dict of an exception -/
  | xd (fs : List (Str × V))
  /-- a bound method, f of x -/
  | met (f x : Addr)
  /-- a range object lo, lo + 1, .. below hi -/
  | rng (lo hi : Int)
  /-- a thing that is known to the object (the script; a dict while a loop walks it): read, never written while it is so -/
  | frz (o : Obj) (u : HO)
  /-- a code object's table -/
  | tbl (ps : Array Value)
  /-- any other thing, by what is true of its one object (a def of one's own: SetO a S n := HO.ext fun h => ..) -/
  | ext (φ : Heap → Prop)

abbrev Hp := Addr → Option HO
def upd (H : Hp) (a : Addr) (o : HO) : Hp := fun b => if b = a then some o else H b
theorem upd_same {H : Hp} {a : Addr} {o : HO} : upd H a o a = some o := by unfold upd; rw [if_pos rfl]
theorem upd_ne {H : Hp} {a b : Addr} {o : HO} (h : b ≠ a) : upd H a o b = H b := by unfold upd; rw [if_neg h]
theorem upd_upd {H : Hp} {a : Addr} {o u : HO} : upd (upd H a o) a u = upd H a u := by
  funext b; unfold upd; split <;> rfl
/-- two objects of different content stand apart -/
theorem ne_of {H : Hp} {a b : Addr} {o u : HO} (h : H a = some o) (h' : H b = some u) (d : o ≠ u) : a ≠ b := by
  intro e; subst e; rw [h] at h'; exact d (Option.some.inj h')
theorem ne_of_none {H : Hp} {a b : Addr} {o : HO} (h : H a = some o) (h' : H b = none) : a ≠ b := by
  intro e; subst e; rw [h] at h'; cases h'

section
variable (P : Program) (w : World)
def ObjOk (H : Hp) (h : Heap) (a : Addr) : HO → Prop
  | .lst xs => xs.length ≤ sizeLine ∧ ∃ (its : List Value) (n : Nat), Vals xs its ∧ h.get? a = some { cls := .type "list", data := .seq its.toArray n }
  | .tup xs => xs.length ≤ sizeLine ∧ ∃ its : List Value, Vals xs its ∧ IsTup h a its.toArray
  | .dK kvs => kvs.length ≤ sizeLine ∧ (a == sysModules) = false ∧ ∃ vs, KV kvs vs ∧ h.DictOf (mixKind P w) a vs
  | .dT kvs => kvs.length ≤ sizeLine ∧ (a == sysModules) = false ∧ ∃ xs : List (List Key × Addr × Value),
      Paired (fun (p : List Key × V) (q : List Key × Addr × Value) => p.1 = q.1 ∧ H q.2.1 = some (.tup (p.1.map kV)) ∧ RelV p.2 q.2.2) kvs xs ∧
      ∃ o es ep, h.get? a = some o ∧ o.ExactDict ∧ o.data = .dict es ep ∧ es.toList = xs.map (entryOfKey (tupleKind (mixKind P w))) ∧ (xs.map (·.1)).Nodup
  | .set S n => h.SetOf (intKind P w) a S n
  | .ins C dx fs => H dx = some (.own a) ∧ fs.length ≤ 1000 ∧ dx ≠ a ∧ h.get? a = some (PySem.W.instObj C dx) ∧
      ∃ mA, h.Ns1 dx mA ∧ (∀ f, RelO (fs.lookup f) (mA f)) ∧ PySem.Within mA (fs.map (·.1))
  | .own _ => ∃ o, h.get? a = some o
  | .xd fs => ∃ mA, h.Ns1 a mA ∧ ∀ f, RelO (fs.lookup f) (mA f)
  | .rng lo hi => ∃ t u v, h.get? a = some { cls := .type "range", data := .fields #[.int lo t, .int hi u, .int 1 v] }
  | .frz o u => h.get? a = some o ∧ ObjOk H h a u
  | .tbl ps => h.get? a = some { cls := .none, data := .fields ps }
  | .met f x => h.get? a = some (PySem.W.methodObj (.ref f) (.ref x))
  | .ext φ => φ h ∧ (∃ o, h.get? a = some o) ∧ ∀ h1 h2 : Heap, φ h1 → (∀ o, h1.get? a = some o → h2.get? a = some o) → φ h2
/-- the abstract heap is held -/
def HOk (H : Hp) (h : Heap) : Prop := ∀ a o, H a = some o → ObjOk P w H h a o
end

section
variable {P : Program} {w : World} {H H' : Hp} {h h' : Heap} {a : Addr} {o : HO}
theorem ObjOk.lt (x : ObjOk P w H h a o) : a < h.objs.size := by
  cases o with
  | lst xs => obtain ⟨_, _, _, _, e⟩ := x; exact Heap.lt_size e
  | tup xs => obtain ⟨_, _, _, p⟩ := x; exact p.lt
  | dK kvs => obtain ⟨_, _, _, _, o, _, _, e, _⟩ := x; exact Heap.lt_size e
  | dT kvs => obtain ⟨_, _, _, _, o, _, _, e, _⟩ := x; exact Heap.lt_size e
  | set S n => obtain ⟨o, _, _, _, e, _⟩ := x; exact Heap.lt_size e
  | ins C dx fs => obtain ⟨_, _, _, e, _⟩ := x; exact Heap.lt_size e
  | own y => obtain ⟨_, e⟩ := x; exact Heap.lt_size e
  | xd fs => obtain ⟨_, ⟨_, _, _, e, _⟩, _⟩ := x; exact Heap.lt_size e
  | rng lo hi => obtain ⟨_, _, _, e⟩ := x; exact Heap.lt_size e
  | frz ob u => obtain ⟨e, _⟩ := x; exact Heap.lt_size e
  | tbl ps => exact Heap.lt_size (show h.get? a = some _ from x)
  | met f y => exact Heap.lt_size (show h.get? a = some _ from x)
  | ext φ => obtain ⟨_, ⟨_, e⟩, _⟩ := x; exact Heap.lt_size e
theorem Paired.mapP {α β : Type} {F G : α → β → Prop} : ∀ {l₁ : List α} {l₂ : List β}, Paired F l₁ l₂ → (∀ a b, F a b → G a b) → Paired G l₁ l₂
  | _, _, .nil, _ => .nil
  | _, _, .cons r t, f => .cons (f _ _ r) (Paired.mapP t f)
theorem Paired.imp' {α β : Type} {F G : α → β → Prop} (f : ∀ a b, F a b → G a b) {l₁ : List α} {l₂ : List β} (r : Paired F l₁ l₂) : Paired G l₁ l₂ := Paired.mapP r f
/-- what an object's description leans on: its own object, its own dict, the tuples -/
theorem ObjOk.stay (x : ObjOk P w H h a o) (k : ∀ b u, (b = a ∨ H b = some (.own a)) → h.get? b = some u → h'.get? b = some u)
    (ho : ∀ b, H b = some (.own a) → H' b = some (.own a)) (ht : ∀ b xs, H b = some (.tup xs) → H' b = some (.tup xs)) : ObjOk P w H' h' a o := by
  induction o with
  | lst xs => obtain ⟨z, its, n, r, e⟩ := x; exact ⟨z, its, n, r, k _ _ (.inl rfl) e⟩
  | tup xs => obtain ⟨z, its, r, ob, e, c⟩ := x; exact ⟨z, its, r, ob, k _ _ (.inl rfl) e, c⟩
  | dK kvs => obtain ⟨z, y, vs, r, ob, es, ep, e, c⟩ := x; exact ⟨z, y, vs, r, ob, es, ep, k _ _ (.inl rfl) e, c⟩
  | dT kvs =>
    obtain ⟨z, y, xs, r, ob, es, ep, e, c⟩ := x
    exact ⟨z, y, xs, Paired.mapP r fun p q z => ⟨z.1, ht _ _ z.2.1, z.2.2⟩, ob, es, ep, k _ _ (.inl rfl) e, c⟩
  | set S n => obtain ⟨ob, es, ep, t, e, c⟩ := x; exact ⟨ob, es, ep, t, k _ _ (.inl rfl) e, c⟩
  | ins C dx fs =>
    obtain ⟨d, z, ne, e, mA, ⟨od, es, ep, e2, c⟩, r⟩ := x
    exact ⟨ho _ d, z, ne, k _ _ (.inl rfl) e, mA, ⟨od, es, ep, k _ _ (.inr d) e2, c⟩, r⟩
  | own y => obtain ⟨ob, e⟩ := x; exact ⟨ob, k _ _ (.inl rfl) e⟩
  | xd fs => obtain ⟨mA, ⟨od, es, ep, e, c⟩, r⟩ := x; exact ⟨mA, ⟨od, es, ep, k _ _ (.inl rfl) e, c⟩, r⟩
  | rng lo hi => obtain ⟨t, u, v, e⟩ := x; exact ⟨t, u, v, k _ _ (.inl rfl) e⟩
  | frz ob u ih => obtain ⟨e, q⟩ := x; exact ⟨k _ _ (.inl rfl) e, ih q⟩
  | tbl ps =>
    have e : h.get? a = some { cls := .none, data := .fields ps } := x
    show h'.get? a = some { cls := .none, data := .fields ps }
    exact k a _ (.inl rfl) e
  | met f y =>
    have e : h.get? a = some (PySem.W.methodObj (.ref f) (.ref y)) := x
    show h'.get? a = some (PySem.W.methodObj (.ref f) (.ref y))
    exact k a _ (.inl rfl) e
  | ext φ => obtain ⟨p, ⟨o, e⟩, st⟩ := x; exact ⟨st _ _ p fun o q => k _ _ (.inl rfl) q, ⟨o, k _ _ (.inl rfl) e⟩, st⟩
theorem HOk.lt (x : HOk P w H h) (e : H a = some o) : a < h.objs.size := (x a o e).lt
theorem HOk.fresh (x : HOk P w H h) (e : h.objs.size ≤ a) : H a = none := by
  cases q : H a with
  | none => rfl
  | some u => exact absurd (Nat.lt_of_lt_of_le (x.lt q) e) (Nat.lt_irrefl _)
/-- every object of the heap is kept -/
theorem HOk.kept (x : HOk P w H h) (k : ∀ b u, h.get? b = some u → h'.get? b = some u) : HOk P w H h' := fun a o e =>
  (x a o e).stay (fun b u _ q => k b u q) (fun _ q => q) fun _ _ q => q
/-- a new object is laid and tracked -/
theorem HOk.laid (x : HOk P w H h) (k : ∀ b u, h.get? b = some u → h'.get? b = some u) (hp : h.objs.size ≤ a) (new : ObjOk P w (upd H a o) h' a o) : HOk P w (upd H a o) h' := fun b u e => by
  have hn := x.fresh hp
  by_cases hb : b = a
  · subst hb; rw [upd_same] at e; cases e; exact new
  · rw [upd_ne hb] at e
    exact (x b u e).stay (fun c v _ q => k c v q) (fun c q => by rw [upd_ne (ne_of_none q hn)]; exact q) fun c xs q => by rw [upd_ne (ne_of_none q hn)]; exact q
end

/-- what may be read as u: it is u, or a known u -/
def Rd (H : Hp) (a : Addr) (u : HO) : Prop := H a = some u ∨ ∃ o, H a = some (.frz o u)
theorem Rd.of {H : Hp} {a : Addr} {u : HO} (h : H a = some u) : Rd H a u := .inl h
theorem Rd.ok {P : Program} {w : World} {H : Hp} {h : Heap} {a : Addr} {u : HO} (r : Rd H a u) (x : HOk P w H h) : ObjOk P w H h a u := by
  rcases r with r | ⟨o, r⟩
  · exact x a u r
  · obtain ⟨_, q⟩ := x a _ r
    exact q
/-- what may be written -/
def Mut : Option HO → Prop
  | some (.lst _) => True
  | some (.dK _) => True
  | some (.dT _) => True
  | some (.set _ _) => True
  | some (.ins _ _ _) => True
  | some (.ext _) => True
  | _ => False
section
variable {P : Program} {w : World} {H : Hp} {h h' : Heap} {x e : Addr} {o' : HO}
/-- the object at e is changed: x itself, or the dict of the instance x -/
theorem HOk.write (ok : HOk P w H h) (mu : Mut (H x)) (he : e = x ∨ H e = some (.own x)) (k : ∀ b u, b ≠ e → h.get? b = some u → h'.get? b = some u) (heo : ∃ u, h'.get? e = some u)
    (new : ObjOk P w (upd H x o') h' x o') : HOk P w (upd H x o') h' := fun b u q => by
  have nown : ∀ c y, H c = some (.own y) → c ≠ x := fun c y r z => by subst z; rw [r] at mu; exact mu
  have ntup : ∀ c xs, H c = some (.tup xs) → c ≠ x := fun c xs r z => by subst z; rw [r] at mu; exact mu
  by_cases hb : b = x
  · subst hb; rw [upd_same] at q; cases q; exact new
  · rw [upd_ne hb] at q
    by_cases hbe : b = e
    · have q' : H b = some (.own x) := by
        rcases he with z | z
        · exact absurd (hbe.trans z) hb
        · rw [hbe]; exact z
      rw [q] at q'; cases q'
      obtain ⟨v, hv⟩ := heo
      exact ⟨v, by rw [hbe]; exact hv⟩
    · refine (ok b u q).stay (fun c v hc r => k c v ?_ r) (fun c r => by rw [upd_ne (nown c b r)]; exact r) fun c xs r => by rw [upd_ne (ntup c xs r)]; exact r
      rcases hc with rfl | hc
      · exact hbe
      · rintro rfl
        rcases he with z | z
        · exact nown c b hc z
        · rw [hc] at z; cases z; exact hb rfl
end

/-! ### kept unless tracked; of the frames at fs (the callers') the slots may change (an exception that passes writes there); of the records at ex (iterators) nothing is said -/
structure Un (fs ex : List Addr) (H H' : Hp) (h h' : Heap) : Prop where
  keep : ∀ b o, h.get? b = some o → H b = none → b ∉ fs → b ∉ ex → h'.get? b = some o
  slot : ∀ b o, h.get? b = some o → H b = none → b ∈ fs → b ∉ ex → ∃ sl, h'.get? b = some { o with slots := sl }
  free : ∀ b o, h.get? b = some o → H b = none → b ∉ ex → H' b = none
  there : ∀ b o, h.get? b = some o → b ∉ ex → ∃ o', h'.get? b = some o'
  tups : ∀ b xs, H b = some (.tup xs) → H' b = some (.tup xs)
  frzs : ∀ b o u, H b = some (.frz o u) → H' b = some (.frz o u)
  tbls : ∀ b ps, H b = some (.tbl ps) → ∃ more, H' b = some (.tbl (ps ++ more))
section
variable {fs fs' ex ex' : List Addr} {H H1 H2 : Hp} {h h1 h2 h' : Heap} {a x e : Addr} {o : HO}
theorem Un.any (u : Un fs ex H H1 h h1) {b : Addr} {ob : Obj} (q : h.get? b = some ob) (n : H b = none) (hx : b ∉ ex) : ∃ sl, h1.get? b = some { ob with slots := sl } := by
  by_cases hb : b ∈ fs
  · exact u.slot b ob q n hb hx
  · exact ⟨ob.slots, u.keep b ob q n hb hx⟩
theorem Un.trans (a : Un fs ex H H1 h h1) (b : Un fs ex H1 H2 h1 h2) : Un fs ex H H2 h h2 where
  keep := fun c ob q n hc hx => b.keep c ob (a.keep c ob q n hc hx) (a.free c ob q n hx) hc hx
  slot := fun c ob q n hc hx => by
    obtain ⟨sl, e1⟩ := a.slot c ob q n hc hx
    obtain ⟨sl', e2⟩ := b.slot c _ e1 (a.free c ob q n hx) hc hx
    exact ⟨sl', e2⟩
  free := fun c ob q n hx => by
    obtain ⟨o', e1⟩ := a.there c ob q hx
    exact b.free c o' e1 (a.free c ob q n hx) hx
  there := fun c ob q hx => by
    obtain ⟨o', e1⟩ := a.there c ob q hx
    exact b.there c o' e1 hx
  tups := fun c xs q => b.tups c xs (a.tups c xs q)
  frzs := fun c ob xs q => b.frzs c ob xs (a.frzs c ob xs q)
  tbls := fun c ps q => by
    obtain ⟨m1, e1⟩ := a.tbls c ps q
    obtain ⟨m2, e2⟩ := b.tbls c _ e1
    exact ⟨m1 ++ m2, by rw [e2, Array.append_assoc]⟩
theorem Un.kept (k : ∀ b u, h.get? b = some u → h'.get? b = some u) : Un fs ex H H h h' :=
  ⟨fun b ob q _ _ _ => k b ob q, fun b ob q _ _ _ => ⟨ob.slots, k b ob q⟩, fun _ _ _ n _ => n, fun b ob q _ => ⟨ob, k b ob q⟩, fun _ _ q => q, fun _ _ _ q => q, fun _ ps q => ⟨#[], by rw [q]; simp⟩⟩
theorem Un.refl : Un fs ex H H h h := Un.kept fun _ _ q => q
theorem Un.laid (k : ∀ b u, h.get? b = some u → h'.get? b = some u) (hp : h.objs.size ≤ a) (hn : H a = none) : Un fs ex H (upd H a o) h h' where
  keep := fun b u q _ _ _ => k b u q
  slot := fun b u q _ _ _ => ⟨u.slots, k b u q⟩
  free := fun b u q n _ => by rw [upd_ne (Nat.ne_of_lt (Nat.lt_of_lt_of_le (Heap.lt_size q) hp))]; exact n
  there := fun b u q _ => ⟨u, k b u q⟩
  tups := fun b xs q => by rw [upd_ne (ne_of_none q hn)]; exact q
  frzs := fun b u xs q => by rw [upd_ne (ne_of_none q hn)]; exact q
  tbls := fun b ps q => ⟨#[], by rw [upd_ne (ne_of_none q hn), q]; simp⟩
theorem Un.write (mu : Mut (H x)) (he : e = x ∨ H e = some (.own x)) (k : ∀ b u, b ≠ e → h.get? b = some u → h'.get? b = some u) (heo : ∃ u, h'.get? e = some u) : Un fs ex H (upd H x o) h h' := by
  have hx : ∀ b, H b = none → b ≠ x := fun b n z => by subst z; rw [n] at mu; exact mu
  have hb : ∀ b, H b = none → b ≠ e := fun b n z => by
    subst z
    rcases he with r | r
    · exact hx b n r
    · rw [n] at r; cases r
  have hm : ∀ b u, H b = some u → ¬ Mut (some u) → b ≠ x := fun b u q nm z => by subst z; rw [q] at mu; exact nm mu
  refine ⟨fun b u q n _ _ => k b u (hb b n) q, fun b u q n _ _ => ⟨u.slots, k b u (hb b n) q⟩, fun b u q n _ => by rw [upd_ne (hx b n)]; exact n, fun b u q _ => ?_,
    fun b xs q => by rw [upd_ne (hm b _ q fun z => z)]; exact q, fun b u xs q => by rw [upd_ne (hm b _ q fun z => z)]; exact q, fun b ps q => ⟨#[], by rw [upd_ne (hm b _ q fun z => z), q]; simp⟩⟩
  by_cases hbe : b = e
  · subst hbe; exact heo
  · exact ⟨u, k b u hbe q⟩
theorem Un.mono (u : Un fs ex H H1 h h1) (hs : ∀ b ∈ fs, b ∈ fs') (hx : ∀ b ∈ ex, b ∈ ex') : Un fs' ex' H H1 h h1 :=
  ⟨fun b ob q n hb he => u.keep b ob q n (fun z => hb (hs b z)) fun z => he (hx b z), fun _ _ q n _ he => u.any q n fun z => he (hx _ z), fun b ob q n he => u.free b ob q n fun z => he (hx b z), fun b ob q he => u.there b ob q fun z => he (hx b z), u.tups, u.frzs, u.tbls⟩
end

/-! ### the heap without what is tracked -/
def trk (h : Heap) (H : Hp) : List Addr := (List.range h.objs.size).filter fun a => (H a).isSome
def hidT (h : Heap) (H : Hp) : Heap := PySem.W.hideAll h (trk h H)
theorem hidT_size (h : Heap) (H : Hp) : (hidT h H).objs.size = h.objs.size := PySem.W.hideAll_size _ _
theorem hidT_get {h : Heap} {H : Hp} {b : Addr} {o : Obj} (e : h.get? b = some o) (n : H b = none) : (hidT h H).get? b = some o :=
  PySem.W.hideAll_get _ e fun hm => by
    have q : (H b).isSome = true := (List.mem_filter.mp hm).2
    rw [n] at q; simp at q
theorem of_hidT {h : Heap} {H : Hp} {b : Addr} {o : Obj} (e : (hidT h H).get? b = some o) : h.get? b = some o ∧ H b = none := by
  have e' : h.get? b = some o := PySem.W.of_hideAll (trk h H) e
  refine ⟨e', ?_⟩
  cases q : H b with
  | none => rfl
  | some x =>
    have hm : b ∈ trk h H := List.mem_filter.mpr ⟨List.mem_range.mpr (Heap.lt_size e'), by simp [q]⟩
    have z : (hidT h H).get? b = none := PySem.W.hideAll_none (trk h H) hm
    rw [z] at e; cases e

/-! ### OpenK's ledger, filled with every new object but one -/
def allNews (g h : Heap) (L : Addr) : List (Addr × Obj) := (List.range h.objs.size).filterMap fun a => if a = L ∨ (g.get? a).isSome = true then none else (h.get? a).map fun o => (a, o)
theorem mem_allNews {g h : Heap} {L a : Addr} {o : Obj} (h1 : a ≠ L) (h2 : g.get? a = none) (h3 : h.get? a = some o) : (a, o) ∈ allNews g h L :=
  List.mem_filterMap.mpr ⟨a, List.mem_range.mpr (Heap.lt_size h3), by simp [h1, h2, h3]⟩
theorem of_mem_allNews {g h : Heap} {L : Addr} {p : Addr × Obj} (hp : p ∈ allNews g h L) : p.1 ≠ L ∧ g.get? p.1 = none ∧ h.get? p.1 = some p.2 := by
  obtain ⟨b, _, e⟩ := List.mem_filterMap.mp hp
  split at e
  · cases e
  · rename_i hn
    cases q : h.get? b with
    | none => rw [q] at e; simp at e
    | some u =>
      rw [q] at e
      simp only [Option.map_some, Option.some.injEq] at e
      subst e
      refine ⟨fun z => hn (.inl z), ?_, q⟩
      show g.get? b = none
      cases r : g.get? b with
      | none => rfl
      | some v => exact (hn (.inr (by simp [r]))).elim
def rest (g h : Heap) (L d : Addr) : List (Addr × Obj) := (allNews g h L).filter fun p => decide (p.1 ≠ d)
theorem rest_ne {g h : Heap} {L d : Addr} : ∀ p ∈ rest g h L d, p.1 ≠ d := fun p hp => of_decide_eq_true (List.mem_filter.mp hp).2
theorem mem_rest {g h : Heap} {L d a : Addr} {o : Obj} (h1 : a ≠ L) (h2 : g.get? a = none) (h3 : h.get? a = some o) (h4 : a ≠ d) : (a, o) ∈ rest g h L d :=
  List.mem_filter.mpr ⟨mem_allNews h1 h2 h3, decide_eq_true h4⟩
theorem news_all {g h : Heap} {L : Addr} : News g L h (allNews g h L) := fun p hp => let ⟨a, b, c⟩ := of_mem_allNews hp; ⟨c, a, b⟩
theorem news_at {g h : Heap} {L d : Addr} {o : Obj} (h1 : d ≠ L) (h2 : g.get? d = none) (h3 : h.get? d = some o) : News g L h ((d, o) :: rest g h L d) := fun p hp => by
  rcases List.mem_cons.mp hp with rfl | hp
  · exact ⟨h3, h1, h2⟩
  · exact news_all p (List.mem_filter.mp hp).1
/-- behind a rule that changed d alone: all else but the frame is kept -/
theorem kept_of_news {g h h' : Heap} {L d : Addr} {m : Str → Option Value} (k : ∀ b o, g.get? b = some o → h.get? b = some o) (F : Fr g L h' m) (N : News g L h' (rest g h L d)) :
    ∀ b o, b ≠ L → b ≠ d → h.get? b = some o → h'.get? b = some o := fun b o h1 h2 e => by
  cases q : g.get? b with
  | some u =>
    have := k b u q
    rw [e] at this; cases this
    exact F.keep b _ q
  | none => exact (N (b, o) (mem_rest h1 q e h2)).1
end L2

namespace L2
open PySem PySem.Spec PyProof.Rows

/-- the module's facts, over the base: the heap at the law's entry without what is tracked there -/
structure Mod (K : PySem.W.Frag) (mg : Str → Option Value) (base : Heap) : Prop where
  kin : K.In base
  glob : base.Ns mainGlobals mg
  blt : ∃ mb, base.Ns builtinsNs mb ∧ ∀ x : Str, x ≠ "__name__" → mb x = bootBuiltins x
  nolimit : base.NoLimit

/-- the context: a def's body (or a comprehension's block) running. base: fixed through the whole law; s₀, H₀: the entry; outer: the frames whose slots others may change (a def's callers); stack: all frames that run;
   ex: iterators that were made ahead of the entry and are walked here (a comprehension's); fn: the names whose cells were made at the entry (a def: all; a comprehension's block: its own); calm: not within an except suite; pn: pins that every state bears; xe: what is wanted of an exception that leaves the code -/
structure Cx where
  prog : Program
  w : World
  K : PySem.W.Frag
  mg : Str → Option Value
  base : Heap
  A : Around
  N : List Str
  s₀ : Shared
  H₀ : Hp
  env : Env
  outer : List Env
  stack : List Env
  ex : List Addr
  fn : Str → Bool
  calm : Bool
  pn : List (Addr × Obj)
  xe : Value → Shared → Prop
/-- the callers' frames -/
def frs (l : List Env) : List Addr := l.filterMap (·.frame)
abbrev Cx.fs (X : Cx) : List Addr := frs X.outer

def Vis (sc : Scope) (x : Str) : Prop := sc.names.lookup x = some .local ∨ sc.names.lookup x = some .cell ∨ sc.names.lookup x = some .free
def Loc (sc : Scope) (x : Str) : Prop := sc.names.lookup x = some .local ∨ sc.names.lookup x = some .cell
def Look (env : Env) (h : Heap) (m : Str → Option Value) (x : Str) (u : Value) : Prop :=
  (env.kindOf x = some .local ∧ m x = some u) ∨ ((env.kindOf x = some .cell ∨ env.kindOf x = some .free) ∧ ∃ c, env.cells.lookup x = some c ∧ h.IsCell c (some u))

structure Cx.Ok (X : Cx) : Prop where
  mod : Mod X.K X.mg X.base
  kind : X.env.scope.kind = .function
  glob : X.env.globals = mainGlobals
  blt : X.env.builtins = builtinsNs
  above : X.s₀.heap.objs.size ≤ X.env.locals
  inj : ∀ x y c, X.env.cells.lookup x = some c → X.env.cells.lookup y = some c → x = y
  has : ∀ x, (X.env.kindOf x = some .cell ∨ X.env.kindOf x = some .free) → ∃ c, X.env.cells.lookup x = some c
  cab : ∀ x c, X.fn x = true → X.env.cells.lookup x = some c → X.s₀.heap.objs.size ≤ c
  hd : X.calm = true → X.A.handled = none
  frames : X.A.frames = some X.stack
  stk : X.stack = X.outer ∨ (X.stack = X.env :: X.outer ∧ X.env.frame = some X.env.locals)
  exf : ∀ b ∈ X.ex, b ≠ X.env.locals ∧ ∀ x c, X.env.cells.lookup x = some c → c ≠ b
  bs : ∀ b o, X.base.get? b = some o → X.s₀.heap.get? b = some o ∧ X.H₀ b = none
  bsz : X.base.objs.size ≤ X.s₀.heap.objs.size
  noex : ∀ b o, X.base.get? b = some o → b ∉ X.ex
  exfs : ∀ b ∈ X.ex, b ∉ X.fs
  funs : X.s₀.heap.FunFrames X.base X.outer
  frf : ∀ b ∈ X.fs, X.H₀ b = none

structure Inv (X : Cx) (pins : List (Addr × Obj)) (σ : List (Option V)) (H : Hp) (s : Shared) : Prop where
  ok : X.Ok
  os : s.os = X.s₀.os
  bare : AllBare s.gens
  base : Un X.fs X.ex X.H₀ H X.s₀.heap s.heap
  loc : ∃ m, s.heap.Ns X.env.locals m ∧ ∀ (i : Nat) (x : Str) (v : V), X.N[i]? = some x → σ[i]? = some (some v) → Vis X.env.scope x → ∃ u, RelV v u ∧ Look X.env s.heap m x u
  cell : ∀ x c, X.env.cells.lookup x = some c → ∃ v, s.heap.IsCell c v
  free : H X.env.locals = none
  freeC : ∀ x c, X.env.cells.lookup x = some c → H c = none
  pin : ∀ p ∈ X.pn ++ pins, s.heap.get? p.1 = some p.2 ∧ H p.1 = none ∧ p.1 ≠ X.env.locals ∧ p.1 ∉ X.fs ∧ ∀ v, p.2.data ≠ .cell v
  hok : HOk X.prog X.w H s.heap
  len : σ.length = X.N.length

section
variable {X : Cx} {pins : List (Addr × Obj)} {σ : List (Option V)} {H H' : Hp} {s : Shared} {h' : Heap}

theorem Cx.Ok.nofr (ok : X.Ok) {b : Addr} {o : Obj} (e : X.base.get? b = some o) : b ∉ X.fs := fun hb => by
  have := (ok.funs.mem hb).1
  rw [e] at this; cases this
theorem Inv.bs (I : Inv X pins σ H s) : ∀ b o, X.base.get? b = some o → s.heap.get? b = some o ∧ H b = none := fun b o e =>
  ⟨I.base.keep b o (I.ok.bs b o e).1 (I.ok.bs b o e).2 (I.ok.nofr e) (I.ok.noex b o e), I.base.free b o (I.ok.bs b o e).1 (I.ok.bs b o e).2 (I.ok.noex b o e)⟩
theorem Inv.bk (I : Inv X pins σ H s) : ∀ b o, X.base.get? b = some o → s.heap.get? b = some o := fun b o e => (I.bs b o e).1
theorem Inv.mod (I : Inv X pins σ H s) : Mod X.K X.mg X.base := I.ok.mod
theorem Inv.kIn (I : Inv X pins σ H s) : X.K.In s.heap := I.ok.mod.kin.keeps I.bk
theorem Inv.nolimit (I : Inv X pins σ H s) : s.heap.NoLimit := I.ok.mod.nolimit.keeps I.bk
/-- the frame over the base: for OpenK's rules (K.In X.base is I.mod.kin) -/
theorem Inv.fr (I : Inv X pins σ H s) : ∃ m, Fr X.base X.env.locals s.heap m :=
  let ⟨m, hn, _⟩ := I.loc
  ⟨m, hn, I.bk, Nat.le_trans I.ok.bsz I.ok.above⟩
theorem Inv.lt (I : Inv X pins σ H s) : X.env.locals < s.heap.objs.size := let ⟨_, hn, _⟩ := I.loc; hn.lt
theorem Inv.sz (I : Inv X pins σ H s) : X.s₀.heap.objs.size ≤ s.heap.objs.size := Nat.le_trans I.ok.above (Nat.le_of_lt I.lt)
theorem Inv.nofs (I : Inv X pins σ H s) {a : Addr} (h : s.heap.objs.size ≤ a) : a ∉ X.fs := fun hb => by
  obtain ⟨_, o, ho, _⟩ := I.ok.funs.mem hb
  exact absurd (Nat.lt_of_lt_of_le (Heap.lt_size ho) (Nat.le_trans I.sz h)) (Nat.lt_irrefl _)
theorem Inv.cne (I : Inv X pins σ H s) : ∀ x c, X.env.cells.lookup x = some c → c ≠ X.env.locals := fun x c e z => by
  obtain ⟨v, o, ho, hd⟩ := I.cell x c e
  obtain ⟨m, ⟨o', es, ep, ho', hd', _⟩, _⟩ := I.loc
  rw [z, ho'] at ho; cases ho; rw [hd'] at hd; cases hd
theorem Inv.funs (I : Inv X pins σ H s) : s.heap.FunFrames X.base X.outer := by
  have all : ∀ (l : List Env), (∀ b ∈ frs l, b ∈ X.fs) → X.s₀.heap.FunFrames X.base l → s.heap.FunFrames X.base l := by
    intro l
    induction l with
    | nil => intro _ _; trivial
    | cons env r ih =>
      intro hs hl
      obtain ⟨hk, ⟨L, o, hf, hn, ho, hd⟩, hr⟩ := hl
      have hL : L ∈ X.fs := hs L (by unfold frs; rw [List.filterMap_cons, hf]; exact List.mem_cons_self)
      obtain ⟨sl, e⟩ := I.base.slot L o ho (I.ok.frf L hL) hL fun z => I.ok.exfs L z hL
      exact ⟨hk, ⟨L, _, hf, hn, e, hd⟩, ih (fun b hb => hs b (by unfold frs; rw [List.filterMap_cons, hf]; exact List.mem_cons_of_mem _ hb)) hr⟩
  exact all X.outer (fun _ hb => hb) I.ok.funs

/-- the frames that run, for a call -/
theorem Inv.stack (I : Inv X pins σ H s) : s.heap.FunFrames X.base X.stack := by
  rcases I.ok.stk with e | ⟨e, hf⟩
  · rw [e]; exact I.funs
  · rw [e]
    obtain ⟨m, hn, _⟩ := I.loc
    refine .cons (by rw [I.ok.kind]; decide) hf hn ?_ I.funs
    exact Heap.get?_none_of_le (Nat.le_trans I.ok.bsz I.ok.above)
theorem Inv.stkSub (I : Inv X pins σ H s) : ∀ b ∈ frs X.stack, b ∈ X.env.locals :: X.fs := fun b hb => by
  rcases I.ok.stk with e | ⟨e, hf⟩
  · rw [e] at hb; exact List.mem_cons_of_mem _ hb
  · rw [e] at hb
    unfold frs at hb
    rw [List.filterMap_cons, hf] at hb
    exact hb
theorem Inv.stkFree (I : Inv X pins σ H s) : ∀ b ∈ frs X.stack, H b = none := fun b hb => by
  rcases List.mem_cons.mp (I.stkSub b hb) with e | hb
  · rw [e]; exact I.free
  · obtain ⟨_, o, ho, _⟩ := I.ok.funs.mem hb
    exact I.base.free b o ho (I.ok.frf b hb) fun z => I.ok.exfs b z hb

/-- THE STEP: the untracked objects but the frame and the records at ch are kept (the callers' frames up to slots), the frame's map is kept, the new abstract heap is held -/
theorem Inv.step {g' : Array GenState} {t' : Nat} {d' : Drawn} {ch : List Addr} (I : Inv X pins σ H s)
    (hch : ∀ b ∈ ch, (b ∈ X.ex ∨ X.s₀.heap.objs.size ≤ b) ∧ b ≠ X.env.locals ∧ (∀ x c, X.env.cells.lookup x = some c → c ≠ b) ∧ ∀ p ∈ X.pn ++ pins, p.1 ≠ b)
    (keep : ∀ b o, b ≠ X.env.locals → b ∉ X.fs → b ∉ ch → s.heap.get? b = some o → H b = none → h'.get? b = some o)
    (slot : ∀ b o, b ≠ X.env.locals → b ∈ X.fs → b ∉ ch → s.heap.get? b = some o → H b = none → ∃ sl, h'.get? b = some { o with slots := sl }) (free : ∀ b o, b ∉ ch → s.heap.get? b = some o → H b = none → H' b = none)
    (there : ∀ b o, b ∉ ch → s.heap.get? b = some o → ∃ o', h'.get? b = some o')
    (tups : ∀ b xs, H b = some (.tup xs) → H' b = some (.tup xs)) (frzs : ∀ b o u, H b = some (.frz o u) → H' b = some (.frz o u)) (tbls : ∀ b ps, H b = some (.tbl ps) → ∃ more, H' b = some (.tbl (ps ++ more)))
    (ns : ∀ m, s.heap.Ns X.env.locals m → h'.Ns X.env.locals m) (hok : HOk X.prog X.w H' h') (hg : AllBare g') :
    Inv X pins σ H' { s with heap := h', gens := g', drawn := d', toks := t' } := by
  have neL : ∀ b o, X.s₀.heap.get? b = some o → b ≠ X.env.locals := fun b o e => Nat.ne_of_lt (Nat.lt_of_lt_of_le (Heap.lt_size e) I.ok.above)
  have neC : ∀ b o, X.s₀.heap.get? b = some o → b ∉ X.ex → b ∉ ch := fun b o e hx hb => by
    rcases (hch b hb).1 with z | z
    · exact hx z
    · exact absurd (Nat.lt_of_lt_of_le (Heap.lt_size e) z) (Nat.lt_irrefl _)
  have cellK : ∀ x c, X.env.cells.lookup x = some c → ∀ v, s.heap.IsCell c v → h'.IsCell c v := fun x c e v ⟨o, ho, hd⟩ => by
    have nch : c ∉ ch := fun z => (hch c z).2.2.1 x c e rfl
    by_cases hc : c ∈ X.fs
    · obtain ⟨sl, q⟩ := slot c o (I.cne x c e) hc nch ho (I.freeC x c e)
      exact ⟨_, q, hd⟩
    · exact ⟨o, keep c o (I.cne x c e) hc nch ho (I.freeC x c e), hd⟩
  refine ⟨I.ok, I.os, hg, ⟨fun b o e n hb hx => ?_, fun b o e n hb hx => ?_, fun b o e n hx => ?_, fun b o e hx => ?_, fun b xs e => tups b xs (I.base.tups b xs e), fun b o xs e => frzs b o xs (I.base.frzs b o xs e), fun b ps e => ?_⟩, ?_, fun x c e => ?_, ?_, fun x c e => ?_, fun p hp => ?_, hok, I.len⟩
  · exact keep b o (neL b o e) hb (neC b o e hx) (I.base.keep b o e n hb hx) (I.base.free b o e n hx)
  · obtain ⟨sl, e1⟩ := I.base.slot b o e n hb hx
    obtain ⟨sl', e2⟩ := slot b _ (neL b o e) hb (neC b o e hx) e1 (I.base.free b o e n hx)
    exact ⟨sl', e2⟩
  · obtain ⟨o', e1⟩ := I.base.there b o e hx
    exact free b o' (neC b o e hx) e1 (I.base.free b o e n hx)
  · obtain ⟨o', e1⟩ := I.base.there b o e hx
    exact there b o' (neC b o e hx) e1
  · obtain ⟨m1, e1⟩ := I.base.tbls b ps e
    obtain ⟨m2, e2⟩ := tbls b _ e1
    exact ⟨m1 ++ m2, by rw [e2, Array.append_assoc]⟩
  · obtain ⟨m, hn, hl⟩ := I.loc
    refine ⟨m, ns m hn, fun i x v e1 e2 e3 => ?_⟩
    obtain ⟨u, r, l⟩ := hl i x v e1 e2 e3
    refine ⟨u, r, ?_⟩
    rcases l with l | ⟨k, c, e, z⟩
    · exact .inl l
    · exact .inr ⟨k, c, e, cellK x c e _ z⟩
  · obtain ⟨v, z⟩ := I.cell x c e
    exact ⟨v, cellK x c e v z⟩
  · obtain ⟨m, ⟨o, _, _, ho, _⟩, _⟩ := I.loc
    exact free _ o (fun z => (hch _ z).2.1 rfl) ho I.free
  · obtain ⟨v, o, ho, hd⟩ := I.cell x c e
    exact free c o (fun z => (hch c z).2.2.1 x c e rfl) ho (I.freeC x c e)
  · obtain ⟨e, n, ne, nf, d⟩ := I.pin p hp
    have nch : p.1 ∉ ch := fun z => (hch p.1 z).2.2.2 p hp rfl
    exact ⟨keep p.1 p.2 ne nf nch e n, free p.1 p.2 nch e n, ne, nf, d⟩
/-- .. where the frame's own object is kept too -/
theorem Inv.un {t' : Nat} (I : Inv X pins σ H s) (u : Un X.fs [] H H' s.heap h') (hok : HOk X.prog X.w H' h') : Inv X pins σ H' { s with heap := h', toks := t' } := by
  obtain ⟨m, ⟨o, es, ep, ho, r⟩, _⟩ := id I.loc
  obtain ⟨sl, hL⟩ := u.any ho I.free (by simp)
  exact I.step (g' := s.gens) (d' := s.drawn) (ch := []) (fun _ z => nomatch z) (fun b o _ hb _ e n => u.keep b o e n hb (by simp)) (fun b o _ hb _ e n => u.slot b o e n hb (by simp)) (fun b o _ e n => u.free b o e n (by simp)) (fun b o _ e => u.there b o e (by simp)) u.tups u.frzs u.tbls (fun m' hm => by
    obtain ⟨o', es', ep', ho', r'⟩ := hm
    rw [ho] at ho'; cases ho'
    exact ⟨_, es', ep', hL, r'⟩) hok I.bare
/-- behind a call (or a comprehension's block): the slots of this frame may have changed too, the records at ch may have turned -/
theorem Inv.call {g' : Array GenState} {t' : Nat} {d' : Drawn} {ch : List Addr} (I : Inv X pins σ H s) (u : Un (frs X.stack) ch H H' s.heap h') (hok : HOk X.prog X.w H' h') (hg : AllBare g')
    (hch : ∀ b ∈ ch, (b ∈ X.ex ∨ X.s₀.heap.objs.size ≤ b) ∧ b ≠ X.env.locals ∧ (∀ x c, X.env.cells.lookup x = some c → c ≠ b) ∧ ∀ p ∈ X.pn ++ pins, p.1 ≠ b) :
    Inv X pins σ H' { s with heap := h', gens := g', drawn := d', toks := t' } := by
  obtain ⟨m, ⟨o, es, ep, ho, r⟩, _⟩ := id I.loc
  obtain ⟨sl, hL⟩ := u.any ho I.free fun z => (hch _ z).2.1 rfl
  exact I.step (ch := ch) hch (fun b o hL hb hc e n => u.keep b o e n (fun z => (List.mem_cons.mp (I.stkSub b z)).elim hL hb) hc) (fun b o _ _ hc e n => u.any e n hc) (fun b o hc e n => u.free b o e n hc) (fun b o hc e => u.there b o e hc) u.tups u.frzs u.tbls (fun m' hm => by
    obtain ⟨o', es', ep', ho', r'⟩ := hm
    rw [ho] at ho'; cases ho'
    exact ⟨_, es', ep', hL, r'⟩) hok hg
/-- an untracked record of ours (an iterator) has turned -/
theorem Inv.turned {t' : Nat} {it : Addr} (I : Inv X pins σ H s) (k : ∀ b o, b ≠ it → s.heap.get? b = some o → h'.get? b = some o) (hn : H it = none) (hL : it ≠ X.env.locals)
    (h1 : it ∈ X.ex ∨ X.s₀.heap.objs.size ≤ it) (h2 : ∀ x c, X.env.cells.lookup x = some c → c ≠ it) (h3 : ∀ p ∈ X.pn ++ pins, p.1 ≠ it) : Inv X pins σ H { s with heap := h', toks := t' } := by
  have nit : ∀ b u, H b = some u → b ≠ it := fun b u e z => by rw [z, hn] at e; cases e
  refine I.step (g' := s.gens) (d' := s.drawn) (ch := [it]) (fun b hb => ?_) (fun b o _ _ hc e _ => k b o (fun z => hc (by simp [z])) e) (fun b o _ _ hc e _ => ⟨o.slots, k b o (fun z => hc (by simp [z])) e⟩) (fun _ _ _ _ n => n)
    (fun b o hc e => ⟨o, k b o (fun z => hc (by simp [z])) e⟩) (fun _ _ e => e) (fun _ _ _ e => e) (fun b ps e => ⟨#[], by rw [e]; simp⟩) (fun m hm => ?_) (fun b u e => ?_) I.bare
  · have e : b = it := by simpa using hb
    subst e
    exact ⟨h1, hL, h2, h3⟩
  · obtain ⟨o, es, ep, ho, r⟩ := hm
    exact ⟨o, es, ep, k _ o (Ne.symm hL) ho, r⟩
  · refine (I.hok b u e).stay (fun c v hc q => k c v ?_ q) (fun _ q => q) fun _ _ q => q
    rcases hc with z | z
    · rw [z]; exact nit b u e
    · exact nit c _ z
theorem Inv.tok (I : Inv X pins σ H s) (t : Nat) : Inv X pins σ H { s with toks := t } := I.un (h' := s.heap) (t' := t) Un.refl I.hok
/-- all objects kept -/
theorem Inv.kept {t' : Nat} (I : Inv X pins σ H s) (k : ∀ b u, s.heap.get? b = some u → h'.get? b = some u) : Inv X pins σ H { s with heap := h', toks := t' } := I.un (Un.kept k) (I.hok.kept k)
/-- a new object laid and tracked -/
theorem Inv.laid {a : Addr} {o : HO} {t' : Nat} (I : Inv X pins σ H s) (k : ∀ b u, s.heap.get? b = some u → h'.get? b = some u) (hp : s.heap.objs.size ≤ a) (new : ObjOk X.prog X.w (upd H a o) h' a o) :
    Inv X pins σ (upd H a o) { s with heap := h', toks := t' } := I.un (Un.laid k hp (I.hok.fresh hp)) (I.hok.laid k hp new)
/-- an object written -/
theorem Inv.write {x e : Addr} {o : HO} {t' : Nat} (I : Inv X pins σ H s) (mu : Mut (H x)) (he : e = x ∨ H e = some (.own x)) (k : ∀ b u, b ≠ e → s.heap.get? b = some u → h'.get? b = some u) (heo : ∃ u, h'.get? e = some u)
    (new : ObjOk X.prog X.w (upd H x o) h' x o) : Inv X pins σ (upd H x o) { s with heap := h', toks := t' } := I.un (Un.write mu he k heo) (I.hok.write mu he k heo new)
/-- forgetting slots, pins -/
theorem Inv.weak {σ' : List (Option V)} (I : Inv X pins σ H s) (hl : σ'.length = σ.length) (w : ∀ (i : Nat) v, σ'[i]? = some (some v) → σ[i]? = some (some v)) : Inv X pins σ' H s :=
  ⟨I.ok, I.os, I.bare, I.base, let ⟨m, hn, hl'⟩ := I.loc; ⟨m, hn, fun i x v e1 e2 e3 => hl' i x v e1 (w i v e2) e3⟩, I.cell, I.free, I.freeC, I.pin, I.hok, hl.trans I.len⟩
theorem Inv.pins_of {pins' : List (Addr × Obj)} (I : Inv X pins σ H s) (h : ∀ p ∈ pins', s.heap.get? p.1 = some p.2 ∧ H p.1 = none ∧ p.1 ≠ X.env.locals ∧ p.1 ∉ X.fs ∧ ∀ v, p.2.data ≠ .cell v) : Inv X pins' σ H s :=
  ⟨I.ok, I.os, I.bare, I.base, I.loc, I.cell, I.free, I.freeC, fun p hp => (List.mem_append.mp hp).elim (fun z => I.pin p (List.mem_append_left _ z)) (h p), I.hok, I.len⟩

theorem nodup_ix {N : List Str} (hN : N.Nodup) {i j : Nat} {x : Str} (a : N[i]? = some x) (b : N[j]? = some x) : i = j := by
  obtain ⟨h1, e1⟩ := List.getElem?_eq_some_iff.mp a
  obtain ⟨h2, e2⟩ := List.getElem?_eq_some_iff.mp b
  exact (List.getElem_inj hN).mp (e1.trans e2.symm)

/-- a name is stored; what changed -/
theorem store_ok2 {M : Model} {A : Around} {E : Value → Shared → Prop} {i : Nat} {x : Str} {v : V} {u : Value} {Q : Unit → Shared → Prop} (I : Inv X pins σ H s) (hN : X.N.Nodup) (hi : X.N[i]? = some x) (hx : Loc X.env.scope x) (r : RelV v u)
    (h : ∀ s', Inv X pins (σ.set i (some v)) H s' → (∃ a, Heap.SameBut a s.heap s'.heap ∧ (a = X.env.locals ∨ X.env.cells.lookup x = some a)) → Q () s') (hf : X.fn x = true ∨ X.env.scope.names.lookup x = some .local := by first | exact .inl rfl | exact .inr rfl | assumption) : wpAny M A (storeName X.env x u) Q E s := by
  obtain ⟨m, hn, hl⟩ := id I.loc
  have hcls : (X.env.scope.kind == .class || (X.env.scope.kind == .module && X.env.locals != X.env.globals)) = false := by rw [I.ok.kind]; rfl
  have hiσ : i < σ.length := by rw [I.len]; exact (List.getElem?_eq_some_iff.mp hi).1
  have cne := I.cne
  have tracked : ∀ {a : Addr} {h' : Heap}, (∃ o, s.heap.get? a = some o ∧ H a = none) → Heap.SameBut a s.heap h' → HOk X.prog X.w H h' := fun {a h'} ha hs b ob e => by
    obtain ⟨_, _, hfree⟩ := ha
    refine (I.hok b ob e).stay (fun c w' hc q => (hs.2 c ?_).trans q) (fun _ q => q) fun _ _ q => q
    rintro rfl
    rcases hc with rfl | hc
    · rw [hfree] at e; cases e
    · rw [hfree] at hc; cases hc
  rcases hx with hk | hk
  · refine wpAny_storeName_local hk hn (fun h' hn' hs => ?_) hcls
    obtain ⟨oL, _, _, hoL, _⟩ := id hn
    refine h _ ⟨I.ok, I.os, I.bare, ⟨fun b o e n hb hx => ?_, fun b o e n hb hx => ?_, I.base.free, fun b o e hx => ?_, I.base.tups, I.base.frzs, I.base.tbls⟩, ⟨_, hn', fun j y v' e1 e2 e3 => ?_⟩, fun y c e => ?_, I.free, I.freeC, fun p hp => ?_, tracked ⟨oL, hoL, I.free⟩ hs, by simpa using I.len⟩ ⟨_, hs, .inl rfl⟩
    · exact (hs.2 b (Nat.ne_of_lt (Nat.lt_of_lt_of_le (Heap.lt_size e) I.ok.above))).trans (I.base.keep b o e n hb hx)
    · obtain ⟨sl, e1⟩ := I.base.slot b o e n hb hx
      exact ⟨sl, (hs.2 b (Nat.ne_of_lt (Nat.lt_of_lt_of_le (Heap.lt_size e) I.ok.above))).trans e1⟩
    · obtain ⟨o', e1⟩ := I.base.there b o e hx
      exact ⟨o', (hs.2 b (Nat.ne_of_lt (Nat.lt_of_lt_of_le (Heap.lt_size e) I.ok.above))).trans e1⟩
    · by_cases hj : j = i
      · subst hj
        rw [hi] at e1; cases e1
        rw [List.getElem?_set_self hiσ] at e2
        cases e2
        exact ⟨u, r, .inl ⟨hk, by simp⟩⟩
      · rw [List.getElem?_set_ne (Ne.symm hj)] at e2
        obtain ⟨u', r', q⟩ := hl j y v' e1 e2 e3
        refine ⟨u', r', ?_⟩
        rcases q with ⟨k, e⟩ | ⟨k, c, e, z⟩
        · refine .inl ⟨k, ?_⟩
          have : y ≠ x := fun e => hj (nodup_ix hN e1 (e ▸ hi))
          simp [this, e]
        · exact .inr ⟨k, c, e, z.sameBut hs (cne y c e)⟩
    · obtain ⟨w', z⟩ := I.cell y c e
      exact ⟨w', z.sameBut hs (cne y c e)⟩
    · obtain ⟨e, n, ne, nf, d⟩ := I.pin p hp
      exact ⟨(hs.2 p.1 ne).trans e, n, ne, nf, d⟩
  · have hfn : X.fn x = true := by
      rcases hf with z | z
      · exact z
      · rw [z] at hk; cases hk
    obtain ⟨c, hc⟩ := I.ok.has x (.inl hk)
    obtain ⟨w', z⟩ := I.cell x c hc
    refine wpAny_storeName_cell I.ok.kind hk hc z (fun h' hc' hs => ?_)
    obtain ⟨oc, hoc, hocd⟩ := id z
    refine h { s with heap := h' } ⟨I.ok, I.os, I.bare, ⟨fun b o e n hb hx => ?_, fun b o e n hb hx => ?_, I.base.free, fun b o e hx => ?_, I.base.tups, I.base.frzs, I.base.tbls⟩, ⟨m, hn.sameBut hs (Ne.symm (cne x c hc)), fun j y v' e1 e2 e3 => ?_⟩, fun y c' e => ?_, I.free, I.freeC, fun p hp => ?_, tracked ⟨oc, hoc, I.freeC x c hc⟩ hs, by simpa using I.len⟩ ⟨c, hs, .inr hc⟩
    · exact (hs.2 b (Nat.ne_of_lt (Nat.lt_of_lt_of_le (Heap.lt_size e) (I.ok.cab x c hfn hc)))).trans (I.base.keep b o e n hb hx)
    · obtain ⟨sl, e1⟩ := I.base.slot b o e n hb hx
      exact ⟨sl, (hs.2 b (Nat.ne_of_lt (Nat.lt_of_lt_of_le (Heap.lt_size e) (I.ok.cab x c hfn hc)))).trans e1⟩
    · obtain ⟨o', e1⟩ := I.base.there b o e hx
      exact ⟨o', (hs.2 b (Nat.ne_of_lt (Nat.lt_of_lt_of_le (Heap.lt_size e) (I.ok.cab x c hfn hc)))).trans e1⟩
    · by_cases hj : j = i
      · subst hj
        rw [hi] at e1; cases e1
        rw [List.getElem?_set_self hiσ] at e2
        cases e2
        exact ⟨u, r, .inr ⟨.inl hk, c, hc, hc'⟩⟩
      · rw [List.getElem?_set_ne (Ne.symm hj)] at e2
        obtain ⟨u', r', q⟩ := hl j y v' e1 e2 e3
        refine ⟨u', r', ?_⟩
        rcases q with q | ⟨k, c', e, z'⟩
        · exact .inl q
        · refine .inr ⟨k, c', e, z'.sameBut hs ?_⟩
          rintro rfl
          exact hj (nodup_ix hN e1 (I.ok.inj _ _ _ e hc ▸ hi))
    · by_cases hcc : c' = c
      · subst hcc; exact ⟨_, hc'⟩
      · obtain ⟨w2, z2⟩ := I.cell y c' e
        exact ⟨w2, z2.sameBut hs hcc⟩
    · obtain ⟨e, n, ne, nf, d⟩ := I.pin p hp
      refine ⟨(hs.2 p.1 ?_).trans e, n, ne, nf, d⟩
      intro q
      rw [q, hoc] at e
      have q' : oc = p.2 := Option.some.inj e
      exact d w' (by rw [← q']; exact hocd)
theorem store_ok {M : Model} {A : Around} {E : Value → Shared → Prop} {i : Nat} {x : Str} {v : V} {u : Value} {Q : Unit → Shared → Prop} (I : Inv X pins σ H s) (hN : X.N.Nodup) (hi : X.N[i]? = some x) (hx : Loc X.env.scope x) (r : RelV v u)
    (h : ∀ s', Inv X pins (σ.set i (some v)) H s' → Q () s') (hf : X.fn x = true ∨ X.env.scope.names.lookup x = some .local := by first | exact .inl rfl | exact .inr rfl | assumption) : wpAny M A (storeName X.env x u) Q E s :=
  store_ok2 I hN hi hx r (fun s' I' _ => h s' I') hf
/-- behind a call or a block, the state as it is -/
theorem Inv.call' {s' : Shared} {ch : List Addr} (I : Inv X pins σ H s) (ho : s'.os = s.os) (u : Un (frs X.stack) ch H H' s.heap s'.heap) (hok : HOk X.prog X.w H' s'.heap) (hg : AllBare s'.gens)
    (hch : ∀ b ∈ ch, (b ∈ X.ex ∨ X.s₀.heap.objs.size ≤ b) ∧ b ≠ X.env.locals ∧ (∀ x c, X.env.cells.lookup x = some c → c ≠ b) ∧ ∀ p ∈ X.pn ++ pins, p.1 ≠ b) : Inv X pins σ H' s' := by
  obtain ⟨h', g', d', t', o'⟩ := s'
  have e : o' = s.os := ho
  subst e
  exact I.call (g' := g') (t' := t') (d' := d') u hok hg hch
end

/-! ### the judgements -/
/-- an exception: its class, its own dict's address (where it has one), the abstract heap behind it -/
abbrev XK := Value → Option Addr → Hp → Prop
abbrev St := List (Option V)
abbrev VK := V → Hp → Prop
/-- an expression's reading; a test's; an argument list's -/
abbrev TE := St → Hp → VK → Prop
abbrev TT := St → Hp → (Bool → Hp → Prop) → Prop
abbrev TA := St → Hp → (List V → Hp → Prop) → Prop
/-- what is wanted behind a statement -/
structure Ends where
  nx : St → Hp → Prop
  rt : VK
  bk : St → Hp → Prop := fun _ _ => False
  ct : St → Hp → Prop := fun _ _ => False
abbrev TS := Ends → St → Hp → Prop

def EP (X : Cx) (pins : List (Addr × Obj)) (σ : St) (Q : VK) (u : Value) (s' : Shared) : Prop := ∃ v H', Inv X pins σ H' s' ∧ RelV v u ∧ Q v H'
def TP (X : Cx) (pins : List (Addr × Obj)) (σ : St) (Q : Bool → Hp → Prop) (b : Bool) (s' : Shared) : Prop := ∃ H', Inv X pins σ H' s' ∧ Q b H'
def AP (X : Cx) (pins : List (Addr × Obj)) (σ : St) (Q : List V → Hp → Prop) (us : List Value) (s' : Shared) : Prop := ∃ vs H', Inv X pins σ H' s' ∧ Vals vs us ∧ Q vs H'
def SP (X : Cx) (pins : List (Addr × Obj)) (D : Ends) (f : Flow) (s' : Shared) : Prop :=
  match f with
  | .next => ∃ σ' H', Inv X pins σ' H' s' ∧ D.nx σ' H'
  | .brk => ∃ σ' H', Inv X pins σ' H' s' ∧ D.bk σ' H'
  | .cont => ∃ σ' H', Inv X pins σ' H' s' ∧ D.ct σ' H'
  | .ret u => ∃ v σ' H', Inv X pins σ' H' s' ∧ RelV v u ∧ D.rt v H'

def PE (X : Cx) (e : Expr) (t : TE) : Prop :=
  ∀ (pins : List (Addr × Obj)) (s : Shared) (σ : St) (H : Hp) (Q : VK), Inv X pins σ H s → t σ H Q → wpAny (model X.prog X.w) X.A (eval e X.env) (EP X pins σ Q) X.xe s
def PT (X : Cx) (e : Expr) (t : TT) : Prop :=
  ∀ (pins : List (Addr × Obj)) (s : Shared) (σ : St) (H : Hp) (Q : Bool → Hp → Prop), Inv X pins σ H s → t σ H Q → wpAny (model X.prog X.w) X.A (isTrue e X.env (eval e X.env)) (TP X pins σ Q) X.xe s
/-- a test whatever its 'whole' is (and, or) -/
def PW (X : Cx) (e : Expr) (t : TT) : Prop :=
  ∀ (whole : Sem Value) (pins : List (Addr × Obj)) (s : Shared) (σ : St) (H : Hp) (Q : Bool → Hp → Prop), Inv X pins σ H s → t σ H Q → wpAny (model X.prog X.w) X.A (isTrue e X.env whole) (TP X pins σ Q) X.xe s
theorem PW.pt {X : Cx} {e : Expr} {t : TT} (h : PW X e t) : PT X e t := h _
/-- an argument list (no star), from the left -/
def PA (X : Cx) (es : List Expr) (t : TA) : Prop :=
  ∀ (pos : Pos) (pins : List (Addr × Obj)) (s : Shared) (σ : St) (H : Hp) (Q : List V → Hp → Prop), Inv X pins σ H s → t σ H Q → wpAny (model X.prog X.w) X.A (spliced (backTo pos (starEach es X.env))) (AP X pins σ Q) X.xe s
def PS (X : Cx) (st : Stmt) (t : TS) : Prop :=
  ∀ (pins : List (Addr × Obj)) (s : Shared) (σ : St) (H : Hp) (D : Ends), Inv X pins σ H s → t D σ H → wpAny (model X.prog X.w) X.A (exec st X.env) (SP X pins D) X.xe s
def PSs (X : Cx) (st : List Stmt) (t : TS) : Prop :=
  ∀ (pins : List (Addr × Obj)) (s : Shared) (σ : St) (H : Hp) (D : Ends), Inv X pins σ H s → t D σ H → wpAny (model X.prog X.w) X.A (execs st X.env) (SP X pins D) X.xe s
/-- weaken the end -/
theorem thn {α : Type} {t : Sem α} {Q Q' : α → Shared → Prop} {M : Model} {A : Around} {E : Value → Shared → Prop} {s : Shared} (h : wpAny M A t Q E s) (hQ : ∀ a s, Q a s → Q' a s) : wpAny M A t Q' E s := wpAny_mono h hQ fun _ _ x => x
end L2

namespace L2
open PySem PySem.Spec PyProof.Rows
section
variable {X : Cx}

/-- two expressions in a row -/
theorem bin {a b : Expr} {ta tb : TE} (ha : PE X a ta) (hb : PE X b tb) {pins : List (Addr × Obj)} {s : Shared} {σ : St} {H : Hp} {R : V → V → Hp → Prop} (I : Inv X pins σ H s) (h : ta σ H fun x H1 => tb σ H1 fun y H2 => R x y H2)
    {α : Type} {Q : α → Shared → Prop} {f : Value → Value → Sem α}
    (hf : ∀ v u s2 x y H2, Inv X pins σ H2 s2 → RelV x v → RelV y u → R x y H2 → wpAny (model X.prog X.w) X.A (f v u) Q X.xe s2) :
    wpAny (model X.prog X.w) X.A (eval a X.env) (fun v s₁ => wpAny (model X.prog X.w) X.A (eval b X.env) (fun u s₂ => wpAny (model X.prog X.w) X.A (f v u) Q X.xe s₂) X.xe s₁) X.xe s := by
  refine thn (ha pins s σ H _ I h) fun v s1 ⟨x, H1, I1, r1, q1⟩ => ?_
  refine thn (hb pins s1 σ H1 _ I1 q1) fun u s2 ⟨y, H2, I2, r2, q2⟩ => ?_
  exact hf v u s2 x y H2 I2 r1 r2 q2

/-! ### names and constants -/
def tVar (i : Nat) : TE := fun σ H Q => ∃ v, σ[i]? = some (some v) ∧ Q v H
def tC (v : V) : TE := fun _ H Q => Q v H
theorem pe_var {i : Nat} {x : Str} {pos : Pos} (hN : X.N[i]? = some x) (hv : Vis X.env.scope x) (hd : (x == ("__debug__" : Str)) = false := by decide) (hcd : (x == ("__classdict__" : Str)) = false := by decide) : PE X (.Name x pos) (tVar i) := by
  intro pins s σ H Q I h
  obtain ⟨v, e, h⟩ := h
  obtain ⟨m, hn, hl⟩ := I.loc
  obtain ⟨u, r, l⟩ := hl i x v hN e hv
  have fin : EP X pins σ Q u s := ⟨v, H, I, r, h⟩
  rcases l with ⟨hk, hm⟩ | ⟨hk, c, hc, hcell⟩
  · exact wpAny_Name (wpAny_loadName_local I.ok.kind hk hn hm fin) hd
  · rcases hk with hk | hk
    · exact wpAny_Name (wpAny_loadName_cell I.ok.kind hk hc hcell fin) hd
    · exact wpAny_Name (wpAny_loadName_free I.ok.kind hk hc hcell fin hcd) hd
theorem pe_int {i j pos} : PE X (.Constant (.int i) j pos) (tC (.int i)) := fun _ _ _ H _ I h => wpAny_Constant_int ⟨.int i, H, I.tok _, ⟨_, rfl⟩, h⟩
theorem pe_bl {b j pos} : PE X (.Constant (.bool b) j pos) (tC (.bl b)) := fun _ _ _ H _ I h => Constant_bool ⟨.bl b, H, I, rfl, h⟩
theorem pe_non {j pos} : PE X (.Constant .none j pos) (tC .non) := fun _ _ _ H _ I h => Constant_none ⟨.non, H, I, rfl, h⟩
theorem pe_str {x j pos} : PE X (.Constant (.str x) j pos) (tC (.str x)) := fun _ _ _ H _ I h => Calls.Constant_str ⟨.str x, H, I.tok _, ⟨_, rfl⟩, h⟩

/-- a global name of the def -/
def Gl (X : Cx) (x : Str) : Prop := X.env.kindOf x = some .globalImplicit
theorem ld_glob {E : Value → Shared → Prop} {pins : List (Addr × Obj)} {s : Shared} {σ : St} {H : Hp} {x : Str} {u : Value} {pos : Pos} {Q : Value → Shared → Prop} (I : Inv X pins σ H s) (hg : Gl X x) (hm : X.mg x = some u) (h : Q u s)
    (hd : (x == ("__debug__" : Str)) = false := by decide) : wpAny (model X.prog X.w) X.A (eval (.Name x pos) X.env) Q E s :=
  Calls.Name_function_global I.ok.kind hg (Calls.loadGlobal_global (by rw [I.ok.glob]; exact I.mod.glob.keeps I.bk) hm h) hd
theorem ld_blt {E : Value → Shared → Prop} {pins : List (Addr × Obj)} {s : Shared} {σ : St} {H : Hp} {x : Str} {u : Value} {pos : Pos} {Q : Value → Shared → Prop} (I : Inv X pins σ H s) (hg : Gl X x) (hm : X.mg x = none) (hv : bootBuiltins x = some u) (h : Q u s)
    (hn : x ≠ "__name__" := by decide) (hd : (x == ("__debug__" : Str)) = false := by decide) : wpAny (model X.prog X.w) X.A (eval (.Name x pos) X.env) Q E s := by
  obtain ⟨mb, h1, h2⟩ := I.mod.blt
  exact Calls.Name_function_global I.ok.kind hg (Calls.loadGlobal_builtin (by rw [I.ok.glob]; exact I.mod.glob.keeps I.bk) hm (by rw [I.ok.blt]; exact h1.keeps I.bk) ((h2 x hn).trans hv) h) hd
/-- a module's constant, a class, a function, as a value -/
theorem pe_glob {x : Str} {v : V} {u : Value} {pos : Pos} (hg : Gl X x) (hm : X.mg x = some u) (r : RelV v u) (hd : (x == ("__debug__" : Str)) = false := by decide) : PE X (.Name x pos) (tC v) :=
  fun _ _ _ H _ I h => ld_glob I hg hm ⟨v, H, I, r, h⟩ hd
theorem pe_bltn {x : Str} {v : V} {u : Value} {pos : Pos} (hg : Gl X x) (hm : X.mg x = none) (hv : bootBuiltins x = some u) (r : RelV v u) (hn : x ≠ "__name__" := by decide) (hd : (x == ("__debug__" : Str)) = false := by decide) : PE X (.Name x pos) (tC v) :=
  fun _ _ _ H _ I h => ld_blt I hg hm hv ⟨v, H, I, r, h⟩ hn hd

/-! ### arithmetic -/
/-- two ints -/
def t2I (ta tb : TE) (k : Int → Int → Hp → Prop) : St → Hp → Prop := fun σ H => ta σ H fun x H1 => tb σ H1 fun y H2 => ∃ i j, x = .int i ∧ y = .int j ∧ k i j H2
def tAdd (ta tb : TE) : TE := fun σ H Q => t2I ta tb (fun i j H2 => Q (.int (i + j)) H2) σ H
def tSub (ta tb : TE) : TE := fun σ H Q => t2I ta tb (fun i j H2 => Q (.int (i - j)) H2) σ H
/-- the left factor below 2^64 -/
def tMul (ta tb : TE) : TE := fun σ H Q => t2I ta tb (fun i j H2 => (-(2 ^ 64) < i ∧ i < 2 ^ 64) ∧ Q (.int (i * j)) H2) σ H
variable {a b : Expr} {ta tb : TE} {pos : Pos}
theorem pe_add (ha : PE X a ta) (hb : PE X b tb) : PE X (.BinOp a .Add b pos) (tAdd ta tb) := by
  intro pins s σ H Q I h
  refine wpAny_BinOp (bin ha hb I h fun v u s2 x y H2 I2 rx ry q => ?_)
  obtain ⟨i, j, rfl, rfl, q⟩ := q
  obtain ⟨t, rfl⟩ := rx
  obtain ⟨t', rfl⟩ := ry
  exact add_int ⟨.int _, H2, I2.tok _, ⟨_, rfl⟩, q⟩
theorem pe_sub (ha : PE X a ta) (hb : PE X b tb) : PE X (.BinOp a .Sub b pos) (tSub ta tb) := by
  intro pins s σ H Q I h
  refine wpAny_BinOp (bin ha hb I h fun v u s2 x y H2 I2 rx ry q => ?_)
  obtain ⟨i, j, rfl, rfl, q⟩ := q
  obtain ⟨t, rfl⟩ := rx
  obtain ⟨t', rfl⟩ := ry
  exact sub_int ⟨.int _, H2, I2.tok _, ⟨_, rfl⟩, q⟩
theorem pe_mul (ha : PE X a ta) (hb : PE X b tb) : PE X (.BinOp a .Mult b pos) (tMul ta tb) := by
  intro pins s σ H Q I h
  refine wpAny_BinOp (bin ha hb I h fun v u s2 x y H2 I2 rx ry q => ?_)
  obtain ⟨i, j, rfl, rfl, ⟨q1, q2⟩, q⟩ := q
  obtain ⟨t, rfl⟩ := rx
  obtain ⟨t', rfl⟩ := ry
  exact mul_int ⟨.int _, H2, I2.tok _, ⟨_, rfl⟩, q⟩ (.of_left (intBits_le_64 q1 q2))

/-! ### comparisons -/
def PC (X : Cx) (op : CmpOp) (a b : Expr) (t : TE) : Prop :=
  ∀ (pins : List (Addr × Obj)) (s : Shared) (σ : St) (H : Hp) (Q : VK), Inv X pins σ H s → t σ H Q →
    wpAny (model X.prog X.w) X.A (eval a X.env) (fun v s₁ => wpAny (model X.prog X.w) X.A (eval b X.env) (fun u s₂ => wpAny (model X.prog X.w) X.A (compareOp op v u) (EP X pins σ Q) X.xe s₂) X.xe s₁) X.xe s
theorem nobehind (b : Expr) {op : CmpOp} (h : op ≠ .In) (h2 : op ≠ .NotIn) : behindInMarks op b = false := by
  have e1 : (op == CmpOp.In) = false := by cases op <;> first | rfl | exact absurd rfl h
  have e2 : (op == CmpOp.NotIn) = false := by cases op <;> first | rfl | exact absurd rfl h2
  cases b <;> simp [behindInMarks, e1, e2]
def tCmp (p : Int → Int → Bool) (ta tb : TE) : TE := fun σ H Q => t2I ta tb (fun i j H2 => Q (.bl (p i j)) H2) σ H
abbrev tLt : TE → TE → TE := tCmp fun i j => decide (i < j)
abbrev tLe : TE → TE → TE := tCmp fun i j => decide (i ≤ j)
abbrev tGt : TE → TE → TE := tCmp fun i j => decide (j < i)
abbrev tGe : TE → TE → TE := tCmp fun i j => decide (j ≤ i)
abbrev tEqI : TE → TE → TE := tCmp fun i j => decide (i = j)
abbrev tNeI : TE → TE → TE := tCmp fun i j => !decide (i = j)
/-- a comparison of two ints, by its rule -/
theorem pc_int {op : CmpOp} {p : Int → Int → Bool} (ha : PE X a ta) (hb : PE X b tb)
    (rule : ∀ (i j : Int) (t u : Tok) (Q : Value → Shared → Prop) (s : Shared), Q (.bool (p i j)) s → wpAny (model X.prog X.w) X.A (compareOp op (.int i t) (.int j u)) Q X.xe s) : PC X op a b (tCmp p ta tb) := by
  intro pins s σ H Q I h
  refine bin ha hb I h fun v u s2 x y H2 I2 rx ry q => ?_
  obtain ⟨i, j, rfl, rfl, q⟩ := q
  obtain ⟨t, rfl⟩ := rx
  obtain ⟨t', rfl⟩ := ry
  exact rule i j t t' _ s2 ⟨.bl _, H2, I2, rfl, q⟩
theorem pc_lt (ha : PE X a ta) (hb : PE X b tb) : PC X .Lt a b (tLt ta tb) := pc_int ha hb fun _ _ _ _ _ _ h => lt_int h
theorem pc_le (ha : PE X a ta) (hb : PE X b tb) : PC X .LtE a b (tLe ta tb) := pc_int ha hb fun _ _ _ _ _ _ h => le_int h
theorem pc_gt (ha : PE X a ta) (hb : PE X b tb) : PC X .Gt a b (tGt ta tb) := pc_int ha hb fun _ _ _ _ _ _ h => gt_int h
theorem pc_ge (ha : PE X a ta) (hb : PE X b tb) : PC X .GtE a b (tGe ta tb) := pc_int ha hb fun _ _ _ _ _ _ h => ge_int h
theorem pc_eqI (ha : PE X a ta) (hb : PE X b tb) : PC X .Eq a b (tEqI ta tb) := pc_int ha hb fun _ _ _ _ _ _ h => eq_int (by rw [Bool.beq_eq_decide_eq]; exact h)
theorem pc_neI (ha : PE X a ta) (hb : PE X b tb) : PC X .NotEq a b (tNeI ta tb) := pc_int ha hb fun _ _ _ _ _ _ h => ne_int (by rw [bne, Bool.beq_eq_decide_eq]; exact h)
/-- is None -/
def tIsN (ta : TE) : TE := fun σ H Q => ta σ H fun x H1 => Q (.bl (decide (x = .non))) H1
def tNotN (ta : TE) : TE := fun σ H Q => ta σ H fun x H1 => Q (.bl (!decide (x = .non))) H1
theorem RelV.none_iff {x : V} {v : Value} (r : RelV x v) : (v == Value.none) = decide (x = .non) := by
  cases x with
  | non => cases r; rfl
  | bl _ => cases r; rfl
  | int _ => obtain ⟨t, rfl⟩ := r; rfl
  | str _ => obtain ⟨t, rfl⟩ := r; rfl
  | byt _ => obtain ⟨t, rfl⟩ := r; rfl
  | flt _ => obtain ⟨t, rfl⟩ := r; rfl
  | ref _ => cases r; rfl
  | ty _ => cases r; rfl
theorem pc_isN {j pos'} (ha : PE X a ta) : PC X .Is a (.Constant .none j pos') (tIsN ta) := by
  intro pins s σ H Q I h
  refine thn (ha pins s σ H _ I h) fun v s1 ⟨x, H1, I1, r1, q1⟩ => ?_
  exact Constant_none (is_none_gen ⟨.bl _, H1, I1, by rw [r1.none_iff]; rfl, q1⟩)
theorem pc_notN {j pos'} (ha : PE X a ta) : PC X .IsNot a (.Constant .none j pos') (tNotN ta) := by
  intro pins s σ H Q I h
  refine thn (ha pins s σ H _ I h) fun v s1 ⟨x, H1, I1, r1, q1⟩ => ?_
  exact Constant_none (isnot_none_gen ⟨.bl _, H1, I1, by rw [r1.none_iff]; rfl, q1⟩)
/-- a comparison as a value, as a test -/
def tB (t : TE) : TT := fun σ H Q => t σ H fun x H1 => ∃ c, x = .bl c ∧ Q c H1
theorem pe_cmp {op : CmpOp} {t : TE} (h : PC X op a b t) (h1 : behindInMarks op b = false := by first | exact nobehind _ (by decide) (by decide) | rfl) : PE X (.Compare a [op] [b] pos) t := fun pins s σ H Q I hw => wpAny_Compare1 (h pins s σ H Q I hw) h1
theorem pt_cmp {op : CmpOp} {t : TE} (h : PC X op a b t) (h1 : behindInMarks op b = false := by first | exact nobehind _ (by decide) (by decide) | rfl) : PT X (.Compare a [op] [b] pos) (tB t) := by
  intro pins s σ H Q I hw
  refine wpAny_isTrue_Compare1 (thn (h pins s σ H _ I hw) fun v s1 h1 => thn h1 fun u s2 h2 => thn h2 fun c s3 ⟨x, H1, I1, r1, q1⟩ => ?_) h1
  obtain ⟨d, rfl, q⟩ := q1
  cases r1
  exact wpAny_truthy_bool ⟨H1, I1, q⟩
/-- an expression whose value is a bool, as a test -/
theorem pt_val {e : Expr} {t : TE} (h : PE X e t) (he : ∀ whole, isTrue e X.env whole = (do let v ← whole; standAt e.pos; holding [v] (truthy v)) := by intro _; rfl) : PT X e (tB t) := by
  intro pins s σ H Q I hw
  refine isTrue_plain (thn (h pins s σ H _ I hw) fun v s1 ⟨x, H1, I1, r1, q1⟩ => ?_) (he _)
  obtain ⟨d, rfl, q⟩ := q1
  cases r1
  exact wpAny_truthy_bool ⟨H1, I1, q⟩

/-! ### and, or, not -/
variable {tA tB' : TT} {rest : List Expr}
def tAnd (t u : TT) : TT := fun σ H Q => t σ H fun c H1 => if c = true then u σ H1 Q else Q false H1
def tOr (t u : TT) : TT := fun σ H Q => t σ H fun c H1 => if c = true then Q true H1 else u σ H1 Q
def tNot (t : TT) : TT := fun σ H Q => t σ H fun c H1 => Q (!c) H1
theorem pw_and1 (ha : PT X a tA) : PW X (.BoolOp .And [a] pos) tA := by
  intro wh pins s σ H Q I h
  refine isTrue_and (thn (ha pins s σ H Q I h) fun c s1 e => ?_)
  cases c with
  | true => exact isTrue_and_nil e
  | false => exact e
theorem pw_or1 (ha : PT X a tA) : PW X (.BoolOp .Or [a] pos) tA := by
  intro wh pins s σ H Q I h
  refine isTrue_or (thn (ha pins s σ H Q I h) fun c s1 e => ?_)
  cases c with
  | false => exact isTrue_or_nil e
  | true => exact e
theorem pw_and (ha : PT X a tA) (hb : PW X (.BoolOp .And (b :: rest) pos) tB') : PW X (.BoolOp .And (a :: b :: rest) pos) (tAnd tA tB') := by
  intro wh pins s σ H Q I h
  refine isTrue_and (thn (ha pins s σ H _ I h) fun c s1 ⟨H1, I1, q1⟩ => ?_)
  cases c with
  | true => exact hb wh pins s1 σ H1 Q I1 q1
  | false => exact ⟨H1, I1, q1⟩
theorem pw_or (ha : PT X a tA) (hb : PW X (.BoolOp .Or (b :: rest) pos) tB') : PW X (.BoolOp .Or (a :: b :: rest) pos) (tOr tA tB') := by
  intro wh pins s σ H Q I h
  refine isTrue_or (thn (ha pins s σ H _ I h) fun c s1 ⟨H1, I1, q1⟩ => ?_)
  cases c with
  | true => exact ⟨H1, I1, q1⟩
  | false => exact hb wh pins s1 σ H1 Q I1 q1
theorem pt_not (ha : PT X a tA) : PT X (.UnaryOp .Not a pos) (tNot tA) := by
  intro pins s σ H Q I h
  exact isTrue_not (ha pins s σ H (fun c H1 => Q (!c) H1) I h)
/-- .. as values (bools) -/
def tAndV (ta tb : TE) : TE := fun σ H Q => ta σ H fun x H1 => ∃ c, x = .bl c ∧ if c = true then tb σ H1 Q else Q (.bl false) H1
def tOrV (ta tb : TE) : TE := fun σ H Q => ta σ H fun x H1 => ∃ c, x = .bl c ∧ if c = true then Q (.bl true) H1 else tb σ H1 Q
def tNotV (ta : TE) : TE := fun σ H Q => ta σ H fun x H1 => ∃ c, x = .bl c ∧ Q (.bl (!c)) H1
theorem pe_one {op} {t : TE} (h : PE X a t) : PE X (.BoolOp op [a] pos) t := fun pins s σ H Q I hw => BoolOp_one (h pins s σ H Q I hw)
theorem pe_and (ha : PE X a ta) (hb : PE X (.BoolOp .And (b :: rest) pos) tb) : PE X (.BoolOp .And (a :: b :: rest) pos) (tAndV ta tb) := by
  intro pins s σ H Q I h
  refine BoolOp_and (thn (ha pins s σ H _ I h) fun v s1 ⟨x, H1, I1, r1, q1⟩ => ?_)
  obtain ⟨c, rfl, q1⟩ := q1
  cases r1
  refine wpAny_truthy_bool ?_
  cases c with
  | true => exact hb pins s1 σ H1 Q I1 q1
  | false => exact ⟨.bl false, H1, I1, rfl, q1⟩
theorem pe_or (ha : PE X a ta) (hb : PE X (.BoolOp .Or (b :: rest) pos) tb) : PE X (.BoolOp .Or (a :: b :: rest) pos) (tOrV ta tb) := by
  intro pins s σ H Q I h
  refine BoolOp_or (thn (ha pins s σ H _ I h) fun v s1 ⟨x, H1, I1, r1, q1⟩ => ?_)
  obtain ⟨c, rfl, q1⟩ := q1
  cases r1
  refine wpAny_truthy_bool ?_
  cases c with
  | false => exact hb pins s1 σ H1 Q I1 q1
  | true => exact ⟨.bl true, H1, I1, rfl, q1⟩
theorem pe_not (ha : PE X a ta) : PE X (.UnaryOp .Not a pos) (tNotV ta) := by
  intro pins s σ H Q I h
  refine UnaryOp_ (thn (ha pins s σ H _ I h) fun v s1 ⟨x, H1, I1, r1, q1⟩ => ?_)
  obtain ⟨c, rfl, q1⟩ := q1
  cases r1
  exact not_of (wpAny_truthy_bool ⟨.bl (!c), H1, I1, rfl, q1⟩)
/-- a if t else b -/
def tIf (t : TT) (ta tb : TE) : TE := fun σ H Q => t σ H fun c H1 => if c = true then ta σ H1 Q else tb σ H1 Q
theorem pe_ifExp {c : Expr} (hc : PT X c tA) (ha : PE X a ta) (hb : PE X b tb) : PE X (.IfExp c a b pos) (tIf tA ta tb) := by
  intro pins s σ H Q I h
  refine wpAny_IfExp (thn (hc pins s σ H _ I h) fun d s1 ⟨H1, I1, q1⟩ => ?_)
  cases d with
  | true => exact ha pins s1 σ H1 Q I1 q1
  | false => exact hb pins s1 σ H1 Q I1 q1
end
end L2

namespace L2
open PySem PySem.Spec PyProof.Rows

/-! ### a list, a tuple that is read: tracked, frozen, or an object of the module -/
def SqL (K : PySem.W.Frag) (H : Hp) (a : Addr) (xs : List V) : Prop :=
  Rd H a (.lst xs) ∨
    ∃ (o : Obj) (its : Array Value) (n : Nat), K.lookup a = some o ∧ o.cls = .type "list" ∧ o.dict = none ∧ o.data = .seq its n ∧ its.size ≤ sizeLine ∧ Vals xs its.toList
def SqT (K : PySem.W.Frag) (H : Hp) (a : Addr) (xs : List V) : Prop :=
  Rd H a (.tup xs) ∨
    ∃ (o : Obj) (its : Array Value) (n : Nat), K.lookup a = some o ∧ o.cls = .type "tuple" ∧ o.data = .seq its n ∧ its.size ≤ sizeLine ∧ Vals xs its.toList
def absV : Value → Option V
  | .none => some .non
  | .bool b => some (.bl b)
  | .int i _ => some (.int i)
  | .str x _ => some (.str x)
  | .bytes b _ => some (.byt b)
  | .float b _ => some (.flt b)
  | .ref a => some (.ref a)
  | .type n => some (.ty n)
  | _ => none
theorem RelV.abs {x : V} {u : Value} (r : RelV x u) : absV u = some x := by
  cases x with
  | non => cases r; rfl
  | bl _ => cases r; rfl
  | int _ => obtain ⟨t, rfl⟩ := r; rfl
  | str _ => obtain ⟨t, rfl⟩ := r; rfl
  | byt _ => obtain ⟨t, rfl⟩ := r; rfl
  | flt _ => obtain ⟨t, rfl⟩ := r; rfl
  | ref _ => cases r; rfl
  | ty _ => cases r; rfl
theorem RelV.inj {x y : V} {u : Value} (r : RelV x u) (q : RelV y u) : x = y := Option.some.inj (r.abs.symm.trans q.abs)
theorem Vals.inj : ∀ {xs ys : List V} {us : List Value}, Vals xs us → Vals ys us → xs = ys
  | _, _, _, .nil, .nil => rfl
  | _, _, _, .cons r t, .cons r' t' => by rw [r.inj r', Vals.inj t t']
section
variable {X : Cx} {pins : List (Addr × Obj)} {σ : St} {H : Hp} {s : Shared} {a : Addr} {xs ys : List V}
theorem SqL.of {K : PySem.W.Frag} (h : H a = some (.lst xs)) : SqL K H a xs := .inl (.inl h)
theorem SqT.of {K : PySem.W.Frag} (h : H a = some (.tup xs)) : SqT K H a xs := .inl (.inl h)
theorem Inv.list (I : Inv X pins σ H s) (h : SqL X.K H a xs) : ∃ its : List Value, Vals xs its ∧ PlainL s.heap a its.toArray ∧ xs.length ≤ sizeLine := by
  rcases h with h | ⟨o, its, n, hk, hc, hd, hs, hz, r⟩
  · obtain ⟨z, its, n, r, e⟩ := h.ok I.hok
    exact ⟨its, r, ⟨_, n, e, rfl, rfl, rfl⟩, z⟩
  · refine ⟨its.toList, r, ⟨o, n, I.kIn a o hk, hc, hd, by simpa using hs⟩, ?_⟩
    have e := r.length
    simp only [Array.length_toList] at e
    omega
theorem Inv.tuple (I : Inv X pins σ H s) (h : SqT X.K H a xs) : ∃ its : List Value, Vals xs its ∧ IsTup s.heap a its.toArray ∧ xs.length ≤ sizeLine := by
  rcases h with h | ⟨o, its, n, hk, hc, hs, hz, r⟩
  · obtain ⟨z, its, r, p⟩ := h.ok I.hok
    exact ⟨its, r, p, z⟩
  · refine ⟨its.toList, r, ⟨o, I.kIn a o hk, hc, n, by simpa using hs⟩, ?_⟩
    have e := r.length
    simp only [Array.length_toList] at e
    omega
theorem Inv.list_inj (I : Inv X pins σ H s) (h : SqL X.K H a xs) (h' : SqL X.K H a ys) : xs = ys := by
  obtain ⟨its, r, ⟨o, n, e, _, _, d⟩, _⟩ := I.list h
  obtain ⟨its', r', ⟨o', n', e', _, _, d'⟩, _⟩ := I.list h'
  rw [e] at e'; cases e'
  rw [d] at d'
  injection d' with d1 _
  have : its = its' := by simpa using congrArg Array.toList d1
  subst this
  exact r.inj r'
theorem Inv.tuple_inj (I : Inv X pins σ H s) (h : SqT X.K H a xs) (h' : SqT X.K H a ys) : xs = ys := by
  obtain ⟨its, r, ⟨o, e, _, n, d⟩, _⟩ := I.tuple h
  obtain ⟨its', r', ⟨o', e', _, n', d'⟩, _⟩ := I.tuple h'
  rw [e] at e'; cases e'
  rw [d] at d'
  injection d' with d1 _
  have : its = its' := by simpa using congrArg Array.toList d1
  subst this
  exact r.inj r'
end

/-! ### another wish about exceptions -/
abbrev Cx.wish (X : Cx) (E : Value → Shared → Prop) : Cx := { X with xe := E }
/-- no exception leaves -/
abbrev Cx.nox (X : Cx) : Cx := X.wish fun _ _ => False
theorem Cx.Ok.wish {X : Cx} (ok : X.Ok) (E : Value → Shared → Prop) : (X.wish E).Ok :=
  ⟨ok.mod, ok.kind, ok.glob, ok.blt, ok.above, ok.inj, ok.has, ok.cab, ok.hd, ok.frames, ok.stk, ok.exf, ok.bs, ok.bsz, ok.noex, ok.exfs, ok.funs, ok.frf⟩
theorem Cx.Ok.unwish {X : Cx} {E : Value → Shared → Prop} (ok : (X.wish E).Ok) : X.Ok :=
  ⟨ok.mod, ok.kind, ok.glob, ok.blt, ok.above, ok.inj, ok.has, ok.cab, ok.hd, ok.frames, ok.stk, ok.exf, ok.bs, ok.bsz, ok.noex, ok.exfs, ok.funs, ok.frf⟩
section
variable {X : Cx} {pins : List (Addr × Obj)} {σ : St} {H : Hp} {s : Shared} {E : Value → Shared → Prop}
theorem Inv.wish (I : Inv X pins σ H s) (E : Value → Shared → Prop) : Inv (X.wish E) pins σ H s := ⟨I.ok.wish E, I.os, I.bare, I.base, I.loc, I.cell, I.free, I.freeC, I.pin, I.hok, I.len⟩
theorem Inv.unwish (I : Inv (X.wish E) pins σ H s) : Inv X pins σ H s := ⟨I.ok.unwish, I.os, I.bare, I.base, I.loc, I.cell, I.free, I.freeC, I.pin, I.hok, I.len⟩
theorem SP.unwish {D : Ends} {f : Flow} {s' : Shared} (h : SP (X.wish E) pins D f s') : SP X pins D f s' := by
  cases f with
  | next => obtain ⟨σ', H', I, q⟩ := h; exact ⟨σ', H', I.unwish, q⟩
  | brk => obtain ⟨σ', H', I, q⟩ := h; exact ⟨σ', H', I.unwish, q⟩
  | cont => obtain ⟨σ', H', I, q⟩ := h; exact ⟨σ', H', I.unwish, q⟩
  | ret u => obtain ⟨v, σ', H', I, r, q⟩ := h; exact ⟨v, σ', H', I.unwish, r, q⟩
theorem PE.nox {e : Expr} {t : TE} (h : PE X.nox e t) : PE X e t := fun pins s σ H Q I hw =>
  wpAny_mono (h pins s σ H Q (I.wish _) hw) (fun _ _ ⟨v, H', I', r, q⟩ => ⟨v, H', I'.unwish, r, q⟩) fun _ _ z => False.elim z
theorem PT.nox {e : Expr} {t : TT} (h : PT X.nox e t) : PT X e t := fun pins s σ H Q I hw =>
  wpAny_mono (h pins s σ H Q (I.wish _) hw) (fun _ _ ⟨H', I', q⟩ => ⟨H', I'.unwish, q⟩) fun _ _ z => False.elim z
theorem PSs.nox {st : List Stmt} {t : TS} (h : PSs X.nox st t) : PSs X st t := fun pins s σ H D I hw =>
  wpAny_mono (h pins s σ H D (I.wish _) hw) (fun _ _ q => q.unwish) fun _ _ z => False.elim z
end

/-! ### blocks and small statements -/
section
variable {X : Cx} {st : Stmt} {rest : List Stmt} {t u : TS} {e : Expr} {te : TE} {pos : Pos}
def tNext : TS := fun D σ H => D.nx σ H
def tSeq (t u : TS) : TS := fun D σ H => t { D with nx := u D } σ H
theorem pss_nil : PSs X [] tNext := fun _ _ σ H _ I h => wpAny_execs_nil ⟨σ, H, I, h⟩
theorem pss_cons (h1 : PS X st t) (h2 : PSs X rest u) : PSs X (st :: rest) (tSeq t u) := by
  intro pins s σ H D I h
  refine wpAny_execs_cons (thn (h1 pins s σ H { D with nx := u D } I h) fun f s1 q => ?_)
  cases f with
  | next =>
    obtain ⟨σ', H', I', q⟩ := q
    exact h2 pins s1 σ' H' D I' q
  | ret v => exact q
  | brk => exact q
  | cont => exact q
theorem pss_one (h1 : PS X st t) : PSs X [st] t := by
  intro pins s σ H D I h
  refine wpAny_execs_cons (thn (h1 pins s σ H D I h) fun f s1 q => ?_)
  cases f with
  | next => exact wpAny_execs_nil q
  | ret v => exact q
  | brk => exact q
  | cont => exact q
def tBreak : TS := fun D σ H => D.bk σ H
def tCont : TS := fun D σ H => D.ct σ H
theorem ps_pass : PS X (.Pass pos) tNext := fun _ _ σ H _ I h => wpAny_Pass ⟨σ, H, I, h⟩
theorem ps_break : PS X (.Break pos) tBreak := fun _ _ σ H _ I h => wpAny_Break ⟨σ, H, I, h⟩
theorem ps_continue : PS X (.Continue pos) tCont := fun _ _ σ H _ I h => wpAny_Continue ⟨σ, H, I, h⟩
/-- in a def's body nothing is shown -/
theorem Inv.quiet {pins : List (Addr × Obj)} {σ : St} {H : Hp} {s : Shared} (I : Inv X pins σ H s) : interactive X.env = false := by simp [interactive, I.ok.kind]
/-- a docstring -/
theorem ps_doc {x j pos pos'} : PS X (.Expr (.Constant (.str x) j pos) pos') tNext := fun _ s σ H _ I h => wpAny_Expr (Calls.Constant_str (show SP X _ _ .next { s with toks := s.toks + 1 } from ⟨σ, H, I.tok _, h⟩)) I.quiet
/-- an expression whose value is dropped -/
def tDrop (te : TE) : TS := fun D σ H => te σ H fun _ H1 => D.nx σ H1
theorem ps_expr (he : PE X e te) (hs : swapsWith e none pos.line X.env = pure false := by rfl) : PS X (.Expr e pos) (tDrop te) := by
  intro pins s σ H D I h
  exact wpAny_Expr_any (thn (he pins s σ H _ I h) fun v s1 ⟨x, H1, I1, r1, q1⟩ => ⟨σ, H1, I1, q1⟩) I.quiet hs
def tRet (te : TE) : TS := fun D σ H => te σ H D.rt
theorem ps_ret (he : PE X e te) : PS X (.Return (some e) pos) (tRet te) := by
  intro pins s σ H D I h
  exact wpAny_Return_some (thn (he pins s σ H _ I h) fun v s1 ⟨x, H1, I1, r1, q1⟩ => ⟨x, σ, H1, I1, r1, q1⟩)
def tRetN : TS := fun D _ H => D.rt .non H
theorem ps_retN : PS X (.Return none pos) tRetN := fun _ _ σ H _ I h => wpAny_Return_none ⟨.non, σ, H, I, rfl, h⟩
def tIfS (c : TT) (t u : TS) : TS := fun D σ H => c σ H fun b H1 => if b = true then t D σ H1 else u D σ H1
theorem ps_if {c : Expr} {a b : List Stmt} {tc : TT} (hc : PT X c tc) (ha : PSs X a t) (hb : PSs X b u) : PS X (.If c a b pos) (tIfS tc t u) := by
  intro pins s σ H D I h
  refine wpAny_If (thn (hc pins s σ H _ I h) fun d s1 ⟨H1, I1, q1⟩ => ?_)
  cases d with
  | true => exact ha pins s1 σ H1 D I1 q1
  | false => exact hb pins s1 σ H1 D I1 q1
/-- code that the proof never comes to -/
def tNever : TS := fun _ _ _ => False
theorem ps_never : PS X st tNever := fun _ _ _ _ _ _ h => h.elim
theorem pss_never {sts : List Stmt} : PSs X sts tNever := fun _ _ _ _ _ _ h => h.elim
end

/-! ### targets -/
abbrev TG := V → St → Hp → (St → Hp → Prop) → Prop
abbrev TGs := List V → St → Hp → (St → Hp → Prop) → Prop
def PG (X : Cx) (target : Expr) (t : TG) : Prop :=
  ∀ (pins : List (Addr × Obj)) (s : Shared) (σ : St) (H : Hp) (v : V) (u : Value) (Q : St → Hp → Prop), Inv X pins σ H s → RelV v u → t v σ H Q →
    wpAny (model X.prog X.w) X.A (assign target X.env u) (fun _ s' => ∃ σ' H', Inv X pins σ' H' s' ∧ Q σ' H') X.xe s
/-- several targets, one after another -/
def PGs (X : Cx) (ts : List Expr) (t : TGs) : Prop :=
  ∀ (pins : List (Addr × Obj)) (s : Shared) (σ : St) (H : Hp) (vs : List V) (us : List Value) (Q : St → Hp → Prop), Inv X pins σ H s → Vals vs us → t vs σ H Q →
    wpAny (model X.prog X.w) X.A (assignInOrder ((assignEach ts X.env).map (·.2)) us) (fun _ s' => ∃ σ' H', Inv X pins σ' H' s' ∧ Q σ' H') X.xe s
/-- o[i] = v, by values -/
abbrev TSet := V → V → V → Hp → (Hp → Prop) → Prop
def PSet (X : Cx) (t : TSet) : Prop :=
  ∀ (pins : List (Addr × Obj)) (s : Shared) (σ : St) (H : Hp) (o i v : V) (ov iv u : Value) (Q : Hp → Prop), Inv X pins σ H s → RelV o ov → RelV i iv → RelV v u → t o i v H Q →
    wpAny (model X.prog X.w) X.A (setItem ov iv u) (fun _ s' => ∃ H', Inv X pins σ H' s' ∧ Q H') X.xe s
/-- a op= b, by values -/
abbrev TIp := V → V → Hp → VK → Prop
def PIp (X : Cx) (op : Operator) (t : TIp) : Prop :=
  ∀ (pins : List (Addr × Obj)) (s : Shared) (σ : St) (H : Hp) (x y : V) (v u : Value) (Q : VK), Inv X pins σ H s → RelV x v → RelV y u → t x y H Q →
    wpAny (model X.prog X.w) X.A (inplaceOp op v u) (EP X pins σ Q) X.xe s
section
variable {X : Cx} {pos : Pos}
def gName (i : Nat) : TG := fun v σ H Q => Q (σ.set i (some v)) H
theorem pg_name {i : Nat} {x : Str} (hN : X.N.Nodup) (hi : X.N[i]? = some x) (hx : Loc X.env.scope x) (hf : X.fn x = true ∨ X.env.scope.names.lookup x = some .local := by first | exact .inl rfl | exact .inr rfl | assumption) : PG X (.Name x pos) (gName i) := by
  intro pins s σ H v u Q I r h
  exact wpAny_assign_Name (store_ok I hN hi hx r (fun s' I' => ⟨_, H, I', h⟩) hf)
def gNil : TGs := fun vs σ H Q => vs = [] ∧ Q σ H
def gCons (t : TG) (u : TGs) : TGs := fun vs σ H Q => ∃ v r, vs = v :: r ∧ t v σ H fun σ' H' => u r σ' H' Q
theorem pgs_nil : PGs X [] gNil := by
  intro pins s σ H vs us Q I r h
  obtain ⟨e, h⟩ := h
  subst e
  cases r
  exact assignInOrder_nil ⟨σ, H, I, h⟩
theorem pgs_cons {e : Expr} {es : List Expr} {t : TG} {u : TGs} (h1 : PG X e t) (h2 : PGs X es u)
    (hs : (assignEach (e :: es) X.env).map (·.2) = assign e X.env :: (assignEach es X.env).map (·.2) := by rfl) : PGs X (e :: es) (gCons t u) := by
  intro pins s σ H vs us Q I r h
  obtain ⟨v, vr, e1, h⟩ := h
  subst e1
  cases r with
  | cons r rr =>
    rw [hs]
    refine assignInOrder_cons (thn (h1 pins s σ H _ _ _ I r h) fun _ s1 ⟨σ1, H1, I1, q1⟩ => ?_)
    exact h2 pins s1 σ1 H1 _ _ Q I1 rr q1
/-- (a, b, ..) = a tuple of that length -/
def gTup (K : PySem.W.Frag) (n : Nat) (t : TGs) : TG := fun v σ H Q => ∃ a xs, v = .ref a ∧ SqT K H a xs ∧ xs.length = n ∧ t xs σ H Q
theorem pg_tup {es : List Expr} {k : Nat} {t : TGs} {n : Nat} (hc : X.calm = true) (h : PGs X es t)
    (hn : (assignEach es X.env).length = n := by rfl) (hst : (assignEach es X.env).findIdx? (·.1) = none := by rfl) : PG X (.Tuple es k pos) (gTup X.K n t) := by
  intro pins s σ H v u Q I r hw
  obtain ⟨a, xs, e1, hq, hl, hw⟩ := hw
  subst e1
  cases r
  obtain ⟨its, rv, ht, hz⟩ := I.tuple hq
  refine assign_Tuple_tuple (I.ok.hd hc) ht (by simp [hn, ← hl, rv.length]) hst fun h' hx => ?_
  have I1 : Inv X pins σ H { s with heap := h' } := I.kept (t' := s.toks) fun b o e => hx b o (Nat.ne_of_lt (Heap.lt_size e)) e
  exact h pins _ σ H xs _ Q I1 (by simpa using rv) hw
/-- o[i] = .. -/
def gSub (to ti : TE) (t : TSet) : TG := fun v σ H Q => to σ H fun o H1 => ti σ H1 fun i H2 => t o i v H2 fun H3 => Q σ H3
theorem pg_sub {o i : Expr} {to ti : TE} {t : TSet} (ho : PE X o to) (hi : PE X i ti) (hs : PSet X t)
    (ha : ∀ v, assign (.Subscript o i pos) X.env v = (do
      let ov ← holding [v] (eval o X.env)
      let iv ← holding [v, ov] (eval i X.env)
      standAt pos
      holding [v, ov, iv] (setItem ov iv v)
      release [v, ov, iv] []) := by intro _; rfl) : PG X (.Subscript o i pos) (gSub to ti t) := by
  intro pins s σ H v u Q I r h
  rw [ha]
  refine wpAny_bind (wpAny_holding (thn (ho pins s σ H _ I h) fun ov s1 ⟨x, H1, I1, r1, q1⟩ => ?_))
  refine wpAny_bind (wpAny_holding (thn (hi pins s1 σ H1 _ I1 q1) fun iv s2 ⟨y, H2, I2, r2, q2⟩ => ?_))
  refine wpAny_bind (wpAny_standAt (wpAny_bind (wpAny_holding (thn (hs pins s2 σ H2 x y v ov iv u _ I2 r1 r2 r q2) fun _ s3 ⟨H3, I3, q3⟩ => ?_))))
  exact wpAny_release ⟨σ, H3, I3, q3⟩
/-- target = value -/
def tAsg (te : TE) (g : TG) : TS := fun D σ H => te σ H fun x H1 => g x σ H1 D.nx
theorem ps_asg {tg e : Expr} {te : TE} {g : TG} (he : PE X e te) (hg : PG X tg g) (hs : swapsWithSole [tg] e pos.line X.env = pure false := by rfl) (hw : swappedStores [tg] e X.env = pure none := by rfl)
    (h1 : (assignEach [tg] X.env).map (·.2) = [assign tg X.env] := by rfl) : PS X (.Assign [tg] e pos) (tAsg te g) := by
  intro pins s σ H D I h
  refine wpAny_Assign_stores (thn (he pins s σ H _ I h) fun v s1 ⟨x, H1, I1, r1, q1⟩ => ?_) hs hw
  rw [h1]
  exact thn (hg pins s1 σ H1 x v _ I1 r1 q1) fun _ s2 q => q
/-- name = value -/
theorem ps_set {i : Nat} {x : Str} {e : Expr} {te : TE} {pos' : Pos} (hN : X.N.Nodup) (hi : X.N[i]? = some x) (hx : Loc X.env.scope x) (he : PE X e te) (hs : swapsWith e (some (.Name x pos')) pos.line X.env = pure false := by rfl) (hf : X.fn x = true ∨ X.env.scope.names.lookup x = some .local := by first | exact .inl rfl | exact .inr rfl | assumption) :
    PS X (.Assign [.Name x pos'] e pos) (tAsg te (gName i)) := by
  intro pins s σ H D I h
  refine wpAny_Assign_Name (thn (he pins s σ H _ I h) fun v s1 ⟨y, H1, I1, r1, q1⟩ => ?_) hs
  exact store_ok I1 hN hi hx r1 (fun s2 I2 => ⟨_, H1, I2, q1⟩) hf
/-- a, b = x, y with plain local names: stored from the right; the pair itself is not tracked (the opening rows as in PyProof/Rows/TupAssign.lean:23) -/
def tPar (i j : Nat) (ta : TA) : TS := fun D σ H => ta σ H fun vs H1 => ∃ v w, vs = [v, w] ∧ D.nx ((σ.set i (some v)).set j (some w)) H1
theorem ps_par {i j : Nat} {x y : Str} {a b : Expr} {ta : TA} {px py pt : Pos} {kt k2 pt2} (hc : X.calm = true) (hN : X.N.Nodup) (hi : X.N[i]? = some x) (hj : X.N[j]? = some y) (hij : i ≠ j)
    (hx : X.env.scope.names.lookup x = some .local) (hy : X.env.scope.names.lookup y = some .local) (ha : PA X [a, b] ta)
    (hw : swappedStores [.Tuple [.Name x px, .Name y py] kt pt] (.Tuple [a, b] k2 pt2) X.env = pure (some [x, y]))
    (hs : swapsWithSole [.Tuple [.Name x px, .Name y py] kt pt] (.Tuple [a, b] k2 pt2) pos.line X.env = pure false := by rfl) :
    PS X (.Assign [.Tuple [.Name x px, .Name y py] kt pt] (.Tuple [a, b] k2 pt2) pos) (tPar i j ta) := by
  intro pins s σ H D I h
  rw [exec_Assign_arm]
  refine wpAny_bind (wpAny_standAt ?_)
  rw [hs]
  refine wpAny_bind (wpAny_pure ?_)
  rw [if_neg (by decide)]
  refine wpAny_bind (Tuple_ (thn (ha _ pins s σ H _ I h) fun us s1 ⟨vs, H1, I1, r1, q1⟩ => ?_))
  obtain ⟨v, w, e1, q1⟩ := q1
  subst e1
  obtain ⟨u1, u2, rfl, rv, rw'⟩ : ∃ u1 u2, us = [u1, u2] ∧ RelV v u1 ∧ RelV w u2 := by
    cases r1 with
    | cons p q =>
      cases q with
      | cons p' q' =>
        cases q'
        exact ⟨_, _, rfl, p, p'⟩
  refine wpAny_newObj_type ?_ (by show 2 ≤ sizeLine; decide)
  have I2 : Inv X pins σ H1 { s1 with heap := s1.heap.push { cls := .type "tuple", data := .seq [u1, u2].toArray } } := I1.kept (t' := s1.toks) fun b o e => Heap.get?_push_of_some _ e
  rw [hw]
  refine wpAny_bind (wpAny_pure ?_)
  show wpAny (model X.prog X.w) X.A (do rule "assign.swapped-stores"; let items ← unpackItems (.ref s1.heap.objs.size) 2 none; assignInOrder [fun v => bindName X.env y v, fun v => bindName X.env x v] items.reverse; pure Flow.next) _ _ _
  refine wpAny_bind (wpAny_rule (wpAny_bind (unpackItems_tuple (items := #[u1, u2]) (I.ok.hd hc) (IsTup.new s1.heap _) fun h' hx' => ?_)))
  have I3 := I2.kept (h' := h') (t' := s1.toks) fun b o e => hx' b o (Nat.ne_of_lt (Heap.lt_size e)) e
  show wpAny _ _ (assignInOrder [fun v => bindName X.env y v, fun v => bindName X.env x v] [u2, u1] >>= fun _ => pure Flow.next) _ _ _
  refine wpAny_bind (assignInOrder_cons (wpAny_bindName (store_ok I3 hN hj (.inl hy) rw' (fun s2 I4 => ?_) (.inr hy))))
  refine assignInOrder_cons (wpAny_bindName (store_ok I4 hN hi (.inl hx) rv (fun s3 I5 => assignInOrder_nil (wpAny_pure ?_)) (.inr hx)))
  rw [List.set_comm _ _ (Ne.symm hij)] at I5
  exact ⟨_, H1, I5, q1⟩
/-- name op= e -/
def tAug (i : Nat) (te : TE) (ti : TIp) : TS := fun D σ H => ∃ x, σ[i]? = some (some x) ∧ te σ H fun y H1 => ti x y H1 fun z H2 => D.nx (σ.set i (some z)) H2
theorem ps_aug {i : Nat} {x : Str} {e : Expr} {te : TE} {op : Operator} {ti : TIp} {pos' : Pos} (hN : X.N.Nodup) (hi : X.N[i]? = some x) (hx : Loc X.env.scope x) (he : PE X e te) (ho : PIp X op ti) (hf : X.fn x = true ∨ X.env.scope.names.lookup x = some .local := by first | exact .inl rfl | exact .inr rfl | assumption) :
    PS X (.AugAssign (.Name x pos') op e pos) (tAug i te ti) := by
  intro pins s σ H D I h
  obtain ⟨v, e1, h⟩ := h
  obtain ⟨m, hn, hl⟩ := I.loc
  have vis : Vis X.env.scope x := by rcases hx with k | k; exact .inl k; exact .inr (.inl k)
  obtain ⟨u, r, l⟩ := hl i x v hi e1 vis
  refine wpAny_AugAssign_Name ?_
  have go : wpAny (model X.prog X.w) X.A (eval e X.env) (fun w s₂ => wpAny (model X.prog X.w) X.A (inplaceOp op u w) (fun r s₃ => wpAny (model X.prog X.w) X.A (storeName X.env x r) (fun _ => SP X pins D .next) X.xe s₃) X.xe s₂) X.xe s := by
    refine thn (he pins s σ H _ I h) fun w s1 ⟨y, H1, I1, r1, q1⟩ => ?_
    refine thn (ho pins s1 σ H1 v y u w _ I1 r r1 q1) fun z s2 ⟨zv, H2, I2, r2, q2⟩ => ?_
    exact store_ok I2 hN hi hx r2 (fun s3 I3 => ⟨_, H2, I3, q2⟩) hf
  rcases l with ⟨hk, hm⟩ | ⟨hk, c, hc, hcell⟩
  · exact wpAny_loadName_local I.ok.kind hk hn hm go
  · rcases hk with hk | hk
    · exact wpAny_loadName_cell I.ok.kind hk hc hcell go
    · rcases hx with k | k
      · have : X.env.scope.names.lookup x = some .free := hk
        rw [k] at this; cases this
      · have : X.env.scope.names.lookup x = some .free := hk
        rw [k] at this; cases this
/-- o[i] op= e -/
def tAugS (to ti te : TE) (tget : V → V → Hp → VK → Prop) (tip : TIp) (tset : TSet) : TS := fun D σ H => to σ H fun o H1 => ti σ H1 fun i H2 => tget o i H2 fun x H3 => te σ H3 fun y H4 => tip x y H4 fun z H5 => tset o i z H5 fun H6 => D.nx σ H6
/-- o[i], by values -/
def PGet (X : Cx) (t : V → V → Hp → VK → Prop) : Prop :=
  ∀ (pins : List (Addr × Obj)) (s : Shared) (σ : St) (H : Hp) (o i : V) (ov iv : Value) (Q : VK), Inv X pins σ H s → RelV o ov → RelV i iv → t o i H Q →
    wpAny (model X.prog X.w) X.A (getItem ov iv) (EP X pins σ Q) X.xe s
theorem ps_augS {o i e : Expr} {to ti te : TE} {tget : V → V → Hp → VK → Prop} {tip : TIp} {tset : TSet} {op : Operator} {tpos : Pos} (ho : PE X o to) (hi : PE X i ti) (hg : PGet X tget) (he : PE X e te) (hp : PIp X op tip) (hs : PSet X tset)
    (ha : ∀ ov iv new, augStore i ov iv new = (do holding [new, ov, iv] (setItem ov iv new); release [new, ov, iv] []; pure .next) := by intros; rfl) : PS X (.AugAssign (.Subscript o i tpos) op e pos) (tAugS to ti te tget tip tset) := by
  intro pins s σ H D I h
  refine wpAny_AugAssign_SubscriptAny (thn (ho pins s σ H _ I h) fun ov s1 ⟨x1, H1, I1, r1, q1⟩ => ?_) ha
  refine thn (hi pins s1 σ H1 _ I1 q1) fun iv s2 ⟨x2, H2, I2, r2, q2⟩ => ?_
  refine thn (hg pins s2 σ H2 x1 x2 ov iv _ I2 r1 r2 q2) fun old s3 ⟨x3, H3, I3, r3, q3⟩ => ?_
  refine thn (he pins s3 σ H3 _ I3 q3) fun v s4 ⟨x4, H4, I4, r4, q4⟩ => ?_
  refine thn (hp pins s4 σ H4 x3 x4 old v _ I4 r3 r4 q4) fun new s5 ⟨x5, H5, I5, r5, q5⟩ => ?_
  exact thn (hs pins s5 σ H5 x1 x2 x5 ov iv new _ I5 r1 r2 r5 q5) fun _ s6 ⟨H6, I6, q6⟩ => ⟨σ, H6, I6, q6⟩
/-- ints -/
def ipI (f : Int → Int → Int) : TIp := fun x y H Q => ∃ i j, x = .int i ∧ y = .int j ∧ Q (.int (f i j)) H
theorem ip_add : PIp X .Add (ipI fun i j => i + j) := by
  intro pins s σ H x y v u Q I r1 r2 h
  obtain ⟨i, j, e1, e2, q⟩ := h
  subst e1; subst e2
  obtain ⟨t, rfl⟩ := r1
  obtain ⟨t', rfl⟩ := r2
  exact iadd_int ⟨.int _, H, I.tok _, ⟨_, rfl⟩, q⟩
theorem ip_sub : PIp X .Sub (ipI fun i j => i - j) := by
  intro pins s σ H x y v u Q I r1 r2 h
  obtain ⟨i, j, e1, e2, q⟩ := h
  subst e1; subst e2
  obtain ⟨t, rfl⟩ := r1
  obtain ⟨t', rfl⟩ := r2
  exact isub_int ⟨.int _, H, I.tok _, ⟨_, rfl⟩, q⟩
end

/-! ### while -/
section
variable {X : Cx} {pos : Pos}
/-- the invariant W with its measure -/
def tWhile (c : TT) (tb : TS) : TS := fun D σ H => ∃ W : Nat → St → Hp → Prop, (∃ m, W m σ H) ∧ ∀ m σ H, W m σ H →
  c σ H fun b H1 => if b = true then ∃ N : St → Hp → Prop, (∀ σ' H', N σ' H' → ∃ m', m' < m ∧ W m' σ' H') ∧ tb { D with nx := N, ct := N, bk := D.nx } σ H1 else D.nx σ H1
theorem ps_while {c : Expr} {body : List Stmt} {tc : TT} {tb : TS} (hp : PassesOwn (model X.prog X.w) X.A X.env X.xe) (hc : PT X c tc) (hb : PSs X body tb) : PS X (.While c body [] pos) (tWhile tc tb) := by
  intro pins s σ H D I h
  obtain ⟨W, ⟨m0, w0⟩, turn⟩ := h
  refine wpAny_While (codeAny_whileLoop (fun n s' => ∃ σ' H', Inv X pins σ' H' s' ∧ W n σ' H') ?_ m0 ⟨σ, H, I, w0⟩)
  rintro n s1 ⟨σ1, H1, I1, w1⟩
  refine wpAny_passesOwn hp (thn (hc pins s1 σ1 H1 _ I1 (turn n σ1 H1 w1)) fun b s2 ⟨H2, I2, q2⟩ => ?_)
  cases b with
  | true =>
    obtain ⟨N, hN, q2⟩ := q2
    rw [if_pos rfl]
    refine wpAny_passesOwn hp (thn (hb pins s2 σ1 H2 _ I2 q2) fun f s3 q3 => ?_)
    cases f with
    | next =>
      obtain ⟨σ3, H3, I3, n3⟩ := q3
      obtain ⟨m', hm, w3⟩ := hN σ3 H3 n3
      exact ⟨m', hm, σ3, H3, I3, w3⟩
    | cont =>
      obtain ⟨σ3, H3, I3, n3⟩ := q3
      obtain ⟨m', hm, w3⟩ := hN σ3 H3 n3
      exact ⟨m', hm, σ3, H3, I3, w3⟩
    | brk => exact q3
    | ret v => exact q3
  | false =>
    rw [if_neg Bool.false_ne_true]
    exact wpAny_execs_nil ⟨σ1, H2, I2, q2⟩
end

/-! ### what a loop or a comprehension walks -/
/-- at turn i: it yields x (the heap may grow), or it stops -/
structure It where
  go : Nat → Hp → Prop
  yld : Nat → Hp → V → Hp → Prop
  stop : Nat → Hp → Prop
/-- the iterator's own objects may turn: they are not the frame's, not pinned, younger than the entry (or a comprehension's own) -/
def FpOk (X : Cx) (pins : List (Addr × Obj)) (H : Hp) (b : Addr) : Prop :=
  H b = none ∧ b ≠ X.env.locals ∧ b ∉ X.fs ∧ (b ∈ X.ex ∨ X.s₀.heap.objs.size ≤ b) ∧ (∀ x c, X.env.cells.lookup x = some c → c ≠ b) ∧ ∀ p ∈ X.pn ++ pins, p.1 ≠ b
theorem Inv.fpOk {X : Cx} {pins : List (Addr × Obj)} {σ : St} {H H' : Hp} {s : Shared} {b : Addr} (I : Inv X pins σ H s) (hb : s.heap.objs.size ≤ b) (hn : H' b = none) : FpOk X pins H' b := by
  refine ⟨hn, Nat.ne_of_gt (Nat.lt_of_lt_of_le I.lt hb), I.nofs hb, .inr (Nat.le_trans I.sz hb), fun x c e z => ?_, fun p hp z => ?_⟩
  · obtain ⟨v, q⟩ := I.cell x c e
    exact absurd (Nat.lt_of_lt_of_le q.lt (by rw [z]; exact hb)) (Nat.lt_irrefl _)
  · exact absurd (Nat.lt_of_lt_of_le (Heap.lt_size (I.pin p hp).1) (by rw [z]; exact hb)) (Nat.lt_irrefl _)
structure Turn (P : Program) (w : World) (K : PySem.W.Frag) (tg : Expr) (J : It) (fp : List Addr) (it : Addr) (tn : Nat → Heap → Prop) : Prop where
  mem : it ∈ fp
  obj : ∀ i h, tn i h → ∀ b ∈ fp, ∃ o, h.get? b = some o ∧ ∀ v, o.data ≠ .cell v
  keep : ∀ i h h', tn i h → (∀ b ∈ fp, ∀ o, h.get? b = some o → h'.get? b = some o) → tn i h'
  item : ∀ (X : Cx), X.prog = P → X.w = w → X.K = K → X.calm = true → ∀ (i : Nat) (pins : List (Addr × Obj)) (s : Shared) (σ : St) (H : Hp) (E : Value → Shared → Prop), Inv X pins σ H s → (∀ b ∈ fp, FpOk X pins H b) → tn i s.heap → J.go i H →
    wpAny (model P w) X.A (pyNext (.ref it)) (fun r s1 => ∃ u, r = some u ∧
      wpAny (model P w) X.A (letOwnedTupleGo tg (.ref it) u) (fun _ s2 => ∃ x H', Inv X pins σ H' s2 ∧ RelV x u ∧ J.yld i H x H' ∧ tn (i + 1) s2.heap ∧ ∀ b ∈ fp, H' b = none) E s1) E s
  done : ∀ (X : Cx), X.prog = P → X.w = w → X.K = K → X.calm = true → ∀ (i : Nat) (pins : List (Addr × Obj)) (s : Shared) (σ : St) (H : Hp) (E : Value → Shared → Prop), Inv X pins σ H s → (∀ b ∈ fp, FpOk X pins H b) → tn i s.heap → J.stop i H →
    wpAny (model P w) X.A (pyNext (.ref it)) (fun r s1 => r = none ∧ Inv X pins σ H s1) E s
  self : ∀ (A : Around) (i : Nat) (s : Shared) (Q : Value → Shared → Prop) (E : Value → Shared → Prop), tn i s.heap → Q (.ref it) s → wpAny (model P w) A (pyIter (.ref it)) Q E s
abbrev TI := St → Hp → (It → Hp → Prop) → Prop
/-- an iterator has come -/
def PIE (X : Cx) (pins : List (Addr × Obj)) (σ : St) (tg : Expr) (R : It → Hp → Prop) (itv : Value) (s2 : Shared) : Prop :=
  ∃ (it : Addr) (fp : List Addr) (tn : Nat → Heap → Prop) (J : It) (H' : Hp), itv = .ref it ∧ Inv X pins σ H' s2 ∧ Turn X.prog X.w X.K tg J fp it tn ∧ tn 0 s2.heap ∧ (∀ b ∈ fp, FpOk X pins H' b) ∧ R J H'
def PI (X : Cx) (tg iter : Expr) (wi : TI) : Prop :=
  ∀ (pins : List (Addr × Obj)) (s : Shared) (σ : St) (H : Hp) (R : It → Hp → Prop), Inv X pins σ H s → wi σ H R →
    wpAny (model X.prog X.w) X.A (eval iter X.env) (fun v s1 => wpAny (model X.prog X.w) X.A (pyIter v) (PIE X pins σ tg R) X.xe s1) X.xe s

/-- the step ahead of the store is nothing for an iterator that keeps no tuple -/
theorem go_of {M : Model} {A : Around} {E : Value → Shared → Prop} {s : Shared} {tg : Expr} {it : Addr} {u : Value} {o : Obj} {n : String} {vs : Array Value} {Q : Unit → Shared → Prop} (ho : s.heap.get? it = some o) (hc : o.cls = .type n) (hd : o.data = .fields vs)
    (hn : ["enumerate", "zip", "dict_itemiterator", "dict_reverseitemiterator", "odict_iterator", "itertools.zip_longest", "itertools.pairwise"].contains n = false) (hQ : Q () s) : wpAny M A (letOwnedTupleGo tg (.ref it) u) Q E s := by
  unfold letOwnedTupleGo
  cases tg <;> first
    | exact wpAny_pure hQ
    | (cases u <;> first
        | exact wpAny_pure hQ
        | (refine wpAny_bind (wpAny_load ho ?_)
           rw [hc, hd]
           show wpAny M A (if (["enumerate", "zip", "dict_itemiterator", "dict_reverseitemiterator", "odict_iterator", "itertools.zip_longest", "itertools.pairwise"].contains n && vs[0]? == some (rawInt _)) = true then _ else _) Q E s
           rw [if_neg (by intro h; rw [hn, Bool.false_and] at h; cases h)]
           exact wpAny_pure hQ))

/-- the list at a, as it stands at each turn (a loop may append to it) -/
def Itl (K : PySem.W.Frag) (a : Addr) : It :=
  ⟨fun i H => ∃ xs x, SqL K H a xs ∧ xs[i]? = some x, fun i H x H' => H' = H ∧ ∀ xs, SqL K H a xs → xs[i]? = some x, fun i H => ∃ xs, SqL K H a xs ∧ xs.length ≤ i⟩
def Itt (K : PySem.W.Frag) (a : Addr) : It :=
  ⟨fun i H => ∃ xs x, SqT K H a xs ∧ xs[i]? = some x, fun i H x H' => H' = H ∧ ∀ xs, SqT K H a xs → xs[i]? = some x, fun i H => ∃ xs, SqT K H a xs ∧ xs.length ≤ i⟩
/-- lo, lo + 1, .. (n of them) -/
def Itr (lo : Int) (n : Nat) : It := ⟨fun i _ => i < n, fun i H x H' => H' = H ∧ x = .int (lo + i), fun i _ => n ≤ i⟩
theorem turn_list {P : Program} {w : World} {K : PySem.W.Frag} {tg : Expr} (a it : Addr) : Turn P w K tg (Itl K a) [it] it (fun i h => h.IsListIter it a i) where
  mem := by simp
  obj := fun i h st b hb => by
    have e : b = it := by simpa using hb
    subst e
    obtain ⟨o, e, c, d⟩ := st
    exact ⟨o, e, fun v z => by rw [d] at z; cases z⟩
  keep := fun i h h' st k => st.at fun o e => k it (by simp) o e
  item := by
    intro X hP hw hK hc i pins s σ H E I hf st hg
    subst hP hw hK
    obtain ⟨xs, x, hq, hx⟩ := hg
    obtain ⟨its, rv, p, hz⟩ := I.list hq
    obtain ⟨u, hu, ru⟩ := rv.get hx
    obtain ⟨f0, f1, f2, f3, f4, f5⟩ := hf it (by simp)
    refine wpAny_pyNext_list_item st p.isList (x := u) (by simpa using hu) fun h' st' sb => ?_
    have I1 : Inv X pins σ H { s with heap := h' } := I.turned (t' := s.toks) (fun b o hb e => (sb.2 b hb).trans e) f0 f1 f3 f4 f5
    obtain ⟨o, e, c, d⟩ := id st'
    exact ⟨u, rfl, go_of (s := { s with heap := h' }) e c d (by decide) ⟨x, H, I1, ru, ⟨rfl, fun ys hy => by rw [I.list_inj hy hq]; exact hx⟩, st', fun b hb => (hf b hb).1⟩⟩
  done := by
    intro X hP hw hK hc i pins s σ H E I hf st hg
    subst hP hw hK
    obtain ⟨xs, hq, hx⟩ := hg
    obtain ⟨its, rv, p, hz⟩ := I.list hq
    obtain ⟨f0, f1, f2, f3, f4, f5⟩ := hf it (by simp)
    have hl := rv.length
    exact wpAny_pyNext_list_end (I.ok.hd hc) st p.isList (by simp; omega) fun h' eb => ⟨rfl, I.turned (t' := s.toks) (fun b o hb e => eb b o hb e) f0 f1 f3 f4 f5⟩
  self := fun _ _ _ _ _ st h => wpAny_pyIter_listiter st h
theorem turn_tuple {P : Program} {w : World} {K : PySem.W.Frag} {tg : Expr} (a it : Addr) : Turn P w K tg (Itt K a) [it] it (fun i h => h.IsTupleIter it a i) where
  mem := by simp
  obj := fun i h st b hb => by
    have e : b = it := by simpa using hb
    subst e
    obtain ⟨o, e, c, d⟩ := st
    exact ⟨o, e, fun v z => by rw [d] at z; cases z⟩
  keep := fun i h h' st k => st.at fun o e => k it (by simp) o e
  item := by
    intro X hP hw hK hc i pins s σ H E I hf st hg
    subst hP hw hK
    obtain ⟨xs, x, hq, hx⟩ := hg
    obtain ⟨its, rv, p, hz⟩ := I.tuple hq
    obtain ⟨u, hu, ru⟩ := rv.get hx
    obtain ⟨f0, f1, f2, f3, f4, f5⟩ := hf it (by simp)
    refine wpAny_pyNext_tuple_item st (show s.heap.IsTuple a its.toArray from p) (x := u) (by simpa using hu) fun h' st' sb => ?_
    have I1 : Inv X pins σ H { s with heap := h' } := I.turned (t' := s.toks) (fun b o hb e => (sb.2 b hb).trans e) f0 f1 f3 f4 f5
    obtain ⟨o, e, c, d⟩ := id st'
    exact ⟨u, rfl, go_of (s := { s with heap := h' }) e c d (by decide) ⟨x, H, I1, ru, ⟨rfl, fun ys hy => by rw [I.tuple_inj hy hq]; exact hx⟩, st', fun b hb => (hf b hb).1⟩⟩
  done := by
    intro X hP hw hK hc i pins s σ H E I hf st hg
    subst hP hw hK
    obtain ⟨xs, hq, hx⟩ := hg
    obtain ⟨its, rv, p, hz⟩ := I.tuple hq
    obtain ⟨f0, f1, f2, f3, f4, f5⟩ := hf it (by simp)
    have hl := rv.length
    exact wpAny_pyNext_tuple_end (I.ok.hd hc) st (show s.heap.IsTuple a its.toArray from p) (by simp; omega) fun h' eb => ⟨rfl, I.turned (t' := s.toks) (fun b o hb e => eb b o hb e) f0 f1 f3 f4 f5⟩
  self := fun _ _ _ _ _ st h => wpAny_pyIter_tupleiter st h
theorem turn_range {P : Program} {w : World} {K : PySem.W.Frag} {tg : Expr} (it : Addr) (lo : Int) (n : Nat) : Turn P w K tg (Itr lo n) [it] it (fun i h => IsRangeIter h it (lo + (i : Nat) * 1) ((n : Int) - (i : Nat)) 1) where
  mem := by simp
  obj := fun i h st b hb => by
    have e : b = it := by simpa using hb
    subst e
    exact ⟨_, st, fun v z => by
      have z' : Data.fields _ = Data.cell v := z
      cases z'⟩
  keep := fun i h h' st k => k it (by simp) _ st
  item := by
    intro X hP hw hK hc i pins s σ H E I hf st hg
    subst hP hw hK
    obtain ⟨f0, f1, f2, f3, f4, f5⟩ := hf it (by simp)
    have W := Walks.range (prog := X.prog) (w := X.w) (I.ok.hd hc) it lo 1 n
    refine W.item i s _ _ hg st fun v h' tk hv st' kk => ?_
    obtain ⟨t, rfl⟩ := hv
    have I1 : Inv X pins σ H { s with heap := h', toks := tk } := I.turned (fun b o hb e => kk b o (by simpa using hb) e) f0 f1 f3 f4 f5
    refine ⟨_, rfl, go_of (s := { s with heap := h', toks := tk }) (n := "range_iterator") st' rfl rfl (by decide) ⟨.int (lo + i), H, I1, ⟨t, ?_⟩, ⟨rfl, rfl⟩, st', fun b hb => (hf b hb).1⟩⟩
    rw [Int.mul_one]
  done := by
    intro X hP hw hK hc i pins s σ H E I hf st hg
    subst hP hw hK
    obtain ⟨f0, f1, f2, f3, f4, f5⟩ := hf it (by simp)
    exact wpAny_pyNext_range_end (I.ok.hd hc) st (by have : n ≤ i := hg; omega) fun h' eb => ⟨rfl, I.turned (t' := s.toks) (fun b o hb e => eb b o hb e) f0 f1 f3 f4 f5⟩
  self := fun _ _ _ _ _ st h => wpAny_pyIter_rangeiter st h
end L2

namespace L2
open PySem PySem.Spec PyProof.Rows
section
variable {X : Cx} {tg : Expr}
def iList (K : PySem.W.Frag) (tl : TE) : TI := fun σ H R => tl σ H fun x H1 => ∃ a, x = .ref a ∧ (∃ xs, SqL K H1 a xs) ∧ R (Itl K a) H1
def iTup (K : PySem.W.Frag) (tl : TE) : TI := fun σ H R => tl σ H fun x H1 => ∃ a, x = .ref a ∧ (∃ xs, SqT K H1 a xs) ∧ R (Itt K a) H1
theorem pi_list {l : Expr} {tl : TE} (hl : PE X l tl) : PI X tg l (iList X.K tl) := by
  intro pins s σ H R I h
  refine thn (hl pins s σ H _ I h) fun v s1 ⟨x, H1, I1, r1, q1⟩ => ?_
  obtain ⟨a, e, ⟨xs, hq⟩, q⟩ := q1
  subst e
  cases r1
  obtain ⟨its, rv, p, hz⟩ := I1.list hq
  refine wpAny_pyIter_list p.isList ?_
  refine ⟨s1.heap.objs.size, [s1.heap.objs.size], _, _, H1, rfl, I1.kept (t' := s1.toks) fun b o e => Heap.get?_push_of_some _ e, turn_list a _, ⟨_, Heap.get?_push_size _ rfl, rfl, rfl⟩, fun b hb => ?_, q⟩
  have e : b = s1.heap.objs.size := by simpa using hb
  subst e
  exact I1.fpOk (Nat.le_refl _) (I1.hok.fresh (Nat.le_refl _))
theorem pi_tup {l : Expr} {tl : TE} (hl : PE X l tl) : PI X tg l (iTup X.K tl) := by
  intro pins s σ H R I h
  refine thn (hl pins s σ H _ I h) fun v s1 ⟨x, H1, I1, r1, q1⟩ => ?_
  obtain ⟨a, e, ⟨xs, hq⟩, q⟩ := q1
  subst e
  cases r1
  obtain ⟨its, rv, p, hz⟩ := I1.tuple hq
  refine wpAny_pyIter_tuple (show s1.heap.IsTuple a its.toArray from p) ?_
  refine ⟨s1.heap.objs.size, [s1.heap.objs.size], _, _, H1, rfl, I1.kept (t' := s1.toks) fun b o e => Heap.get?_push_of_some _ e, turn_tuple a _, ⟨_, Heap.get?_push_size _ rfl, rfl, rfl⟩, fun b hb => ?_, q⟩
  have e : b = s1.heap.objs.size := by simpa using hb
  subst e
  exact I1.fpOk (Nat.le_refl _) (I1.hok.fresh (Nat.le_refl _))
/-- a range object just made, walked -/
theorem range_it {pins : List (Addr × Obj)} {σ : St} {H : Hp} {s : Shared} {R : It → Hp → Prop} {E : Value → Shared → Prop} {lo hi : Int} {t u v : Tok} {tk : Nat} (I : Inv X pins σ H s) (h1 : -(2 ^ 62) ≤ lo) (h2 : lo < 2 ^ 62) (h3 : -(2 ^ 62) ≤ hi) (h4 : hi < 2 ^ 62)
    (q : R (Itr lo (hi - lo).toNat) H) : wpAny (model X.prog X.w) X.A (pyIter (.ref s.heap.objs.size)) (PIE X pins σ tg R) E { s with heap := s.heap.push { cls := .type "range", data := .fields #[.int lo t, .int hi u, .int 1 v] }, toks := tk } := by
  refine wpAny_pyIter_range (IsRange.new ..) (small_one h1 h2 h3 h4) ?_
  have I1 : Inv X pins σ H { s with heap := s.heap.push { cls := .type "range", data := .fields #[.int lo t, .int hi u, .int 1 v] }, toks := tk } := I.kept fun b o e => Heap.get?_push_of_some _ e
  refine ⟨(s.heap.push { cls := .type "range", data := .fields #[.int lo t, .int hi u, .int 1 v] }).objs.size, [(s.heap.push { cls := .type "range", data := .fields #[.int lo t, .int hi u, .int 1 v] }).objs.size], _, _, H, rfl,
    I1.kept (t' := tk) fun b o e => Heap.get?_push_of_some _ e, turn_range _ lo (hi - lo).toNat, ?_, fun b hb => ?_, q⟩
  · have e1 : lo + ((0 : Nat) : Int) * 1 = lo := by simp
    have e2 : (((hi - lo).toNat : Nat) : Int) - ((0 : Nat) : Int) = Builtin.Range.rangeSize lo hi 1 := by rw [rangeSize_one]; split <;> omega
    show IsRangeIter _ _ (lo + ((0 : Nat) : Int) * 1) ((((hi - lo).toNat : Nat) : Int) - ((0 : Nat) : Int)) 1
    rw [e1, e2]
    exact Heap.get?_push_size _ rfl
  · have e : b = (s.heap.push { cls := .type "range", data := .fields #[.int lo t, .int hi u, .int 1 v] }).objs.size := by simpa using hb
    subst e
    exact I1.fpOk (Nat.le_refl _) (I1.hok.fresh (Nat.le_refl _))
def iRng1 (ta : TA) : TI := fun σ H R => ta σ H fun vs H1 => ∃ j : Int, vs = [.int j] ∧ -(2 ^ 62) ≤ j ∧ j < 2 ^ 62 ∧ R (Itr 0 j.toNat) H1
def iRng2 (ta : TA) : TI := fun σ H R => ta σ H fun vs H1 => ∃ i j : Int, vs = [.int i, .int j] ∧ (-(2 ^ 62) ≤ i ∧ i < 2 ^ 62 ∧ -(2 ^ 62) ≤ j ∧ j < 2 ^ 62) ∧ R (Itr i (j - i).toNat) H1
theorem pi_range1 {a : Expr} {ta : TA} {p pos : Pos} (hg : Gl X "range") (hm : X.mg "range" = none) (ha : PA X [a] ta) (hs : starEach [a] X.env = [(false, eval a X.env)] := by rfl) : PI X tg (.Call (.Name "range" p) [a] [] pos) (iRng1 ta) := by
  intro pins s σ H R I h
  refine Call_ (ld_blt I hg hm boot_range (PyProof.Rows.callWith_type1 (thn (ha pos pins s σ H _ I h) fun us s1 ⟨vs, H1, I1, r1, q1⟩ => ?_) hs rfl))
  obtain ⟨j, e, q1, q2, q⟩ := q1
  subst e
  cases r1 with
  | cons r rr =>
    cases rr
    obtain ⟨t, rfl⟩ := r
    exact call_range_1 (range_it I1 (by omega) (by omega) q1 q2 (by simpa using q))
theorem pi_range2 {a b : Expr} {ta : TA} {p pos : Pos} (hg : Gl X "range") (hm : X.mg "range" = none) (ha : PA X [a, b] ta) (hs : starEach [a, b] X.env = [(false, eval a X.env), (false, eval b X.env)] := by rfl) (hs2 : starEach [b] X.env = [(false, eval b X.env)] := by rfl) :
    PI X tg (.Call (.Name "range" p) [a, b] [] pos) (iRng2 ta) := by
  intro pins s σ H R I h
  refine Call_ (ld_blt I hg hm boot_range (PyProof.Rows.callWith_type1 (thn (ha pos pins s σ H _ I h) fun us s1 ⟨vs, H1, I1, r1, q1⟩ => ?_) (by rw [hs, hs2]) (by rw [hs2]; rfl)))
  obtain ⟨i, j, e, ⟨q1, q2, q3, q4⟩, q⟩ := q1
  subst e
  cases r1 with
  | cons r rr =>
    cases rr with
    | cons r' rr =>
      cases rr
      obtain ⟨t, rfl⟩ := r
      obtain ⟨t', rfl⟩ := r'
      exact call_range_2 (range_it I1 q1 q2 q3 q4 q)

/-! ### for -/
/-- W: the invariant by the turn and a measure; N: what the body is to reach -/
def tFor (wi : TI) (g : TG) (tb : TS) : TS := fun D σ H => wi σ H fun J H1 => ∃ W : Nat → Nat → St → Hp → Prop, (∃ m, W 0 m σ H1) ∧ ∀ i m σ H, W i m σ H →
  (J.stop i H ∧ D.nx σ H) ∨ (J.go i H ∧ ∃ N : St → Hp → Prop, (∀ σ' H', N σ' H' → ∃ m', m' < m ∧ W (i + 1) m' σ' H') ∧ ∀ x H', J.yld i H x H' → g x σ H' fun σ2 H2 => tb { D with nx := N, ct := N, bk := D.nx } σ2 H2)
/-- the records at fp as they stand -/
def pinsAt (fp : List Addr) (h : Heap) : List (Addr × Obj) := fp.filterMap fun b => (h.get? b).map fun o => (b, o)
theorem mem_pinsAt {fp : List Addr} {h : Heap} {b : Addr} {o : Obj} (hb : b ∈ fp) (e : h.get? b = some o) : (b, o) ∈ pinsAt fp h := List.mem_filterMap.mpr ⟨b, hb, by rw [e]; rfl⟩
theorem of_pinsAt {fp : List Addr} {h : Heap} {p : Addr × Obj} (hp : p ∈ pinsAt fp h) : p.1 ∈ fp ∧ h.get? p.1 = some p.2 := by
  obtain ⟨b, hb, e⟩ := List.mem_filterMap.mp hp
  cases q : h.get? b with
  | none => rw [q] at e; cases e
  | some o =>
    rw [q] at e
    have e' : (b, o) = p := Option.some.inj e
    subst e'
    exact ⟨hb, q⟩
theorem Inv.pinned {pins : List (Addr × Obj)} {σ : St} {H : Hp} {s : Shared} {fp : List Addr} (I : Inv X pins σ H s) (hf : ∀ b ∈ fp, FpOk X pins H b) (ho : ∀ b ∈ fp, ∃ o, s.heap.get? b = some o ∧ ∀ v, o.data ≠ .cell v) : Inv X (pins ++ pinsAt fp s.heap) σ H s :=
  I.pins_of fun p hp => (List.mem_append.mp hp).elim (fun z => I.pin p (List.mem_append_right _ z)) fun z => by
    obtain ⟨hb, e⟩ := of_pinsAt z
    obtain ⟨f0, f1, f2, _⟩ := hf p.1 hb
    obtain ⟨o, e', d⟩ := ho p.1 hb
    rw [e] at e'; cases e'
    exact ⟨e, f0, f1, f2, d⟩
theorem Inv.unpinned {pins pl : List (Addr × Obj)} {σ : St} {H : Hp} {s : Shared} (I : Inv X (pins ++ pl) σ H s) : Inv X pins σ H s := I.pins_of fun p hp => I.pin p (List.mem_append_right _ (List.mem_append_left _ hp))
theorem ps_for {iter : Expr} {body : List Stmt} {wi : TI} {g : TG} {tb : TS} {pos : Pos} (hp : PassesOwn (model X.prog X.w) X.A X.env X.xe) (hc : X.calm = true) (hi : PI X tg iter wi) (hg : PG X tg g) (hb : PSs X body tb)
    (hs : ∀ x, foldedSetIterable iter X.env x = pure x := by intro _; rfl) : PS X (.For tg iter body [] pos) (tFor wi g tb) := by
  intro pins s σ H D I h
  refine wpAny_For (thn (hi pins s σ H _ I h) fun v s1 h1 => thn h1 fun itv s2 h2 => ?_) hs
  obtain ⟨it, fp, tn, J, H2, e, I2, T, st2, f2, W, ⟨m0, w0⟩, turn⟩ := h2
  subst e
  -- what stays true of the iterator's objects through the loop
  have stat : ∀ {H' : Hp}, (∀ b ∈ fp, H' b = none) → ∀ b ∈ fp, FpOk X pins H' b := fun hn b hb => ⟨hn b hb, (f2 b hb).2⟩
  refine codeAny_forLoop_any (fun n s' => ∃ i σ' H', Inv X pins σ' H' s' ∧ tn i s'.heap ∧ (∀ b ∈ fp, H' b = none) ∧ W i n σ' H') ?_ m0 ⟨0, σ, H2, I2, st2, fun b hb => (f2 b hb).1, w0⟩
  rintro n s3 ⟨i, σ3, H3, I3, st3, fr3, w3⟩
  rcases turn i n σ3 H3 w3 with ⟨stop, qn⟩ | ⟨go, N, hN, step⟩
  · refine wpAny_passesOwn hp (thn (T.done X rfl rfl rfl hc i pins s3 σ3 H3 X.xe I3 (stat fr3) st3 stop) fun r s4 ⟨hr, I4⟩ => ?_)
    subst hr
    exact wpAny_execs_nil ⟨σ3, H3, I4, qn⟩
  · refine wpAny_passesOwn hp (thn (T.item X rfl rfl rfl hc i pins s3 σ3 H3 X.xe I3 (stat fr3) st3 go) fun r s4 ⟨u, hr, h4⟩ => ?_)
    subst hr
    refine wpAny_passesOwn hp (thn h4 fun _ s5 ⟨x, H5, I5, r5, y5, st5, fr5⟩ => ?_)
    have I5' := I5.pinned (stat fr5) (T.obj _ _ st5)
    refine wpAny_passesOwn hp (thn (hg _ s5 σ3 H5 x u _ I5' r5 (step x H5 y5)) fun _ s6 ⟨σ6, H6, I6, q6⟩ => ?_)
    refine wpAny_passesOwn hp (thn (hb _ s6 σ6 H6 _ I6 q6) fun f s7 q7 => ?_)
    have again : ∀ {σ7 : St} {H7 : Hp}, Inv X (pins ++ pinsAt fp s5.heap) σ7 H7 s7 → N σ7 H7 → ∃ m, m < n ∧ ∃ i σ' H', Inv X pins σ' H' s7 ∧ tn i s7.heap ∧ (∀ b ∈ fp, H' b = none) ∧ W i m σ' H' := fun {σ7 H7} I7 n7 => by
      obtain ⟨m', hm, w7⟩ := hN σ7 H7 n7
      refine ⟨m', hm, i + 1, σ7, H7, I7.unpinned, T.keep _ _ _ st5 fun b hb o e => (I7.pin (b, o) (List.mem_append_right _ (List.mem_append_right _ (mem_pinsAt hb e)))).1, fun b hb => ?_, w7⟩
      obtain ⟨o, e, d⟩ := T.obj _ _ st5 b hb
      exact (I7.pin (b, o) (List.mem_append_right _ (List.mem_append_right _ (mem_pinsAt hb e)))).2.1
    cases f with
    | next => obtain ⟨σ7, H7, I7, n7⟩ := q7; exact again I7 n7
    | cont => obtain ⟨σ7, H7, I7, n7⟩ := q7; exact again I7 n7
    | brk => obtain ⟨σ7, H7, I7, q7⟩ := q7; exact ⟨σ7, H7, I7.unpinned, q7⟩
    | ret v => obtain ⟨x7, σ7, H7, I7, r7, q7⟩ := q7; exact ⟨x7, σ7, H7, I7.unpinned, r7, q7⟩
end

/-! ### the forms one uses -/
/-- over a list that the body leaves as it is -/
theorem for_list {K : PySem.W.Frag} {a : Addr} {xs : List V} {g : TG} {tb : TS} {D : Ends} {σ : St} {H : Hp} (Pv : Nat → St → Hp → Prop) (h0 : Pv 0 σ H) (hl : ∀ i σ H, i ≤ xs.length → Pv i σ H → SqL K H a xs)
    (hs : ∀ i x σ H, xs[i]? = some x → Pv i σ H → g x σ H fun σ2 H2 => tb { D with nx := Pv (i + 1), ct := Pv (i + 1), bk := D.nx } σ2 H2) (hd : ∀ σ H, Pv xs.length σ H → D.nx σ H) :
    ∃ W : Nat → Nat → St → Hp → Prop, (∃ m, W 0 m σ H) ∧ ∀ i m σ H, W i m σ H →
      ((Itl K a).stop i H ∧ D.nx σ H) ∨ ((Itl K a).go i H ∧ ∃ N : St → Hp → Prop, (∀ σ' H', N σ' H' → ∃ m', m' < m ∧ W (i + 1) m' σ' H') ∧ ∀ x H', (Itl K a).yld i H x H' → g x σ H' fun σ2 H2 => tb { D with nx := N, ct := N, bk := D.nx } σ2 H2) := by
  refine ⟨fun i m σ H => m = xs.length - i ∧ i ≤ xs.length ∧ Pv i σ H, ⟨xs.length, by simp, Nat.zero_le _, h0⟩, ?_⟩
  rintro i m σ H ⟨rfl, hi, p⟩
  have q := hl i σ H hi p
  by_cases hlt : i < xs.length
  · refine .inr ⟨⟨xs, xs[i], q, by simp [hlt]⟩, Pv (i + 1), fun σ' H' p' => ⟨xs.length - (i + 1), by omega, rfl, hlt, p'⟩, fun x H' y => ?_⟩
    obtain ⟨e, y⟩ := y
    subst e
    exact hs i x σ _ (y xs q) p
  · have e : i = xs.length := by omega
    subst e
    exact .inl ⟨⟨xs, q, Nat.le_refl _⟩, hd σ H p⟩
theorem for_tup {K : PySem.W.Frag} {a : Addr} {xs : List V} {g : TG} {tb : TS} {D : Ends} {σ : St} {H : Hp} (Pv : Nat → St → Hp → Prop) (h0 : Pv 0 σ H) (hl : ∀ i σ H, i ≤ xs.length → Pv i σ H → SqT K H a xs)
    (hs : ∀ i x σ H, xs[i]? = some x → Pv i σ H → g x σ H fun σ2 H2 => tb { D with nx := Pv (i + 1), ct := Pv (i + 1), bk := D.nx } σ2 H2) (hd : ∀ σ H, Pv xs.length σ H → D.nx σ H) :
    ∃ W : Nat → Nat → St → Hp → Prop, (∃ m, W 0 m σ H) ∧ ∀ i m σ H, W i m σ H →
      ((Itt K a).stop i H ∧ D.nx σ H) ∨ ((Itt K a).go i H ∧ ∃ N : St → Hp → Prop, (∀ σ' H', N σ' H' → ∃ m', m' < m ∧ W (i + 1) m' σ' H') ∧ ∀ x H', (Itt K a).yld i H x H' → g x σ H' fun σ2 H2 => tb { D with nx := N, ct := N, bk := D.nx } σ2 H2) := by
  refine ⟨fun i m σ H => m = xs.length - i ∧ i ≤ xs.length ∧ Pv i σ H, ⟨xs.length, by simp, Nat.zero_le _, h0⟩, ?_⟩
  rintro i m σ H ⟨rfl, hi, p⟩
  have q := hl i σ H hi p
  by_cases hlt : i < xs.length
  · refine .inr ⟨⟨xs, xs[i], q, by simp [hlt]⟩, Pv (i + 1), fun σ' H' p' => ⟨xs.length - (i + 1), by omega, rfl, hlt, p'⟩, fun x H' y => ?_⟩
    obtain ⟨e, y⟩ := y
    subst e
    exact hs i x σ _ (y xs q) p
  · have e : i = xs.length := by omega
    subst e
    exact .inl ⟨⟨xs, q, Nat.le_refl _⟩, hd σ H p⟩
theorem for_range {lo : Int} {n : Nat} {g : TG} {tb : TS} {D : Ends} {σ : St} {H : Hp} (Pv : Nat → St → Hp → Prop) (h0 : Pv 0 σ H)
    (hs : ∀ i σ H, i < n → Pv i σ H → g (.int (lo + i)) σ H fun σ2 H2 => tb { D with nx := Pv (i + 1), ct := Pv (i + 1), bk := D.nx } σ2 H2) (hd : ∀ σ H, Pv n σ H → D.nx σ H) :
    ∃ W : Nat → Nat → St → Hp → Prop, (∃ m, W 0 m σ H) ∧ ∀ i m σ H, W i m σ H →
      ((Itr lo n).stop i H ∧ D.nx σ H) ∨ ((Itr lo n).go i H ∧ ∃ N : St → Hp → Prop, (∀ σ' H', N σ' H' → ∃ m', m' < m ∧ W (i + 1) m' σ' H') ∧ ∀ x H', (Itr lo n).yld i H x H' → g x σ H' fun σ2 H2 => tb { D with nx := N, ct := N, bk := D.nx } σ2 H2) := by
  refine ⟨fun i m σ H => m = n - i ∧ i ≤ n ∧ Pv i σ H, ⟨n, by simp, Nat.zero_le _, h0⟩, ?_⟩
  rintro i m σ H ⟨rfl, hi, p⟩
  by_cases hlt : i < n
  · refine .inr ⟨hlt, Pv (i + 1), fun σ' H' p' => ⟨n - (i + 1), by omega, rfl, hlt, p'⟩, fun x H' y => ?_⟩
    obtain ⟨e, y⟩ := y
    subst e y
    exact hs i σ _ hlt p
  · have e : i = n := by omega
    subst e
    exact .inl ⟨Nat.le_refl _, hd σ H p⟩
/-- while, by a word and a measure of the state -/
theorem while_by {c : TT} {tb : TS} {D : Ends} {σ : St} {H : Hp} (Pv : St → Hp → Prop) (μ : St → Hp → Nat) (h0 : Pv σ H)
    (hs : ∀ σ H, Pv σ H → c σ H fun b H1 => if b = true then tb { D with nx := fun σ' H' => Pv σ' H' ∧ μ σ' H' < μ σ H, ct := fun σ' H' => Pv σ' H' ∧ μ σ' H' < μ σ H, bk := D.nx } σ H1 else D.nx σ H1)
    (mono : ∀ σ H Q Q', (∀ b H1, Q b H1 → Q' b H1) → c σ H Q → c σ H Q') : tWhile c tb D σ H := by
  refine ⟨fun m σ H => m = μ σ H ∧ Pv σ H, ⟨_, rfl, h0⟩, ?_⟩
  rintro m σ H ⟨rfl, p⟩
  refine mono σ H _ _ (fun b H1 q => ?_) (hs σ H p)
  cases b with
  | true => exact ⟨_, fun σ' H' ⟨p', l⟩ => ⟨_, l, rfl, p'⟩, q⟩
  | false => exact q
end L2

namespace L2
open PySem PySem.Spec PyProof.Rows

abbrev R2 := V → V → Hp → VK → Prop
/-- a two-place operation on values: f is binaryOp op, inplaceOp op or compareOp op -/
def OpR (X : Cx) (f : Value → Value → Sem Value) (r : R2) : Prop :=
  ∀ (pins : List (Addr × Obj)) (s : Shared) (σ : St) (H : Hp) (x y : V) (v u : Value) (Q : VK), Inv X pins σ H s → RelV x v → RelV y u → r x y H Q →
    wpAny (model X.prog X.w) X.A (f v u) (EP X pins σ Q) X.xe s
/-- a one-place operation -/
def UnR (X : Cx) (f : Value → Sem Value) (r : V → Hp → VK → Prop) : Prop :=
  ∀ (pins : List (Addr × Obj)) (s : Shared) (σ : St) (H : Hp) (x : V) (v : Value) (Q : VK), Inv X pins σ H s → RelV x v → r x H Q →
    wpAny (model X.prog X.w) X.A (f v) (EP X pins σ Q) X.xe s
/-- a call of a value that is known (a builtin, a type) with values -/
def CallR (X : Cx) (f : Value) (r : List V → Hp → VK → Prop) : Prop :=
  ∀ (pins : List (Addr × Obj)) (s : Shared) (σ : St) (H : Hp) (xs : List V) (us : List Value) (Q : VK), Inv X pins σ H s → Vals xs us → r xs H Q →
    wpAny (model X.prog X.w) X.A (call f us) (EP X pins σ Q) X.xe s
/-- a value's truth -/
def TruR (X : Cx) (r : V → Hp → (Bool → Hp → Prop) → Prop) : Prop :=
  ∀ (pins : List (Addr × Obj)) (s : Shared) (σ : St) (H : Hp) (x : V) (v : Value) (Q : Bool → Hp → Prop), Inv X pins σ H s → RelV x v → r x H Q →
    wpAny (model X.prog X.w) X.A (truthy v) (TP X pins σ Q) X.xe s

def tOp (r : R2) (ta tb : TE) : TE := fun σ H Q => ta σ H fun x H1 => tb σ H1 fun y H2 => r x y H2 Q
def tUn (r : V → Hp → VK → Prop) (ta : TE) : TE := fun σ H Q => ta σ H fun x H1 => r x H1 Q
/-- ints in, under C, and a value out -/
def rI (C : Int → Int → Prop) (g : Int → Int → V) : R2 := fun x y H Q => ∃ i j, x = .int i ∧ y = .int j ∧ C i j ∧ Q (g i j) H
def rI0 (g : Int → Int → V) : R2 := fun x y H Q => ∃ i j, x = .int i ∧ y = .int j ∧ Q (g i j) H
def rU (g : Int → V) : V → Hp → VK → Prop := fun x H Q => ∃ i, x = .int i ∧ Q (g i) H

section
variable {X : Cx} {a b c : Expr} {ta tb tc : TE} {pos : Pos}

theorem binT (ha : PE X a ta) (hb : PE X b tb) {pins : List (Addr × Obj)} {s : Shared} {σ : St} {H : Hp} {R : V → V → Hp → Prop} (I : Inv X pins σ H s)
    (h : ta σ H fun x H1 => tb σ H1 fun y H2 => R x y H2) {Q : Value → Shared → Prop} {f : Value → Value → Sem Value}
    (hf : ∀ v u s2 x y H2, Inv X pins σ H2 s2 → RelV x v → RelV y u → R x y H2 → wpAny (model X.prog X.w) X.A (f v u) Q X.xe s2) :
    wpAny (model X.prog X.w) X.A (eval a X.env) (fun v s₁ => wpAny (model X.prog X.w) X.A (eval b X.env) (fun u s₂ => wpAny (model X.prog X.w) X.A (f v u) Q X.xe s₂) X.xe s₁) X.xe s := by
  refine thn (ha pins s σ H _ I h) fun v s1 ⟨x, H1, I1, r1, q1⟩ => ?_
  refine thn (hb pins s1 σ H1 _ I1 q1) fun u s2 ⟨y, H2, I2, r2, q2⟩ => ?_
  exact hf v u s2 x y H2 I2 r1 r2 q2

theorem pe_op {op : Operator} {r : R2} (ho : OpR X (binaryOp op) r) (ha : PE X a ta) (hb : PE X b tb) : PE X (.BinOp a op b pos) (tOp r ta tb) := by
  intro pins s σ H Q I h
  exact wpAny_BinOp (binT ha hb I h fun v u s2 x y H2 I2 rx ry q => ho pins s2 σ H2 x y v u Q I2 rx ry q)
theorem pe_un {op : UnaryOp} {r : V → Hp → VK → Prop} (ho : UnR X (unaryOp op) r) (ha : PE X a ta) : PE X (.UnaryOp op a pos) (tUn r ta) := by
  intro pins s σ H Q I h
  exact UnaryOp_ (thn (ha pins s σ H _ I h) fun v s1 ⟨x, H1, I1, r1, q1⟩ => ho pins s1 σ H1 x v Q I1 r1 q1)
/-- a op= e at a name: the name's slot i -/
theorem augR {op : Operator} {r : R2} (ho : OpR X (inplaceOp op) r) {pins : List (Addr × Obj)} {s : Shared} {σ : St} {H : Hp} {x y : V} {v u : Value} {Q : VK} (I : Inv X pins σ H s)
    (rx : RelV x v) (ry : RelV y u) (q : r x y H Q) : wpAny (model X.prog X.w) X.A (inplaceOp op v u) (EP X pins σ Q) X.xe s := ho pins s σ H x y v u Q I rx ry q

/-! ### ints -/
theorem opI {f : Value → Value → Sem Value} {C : Int → Int → Prop} {g : Int → Int → Int}
    (rule : ∀ (i j : Int) (t u : Tok) (s : Shared) (Q : Value → Shared → Prop) (E : Value → Shared → Prop), C i j → Q (.int (g i j) s.toks) { s with toks := s.toks + 1 } → wpAny (model X.prog X.w) X.A (f (.int i t) (.int j u)) Q E s) :
    OpR X f (rI C fun i j => .int (g i j)) := by
  intro pins s σ H x y v u Q I rx ry h
  obtain ⟨i, j, rfl, rfl, hc, q⟩ := h
  obtain ⟨t, rfl⟩ := rx
  obtain ⟨t', rfl⟩ := ry
  exact rule i j t t' s _ _ hc ⟨.int (g i j), H, I.tok _, ⟨_, rfl⟩, q⟩
theorem opI0 {f : Value → Value → Sem Value} {g : Int → Int → Int}
    (rule : ∀ (i j : Int) (t u : Tok) (s : Shared) (Q : Value → Shared → Prop) (E : Value → Shared → Prop), Q (.int (g i j) s.toks) { s with toks := s.toks + 1 } → wpAny (model X.prog X.w) X.A (f (.int i t) (.int j u)) Q E s) :
    OpR X f (rI0 fun i j => .int (g i j)) := by
  intro pins s σ H x y v u Q I rx ry h
  obtain ⟨i, j, rfl, rfl, q⟩ := h
  obtain ⟨t, rfl⟩ := rx
  obtain ⟨t', rfl⟩ := ry
  exact rule i j t t' s _ _ ⟨.int (g i j), H, I.tok _, ⟨_, rfl⟩, q⟩
theorem opB0 {f : Value → Value → Sem Value} {g : Int → Int → Bool}
    (rule : ∀ (i j : Int) (t u : Tok) (s : Shared) (Q : Value → Shared → Prop) (E : Value → Shared → Prop), Q (.bool (g i j)) s → wpAny (model X.prog X.w) X.A (f (.int i t) (.int j u)) Q E s) :
    OpR X f (rI0 fun i j => .bl (g i j)) := by
  intro pins s σ H x y v u Q I rx ry h
  obtain ⟨i, j, rfl, rfl, q⟩ := h
  obtain ⟨t, rfl⟩ := rx
  obtain ⟨t', rfl⟩ := ry
  exact rule i j t t' s _ _ ⟨.bl (g i j), H, I, rfl, q⟩

def CDiv (i j : Int) : Prop := 0 < j ∧ j < 1073741824
def CDivN (i j : Int) : Prop := j ≠ 0 ∧ j.natAbs < 1073741824
def CPow (i j : Int) : Prop := 0 ≤ j ∧ j ≤ 1000000 ∧ i.natAbs < 2 ^ 64
def CMul (i j : Int) : Prop := (-(2 ^ 64) < i ∧ i < 2 ^ 64) ∨ (-(2 ^ 64) < j ∧ j < 2 ^ 64)
theorem CMul.ok {i j : Int} (h : CMul i j) : IntMulOk i j := by
  rcases h with ⟨h1, h2⟩ | ⟨h1, h2⟩
  · exact .of_left (intBits_le_64 h1 h2)
  · exact .of_right (intBits_le_64 h1 h2)
theorem two_pow_nn (k : Nat) : (0 : Int) ≤ 2 ^ k := by
  rw [two_pow_cast]
  exact Int.natCast_nonneg _

theorem op_add : OpR X (binaryOp .Add) (rI0 fun i j => .int (i + j)) := opI0 fun _ _ _ _ _ _ _ q => add_int q
theorem op_sub : OpR X (binaryOp .Sub) (rI0 fun i j => .int (i - j)) := opI0 fun _ _ _ _ _ _ _ q => sub_int q
theorem op_mul : OpR X (binaryOp .Mult) (rI CMul fun i j => .int (i * j)) := opI fun _ _ _ _ _ _ _ hc q => mul_int q hc.ok
/-- // by a positive divisor -/
theorem op_fdiv : OpR X (binaryOp .FloorDiv) (rI CDiv fun i j => .int (i / j)) := opI fun i j _ _ _ _ _ hc q => by
  have h1 : (0 : Int) < j := hc.1
  have h2 : j < 1073741824 := hc.2
  exact floordiv_int (by omega) (by rw [Int.fdiv_eq_ediv_of_nonneg i (by omega)]; exact q) (.inl (PyProof.noPylong_small (by omega)))
theorem op_fdivN : OpR X (binaryOp .FloorDiv) (rI CDivN fun i j => .int (i.fdiv j)) := opI fun _ _ _ _ _ _ _ hc q => floordiv_int hc.1 q (.inl (PyProof.noPylong_small hc.2))
/-- % by a positive divisor of any size -/
theorem op_mod : OpR X (binaryOp .Mod) (rI (fun _ j => 0 < j) fun i j => .int (i % j)) := opI fun i j _ _ _ _ _ hc q => by
  have h1 : (0 : Int) < j := hc
  exact mod_int' (by omega) (by rw [Int.fmod_eq_emod_of_nonneg i (by omega)]; exact q)
theorem op_modN : OpR X (binaryOp .Mod) (rI (fun _ j => j ≠ 0) fun i j => .int (i.fmod j)) := opI fun _ _ _ _ _ _ _ hc q => mod_int' hc q
theorem op_pow : OpR X (binaryOp .Pow) (rI CPow fun i j => .int (i ^ j.toNat)) := opI fun _ _ _ _ _ _ _ hc q => pow_int_small hc.1 hc.2.1 hc.2.2 q
theorem op_shl : OpR X (binaryOp .LShift) (rI CPow fun i j => .int (i * 2 ^ j.toNat)) := opI fun _ _ _ _ _ _ _ hc q => lshift_int_small hc.1 hc.2.1 hc.2.2 q
theorem op_shr : OpR X (binaryOp .RShift) (rI (fun _ j => 0 ≤ j) fun i j => .int (i / 2 ^ j.toNat)) := opI fun i j _ _ _ _ _ hc q =>
  rshift_int hc (by rw [Int.fdiv_eq_ediv_of_nonneg i (two_pow_nn _)]; exact q)
theorem op_and : OpR X (binaryOp .BitAnd) (rI0 fun i j => .int (Builtin.bitAnd i j)) := opI0 fun _ _ _ _ _ _ _ q => and_int q
theorem op_or : OpR X (binaryOp .BitOr) (rI0 fun i j => .int (Builtin.bitOr i j)) := opI0 fun _ _ _ _ _ _ _ q => or_int q
theorem op_xor : OpR X (binaryOp .BitXor) (rI0 fun i j => .int (Builtin.bitXor i j)) := opI0 fun _ _ _ _ _ _ _ q => xor_int q

theorem iop_add : OpR X (inplaceOp .Add) (rI0 fun i j => .int (i + j)) := opI0 fun _ _ _ _ _ _ _ q => iadd_int q
theorem iop_sub : OpR X (inplaceOp .Sub) (rI0 fun i j => .int (i - j)) := opI0 fun _ _ _ _ _ _ _ q => isub_int q
theorem iop_mul : OpR X (inplaceOp .Mult) (rI CMul fun i j => .int (i * j)) := opI fun _ _ _ _ _ _ _ hc q => imul_int q hc.ok
theorem iop_fdiv : OpR X (inplaceOp .FloorDiv) (rI CDiv fun i j => .int (i / j)) := opI fun i j _ _ _ _ _ hc q => by
  have h1 : (0 : Int) < j := hc.1
  have h2 : j < 1073741824 := hc.2
  exact ifloordiv_int (by omega) (by rw [Int.fdiv_eq_ediv_of_nonneg i (by omega)]; exact q) (.inl (PyProof.noPylong_small (by omega)))
theorem iop_mod : OpR X (inplaceOp .Mod) (rI (fun _ j => 0 < j) fun i j => .int (i % j)) := opI fun i j _ _ _ _ _ hc q => by
  have h1 : (0 : Int) < j := hc
  exact imod_int (by omega) (by rw [Int.fmod_eq_emod_of_nonneg i (by omega)]; exact q)
theorem iop_shl : OpR X (inplaceOp .LShift) (rI CPow fun i j => .int (i * 2 ^ j.toNat)) := opI fun _ _ _ _ _ _ _ hc q => ilshift_int_small hc.1 hc.2.1 hc.2.2 q
theorem iop_shr : OpR X (inplaceOp .RShift) (rI (fun _ j => 0 ≤ j) fun i j => .int (i / 2 ^ j.toNat)) := opI fun i j _ _ _ _ _ hc q =>
  irshift_int hc (by rw [Int.fdiv_eq_ediv_of_nonneg i (two_pow_nn _)]; exact q)
theorem iop_and : OpR X (inplaceOp .BitAnd) (rI0 fun i j => .int (Builtin.bitAnd i j)) := opI0 fun _ _ _ _ _ _ _ q => iand_int q
theorem iop_or : OpR X (inplaceOp .BitOr) (rI0 fun i j => .int (Builtin.bitOr i j)) := opI0 fun _ _ _ _ _ _ _ q => ior_int q
theorem iop_xor : OpR X (inplaceOp .BitXor) (rI0 fun i j => .int (Builtin.bitXor i j)) := opI0 fun _ _ _ _ _ _ _ q => ixor_int q

theorem unI {f : Value → Sem Value} {g : Int → Int}
    (rule : ∀ (i : Int) (t : Tok) (s : Shared) (Q : Value → Shared → Prop) (E : Value → Shared → Prop), Q (.int (g i) s.toks) { s with toks := s.toks + 1 } → wpAny (model X.prog X.w) X.A (f (.int i t)) Q E s) :
    UnR X f (rU fun i => .int (g i)) := by
  intro pins s σ H x v Q I rx h
  obtain ⟨i, rfl, q⟩ := h
  obtain ⟨t, rfl⟩ := rx
  exact rule i t s _ _ ⟨.int (g i), H, I.tok _, ⟨_, rfl⟩, q⟩
theorem un_neg : UnR X (unaryOp .USub) (rU fun i => .int (-i)) := unI fun _ _ _ _ _ q => neg_int q
theorem un_inv : UnR X (unaryOp .Invert) (rU fun i => .int (Builtin.bitNot i)) := unI fun _ _ _ _ _ q => invert_int q

/-! ### bools among ints: n += (a < b) -/
theorem op_add_ib : OpR X (binaryOp .Add) (fun x y H Q => ∃ i k, x = .int i ∧ y = .bl k ∧ Q (.int (i + b2i k)) H) := by
  intro pins s σ H x y v u Q I rx ry h
  obtain ⟨i, k, rfl, rfl, q⟩ := h
  obtain ⟨t, rfl⟩ := rx
  cases ry
  exact add_int_bool ⟨.int (i + b2i k), H, I.tok _, ⟨_, rfl⟩, q⟩
end

/-! ### comparisons -/
/-- the scalars that == tells apart as data does -/
def scal : V → V → Bool
  | .non, .non => true | .non, .int _ => true | .int _, .non => true | .non, .bl _ => true | .bl _, .non => true | .non, .str _ => true | .str _, .non => true
  | .int _, .int _ => true | .bl _, .bl _ => true | .str _, .str _ => true | .byt _, .byt _ => true
  | .int _, .str _ => true | .str _, .int _ => true | .bl _, .str _ => true | .str _, .bl _ => true
  | _, _ => false
def rEq : R2 := fun x y H Q => scal x y = true ∧ Q (.bl (decide (x = y))) H
def rNe : R2 := fun x y H Q => scal x y = true ∧ Q (.bl (!decide (x = y))) H

theorem dec_int {i j : Int} : decide (V.int i = V.int j) = (i == j) := by
  rw [Bool.eq_iff_iff]
  simp
theorem dec_bl {i j : Bool} : decide (V.bl i = V.bl j) = (i == j) := by
  rw [Bool.eq_iff_iff]
  simp
theorem dec_str {i j : Str} : decide (V.str i = V.str j) = (i == j) := by
  rw [Bool.eq_iff_iff]
  simp
theorem dec_byt {i j : Array UInt8} : decide (V.byt i = V.byt j) = (i.toList == j.toList) := by
  rw [Bool.eq_iff_iff]
  cases i
  cases j
  simp

section
variable {X : Cx} {a b c : Expr} {ta tb tc : TE} {pos : Pos}
theorem fin_bl {pins : List (Addr × Obj)} {σ : St} {H : Hp} {s : Shared} {Q : VK} {k k' : Bool} (I : Inv X pins σ H s) (q : Q (.bl k) H) (e : k = k') : EP X pins σ Q (.bool k') s := by
  subst e
  exact ⟨.bl k, H, I, rfl, q⟩
theorem op_eq : OpR X (compareOp .Eq) rEq := by
  intro pins s σ H x y v u Q I rx ry h
  obtain ⟨hs, q⟩ := h
  cases x with
  | non =>
    cases rx
    cases y with
    | non => cases ry; exact PySem.EqNone.eq_none_none (fin_bl I q (by simp))
    | bl j => cases ry; exact PySem.EqNone.eq_none_bool (fin_bl I q (by simp))
    | int j => obtain ⟨t', rfl⟩ := ry; exact PySem.EqNone.eq_none_int (fin_bl I q (by simp))
    | str j => obtain ⟨t', rfl⟩ := ry; exact PySem.EqNone.eq_none_str (fin_bl I q (by simp))
    | _ => exact absurd (show false = true from hs) Bool.false_ne_true
  | bl i =>
    cases rx
    cases y with
    | non => cases ry; exact PySem.EqNone.eq_bool_none (fin_bl I q (by simp))
    | bl j => cases ry; exact eq_bool (fin_bl I q dec_bl)
    | str j => obtain ⟨t', rfl⟩ := ry; exact PySem.EqMixed.eq_bool_str (fin_bl I q (by simp))
    | _ => exact absurd (show false = true from hs) Bool.false_ne_true
  | int i =>
    obtain ⟨t, rfl⟩ := rx
    cases y with
    | non => cases ry; exact PySem.EqNone.eq_int_none (fin_bl I q (by simp))
    | int j => obtain ⟨t', rfl⟩ := ry; exact eq_int (fin_bl I q dec_int)
    | str j => obtain ⟨t', rfl⟩ := ry; exact PySem.EqMixed.eq_int_str (fin_bl I q (by simp))
    | _ => exact absurd (show false = true from hs) Bool.false_ne_true
  | str i =>
    obtain ⟨t, rfl⟩ := rx
    cases y with
    | non => cases ry; exact PySem.EqNone.eq_str_none (fin_bl I q (by simp))
    | bl j => cases ry; exact PySem.EqMixed.eq_str_bool (fin_bl I q (by simp))
    | int j => obtain ⟨t', rfl⟩ := ry; exact PySem.EqMixed.eq_str_int (fin_bl I q (by simp))
    | str j => obtain ⟨t', rfl⟩ := ry; exact eq_str (fin_bl I q dec_str)
    | _ => exact absurd (show false = true from hs) Bool.false_ne_true
  | byt i =>
    obtain ⟨t, rfl⟩ := rx
    cases y with
    | byt j => obtain ⟨t', rfl⟩ := ry; exact PySem.W.eq_bytes (fin_bl I q dec_byt)
    | _ => exact absurd (show false = true from hs) Bool.false_ne_true
  | _ => cases y <;> exact absurd (show false = true from hs) Bool.false_ne_true
theorem op_ne : OpR X (compareOp .NotEq) rNe := by
  intro pins s σ H x y v u Q I rx ry h
  obtain ⟨hs, q⟩ := h
  cases x with
  | non =>
    cases rx
    cases y with
    | non => cases ry; exact PySem.EqNone.ne_none_none (fin_bl I q (by simp))
    | bl j => cases ry; exact PySem.EqNone.ne_none_bool (fin_bl I q (by simp))
    | int j => obtain ⟨t', rfl⟩ := ry; exact PySem.EqNone.ne_none_int (fin_bl I q (by simp))
    | str j => obtain ⟨t', rfl⟩ := ry; exact PySem.EqNone.ne_none_str (fin_bl I q (by simp))
    | _ => exact absurd (show false = true from hs) Bool.false_ne_true
  | bl i =>
    cases rx
    cases y with
    | non => cases ry; exact PySem.EqNone.ne_bool_none (fin_bl I q (by simp))
    | bl j => cases ry; exact ne_bool (fin_bl I q (congrArg not dec_bl))
    | str j => obtain ⟨t', rfl⟩ := ry; exact PySem.EqMixed.ne_bool_str (fin_bl I q (by simp))
    | _ => exact absurd (show false = true from hs) Bool.false_ne_true
  | int i =>
    obtain ⟨t, rfl⟩ := rx
    cases y with
    | non => cases ry; exact PySem.EqNone.ne_int_none (fin_bl I q (by simp))
    | int j => obtain ⟨t', rfl⟩ := ry; exact ne_int (fin_bl I q (congrArg not dec_int))
    | str j => obtain ⟨t', rfl⟩ := ry; exact PySem.EqMixed.ne_int_str (fin_bl I q (by simp))
    | _ => exact absurd (show false = true from hs) Bool.false_ne_true
  | str i =>
    obtain ⟨t, rfl⟩ := rx
    cases y with
    | non => cases ry; exact PySem.EqNone.ne_str_none (fin_bl I q (by simp))
    | bl j => cases ry; exact PySem.EqMixed.ne_str_bool (fin_bl I q (by simp))
    | int j => obtain ⟨t', rfl⟩ := ry; exact PySem.EqMixed.ne_str_int (fin_bl I q (by simp))
    | str j => obtain ⟨t', rfl⟩ := ry; exact ne_str (fin_bl I q (congrArg not dec_str))
    | _ => exact absurd (show false = true from hs) Bool.false_ne_true
  | byt i =>
    obtain ⟨t, rfl⟩ := rx
    cases y with
    | byt j => obtain ⟨t', rfl⟩ := ry; exact PySem.W.ne_bytes (fin_bl I q (congrArg not dec_byt))
    | _ => exact absurd (show false = true from hs) Bool.false_ne_true
  | _ => cases y <;> exact absurd (show false = true from hs) Bool.false_ne_true

theorem op_lt : OpR X (compareOp .Lt) (rI0 fun i j => .bl (decide (i < j))) := opB0 fun _ _ _ _ _ _ _ q => lt_int q
theorem op_le : OpR X (compareOp .LtE) (rI0 fun i j => .bl (decide (i ≤ j))) := opB0 fun _ _ _ _ _ _ _ q => le_int q
theorem op_gt : OpR X (compareOp .Gt) (rI0 fun i j => .bl (decide (j < i))) := opB0 fun _ _ _ _ _ _ _ q => gt_int q
theorem op_ge : OpR X (compareOp .GtE) (rI0 fun i j => .bl (decide (j ≤ i))) := opB0 fun _ _ _ _ _ _ _ q => ge_int q
theorem op_lt_str : OpR X (compareOp .Lt) (fun x y H Q => ∃ i j, x = .str i ∧ y = .str j ∧ Q (.bl (decide (i.cps.toList < j.cps.toList))) H) := by
  intro pins s σ H x y v u Q I rx ry h
  obtain ⟨i, j, rfl, rfl, q⟩ := h
  obtain ⟨t, rfl⟩ := rx
  obtain ⟨t', rfl⟩ := ry
  exact lt_str (fin_bl I q rfl)
/-- the one string within the other -/
theorem op_in_str : OpR X (compareOp .In) (fun x y H Q => ∃ i j, x = .str i ∧ y = .str j ∧ Q (.bl (!(Builtin.Str.occurrences j i 0 j.length 1).isEmpty)) H) := by
  intro pins s σ H x y v u Q I rx ry h
  obtain ⟨i, j, rfl, rfl, q⟩ := h
  obtain ⟨t, rfl⟩ := rx
  obtain ⟨t', rfl⟩ := ry
  exact in_str (fin_bl I q rfl)

/-- is None, is not None: the right side a value none -/
theorem op_isN : OpR X (compareOp .Is) (fun x y H Q => y = .non ∧ Q (.bl (decide (x = .non))) H) := by
  intro pins s σ H x y v u Q I rx ry h
  obtain ⟨rfl, q⟩ := h
  cases ry
  refine is_none_gen (fin_bl I q ?_)
  cases x <;> first
    | (cases rx; rfl)
    | (obtain ⟨t, rfl⟩ := rx; rfl)
theorem op_notN : OpR X (compareOp .IsNot) (fun x y H Q => y = .non ∧ Q (.bl (!decide (x = .non))) H) := by
  intro pins s σ H x y v u Q I rx ry h
  obtain ⟨rfl, q⟩ := h
  cases ry
  refine isnot_none_gen (fin_bl I q ?_)
  cases x <;> first
    | (cases rx; rfl)
    | (obtain ⟨t, rfl⟩ := rx; rfl)

theorem op_notin_str : OpR X (compareOp .NotIn) (fun x y H Q => ∃ i j, x = .str i ∧ y = .str j ∧ Q (.bl (!(!(Builtin.Str.occurrences j i 0 j.length 1).isEmpty))) H) := by
  intro pins s σ H x y v u Q I rx ry h
  obtain ⟨i, j, rfl, rfl, q⟩ := h
  obtain ⟨t, rfl⟩ := rx
  obtain ⟨t', rfl⟩ := ry
  exact notIn_str (fin_bl I q rfl)
/-- is, is not of two objects that are tracked lists or instances -/
def isObj : HO → Bool
  | .lst _ => true
  | .ins _ _ _ => true
  | _ => false
theorem obj_there {pins : List (Addr × Obj)} {s : Shared} {σ : St} {H : Hp} {a : Addr} {o : HO} (I : Inv X pins σ H s) (h : H a = some o) (p : isObj o = true) : ∃ ob, s.heap.get? a = some ob ∧ ob.cls ≠ .type "tuple" := by
  cases o with
  | lst xs =>
    obtain ⟨_, its, n, _, e⟩ : xs.length ≤ sizeLine ∧ ∃ (its : List Value) (n : Nat), Vals xs its ∧ s.heap.get? a = some { cls := .type "list", data := .seq its.toArray n } := I.hok a _ h
    exact ⟨_, e, (by show Value.type "list" ≠ .type "tuple"; decide +kernel)⟩
  | ins C dx fs =>
    have x := I.hok a _ h
    obtain ⟨_, _, _, e, _⟩ := x
    exact ⟨_, e, (by show Value.ref C ≠ .type "tuple"; exact fun z => by cases z)⟩
  | _ => exact absurd (show false = true from p) Bool.false_ne_true
theorem op_is_ref : OpR X (compareOp .Is) (fun x y H Q => ∃ a b oa ob, x = .ref a ∧ y = .ref b ∧ H a = some oa ∧ isObj oa = true ∧ H b = some ob ∧ isObj ob = true ∧ Q (.bl (decide (a = b))) H) := by
  intro pins s σ H x y v u Q I rx ry h
  obtain ⟨a, b, oa, ob, rfl, rfl, ha, pa, hb, pb, q⟩ := h
  cases rx
  cases ry
  obtain ⟨o1, e1, n1⟩ := obj_there I ha pa
  obtain ⟨o2, e2, _⟩ := obj_there I hb pb
  by_cases z : a = b
  · subst z
    exact wpAny_is_ref_self (fin_bl I q (by simp))
  · exact wpAny_is_ref_other z e1 e2 n1 (fin_bl I q (by simp [z]))
theorem op_isnot_ref : OpR X (compareOp .IsNot) (fun x y H Q => ∃ a b oa ob, x = .ref a ∧ y = .ref b ∧ H a = some oa ∧ isObj oa = true ∧ H b = some ob ∧ isObj ob = true ∧ Q (.bl (!decide (a = b))) H) := by
  intro pins s σ H x y v u Q I rx ry h
  obtain ⟨a, b, oa, ob, rfl, rfl, ha, pa, hb, pb, q⟩ := h
  cases rx
  cases ry
  obtain ⟨o1, e1, n1⟩ := obj_there I ha pa
  obtain ⟨o2, e2, _⟩ := obj_there I hb pb
  by_cases z : a = b
  · subst z
    exact wpAny_isNot_ref_self (fin_bl I q (by simp))
  · exact wpAny_isNot_ref_other z e1 e2 n1 (fin_bl I q (by simp [z]))

/-- two rules for one operation: by cases -/
theorem OpR.or {f : Value → Value → Sem Value} {r r' : R2} (h : OpR X f r) (h' : OpR X f r') : OpR X f (fun x y H Q => r x y H Q ∨ r' x y H Q) := by
  intro pins s σ H x y v u Q I rx ry q
  rcases q with q | q
  · exact h pins s σ H x y v u Q I rx ry q
  · exact h' pins s σ H x y v u Q I rx ry q

theorem nomark (b : Expr) {op : CmpOp} (h : op ≠ .In := by decide) (h2 : op ≠ .NotIn := by decide) : behindInMarks op b = false := by
  have e1 : (op == CmpOp.In) = false := by cases op <;> first | rfl | exact absurd rfl h
  have e2 : (op == CmpOp.NotIn) = false := by cases op <;> first | rfl | exact absurd rfl h2
  cases b <;> simp [behindInMarks, e1, e2]
/-- a comparison as a value; hm: nomark b, or (for in, not in) by with_unfolding_all rfl -/
theorem pe_cmpR {op : CmpOp} {r : R2} (ho : OpR X (compareOp op) r) (ha : PE X a ta) (hb : PE X b tb) (hm : behindInMarks op b = false) : PE X (.Compare a [op] [b] pos) (tOp r ta tb) := by
  intro pins s σ H Q I h
  exact wpAny_Compare1 (binT ha hb I h fun v u s2 x y H2 I2 rx ry q => ho pins s2 σ H2 x y v u Q I2 rx ry q) hm
/-- a reading of a value as a test -/
def tTest (t : TE) : TT := fun σ H Q => t σ H fun x H' => ∃ k, x = .bl k ∧ Q k H'
theorem pt_cmpR {op : CmpOp} {r : R2} (ho : OpR X (compareOp op) r) (ha : PE X a ta) (hb : PE X b tb) (hm : behindInMarks op b = false) : PT X (.Compare a [op] [b] pos) (tTest (tOp r ta tb)) := by
  intro pins s σ H Q I h
  refine wpAny_isTrue_Compare1 (thn (ha pins s σ H _ I h) fun v s1 ⟨x, H1, I1, r1, q1⟩ => thn (hb pins s1 σ H1 _ I1 q1) fun u s2 ⟨y, H2, I2, r2, q2⟩ =>
    thn (ho pins s2 σ H2 x y v u _ I2 r1 r2 q2) fun c s3 ⟨z, H3, I3, r3, k, e, q3⟩ => ?_) hm
  subst e
  cases r3
  exact wpAny_truthy_bool ⟨H3, I3, q3⟩
/-- a op1 b op2 c -/
def tChain (r r' : R2) (ta tb tc : TE) : TE := fun σ H Q => ta σ H fun x H1 => tb σ H1 fun y H2 => r x y H2 fun z H3 => ∃ k, z = .bl k ∧
  (if k = true then tc σ H3 fun w' H4 => r' y w' H4 Q else Q (.bl false) H3)
theorem pe_chain {op op' : CmpOp} {r r' : R2} (ho : OpR X (compareOp op) r) (ho' : OpR X (compareOp op') r') (ha : PE X a ta) (hb : PE X b tb) (hc : PE X c tc)
    (hm : lastMarks [op, op'] [b, c] = false := by with_unfolding_all rfl) : PE X (.Compare a [op, op'] [b, c] pos) (tChain r r' ta tb tc) := by
  intro pins s σ H Q I h
  refine Compare_chain (thn (ha pins s σ H _ I h) fun v s1 ⟨x, H1, I1, r1, q1⟩ => chain_link (thn (hb pins s1 σ H1 _ I1 q1) fun u s2 ⟨y, H2, I2, r2, q2⟩ =>
    thn (ho pins s2 σ H2 x y v u _ I2 r1 r2 q2) fun d s3 ⟨z, H3, I3, r3, k, e, q3⟩ => ?_)) hm
  subst e
  cases r3
  refine wpAny_truthy_bool ?_
  cases k with
  | false => exact ite_ff ⟨.bl false, H3, I3, rfl, q3⟩
  | true => exact ite_tt (chain_last (thn (hc pins s3 σ H3 _ I3 q3) fun w' s4 ⟨z', H4, I4, r4, q4⟩ => ho' pins s4 σ H4 y z' u w' Q I4 r2 r4 q4))
theorem pt_chain {op op' : CmpOp} {r r' : R2} (ho : OpR X (compareOp op) r) (ho' : OpR X (compareOp op') r') (ha : PE X a ta) (hb : PE X b tb) (hc : PE X c tc)
    (hm : lastMarks [op, op'] [b, c] = false := by with_unfolding_all rfl) : PT X (.Compare a [op, op'] [b, c] pos) (tTest (tChain r r' ta tb tc)) := by
  intro pins s σ H Q I h
  refine isTrue_chain (thn (ha pins s σ H _ I h) fun v s1 ⟨x, H1, I1, r1, q1⟩ => test_link (thn (hb pins s1 σ H1 _ I1 q1) fun u s2 ⟨y, H2, I2, r2, q2⟩ =>
    thn (ho pins s2 σ H2 x y v u _ I2 r1 r2 q2) fun d s3 ⟨z, H3, I3, r3, k, e, q3⟩ => ?_)) hm
  subst e
  cases r3
  refine wpAny_truthy_bool ?_
  cases k with
  | false =>
    obtain ⟨k', e', q'⟩ := q3
    cases e'
    exact ite_ff ⟨H3, I3, q'⟩
  | true =>
    refine ite_tt (test_last (thn (hc pins s3 σ H3 _ I3 q3) fun w' s4 ⟨z', H4, I4, r4, q4⟩ => thn (ho' pins s4 σ H4 y z' u w' _ I4 r2 r4 q4) fun d' s5 ⟨z2, H5, I5, r5, k2, e2, q5⟩ => ?_))
    subst e2
    cases r5
    exact wpAny_truthy_bool ⟨H5, I5, q5⟩

/-! ### truth -/
/-- a value's truth by the abstract heap -/
def TruV (K : PySem.W.Frag) (x : V) (H : Hp) (k : Bool) : Prop :=
  match x with
  | .non => k = false
  | .bl b => k = b
  | .int i => k = (i != 0)
  | .str y => y.length ≤ sizeLine ∧ k = ((y.length : Int) != 0)
  | .byt y => y.size ≤ sizeLine ∧ k = ((y.size : Int) != 0)
  | .ref p => (∃ xs, SqL K H p xs ∧ k = !xs.isEmpty) ∨ (∃ xs, SqT K H p xs ∧ k = !xs.isEmpty) ∨ ∃ kvs, H p = some (.dK kvs) ∧ k = !kvs.isEmpty
  | _ => False
theorem isEmpty_kv {κ : Type} {kvs : List (κ × V)} {vs : List (κ × Value)} (r : KV kvs vs) : (!vs.isEmpty) = !kvs.isEmpty := by
  cases r <;> rfl
theorem isEmpty_of {xs : List V} {its : List Value} (r : Vals xs its) : (!its.toArray.isEmpty) = !xs.isEmpty := by
  cases r <;> simp
theorem line63 : (sizeLine : Nat) < 2 ^ 63 := by rw [sizeLine_eq]; decide
theorem tru_ok : TruR X (fun x H Q => ∃ k, TruV X.K x H k ∧ Q k H) := by
  intro pins s σ H x v Q I rx h
  obtain ⟨k, e, q⟩ := h
  have hl := line63
  have hs : sizeLine = 16777216 := sizeLine_eq
  cases x with
  | non =>
    cases rx
    have e' : k = false := e
    subst e'
    exact truthy_none ⟨H, I, q⟩
  | bl b =>
    cases rx
    have e' : k = b := e
    subst e'
    exact wpAny_truthy_bool ⟨H, I, q⟩
  | int i =>
    obtain ⟨t, rfl⟩ := rx
    have e' : k = (i != 0) := e
    subst e'
    exact PySem.P.truthy_int ⟨H, I, q⟩
  | str y =>
    obtain ⟨t, rfl⟩ := rx
    obtain ⟨hy, e'⟩ : y.length ≤ sizeLine ∧ k = ((y.length : Int) != 0) := e
    subst e'
    exact PySem.P.truthy_str (by omega) ⟨H, I.tok _, q⟩
  | byt y =>
    obtain ⟨t, rfl⟩ := rx
    obtain ⟨hy, e'⟩ : y.size ≤ sizeLine ∧ k = ((y.size : Int) != 0) := e
    subst e'
    exact PySem.W.truthy_bytes (by omega) ⟨H, I.tok _, q⟩
  | ref p =>
    cases rx
    have e' : (∃ xs, SqL X.K H p xs ∧ k = !xs.isEmpty) ∨ (∃ xs, SqT X.K H p xs ∧ k = !xs.isEmpty) ∨ ∃ kvs, H p = some (.dK kvs) ∧ k = !kvs.isEmpty := e
    rcases e' with ⟨xs, hx, e'⟩ | ⟨xs, hx, e'⟩ | ⟨kvs, hx, e'⟩
    · subst e'
      obtain ⟨its, r, pl, hz⟩ := I.list hx
      have hlen := r.length
      exact wpAny_truthy_list pl.isList (by simp only [List.size_toArray]; omega) ⟨H, I.tok _, by rw [isEmpty_of r]; exact q⟩
    · subst e'
      obtain ⟨its, r, pl, hz⟩ := I.tuple hx
      have hlen := r.length
      exact truthy_tuple pl (by simp only [List.size_toArray]; omega) ⟨H, I.tok _, by rw [isEmpty_of r]; exact q⟩
    · subst e'
      obtain ⟨hz, hS, vs, r, m⟩ : kvs.length ≤ sizeLine ∧ (p == sysModules) = false ∧ ∃ vs, KV kvs vs ∧ s.heap.DictOf (mixKind X.prog X.w) p vs := I.hok p _ hx
      have hlen : kvs.length = vs.length := Paired.length r
      exact wpAny_truthy_dict hS m (by omega) ⟨H, I.tok _, by rw [isEmpty_kv r]; exact q⟩
  | _ => exact (show False from e).elim
/-- any expression whose test is its value's truth (a name, a call, a subscript, a field ..: he by fun _ => rfl) -/
theorem pt_truth (ha : PE X a ta) (he : ∀ whole, isTrue a X.env whole = (do let v ← whole; standAt a.pos; holding [v] (truthy v))) :
    PT X a (fun σ H Q => ta σ H fun x H' => ∃ k, TruV X.K x H' k ∧ Q k H') := by
  intro pins s σ H Q I h
  exact isTrue_plain (thn (ha pins s σ H _ I h) fun v s1 ⟨x, H1, I1, r1, q1⟩ => tru_ok pins s1 σ H1 x v Q I1 r1 q1) (he _)

/-! ### strs and bytes -/
theorem pe_byt {x : List UInt8} {k : Nat} : PE X (.Constant (.bytes x) k pos) (fun _ H Q => Q (.byt x.toArray) H) := fun _ _ _ H _ I h => PySem.W.Constant_bytes ⟨.byt x.toArray, H, I.tok _, ⟨_, rfl⟩, h⟩
theorem op_add_str : OpR X (binaryOp .Add) (fun x y H Q => ∃ i j, x = .str i ∧ y = .str j ∧ i.length + j.length ≤ sizeLine ∧ Q (.str (i ++ j)) H) := by
  intro pins s σ H x y v u Q I rx ry h
  obtain ⟨i, j, rfl, rfl, hz, q⟩ := h
  obtain ⟨t, rfl⟩ := rx
  obtain ⟨t', rfl⟩ := ry
  exact add_str (fun t' tk => ⟨.str (i ++ j), H, I.tok _, ⟨_, rfl⟩, q⟩) hz
theorem iop_add_str : OpR X (inplaceOp .Add) (fun x y H Q => ∃ i j, x = .str i ∧ y = .str j ∧ i.length + j.length ≤ sizeLine ∧ Q (.str (i ++ j)) H) := by
  intro pins s σ H x y v u Q I rx ry h
  obtain ⟨i, j, rfl, rfl, hz, q⟩ := h
  obtain ⟨t, rfl⟩ := rx
  obtain ⟨t', rfl⟩ := ry
  exact iadd_str (fun t' tk => ⟨.str (i ++ j), H, I.tok _, ⟨_, rfl⟩, q⟩) hz
theorem op_add_byt : OpR X (binaryOp .Add) (fun x y H Q => ∃ i j, x = .byt i ∧ y = .byt j ∧ i.size + j.size ≤ 16777216 ∧ Q (.byt (i ++ j)) H) := by
  intro pins s σ H x y v u Q I rx ry h
  obtain ⟨i, j, rfl, rfl, hz, q⟩ := h
  obtain ⟨t, rfl⟩ := rx
  obtain ⟨t', rfl⟩ := ry
  exact PySem.W.KBy.add_bytes hz (fun t' tk => ⟨.byt (i ++ j), H, I.tok _, ⟨_, rfl⟩, q⟩)

def PlainIxT (b : Expr) : Prop := ∀ o i, subscripted b false o i = operate [o, i] (getItem o i)
/-- s[i], 0 ≤ i < len -/
theorem pe_item_str (ha : PE X a ta) (hb : PE X b tb) (hs : PlainIxT b) :
    PE X (.Subscript a b pos) (tOp (fun x y H Q => ∃ z i c, x = .str z ∧ y = .int i ∧ 0 ≤ i ∧ i < 2 ^ 63 ∧ i < z.length ∧ z.cps[i.toNat]? = some c ∧ Q (.str ⟨#[c]⟩) H) ta tb) := by
  intro pins s σ H Q I h
  refine Subscript_ (binT ha hb I h fun v u s2 x y H2 I2 rx ry q => ?_)
  obtain ⟨z, i, c, rfl, rfl, h0, h63, h1, hc, q⟩ := q
  obtain ⟨t, rfl⟩ := rx
  obtain ⟨t', rfl⟩ := ry
  have e : seqIndex? i z.length = some i.toNat := PySem.StrLaws.seqIndex_nonneg h0 h1
  exact tail_any (typeIs_str s2 z t) slot_str_getitem.lookup (getItem_str (c := c) (by
    have e1 : decide (i < -(2 ^ 63 : Int)) = false := decide_eq_false (by omega)
    have e2 : decide (i ≥ 2 ^ 63) = false := decide_eq_false (by omega)
    rw [e1, e2] <;> rfl) (by rw [e]; exact hc) ⟨.str ⟨#[c]⟩, H2, I2.tok _, ⟨_, rfl⟩, q⟩) (hs _ _)
/-- b[i], 0 ≤ i < len -/
theorem pe_item_byt (ha : PE X a ta) (hb : PE X b tb) (hs : PlainIxT b) :
    PE X (.Subscript a b pos) (tOp (fun x y H Q => ∃ (z : List UInt8) (i : Int), x = .byt z.toArray ∧ y = .int i ∧ z.length ≤ sizeLine ∧ 0 ≤ i ∧ i < z.length ∧ Q (.int ((z.getD i.toNat 0).toNat : Nat)) H) ta tb) := by
  intro pins s σ H Q I h
  refine Subscript_ (binT ha hb I h fun v u s2 x y H2 I2 rx ry q => ?_)
  obtain ⟨z, i, rfl, rfl, hz, h0, h1, q⟩ := q
  obtain ⟨t, rfl⟩ := rx
  obtain ⟨t', rfl⟩ := ry
  have hl : sizeLine = 16777216 := sizeLine_eq
  exact tail_any (PySem.W.typeIs_bytes s2 z.toArray t) PySem.W.FB.slot_bytes_getitem.lookup (PySem.W.getItem_bytes (by omega) h0 h1 ⟨.int ((z.getD i.toNat 0).toNat : Nat), H2, I2.tok _, ⟨_, rfl⟩, q⟩) (hs _ _)

/-! ### scalar builtins, by CallR -/
theorem vals1 {x : V} {us : List Value} (r : Vals [x] us) : ∃ u, us = [u] ∧ RelV x u := by
  cases r with
  | cons r1 r2 => cases r2; exact ⟨_, rfl, r1⟩
theorem vals2 {x y : V} {us : List Value} (r : Vals [x, y] us) : ∃ u w', us = [u, w'] ∧ RelV x u ∧ RelV y w' := by
  cases r with
  | cons r1 r2 =>
    cases r2 with
    | cons r3 r4 => cases r4; exact ⟨_, _, rfl, r1, r3⟩
theorem call_abs : CallR X (.builtin "abs") (fun xs H Q => ∃ i, xs = [.int i] ∧ Q (.int (if i < 0 then -i else i)) H) := by
  intro pins s σ H xs us Q I r h
  obtain ⟨i, rfl, q⟩ := h
  obtain ⟨u, rfl, t, rfl⟩ := vals1 r
  exact call_abs_int fun u tk => ⟨.int (if i < 0 then -i else i), H, I.tok _, ⟨_, rfl⟩, q⟩
theorem call_max2 (hc : X.calm = true) : CallR X (.builtin "max") (fun xs H Q => ∃ i j, xs = [.int i, .int j] ∧ Q (.int (if j > i then j else i)) H) := by
  intro pins s σ H xs us Q I r h
  obtain ⟨i, j, rfl, q⟩ := h
  obtain ⟨u, w', rfl, ⟨t, rfl⟩, ⟨t', rfl⟩⟩ := vals2 r
  refine max_two_ints (I.ok.hd hc) fun h' tk k => ⟨_, H, I.kept k, ?_, q⟩
  by_cases hj : j > i
  · rw [if_pos hj, if_pos hj]; exact ⟨_, rfl⟩
  · rw [if_neg hj, if_neg hj]; exact ⟨_, rfl⟩
theorem call_min2 (hc : X.calm = true) : CallR X (.builtin "min") (fun xs H Q => ∃ i j, xs = [.int i, .int j] ∧ Q (.int (if j < i then j else i)) H) := by
  intro pins s σ H xs us Q I r h
  obtain ⟨i, j, rfl, q⟩ := h
  obtain ⟨u, w', rfl, ⟨t, rfl⟩, ⟨t', rfl⟩⟩ := vals2 r
  refine min_two_ints (I.ok.hd hc) fun h' tk k => ⟨_, H, I.kept k, ?_, q⟩
  by_cases hj : j < i
  · rw [if_pos hj, if_pos hj]; exact ⟨_, rfl⟩
  · rw [if_neg hj, if_neg hj]; exact ⟨_, rfl⟩
theorem call_int1 : CallR X (.type "int") (fun xs H Q => (∃ i, xs = [.int i] ∧ Q (.int i) H) ∨ ∃ k, xs = [.bl k] ∧ Q (.int (if k then 1 else 0)) H) := by
  intro pins s σ H xs us Q I r h
  rcases h with ⟨i, rfl, q⟩ | ⟨k, rfl, q⟩
  · obtain ⟨u, rfl, t, rfl⟩ := vals1 r
    exact call_int_int ⟨.int i, H, I, ⟨_, rfl⟩, q⟩
  · obtain ⟨u, rfl, r1⟩ := vals1 r
    cases r1
    exact call_int_bool ⟨.int (if k then 1 else 0), H, I.tok _, ⟨_, rfl⟩, q⟩
theorem call_bool1 : CallR X (.type "bool") (fun xs H Q => (∃ i, xs = [.int i] ∧ Q (.bl (i != 0)) H) ∨ ∃ k, xs = [.bl k] ∧ Q (.bl k) H) := by
  intro pins s σ H xs us Q I r h
  rcases h with ⟨i, rfl, q⟩ | ⟨k, rfl, q⟩
  · obtain ⟨u, rfl, t, rfl⟩ := vals1 r
    exact call_bool_int ⟨.bl (i != 0), H, I, rfl, q⟩
  · obtain ⟨u, rfl, r1⟩ := vals1 r
    cases r1
    exact call_bool_bool ⟨.bl k, H, I, rfl, q⟩
theorem call_str_int : CallR X (.type "str") (fun xs H Q => ∃ i, xs = [.int i] ∧ i.natAbs.log2 < 1920 ∧ Q (.str (toString i)) H) := by
  intro pins s σ H xs us Q I r h
  obtain ⟨i, rfl, hz, q⟩ := h
  obtain ⟨u, rfl, t, rfl⟩ := vals1 r
  exact PySem.P.str_of_int hz ⟨.str _, H, I.tok _, ⟨_, rfl⟩, q⟩
theorem call_ord : CallR X (.builtin "ord") (fun xs H Q => ∃ x, xs = [.str x] ∧ x.length = 1 ∧ Q (.int (x.cps.getD 0 0 : Nat)) H) := by
  intro pins s σ H xs us Q I r h
  obtain ⟨x, rfl, hz, q⟩ := h
  obtain ⟨u, rfl, t, rfl⟩ := vals1 r
  exact ord_of_one hz ⟨.int _, H, I.tok _, ⟨_, rfl⟩, q⟩
theorem call_chr : CallR X (.builtin "chr") (fun xs H Q => ∃ i, xs = [.int i] ∧ 0 ≤ i ∧ i ≤ 1114111 ∧ Q (.str ⟨#[i.toNat]⟩) H) := by
  intro pins s σ H xs us Q I r h
  obtain ⟨i, rfl, h0, h1, q⟩ := h
  obtain ⟨u, rfl, t, rfl⟩ := vals1 r
  exact chr_of_range h0 h1 ⟨.str _, H, I.tok _, ⟨_, rfl⟩, q⟩
/-- len of a str, a bytes, a list, a tuple -/
def LenV (K : PySem.W.Frag) (x : V) (H : Hp) (n : Nat) : Prop :=
  match x with
  | .str y => y.length ≤ sizeLine ∧ n = y.length
  | .byt y => y.size ≤ sizeLine ∧ n = y.size
  | .ref p => (∃ xs, SqL K H p xs ∧ n = xs.length) ∨ ∃ xs, SqT K H p xs ∧ n = xs.length
  | _ => False
theorem call_len : CallR X (.builtin "len") (fun xs H Q => ∃ x n, xs = [x] ∧ LenV X.K x H n ∧ Q (.int n) H) := by
  intro pins s σ H xs us Q I r h
  obtain ⟨x, n, rfl, e, q⟩ := h
  obtain ⟨u, rfl, rx⟩ := vals1 r
  have hl := line63
  have hs : sizeLine = 16777216 := sizeLine_eq
  cases x with
  | str y =>
    obtain ⟨t, rfl⟩ := rx
    obtain ⟨hy, e'⟩ : y.length ≤ sizeLine ∧ n = y.length := e
    subst e'
    exact len_str (by omega) ⟨.int _, H, I.tok _, ⟨_, rfl⟩, q⟩
  | byt y =>
    obtain ⟨t, rfl⟩ := rx
    obtain ⟨hy, e'⟩ : y.size ≤ sizeLine ∧ n = y.size := e
    subst e'
    exact PySem.W.len_bytes (by omega) ⟨.int _, H, I.tok _, ⟨_, rfl⟩, q⟩
  | ref p =>
    cases rx
    have e' : (∃ xs, SqL X.K H p xs ∧ n = xs.length) ∨ ∃ xs, SqT X.K H p xs ∧ n = xs.length := e
    rcases e' with ⟨xs, hx, e'⟩ | ⟨xs, hx, e'⟩
    · subst e'
      obtain ⟨its, r', pl, hz⟩ := I.list hx
      have hlen := r'.length
      exact Calls.call_len_list pl.isList (by simp only [List.size_toArray]; omega) ⟨.int xs.length, H, I.tok _, ⟨_, by simp only [List.size_toArray]; rw [hlen]⟩, q⟩
    · subst e'
      obtain ⟨its, r', pl, hz⟩ := I.tuple hx
      have hlen := r'.length
      exact len_tuple pl (by simp only [List.size_toArray]; omega) ⟨.int xs.length, H, I.tok _, ⟨_, by simp only [List.size_toArray]; rw [hlen]⟩, q⟩
  | _ => exact (show False from e).elim
/-- divmod: a new tuple -/
theorem call_divmod : CallR X (.builtin "divmod") (fun xs H Q => ∃ i j, xs = [.int i, .int j] ∧ CDiv i j ∧ ∀ p, H p = none → Q (.ref p) (upd H p (.tup [.int (i / j), .int (i % j)]))) := by
  intro pins s σ H xs us Q I r h
  obtain ⟨i, j, rfl, ⟨h1, h2⟩, q⟩ := h
  obtain ⟨u, w', rfl, ⟨t, rfl⟩, ⟨t', rfl⟩⟩ := vals2 r
  refine divmod_int (by omega) ?_ (.inl (PyProof.noPylong_small (by omega)))
  rw [Int.fdiv_eq_ediv_of_nonneg i (by omega), Int.fmod_eq_emod_of_nonneg i (by omega)]
  have hn : H s.heap.objs.size = none := I.hok.fresh (Nat.le_refl _)
  refine ⟨.ref s.heap.objs.size, _, ?_, rfl, q _ hn⟩
  refine I.laid (fun b o e => Heap.get?_push_of_some _ e) (Nat.le_refl _) ⟨by simp only [List.length_cons, List.length_nil]; rw [sizeLine_eq]; decide, [.int (i / j) s.toks, .int (i % j) (s.toks + 1)], .cons ⟨_, rfl⟩ (.cons ⟨_, rfl⟩ .nil), ?_⟩
  exact ⟨_, Heap.get?_push_size s.heap rfl, rfl, 0, rfl⟩
end
end L2

namespace L2
open PySem PySem.Spec PyProof.Rows

/-! ### an instance, its attributes a map -/
structure ObjM (h : Heap) (x dx C : Addr) (mA : Str → Option Value) : Prop where
  obj : h.get? x = some (PySem.W.instObj C dx)
  ns : h.Ns1 dx mA
  ne : dx ≠ x

theorem lookIn_ns {h : Heap} {dx : Addr} {mA : Str → Option Value} (n : h.Ns1 dx mA) : ∃ od, h.get? dx = some od ∧ ∀ name, PySem.W.lookIn name od = some (mA name) := by
  obtain ⟨o, es, ep, ho, hd, hk, _, hm⟩ := n
  refine ⟨o, ho, fun name => ?_⟩
  have e := hm name
  unfold nsFind findBy at e
  rw [← Array.find?_toList] at e
  unfold PySem.W.lookIn
  rw [hd]
  dsimp only
  split
  · rename_i y q
    rw [q] at e
    exact congrArg some e
  · rename_i q
    rw [q] at e
    have a : es.toList.any (·.refKey) = false := by
      rw [List.any_eq_false]
      intro y hy
      obtain ⟨z, t, hkey⟩ := hk y (Array.mem_toList_iff.mp hy)
      simp [DictEntry.refKey, hkey]
    have a' : ¬ es.toList.any (·.refKey) = true := by rw [a]; exact Bool.false_ne_true
    rw [if_neg a']
    exact congrArg some e

theorem ObjM.look {h : Heap} {x dx C : Addr} {mA : Str → Option Value} (I : ObjM h x dx C mA) : ∃ od, PySem.W.InstAt h x (PySem.W.instObj C dx) C (some od) ∧ ∀ name, PySem.W.lookIn name od = some (mA name) :=
  let ⟨od, ho, hl⟩ := lookIn_ns I.ns
  ⟨od, ⟨I.obj, rfl, rfl, ho⟩, hl⟩

section
variable {prog : Program} {w : World} {A : Around} {E : Value → Shared → Prop} {s : Shared} {K : PySem.W.Frag} {x dx C f : Addr} {mA : Str → Option Value} {name : Str} {v : Value}

theorem get_map {expr : Bool} {Q : Value → Shared → Prop} (X : K.In s.heap) (I : ObjM s.heap x dx C mA) (hg : PySem.W.plainGet K C name = true) (hh : PySem.W.hasDictIn K C = true)
    (ha : PySem.W.findIn K (.ref C) name = some none) (hv : mA name = some v) (hv' : PySem.W.handedIn v = true) (h : Q v { s with toks := s.toks + 1 }) :
    wpAny (model prog w) A (getAttr (.ref x) name expr) Q E s := by
  obtain ⟨od, J, hl⟩ := I.look
  exact PySem.W.get_value X J (PySem.W.plainGet_of hg).1 (PySem.W.findObj_own hh ha rfl (by rw [hl, hv])) hv' h

theorem get_const {expr : Bool} {a : Value} {Q : Value → Shared → Prop} (X : K.In s.heap) (I : ObjM s.heap x dx C mA) (hg : PySem.W.plainGet K C name = true) (hh : PySem.W.hasDictIn K C = true)
    (ha : PySem.W.findIn K (.ref C) name = some (some a)) (hn : PySem.W.specialIn K a "__get__" = some none) (hc : PySem.W.copiedNames.contains name = false) (hv : mA name = none) (hv' : PySem.W.handedIn a = true)
    (h : Q a { s with toks := s.toks + 1 }) : wpAny (model prog w) A (getAttr (.ref x) name expr) Q E s := by
  obtain ⟨od, J, hl⟩ := I.look
  exact PySem.W.get_value X J (PySem.W.plainGet_of hg).1 (PySem.W.findObj_cls hh ha hn hv' hc (by rw [hl, hv])) hv' h

theorem get_meth {pl : Sem Bool} {Q : Value × List Value → Shared → Prop} (X : K.In s.heap) (I : ObjM s.heap x dx C mA) (hg : PySem.W.plainGet K C name = true)
    (hf : PySem.W.findIn K (.ref C) name = some (some (.ref f))) (ht : PySem.W.isFn K (.ref f) = true) (hv : mA name = none) (h : Q (.ref f, [.ref x]) s) :
    wpAny (model prog w) A (getMethod (.ref x) name pl) Q E s := by
  obtain ⟨od, J, hl⟩ := I.look
  exact PySem.W.method_fn X J (PySem.W.plainGet_of hg).1 (PySem.W.plainGet_of hg).2 hf (beq_iff_eq.mp ht) (by show (PySem.W.lookIn name od).map (·.isSome) = some false; rw [hl, hv]; rfl) h

theorem set_map {ns : List Str} {Q : Unit → Shared → Prop} (X : K.In s.heap) (I : ObjM s.heap x dx C mA)
    (hs : PySem.W.findIn K (.ref C) "__setattr__" = some (some (.builtin "object.__setattr__"))) (hp : PySem.W.plainOver K C = true) (ht : PySem.W.takerIn K C name = some none) (hh : PySem.W.hasDictIn K C = true)
    (hw : PySem.Within mA ns) (hsz : ns.length ≤ sizeLine)
    (h : ∀ h', ObjM h' x dx C (fun y => if y = name then some v else mA y) → Heap.SameBut dx s.heap h' → Q () { s with heap := h', toks := s.toks + 2 }) :
    wpAny (model prog w) A (setAttr (.ref x) name v) Q E s := by
  obtain ⟨od, J, hl⟩ := I.look
  refine PySem.W.set_plain X J hs (PySem.W.osa_open (s := { s with toks := s.toks + 1 }) (r := none) X J hp ht fun b => ?_)
  obtain ⟨cd, hc, hd'⟩ := PySem.W.any_some hh
  have hx : s.heap.get? x = some ⟨.ref C, some dx, .plain, #[]⟩ := I.obj
  refine wpAny_bind (wpAny_pure (wpAny_bind (wpAny_bind (wpAny_loadPart hx (wpAny_bind (PySem.W.Looks.here (s := { s with toks := s.toks + 1 }) (PySem.W.looks_clsIn X hc) ?_))))))
  rw [hd']
  refine wpAny_pure (a := some dx) (wpAny_bind (wpAny_pure (wpAny_bind ?_)))
  refine wpAny_nsSet1 (s := { s with toks := s.toks + 1 }) I.ns fun h' hn2 hs2 => ?_
  obtain ⟨oD, esD, epD, hoD, hdD, hcD⟩ := hn2.count (PySem.Within.cons name v hw)
  refine wpAny_bind (wpAny_lookBehind hoD (by rw [hdD]; exact pastItsLine_dict (Nat.le_trans hcD (by rw [List.length_cons]; omega))) ?_)
  exact wpAny_pure (h _ ⟨(hs2.2 _ (Ne.symm I.ne)).trans I.obj, hn2, I.ne⟩ hs2)

/-- C(..): the dict at the heap's end, the instance behind it; then its __init__ -/
theorem make_map {R : Result → Shared → Prop} {vs : List Value} {kw : List (Str × Value)} (X : K.In s.heap) (hm : PySem.W.makesIn K C = true)
    (hi : PySem.W.findIn K (.ref C) "__init__" = some (some (.ref f))) (hf : PySem.W.typeIn K (.ref f) = some (.type "function"))
    (h : codeAny (model prog w) (A.under (.builtin "type.__call__" ⟨.ref C :: vs, kw⟩)) (.call (.ref f) ⟨.ref (s.heap.objs.size + 1) :: vs, kw⟩) (PySem.W.InitBack (s.heap.objs.size + 1) R)
      { s with heap := (s.heap.push PySem.W.emptyDict).push (PySem.W.instObj C s.heap.objs.size) }) :
    codeAny (model prog w) A (.call (.ref C) ⟨vs, kw⟩) R s := by
  obtain ⟨hh, g, d, t, os⟩ := s
  exact PySem.W.make_core (PySem.W.makes_of X hm) (PySem.W.looks_findIn X hi) (fun self => PySem.W.bind_fn X self hf) (.inl rfl) h
/-- C() where there is no __init__ but object's -/
theorem make_map0 {R : Result → Shared → Prop} (X : K.In s.heap) (hm : PySem.W.makesIn K C = true)
    (hi : PySem.W.findIn K (.ref C) "__init__" = some (some (.builtin "object.__init__")))
    (hb : ∀ self, PySem.W.Looks (model prog w) s.heap (bindSpecial (.builtin "object.__init__") self) (.builtin "object.__init__", [self]))
    (h : codeAny (model prog w) (A.under (.builtin "type.__call__" ⟨[.ref C], []⟩)) (.call (.builtin "object.__init__") ⟨[.ref (s.heap.objs.size + 1)], []⟩) (PySem.W.InitBack (s.heap.objs.size + 1) R)
      { s with heap := (s.heap.push PySem.W.emptyDict).push (PySem.W.instObj C s.heap.objs.size) }) :
    codeAny (model prog w) A (.call (.ref C) ⟨[], []⟩) R s := by
  obtain ⟨hh, g, d, t, os⟩ := s
  exact PySem.W.make_core (PySem.W.makes_of X hm) (PySem.W.looks_findIn X hi) hb (.inr ⟨rfl, rfl⟩) h
end

/-! ### the attributes as a list of pairs -/
def putF (f : Str) (v : V) : List (Str × V) → List (Str × V)
  | [] => [(f, v)]
  | (g, x) :: r => if g = f then (g, v) :: r else (g, x) :: putF f v r
theorem lookup_putF (f g : Str) (v : V) : ∀ fs : List (Str × V), (putF f v fs).lookup g = if g = f then some v else fs.lookup g
  | [] => by
    show List.lookup g [(f, v)] = _
    by_cases h : g = f
    · have hb : (g == f) = true := beq_iff_eq.mpr h
      simp only [List.lookup, hb, if_pos h]
    · have hb : (g == f) = false := beq_eq_false_iff_ne.mpr h
      simp only [List.lookup, hb, if_neg h]
  | (k, x) :: r => by
    have ih := lookup_putF f g v r
    rw [show putF f v ((k, x) :: r) = (if k = f then (k, v) :: r else (k, x) :: putF f v r) from rfl]
    by_cases hk : k = f
    · rw [if_pos hk]
      by_cases h : g = k
      · have hb : (g == k) = true := beq_iff_eq.mpr h
        simp only [List.lookup, hb, if_pos (h.trans hk)]
      · have hb : (g == k) = false := beq_eq_false_iff_ne.mpr h
        simp only [List.lookup, hb, if_neg (fun e : g = f => h (e.trans hk.symm))]
    · rw [if_neg hk]
      by_cases h : g = k
      · have hb : (g == k) = true := beq_iff_eq.mpr h
        simp only [List.lookup, hb, if_neg (fun e : g = f => hk (h.symm.trans e))]
      · have hb : (g == k) = false := beq_eq_false_iff_ne.mpr h
        simp only [List.lookup, hb]
        exact ih
theorem keys_putF (f : Str) (v : V) : ∀ fs : List (Str × V), f ∈ (putF f v fs).map (·.1) ∧ ∀ g, g ∈ fs.map (·.1) → g ∈ (putF f v fs).map (·.1)
  | [] => ⟨by simp [putF], fun g h => by simp at h⟩
  | (k, x) :: r => by
    obtain ⟨i1, i2⟩ := keys_putF f v r
    rw [show putF f v ((k, x) :: r) = (if k = f then (k, v) :: r else (k, x) :: putF f v r) from rfl]
    by_cases hk : k = f
    · rw [if_pos hk]
      subst hk
      exact ⟨by simp, fun g h => by simpa using h⟩
    · rw [if_neg hk]
      refine ⟨?_, fun g h => ?_⟩
      · rw [List.map_cons]
        exact List.mem_cons_of_mem _ i1
      · rw [List.map_cons] at h ⊢
        rcases List.mem_cons.mp h with e | e
        · exact List.mem_cons.mpr (.inl e)
        · exact List.mem_cons_of_mem _ (i2 g e)
theorem length_putF (f : Str) (v : V) : ∀ fs : List (Str × V), (putF f v fs).length ≤ fs.length + 1
  | [] => by simp [putF]
  | (k, x) :: r => by
    have ih := length_putF f v r
    rw [show putF f v ((k, x) :: r) = (if k = f then (k, v) :: r else (k, x) :: putF f v r) from rfl]
    by_cases hk : k = f
    · rw [if_pos hk, List.length_cons, List.length_cons]; omega
    · rw [if_neg hk, List.length_cons, List.length_cons]; omega

theorem RelO.some_of {v : V} {o : Option Value} (r : RelO (some v) o) : ∃ u, o = some u ∧ RelV v u := by
  cases o with
  | none => exact (show False from r).elim
  | some u => exact ⟨u, rfl, r⟩
theorem RelO.none_of {o : Option Value} (r : RelO none o) : o = none := by
  cases o with
  | none => rfl
  | some u => exact (show False from r).elim
theorem handed_of {v : V} {u : Value} (r : RelV v u) : PySem.W.handedIn u = true := by
  cases v with
  | non => cases (show u = Value.none from r); rfl
  | bl b => cases (show u = Value.bool b from r); rfl
  | int i => obtain ⟨t, e⟩ := (show ∃ t, u = Value.int i t from r); cases e; rfl
  | str x => obtain ⟨t, e⟩ := (show ∃ t, u = Value.str x t from r); cases e; rfl
  | byt b => obtain ⟨t, e⟩ := (show ∃ t, u = Value.bytes b t from r); cases e; rfl
  | flt b => obtain ⟨t, e⟩ := (show ∃ t, u = Value.float b t from r); cases e; rfl
  | ref a => cases (show u = Value.ref a from r); rfl
  | ty n => cases (show u = Value.type n from r); rfl

section
variable {P : Program} {w : World} {H H' : Hp} {h h' : Heap} {a C dx : Addr} {fs fs' : List (Str × V)}
theorem ins_get (hok : HOk P w H h) (e : H a = some (.ins C dx fs)) : ∃ mA, ObjM h a dx C mA ∧ (∀ f, RelO (fs.lookup f) (mA f)) ∧ PySem.Within mA (fs.map (·.1)) ∧ fs.length ≤ 1000 ∧ H dx = some (.own a) := by
  obtain ⟨d, z, ne, ob, mA, n, r, q⟩ := (show ObjOk P w H h a (.ins C dx fs) from hok a _ e)
  exact ⟨mA, ⟨ob, n, ne⟩, r, q, z, d⟩
end

/-! ### what of the text a class must have -/
structure Cls (K : PySem.W.Frag) (C : Addr) : Prop where
  pg : PySem.W.plainGet K C Str.empty = true
  hd : PySem.W.hasDictIn K C = true
  po : PySem.W.plainOver K C = true
  sa : PySem.W.findIn K (.ref C) "__setattr__" = some (some (.builtin "object.__setattr__"))
theorem Cls.get {K : PySem.W.Frag} {C : Addr} (c : Cls K C) (f : Str) : PySem.W.plainGet K C f = true := c.pg
/-- no class of it has the name -/
def NoAttr (K : PySem.W.Frag) (C : Addr) (f : Str) : Prop := PySem.W.findIn K (.ref C) f = some none
theorem NoAttr.taker {K : PySem.W.Frag} {C : Addr} {f : Str} (n : NoAttr K C f) : PySem.W.takerIn K C f = some none := by
  unfold PySem.W.takerIn
  rw [show PySem.W.findIn K (.ref C) f = some none from n]
  rfl
/-- a constant of the class -/
structure Con (K : PySem.W.Frag) (C : Addr) (f : Str) (v : V) (u : Value) : Prop where
  at_ : PySem.W.findIn K (.ref C) f = some (some u)
  rel : RelV v u
  get : PySem.W.specialIn K u "__get__" = some none
  cp : PySem.W.copiedNames.contains f = false
/-- a method: a plain def of the class or of one above it -/
structure Meth (K : PySem.W.Frag) (C : Addr) (m : Str) (f : Addr) : Prop where
  at_ : PySem.W.findIn K (.ref C) m = some (some (.ref f))
  fn : PySem.W.isFn K (.ref f) = true
  kp : PySem.W.keepIn K (.ref f) = true

section
variable {X : Cx} {pins : List (Addr × Obj)} {σ : St} {H : Hp} {s : Shared} {a C dx : Addr} {fs : List (Str × V)} {f : Str} {v : V} {A : Around} {E : Value → Shared → Prop}

theorem getattr_ok {b : Bool} {Q : Value → Shared → Prop} (I : Inv X pins σ H s) (e : H a = some (.ins C dx fs)) (c : Cls X.K C) (n : NoAttr X.K C f) (l : fs.lookup f = some v)
    (h : ∀ u s', Inv X pins σ H s' → RelV v u → Q u s') : wpAny (model X.prog X.w) A (getAttr (.ref a) f b) Q E s := by
  obtain ⟨mA, O, r, _, _, _⟩ := ins_get I.hok e
  obtain ⟨u, hu, ru⟩ := RelO.some_of (v := v) (o := mA f) (by rw [← l]; exact r f)
  exact get_map I.kIn O (c.get f) c.hd n hu (handed_of ru) (h u _ (I.tok _) ru)

theorem getcon_ok {b : Bool} {u : Value} {Q : Value → Shared → Prop} (I : Inv X pins σ H s) (e : H a = some (.ins C dx fs)) (c : Cls X.K C) (k : Con X.K C f v u) (l : fs.lookup f = none)
    (h : ∀ s', Inv X pins σ H s' → Q u s') : wpAny (model X.prog X.w) A (getAttr (.ref a) f b) Q E s := by
  obtain ⟨mA, O, r, _, _, _⟩ := ins_get I.hok e
  have hn : mA f = none := RelO.none_of (by rw [← l]; exact r f)
  exact get_const I.kIn O (c.get f) c.hd k.at_ k.get k.cp hn (handed_of k.rel) (h _ (I.tok _))

theorem getmeth_ok {m : Str} {g : Addr} {pl : Sem Bool} {Q : Value × List Value → Shared → Prop} (I : Inv X pins σ H s) (e : H a = some (.ins C dx fs)) (c : Cls X.K C) (k : Meth X.K C m g) (l : fs.lookup m = none)
    (h : Q (.ref g, [.ref a]) s) : wpAny (model X.prog X.w) A (getMethod (.ref a) m pl) Q E s := by
  obtain ⟨mA, O, r, _, _, _⟩ := ins_get I.hok e
  have hn : mA m = none := RelO.none_of (by rw [← l]; exact r m)
  exact get_meth I.kIn O (c.get m) k.at_ k.fn hn h

theorem setattr_ok {y : V} {u : Value} {Q : Unit → Shared → Prop} (I : Inv X pins σ H s) (e : H a = some (.ins C dx fs)) (c : Cls X.K C) (n : NoAttr X.K C f) (hl : fs.length < 1000) (ry : RelV y u)
    (h : ∀ s', Inv X pins σ (upd H a (.ins C dx (putF f y fs))) s' → Q () s') : wpAny (model X.prog X.w) A (setAttr (.ref a) f u) Q E s := by
  obtain ⟨mA, O, r, wi, _, ho⟩ := ins_get I.hok e
  have hz : (fs.map (·.1)).length ≤ sizeLine := by rw [List.length_map, sizeLine_eq]; omega
  refine set_map I.kIn O c.sa c.po n.taker c.hd wi hz fun h' O' sb => h _ ?_
  have hd : ∃ o, h'.get? dx = some o := let ⟨o, _, _, e', _⟩ := O'.ns; ⟨o, e'⟩
  refine I.write (x := a) (e := dx) (by rw [e]; exact True.intro) (.inr ho) (fun b q hb z => (sb.2 b hb).trans z) hd ?_
  refine ⟨by rw [upd_ne O.ne]; exact ho, ?_, O.ne, O'.obj, _, O'.ns, fun g => ?_, fun g hg => ?_⟩
  · have := length_putF f y fs; omega
  · show RelO ((putF f y fs).lookup g) (if g = f then some u else mA g)
    rw [lookup_putF]
    by_cases q : g = f
    · rw [if_pos q, if_pos q]; exact ry
    · rw [if_neg q, if_neg q]; exact r g
  · by_cases q : g = f
    · rw [q]; exact (keys_putF f y fs).1
    · refine (keys_putF f y fs).2 g (wi g fun z => hg ?_)
      show (if g = f then some u else mA g) = none
      rw [if_neg q]; exact z

/-- a new instance, tracked, without attributes -/
theorem Inv.made (I : Inv X pins σ H s) : Inv X pins σ (upd (upd H s.heap.objs.size (.own (s.heap.objs.size + 1))) (s.heap.objs.size + 1) (.ins C s.heap.objs.size []))
    { s with heap := (s.heap.push PySem.W.emptyDict).push (PySem.W.instObj C s.heap.objs.size) } := by
  have e1 : (s.heap.push PySem.W.emptyDict).get? s.heap.objs.size = some PySem.W.emptyDict := Heap.get?_push_size s.heap rfl
  have e2 : ((s.heap.push PySem.W.emptyDict).push (PySem.W.instObj C s.heap.objs.size)).get? (s.heap.objs.size + 1) = some (PySem.W.instObj C s.heap.objs.size) := by
    have := Heap.get?_push_size (s.heap.push PySem.W.emptyDict) (o := PySem.W.instObj C s.heap.objs.size) rfl
    rwa [Heap.size_push] at this
  have e3 : (s.heap.push PySem.W.emptyDict).Ns s.heap.objs.size (fun _ => none) := ⟨PySem.W.emptyDict, #[], _, e1, rfl, (fun e he => absurd he (by simp)), fun _ => rfl⟩
  have I1 := I.laid (a := s.heap.objs.size) (o := .own (s.heap.objs.size + 1)) (h' := s.heap.push PySem.W.emptyDict) (t' := s.toks) (fun b u q => Heap.get?_push_of_some _ q) (Nat.le_refl _) ⟨_, e1⟩
  refine I1.laid (a := s.heap.objs.size + 1) (o := .ins C s.heap.objs.size []) (t' := s.toks) (fun b u q => Heap.get?_push_of_some _ q) (Nat.le_of_eq (Heap.size_push _ _)) ?_
  have ne : s.heap.objs.size ≠ s.heap.objs.size + 1 := Nat.ne_of_lt (Nat.lt_succ_self _)
  refine ⟨by rw [upd_ne ne, upd_same], Nat.zero_le _, ne, e2, fun _ => none, (Heap.Ns1.of_empty e3).at fun o q => Heap.get?_push_of_some _ q, fun _ => True.intro, fun y hy => absurd rfl hy⟩

/-- e.f where nothing but the object is asked: through attributeBase (super) and the last hold -/
theorem attr_of {prog : Program} {w : World} {env : Env} {e : Expr} {f : Str} {pos : Pos} {s : Shared} {Q : Value → Shared → Prop} (hb : attributeBase e f env (eval e env) = eval e env)
    (h : wpAny (model prog w) A (eval e env) (fun o s₁ => wpAny (model prog w) A (getAttr o f true) Q E s₁) E s) : wpAny (model prog w) A (eval (.Attribute e f pos) env) Q E s :=
  Attribute_any_ h (by rw [arm_eval_Attribute, hb])
end

/-! ### readings and rules -/
/-- e.f, an attribute of the instance -/
def tFld (K : PySem.W.Frag) (ta : TE) (f : Str) : TE := fun σ H Q => ta σ H fun x H1 => ∃ a C dx fs v, x = .ref a ∧ H1 a = some (.ins C dx fs) ∧ Cls K C ∧ NoAttr K C f ∧ fs.lookup f = some v ∧ Q v H1
/-- e.f, a constant of the class -/
def tCon (K : PySem.W.Frag) (ta : TE) (f : Str) : TE := fun σ H Q => ta σ H fun x H1 => ∃ a C dx fs v u, x = .ref a ∧ H1 a = some (.ins C dx fs) ∧ Cls K C ∧ Con K C f v u ∧ fs.lookup f = none ∧ Q v H1
/-- e.f = value -/
def sFld (K : PySem.W.Frag) (ta tv : TE) (f : Str) : TS := fun D σ H => tv σ H fun y H1 => ta σ H1 fun x H2 => ∃ a C dx fs, x = .ref a ∧ H2 a = some (.ins C dx fs) ∧ Cls K C ∧ NoAttr K C f ∧ fs.length < 1000 ∧
  D.nx σ (upd H2 a (.ins C dx (putF f y fs)))
/-- an augmented operator on two values -/
def InOp (X : Cx) (op : Operator) (rd : V → V → Hp → VK → Prop) : Prop :=
  ∀ (pins : List (Addr × Obj)) (s : Shared) (σ : St) (H : Hp) (x y : V) (u v : Value) (Q : VK), Inv X pins σ H s → RelV x u → RelV y v → rd x y H Q → wpAny (model X.prog X.w) X.A (inplaceOp op u v) (EP X pins σ Q) X.xe s
/-- e.f op= value -/
def sFldAug (K : PySem.W.Frag) (ta tv : TE) (rd : V → V → Hp → VK → Prop) (f : Str) : TS := fun D σ H => ta σ H fun x H1 => ∃ a C dx fs v, x = .ref a ∧ H1 a = some (.ins C dx fs) ∧ Cls K C ∧ NoAttr K C f ∧ fs.lookup f = some v ∧
  tv σ H1 fun y H2 => rd v y H2 fun z H3 => ∃ dx' fs', H3 a = some (.ins C dx' fs') ∧ fs'.length < 1000 ∧ D.nx σ (upd H3 a (.ins C dx' (putF f z fs')))

section
variable {X : Cx} {o e value : Expr} {f : Str} {pos pos' tpos : Pos} {ta tv : TE}
theorem pe_fld (he : PE X e ta) (hb : attributeBase e f X.env (eval e X.env) = eval e X.env) : PE X (.Attribute e f pos) (tFld X.K ta f) := by
  intro pins s σ H Q I h
  refine attr_of hb (thn (he pins s σ H _ I h) fun u s1 ⟨x, H1, I1, rx, a, C, dx, fs, v, ex, ea, c, n, l, q⟩ => ?_)
  subst ex
  obtain rfl : u = Value.ref a := rx
  exact getattr_ok I1 ea c n l fun u' s2 I2 ru => ⟨v, H1, I2, ru, q⟩
theorem pe_con (he : PE X e ta) (hb : attributeBase e f X.env (eval e X.env) = eval e X.env) : PE X (.Attribute e f pos) (tCon X.K ta f) := by
  intro pins s σ H Q I h
  refine attr_of hb (thn (he pins s σ H _ I h) fun u s1 ⟨x, H1, I1, rx, a, C, dx, fs, v, u0, ex, ea, c, k, l, q⟩ => ?_)
  subst ex
  obtain rfl : u = Value.ref a := rx
  exact getcon_ok I1 ea c k l fun s2 I2 => ⟨v, H1, I2, k.rel, q⟩
theorem ps_fld (ha : PE X o ta) (hv : PE X value tv) (hs : swapsWith value (some (.Attribute o f pos')) pos.line X.env = pure false) : PS X (.Assign [.Attribute o f pos'] value pos) (sFld X.K ta tv f) := by
  intro pins s σ H D I h
  refine plainObj_wpAny_Assign_Attribute (thn (hv pins s σ H _ I h) fun u s1 ⟨y, H1, I1, ry, q⟩ => thn (ha pins s1 σ H1 _ I1 q) fun ov s2 ⟨x, H2, I2, rx, a, C, dx, fs, ex, ea, c, n, l, q2⟩ => ?_) hs
  subst ex
  obtain rfl : ov = Value.ref a := rx
  exact setattr_ok I2 ea c n l ry fun s3 I3 => ⟨σ, _, I3, q2⟩
theorem ps_fldaug {op : Operator} {rd : V → V → Hp → VK → Prop} (ha : PE X o ta) (hv : PE X value tv) (hop : InOp X op rd) : PS X (.AugAssign (.Attribute o f tpos) op value pos) (sFldAug X.K ta tv rd f) := by
  intro pins s σ H D I h
  refine wpAny_AugAssign_AttributeAny (thn (ha pins s σ H _ I h) fun ov s1 ⟨x, H1, I1, rx, a, C, dx, fs, v, ex, ea, c, n, l, q⟩ => ?_)
  subst ex
  obtain rfl : ov = Value.ref a := rx
  refine getattr_ok I1 ea c n l fun u s2 I2 ru => thn (hv pins s2 σ H1 _ I2 q) fun w3 s3 ⟨y, H2, I3, ry, q3⟩ => thn (hop pins s3 σ H2 v y u w3 _ I3 ru ry q3) fun w4 s4 ⟨z, H3, I4, rz, dx', fs', ea', l', q4⟩ => ?_
  exact setattr_ok I4 ea' c n l' rz fun s5 I5 => ⟨σ, _, I5, q4⟩
def rAdd : V → V → Hp → VK → Prop := fun x y H Q => ∃ i j, x = .int i ∧ y = .int j ∧ Q (.int (i + j)) H
def rSub : V → V → Hp → VK → Prop := fun x y H Q => ∃ i j, x = .int i ∧ y = .int j ∧ Q (.int (i - j)) H
theorem in_add : InOp X .Add rAdd := by
  rintro pins s σ H x y u v Q I rx ry ⟨i, j, rfl, rfl, q⟩
  obtain ⟨t, rfl⟩ := (show ∃ t, u = Value.int i t from rx)
  obtain ⟨t', rfl⟩ := (show ∃ t', v = Value.int j t' from ry)
  exact PyProof.Rows.iadd_int ⟨.int (i + j), H, I.tok _, ⟨_, rfl⟩, q⟩
theorem in_sub : InOp X .Sub rSub := by
  rintro pins s σ H x y u v Q I rx ry ⟨i, j, rfl, rfl, q⟩
  obtain ⟨t, rfl⟩ := (show ∃ t, u = Value.int i t from rx)
  obtain ⟨t', rfl⟩ := (show ∃ t', v = Value.int j t' from ry)
  exact PyProof.Rows.isub_int ⟨.int (i - j), H, I.tok _, ⟨_, rfl⟩, q⟩

/-- what is between an instance and its method: the tree of a method call -/
theorem methcall_of {pl : Sem Bool} {m : Str} {apos : Pos} {args : List Expr} {pins : List (Addr × Obj)} {s : Shared} {σ : St} {H : Hp} {Q : Value → Shared → Prop} {te : TE} (he : PE X e te) (I : Inv X pins σ H s)
    (h : te σ H fun x H1 => ∃ a C dx fs g, x = .ref a ∧ H1 a = some (.ins C dx fs) ∧ Cls X.K C ∧ Meth X.K C m g ∧ fs.lookup m = none ∧
      ∀ s1, Inv X pins σ H1 s1 → wpAny (model X.prog X.w) X.A (callWith pos (.ref g) [.ref a] (backTo pos (starEach args X.env)) (backToKw pos (keywordEach [] X.env))) Q X.xe s1)
    (ht : eval (.Call (.Attribute e m apos) args [] pos) X.env = (do
      let ov ← eval e X.env
      standAt apos.atName
      let (f, first) ← holding [ov] (getMethod ov m pl)
      callWith pos f first (backTo pos (starEach args X.env)) (backToKw pos (keywordEach [] X.env)))) :
    wpAny (model X.prog X.w) X.A (eval (.Call (.Attribute e m apos) args [] pos) X.env) Q X.xe s := by
  refine PySem.W.methodCall_KW (pl := pl) (thn (he pins s σ H _ I h) fun u s1 ⟨x, H1, I1, rx, a, C, dx, fs, g, ex, ea, c, k, l, q⟩ => ?_) ht
  subst ex
  obtain rfl : u = Value.ref a := rx
  exact getmeth_ok I1 ea c k l (q s1 I1)
end

/-! ### isinstance -/
section
variable {X : Cx} {pins : List (Addr × Obj)} {σ : St} {H : Hp} {s : Shared} {A : Around} {E : Value → Shared → Prop} {Q : Value → Shared → Prop} {c : Value} {b : Bool}
/-- the type of a value, as the fragment's deciders take it; for an instance its class -/
inductive TyOf (K : PySem.W.Frag) (H : Hp) : V → Value → Prop where
  | non : TyOf K H .non (.type "NoneType")
  | bl (x : Bool) : TyOf K H (.bl x) (.type "bool")
  | int (i : Int) : TyOf K H (.int i) (.type "int")
  | str (x : Str) : TyOf K H (.str x) (.type "str")
  | flt (x : UInt64) : TyOf K H (.flt x) (.type "float")
  | lst {a : Addr} {xs : List V} (e : H a = some (.lst xs)) : TyOf K H (.ref a) (.type "list")
  | frz {a : Addr} {o : Obj} {xs : List V} (e : H a = some (.frz o (.lst xs))) : TyOf K H (.ref a) (.type "list")
  | tup {a : Addr} {xs : List V} (e : H a = some (.tup xs)) : TyOf K H (.ref a) (.type "tuple")
  | dK {a : Addr} {kvs : List (Key × V)} (e : H a = some (.dK kvs)) : TyOf K H (.ref a) (.type "dict")
  | dT {a : Addr} {kvs : List (List Key × V)} (e : H a = some (.dT kvs)) : TyOf K H (.ref a) (.type "dict")
  | ins {a C dx : Addr} {fs : List (Str × V)} (e : H a = some (.ins C dx fs)) (cl : Cls K C) (ha : PySem.W.findIn K (.ref C) "__class__" = some (some (.builtin "object.__class__")))
      (hn : PySem.W.specialIn K (.builtin "object.__class__") "__get__" = some (some (.builtin "getset_descriptor.__get__"))) (htk : PySem.W.takesIn K (.builtin "object.__class__") = some true)
      (hm : PySem.W.mroIn K C (.type "object") = some true) : TyOf K H (.ref a) (.ref C)
/-- isinstance(x, c) for one class c, a built-in or an own one: kitOne's answer -/
theorem isinst_ok {x : V} {u t : Value} (I : Inv X pins σ H s) (rx : RelV x u) (ty : TyOf X.K H x t) (e : PySem.W.kitOne X.K t c = some b) (h : ∀ tk, Q (.bool b) { s with toks := tk }) :
    wpAny (model X.prog X.w) A (call (.builtin "isinstance") [u, c]) Q E s := by
  cases ty with
  | non => cases (show u = Value.none from rx); exact PySem.W.kia_one PySem.W.kitx_none I.kIn True.intro e (fun z => nomatch z) h
  | bl y => cases (show u = Value.bool y from rx); exact PySem.W.kia_one PySem.W.kitx_bool I.kIn True.intro e (fun z => nomatch z) h
  | int i => obtain ⟨t, q⟩ := (show ∃ t, u = Value.int i t from rx); cases q; exact PySem.W.kia_one PySem.W.kitx_int I.kIn True.intro e (fun z => nomatch z) h
  | str y => obtain ⟨t, q⟩ := (show ∃ t, u = Value.str y t from rx); cases q; exact PySem.W.kia_one PySem.W.kitx_str I.kIn True.intro e (fun z => nomatch z) h
  | flt y => obtain ⟨t, q⟩ := (show ∃ t, u = Value.float y t from rx); cases q; exact PySem.W.kia_one PySem.W.kitx_float I.kIn True.intro e (fun z => nomatch z) h
  | @lst a xs ea =>
    cases (show u = Value.ref a from rx)
    obtain ⟨_, _, n, _, h1⟩ := (show ObjOk X.prog X.w H s.heap a (.lst xs) from I.hok a _ ea)
    exact PySem.W.kia_one PySem.W.kitx_list I.kIn ⟨_, h1, rfl⟩ e (fun z => nomatch z) h
  | @frz a ob xs ea =>
    cases (show u = Value.ref a from rx)
    obtain ⟨_, _, _, n, _, h1⟩ := (show ObjOk X.prog X.w H s.heap a (.frz ob (.lst xs)) from I.hok a _ ea)
    exact PySem.W.kia_one PySem.W.kitx_list I.kIn ⟨_, h1, rfl⟩ e (fun z => nomatch z) h
  | @tup a xs ea =>
    cases (show u = Value.ref a from rx)
    obtain ⟨_, _, _, p⟩ := (show ObjOk X.prog X.w H s.heap a (.tup xs) from I.hok a _ ea)
    obtain ⟨o, h1, h2, _⟩ := p
    exact PySem.W.kia_one PySem.W.kitx_tuple I.kIn ⟨o, h1, h2⟩ e (fun z => nomatch z) h
  | @dK a kvs ea =>
    cases (show u = Value.ref a from rx)
    obtain ⟨_, _, vs, _, p⟩ := (show ObjOk X.prog X.w H s.heap a (.dK kvs) from I.hok a _ ea)
    obtain ⟨o, es, ep, h1, h2, _⟩ := p
    exact PySem.W.kia_one PySem.W.kitx_dict I.kIn ⟨o, h1, h2.1⟩ e (fun z => nomatch z) h
  | @dT a kvs ea =>
    cases (show u = Value.ref a from rx)
    obtain ⟨_, _, xs, _, o, es, ep, h1, h2, _⟩ := (show ObjOk X.prog X.w H s.heap a (.dT kvs) from I.hok a _ ea)
    exact PySem.W.kia_one PySem.W.kitx_dict I.kIn ⟨o, h1, h2.1⟩ e (fun z => nomatch z) h
  | @ins a C dx fs ea cl ha hn htk hm =>
    cases (show u = Value.ref a from rx)
    obtain ⟨mA, O, _⟩ := ins_get I.hok ea
    obtain ⟨od, J, _⟩ := O.look
    exact PySem.W.kia_one (PySem.W.kitx_own (cl.get _) cl.hd ha hn htk hm) I.kIn J e (fun z => nomatch z) h
end
end L2

namespace L2
open PySem PySem.Spec PyProof.Rows

/-! ### room -/
structure Room (k : Nat) (A : Around) : Prop where
  hd : A.handled = none
  dp : A.depth + 3 * k + 5 < recursionLimit
  un : A.units + 16 * k + 200 < cLine
theorem Room.mono {j k : Nat} {A : Around} (r : Room k A) (h : j ≤ k) : Room j A := ⟨r.hd, by have := r.dp; omega, by have := r.un; omega⟩
theorem Room.deeper {k : Nat} {A : Around} (r : Room (k + 1) A) (env : Env) : Room k (A.deeper env) :=
  ⟨r.hd, by have := r.dp; show A.depth + 1 + 3 * k + 5 < _; omega, by have := r.un; show A.units + 3 + 16 * k + 200 < _; omega⟩
theorem Room.in1 {k : Nat} {A : Around} (r : Room (k + 1) A) : Room k A.in1 :=
  ⟨r.hd, by have := r.dp; show A.depth + 3 * k + 5 < _; omega, by have := r.un; show A.units + 1 + 16 * k + 200 < _; omega⟩
theorem make_depth {A : Around} {C : Addr} {us : List Value} {kw : List (Str × Value)} : (A.under (.builtin "type.__call__" ⟨.ref C :: us, kw⟩)).depth = A.depth + 1 := by
  first | rfl | simp [Around.under, Code.weight, Code.isCreation, Code.isGuard, Code.isCaller, Code.frames, Code.isFrame, guardIds]
theorem make_units {A : Around} {C : Addr} {us : List Value} {kw : List (Str × Value)} : (A.under (.builtin "type.__call__" ⟨.ref C :: us, kw⟩)).units = A.units + 1 := by
  first | rfl | simp [Around.under, Code.cUnits, Code.frames, Code.isFrame]
theorem Room.make {k : Nat} {A : Around} (r : Room (k + 1) A) (C : Addr) (us : List Value) (kw : List (Str × Value)) : Room k (A.under (.builtin "type.__call__" ⟨.ref C :: us, kw⟩)) :=
  ⟨r.hd, by have := r.dp; rw [make_depth]; omega, by have := r.un; rw [make_units]; omega⟩
theorem Room.depth {k : Nat} {A : Around} (r : Room k A) : A.depth < recursionLimit := by have := r.dp; omega
theorem Room.units {k : Nat} {A : Around} (r : Room k A) : A.units + 64 < cLine := by have := r.un; omega
theorem Room.units0 {k : Nat} {A : Around} (r : Room k A) : A.units < cLine := by have := r.un; omega

/-! ### argument lists and displays -/
def tNil : TA := fun _ H Q => Q [] H
def tCons (ta : TE) (tr : TA) : TA := fun σ H Q => ta σ H fun x H1 => tr σ H1 fun xs H2 => Q (x :: xs) H2
section
variable {X : Cx} {e : Expr} {es : List Expr} {te : TE} {t : TA} {pos : Pos}
theorem pa_nil : PA X [] tNil := fun _ _ _ _ H Q I h => Calls.spliced_nil ⟨[], H, I, .nil, h⟩
theorem pa_cons (ha : PE X e te) (hr : PA X es t) (hs : starEach (e :: es) X.env = (false, eval e X.env) :: starEach es X.env := by rfl) : PA X (e :: es) (tCons te t) := by
  intro pos pins s σ H Q I h
  rw [hs]
  show wpAny _ _ (spliced ((false, eval e X.env) :: backTo pos (starEach es X.env))) _ _ s
  refine Calls.spliced_cons (thn (ha pins s σ H _ I h) fun u s1 ⟨x, H1, I1, r1, q1⟩ => ?_)
  exact thn (hr pos pins s1 σ H1 _ I1 q1) fun us s2 ⟨xs, H2, I2, r2, q2⟩ => ⟨x :: xs, H2, I2, .cons r1 r2, q2⟩

/-- a tuple, a list of written items -/
def tTup (t : TA) : TE := fun σ H Q => t σ H fun xs H1 => xs.length ≤ sizeLine ∧ ∀ p, H1 p = none → Q (.ref p) (upd H1 p (.tup xs))
def tLst (t : TA) : TE := fun σ H Q => t σ H fun xs H1 => xs.length ≤ sizeLine ∧ ∀ p, H1 p = none → Q (.ref p) (upd H1 p (.lst xs))
theorem pe_tup {x1} (h : PA X es t) : PE X (.Tuple es x1 pos) (tTup t) := by
  intro pins s σ H Q I hq
  refine wpAny_Tuple_spliced (thn (h pos pins s σ H _ I hq) fun us s1 ⟨xs, H1, I1, r, z, q⟩ => ⟨by rw [← r.length]; exact z, ?_⟩)
  have hf : H1 s1.heap.objs.size = none := I1.hok.fresh (Nat.le_refl _)
  refine ⟨.ref s1.heap.objs.size, upd H1 s1.heap.objs.size (.tup xs), I1.laid (t' := s1.toks) (fun b u e => Heap.get?_push_of_some _ e) (Nat.le_refl _) ?_, rfl, q _ hf⟩
  exact ⟨z, us, r, ⟨_, Heap.get?_push_size _ rfl, rfl, _, rfl⟩⟩
theorem pe_lst (h : PA X es t) : PE X (.List es pos) (tLst t) := by
  intro pins s σ H Q I hq
  refine wpAny_List_spliced (thn (h pos pins s σ H _ I hq) fun us s1 ⟨xs, H1, I1, r, z, q⟩ => ⟨by rw [← r.length]; exact z, ?_⟩)
  have hf : H1 s1.heap.objs.size = none := I1.hok.fresh (Nat.le_refl _)
  refine ⟨.ref s1.heap.objs.size, upd H1 s1.heap.objs.size (.lst xs), I1.laid (t' := s1.toks) (fun b u e => Heap.get?_push_of_some _ e) (Nat.le_refl _) ?_, rfl, q _ hf⟩
  exact ⟨z, us, 0, r, Heap.get?_push_size _ rfl⟩
end

/-! ### what a def promises -/
/-- a def's promise: the bound arguments in the parameters' order, the heap, the wanted end, the wanted exception -/
abbrev Sp := List V → Hp → VK → XK → Prop
/-- how an exception lies behind a call (file 08 gives it): the callers' frames, abstract heap and state ahead of the call, the wish, the exception, the state -/
abbrev CXT := List Env → Hp → Shared → XK → Value → Shared → Prop

/-- the state at a call -/
structure Env0 (P : Program) (w : World) (K : PySem.W.Frag) (mg : Str → Option Value) (base : Heap) (A : Around) (outer : List Env) (s : Shared) (H : Hp) : Prop where
  frames : A.frames = some outer
  mod : Mod K mg base
  bs : ∀ b o, base.get? b = some o → s.heap.get? b = some o ∧ H b = none
  bsz : base.objs.size ≤ s.heap.objs.size
  funs : s.heap.FunFrames base outer
  frf : ∀ b ∈ frs outer, H b = none
  hok : HOk P w H s.heap
  bare : AllBare s.gens
/-- a call's end -/
def CE (outer : List Env) (P : Program) (w : World) (H : Hp) (s : Shared) (Q : VK) (u : Value) (s' : Shared) : Prop :=
  ∃ v H', s'.os = s.os ∧ AllBare s'.gens ∧ Un (frs outer) [] H H' s.heap s'.heap ∧ HOk P w H' s'.heap ∧ RelV v u ∧ Q v H'
def CR (CX : CXT) (outer : List Env) (P : Program) (w : World) (H : Hp) (s : Shared) (Q : VK) (E : XK) (r : Result) (s' : Shared) : Prop :=
  match r with
  | .ok (.ret u) => CE outer P w H s Q u s'
  | .ok _ => False
  | .error e => CX outer H s E e s'
structure FnOk (P : Program) (w : World) (K : PySem.W.Frag) (mg : Str → Option Value) (base : Heap) (CX : CXT) (k : Nat) (f : Addr) (fd : FuncData) (ps : List Str) (sp : Sp) : Prop where
  len : ∀ vs H Q E, sp vs H Q E → vs.length = ps.length
  run : ∀ (A : Around) (outer : List Env) (s : Shared) (H : Hp) (args : Args) (us : List Value) (vs : List V) (Q : VK) (E : XK), Room k A → Env0 P w K mg base A outer s H → BindsTo s fd args (ps.zip us) → Vals vs us → sp vs H Q E →
    codeAny (model P w) A (.call (.ref f) args) (CR CX outer P w H s Q E) s
theorem FnOk.mono {P : Program} {w : World} {K : PySem.W.Frag} {mg : Str → Option Value} {base : Heap} {CX : CXT} {j k : Nat} {f : Addr} {fd : FuncData} {ps : List Str} {sp : Sp} (F : FnOk P w K mg base CX j f fd ps sp) (h : j ≤ k) :
    FnOk P w K mg base CX k f fd ps sp := ⟨F.len, fun A outer s H args us vs Q E hr => F.run A outer s H args us vs Q E (hr.mono h)⟩
/-- a weaker promise -/
theorem FnOk.imp {P : Program} {w : World} {K : PySem.W.Frag} {mg : Str → Option Value} {base : Heap} {CX : CXT} {k : Nat} {f : Addr} {fd : FuncData} {ps : List Str} {sp sp' : Sp} (F : FnOk P w K mg base CX k f fd ps sp)
    (h : ∀ vs H Q E, sp' vs H Q E → sp vs H Q E) : FnOk P w K mg base CX k f fd ps sp' :=
  ⟨fun vs H Q E q => F.len vs H Q E (h _ _ _ _ q), fun A outer s H args us vs Q E hr he hb hv hs => F.run A outer s H args us vs Q E hr he hb hv (h _ _ _ _ hs)⟩

theorem Env0.make {P : Program} {w : World} {K : PySem.W.Frag} {mg : Str → Option Value} {base : Heap} {A : Around} {outer : List Env} {s : Shared} {H : Hp} (e : Env0 P w K mg base A outer s H) (C : Addr) (us : List Value) (kw : List (Str × Value)) :
    Env0 P w K mg base (A.under (.builtin "type.__call__" ⟨.ref C :: us, kw⟩)) outer s H := ⟨by first | exact e.frames | (simpa [Around.under, Code.envs, Code.isFrame, pushEnvs] using e.frames), e.mod, e.bs, e.bsz, e.funs, e.frf, e.hok, e.bare⟩
theorem Env0.in1 {P : Program} {w : World} {K : PySem.W.Frag} {mg : Str → Option Value} {base : Heap} {A : Around} {outer : List Env} {s : Shared} {H : Hp} (e : Env0 P w K mg base A outer s H) :
    Env0 P w K mg base A.in1 outer s H := ⟨e.frames, e.mod, e.bs, e.bsz, e.funs, e.frf, e.hok, e.bare⟩

section
variable {X : Cx} {pins : List (Addr × Obj)} {σ : St} {H : Hp} {s s' : Shared}
/-- from a body: what a callee wants -/
theorem Inv.env0 (I : Inv X pins σ H s) : Env0 X.prog X.w X.K X.mg X.base X.A X.stack s H :=
  ⟨I.ok.frames, I.ok.mod, I.bs, Nat.le_trans I.ok.bsz I.sz, I.stack, I.stkFree, I.hok, I.bare⟩
/-- behind a call -/
theorem Inv.after {Q : VK} {u : Value} (I : Inv X pins σ H s) (h : CE X.stack X.prog X.w H s Q u s') : EP X pins σ Q u s' := by
  obtain ⟨v, H', os, bare, un, hok, r, q⟩ := h
  obtain ⟨hh, g, d, t, os'⟩ := s'
  obtain rfl : os' = s.os := os
  exact ⟨v, H', I.call (h' := hh) (g' := g) (d' := d) (t' := t) (ch := []) un hok bare (fun b z => absurd z (by simp)), r, q⟩
end

/-! ### calls -/
/-- f(..): the written arguments, then the defaults dvs; E: what is wanted of an exception -/
def tCall (sp : Sp) (dvs : List V) (E : XK) (t : TA) : TE := fun σ H Q => t σ H fun vs H1 => sp (vs ++ dvs) H1 Q E
/-- o.m(..) of an instance of the class at C -/
def tMeth (C : Addr) (m : Str) (sp : Sp) (dvs : List V) (E : XK) (ta : TE) (t : TA) : TE := fun σ H Q => ta σ H fun x H1 => ∃ a dx fs, x = .ref a ∧ H1 a = some (.ins C dx fs) ∧ fs.lookup m = none ∧
  t σ H1 fun vs H2 => sp (x :: (vs ++ dvs)) H2 Q E
/-- C(..): a new instance and its dict, then __init__ -/
def tMake (C : Addr) (sp : Sp) (dvs : List V) (E : XK) (t : TA) : TE := fun σ H Q => t σ H fun vs H1 => ∀ x dx, H1 x = none → H1 dx = none → dx ≠ x →
  sp (.ref x :: (vs ++ dvs)) (upd (upd H1 dx (.own x)) x (.ins C dx [])) (fun v H2 => v = .non ∧ Q (.ref x) H2) E

/-- how the parameters are bound: us the positional arguments, kw the keywords' values by name, ds the defaults that fill up -/
def Binds (K : PySem.W.Frag) (fd : FuncData) (ps : List Str) (ds : List Value) : Prop :=
  ∀ (s : Shared) (us : List Value), K.In s.heap → (us ++ ds).length = ps.length → BindsTo s fd ⟨us, []⟩ (ps.zip (us ++ ds))
/-- every parameter is given -/
theorem Binds.all {K : PySem.W.Frag} {fd : FuncData} {ps : List Str} (h : ∀ us : List Value, us.length = ps.length → bindArgs fd ⟨us, []⟩ = pure (ps.zip us)) : Binds K fd ps [] := fun s us _ hl => by
  rw [List.append_nil] at hl ⊢
  exact .of_eq (h us hl)

/-- an exception of a callee reaches what this body wants of exceptions -/
def Passes (CX : CXT) (X : Cx) (E : XK) : Prop := ∀ (pins : List (Addr × Obj)) (σ : St) (H : Hp) (s : Shared) (e : Value) (s' : Shared), Inv X pins σ H s → CX X.stack H s E e s' → X.xe e s'

section
variable {X : Cx} {CX : CXT} {k : Nat} {f C : Addr} {fd : FuncData} {ps : List Str} {sp : Sp} {dvs : List V} {ds : List Value} {E : XK} {x m : Str} {p pos apos : Pos} {e o : Expr} {es : List Expr} {ta : TE} {t : TA}

/-- the callee runs -/
theorem run_fn {pins : List (Addr × Obj)} {σ : St} {H : Hp} {s : Shared} {Q : VK} {us : List Value} {vs : List V} (F : FnOk X.prog X.w X.K X.mg X.base CX k f fd ps sp) (hr : Room k X.A) (hb : Binds X.K fd ps ds) (hd : Vals dvs ds) (hx : Passes CX X E)
    (I : Inv X pins σ H s) (r : Vals vs us) (h : sp (vs ++ dvs) H Q E) : wpAny (model X.prog X.w) X.A (call (.ref f) us) (EP X pins σ Q) X.xe s := by
  have r2 : Vals (vs ++ dvs) (us ++ ds) := r.append hd
  have hl : (us ++ ds).length = ps.length := by rw [← r2.length]; exact F.len _ _ _ _ h
  refine wpAny_call (codeAny_mono (F.run X.A X.stack s H ⟨us, []⟩ (us ++ ds) (vs ++ dvs) Q E hr I.env0 (hb s us I.kIn hl) r2 h) fun r s' hq => ?_)
  cases r with
  | error e => exact hx pins σ H s e s' I hq
  | ok fl =>
    cases fl with
    | ret u => exact I.after hq
    | next => exact False.elim hq
    | brk => exact False.elim hq
    | cont => exact False.elim hq

theorem pe_call (F : FnOk X.prog X.w X.K X.mg X.base CX k f fd ps sp) (hr : Room k X.A) (hg : Gl X x) (hm : X.mg x = some (.ref f)) (hk : PySem.W.keepIn X.K (.ref f) = true) (hb : Binds X.K fd ps ds) (hd : Vals dvs ds) (hx : Passes CX X E)
    (ha : PA X (e :: es) t) (hdb : (x == ("__debug__" : Str)) = false := by decide) (he : starEach (e :: es) X.env = (false, eval e X.env) :: starEach es X.env := by rfl) (hpl : (backTo pos (starEach es X.env)).any (·.1) = false := by rfl) :
    PE X (.Call (.Name x p) (e :: es) [] pos) (tCall sp dvs E t) := by
  intro pins s σ H Q I h
  refine wpAny_Call_Name_kw (ld_glob I hg hm ?_ hdb)
  refine PySem.W.callWith_K (h₀ := X.base) I.ok.mod.kin hk (thn (ha pos pins s σ H _ I h) fun us s1 ⟨vs, H1, I1, r, q⟩ => ⟨I1.kIn, ?_⟩) he hpl
  exact run_fn F hr hb hd hx I1 r q
theorem pe_call0 (F : FnOk X.prog X.w X.K X.mg X.base CX k f fd ps sp) (hr : Room k X.A) (hg : Gl X x) (hm : X.mg x = some (.ref f)) (hk : PySem.W.keepIn X.K (.ref f) = true) (hb : Binds X.K fd ps ds) (hd : Vals dvs ds) (hx : Passes CX X E)
    (hdb : (x == ("__debug__" : Str)) = false := by decide) : PE X (.Call (.Name x p) [] [] pos) (tCall sp dvs E tNil) := by
  intro pins s σ H Q I h
  refine wpAny_Call_Name_kw (ld_glob I hg hm ?_ hdb)
  exact PySem.W.callWith_K0 I.kIn hk (run_fn (us := []) F hr hb hd hx I .nil h)

/-- o.m(e, ..) -/
theorem pe_meth {pl : Sem Bool} (he : PE X o ta) (c : Cls X.K C) (hm : Meth X.K C m f) (F : FnOk X.prog X.w X.K X.mg X.base CX k f fd ps sp) (hr : Room k X.A) (hb : Binds X.K fd ps ds) (hd : Vals dvs ds) (hx : Passes CX X E) (ha : PA X (e :: es) t)
    (hst : starEach (e :: es) X.env = (false, eval e X.env) :: starEach es X.env := by rfl) (hpl : (backTo pos (starEach es X.env)).any (·.1) = false := by rfl)
    (ht : eval (.Call (.Attribute o m apos) (e :: es) [] pos) X.env = (do
      let ov ← eval o X.env
      standAt apos.atName
      let (f, first) ← holding [ov] (getMethod ov m pl)
      callWith pos f first (backTo pos (starEach (e :: es) X.env)) (backToKw pos (keywordEach [] X.env))) := by rfl) :
    PE X (.Call (.Attribute o m apos) (e :: es) [] pos) (tMeth C m sp dvs E ta t) := by
  intro pins s σ H Q I h
  refine PySem.W.methodCall_KW (pl := pl) (thn (he pins s σ H _ I h) fun u s1 ⟨x, H1, I1, rx, a, dx, fs, ex, ea, l, q⟩ => ?_) ht
  subst ex
  obtain rfl : u = Value.ref a := rx
  refine getmeth_ok I1 ea c hm l ?_
  refine PySem.W.callWith_K (first := [.ref a]) (h₀ := X.base) I.ok.mod.kin hm.kp (thn (ha pos pins s1 σ H1 _ I1 q) fun us s2 ⟨vs, H2, I2, r, q2⟩ => ⟨I2.kIn, ?_⟩) hst hpl
  exact run_fn (us := .ref a :: us) (vs := .ref a :: vs) F hr hb hd hx I2 (.cons rfl r) q2
/-- o.m() -/
theorem pe_meth0 {pl : Sem Bool} (he : PE X o ta) (c : Cls X.K C) (hm : Meth X.K C m f) (F : FnOk X.prog X.w X.K X.mg X.base CX k f fd ps sp) (hr : Room k X.A) (hb : Binds X.K fd ps ds) (hd : Vals dvs ds) (hx : Passes CX X E)
    (ht : eval (.Call (.Attribute o m apos) [] [] pos) X.env = (do
      let ov ← eval o X.env
      standAt apos.atName
      let (f, first) ← holding [ov] (getMethod ov m pl)
      callWith pos f first (backTo pos (starEach [] X.env)) (backToKw pos (keywordEach [] X.env))) := by rfl) :
    PE X (.Call (.Attribute o m apos) [] [] pos) (tMeth C m sp dvs E ta tNil) := by
  intro pins s σ H Q I h
  refine PySem.W.methodCall_KW (pl := pl) (thn (he pins s σ H _ I h) fun u s1 ⟨x, H1, I1, rx, a, dx, fs, ex, ea, l, q⟩ => ?_) ht
  subst ex
  obtain rfl : u = Value.ref a := rx
  refine getmeth_ok I1 ea c hm l ?_
  exact PySem.W.callWith_K0 (first := [.ref a]) I1.kIn hm.kp (run_fn (us := [.ref a]) (vs := [.ref a]) F hr hb hd hx I1 (.cons rfl .nil) q)

/-- what a class must have to be made -/
structure Mk (K : PySem.W.Frag) (C f : Addr) : Prop where
  makes : PySem.W.makesIn K C = true
  init : PySem.W.findIn K (.ref C) "__init__" = some (some (.ref f))
  fn : PySem.W.isFn K (.ref f) = true
  kp : PySem.W.keepIn K (.ref C) = true

theorem run_make {pins : List (Addr × Obj)} {σ : St} {H : Hp} {s : Shared} {Q : VK} {us : List Value} {vs : List V} (M : Mk X.K C f) (F : FnOk X.prog X.w X.K X.mg X.base CX k f fd ps sp) (hr : Room (k + 1) X.A) (hb : Binds X.K fd ps ds) (hd : Vals dvs ds)
    (hx : Passes CX X E) (I : Inv X pins σ H s) (r : Vals vs us)
    (h : ∀ x dx, H x = none → H dx = none → dx ≠ x → sp (.ref x :: (vs ++ dvs)) (upd (upd H dx (.own x)) x (.ins C dx [])) (fun v H2 => v = .non ∧ Q (.ref x) H2) E) :
    wpAny (model X.prog X.w) X.A (call (.ref C) us) (EP X pins σ Q) X.xe s := by
  have hq := h (s.heap.objs.size + 1) s.heap.objs.size (I.hok.fresh (Nat.le_succ _)) (I.hok.fresh (Nat.le_refl _)) (Nat.ne_of_lt (Nat.lt_succ_self _))
  have I2 := Inv.made (C := C) I
  have r2 : Vals (V.ref (s.heap.objs.size + 1) :: (vs ++ dvs)) (Value.ref (s.heap.objs.size + 1) :: (us ++ ds)) := .cons rfl (r.append hd)
  have hl : (Value.ref (s.heap.objs.size + 1) :: us ++ ds).length = ps.length := by
    have e := r2.length
    rw [F.len _ _ _ _ hq] at e
    exact e.symm
  refine wpAny_call (make_map (f := f) I.kIn M.makes M.init (beq_iff_eq.mp M.fn) (codeAny_mono (F.run _ X.stack _ _ ⟨Value.ref (s.heap.objs.size + 1) :: us, []⟩ (Value.ref (s.heap.objs.size + 1) :: (us ++ ds)) _ _ E (hr.make C us [])
    (I2.env0.make C us []) (hb _ (Value.ref (s.heap.objs.size + 1) :: us) I2.kIn hl) r2 hq) fun r s' hq' => ?_))
  cases r with
  | error e => exact hx pins σ _ _ e s' I2 hq'
  | ok fl =>
    cases fl with
    | ret u =>
      obtain ⟨v, H', I3, rv, ev, q3⟩ := I2.after hq'
      subst ev
      exact ⟨rv, ⟨V.ref (s.heap.objs.size + 1), H', I3, rfl, q3⟩⟩
    | next => exact False.elim hq'
    | brk => exact False.elim hq'
    | cont => exact False.elim hq'
theorem pe_make (M : Mk X.K C f) (F : FnOk X.prog X.w X.K X.mg X.base CX k f fd ps sp) (hr : Room (k + 1) X.A) (hg : Gl X x) (hm : X.mg x = some (.ref C)) (hb : Binds X.K fd ps ds) (hd : Vals dvs ds) (hx : Passes CX X E)
    (ha : PA X (e :: es) t) (hdb : (x == ("__debug__" : Str)) = false := by decide) (he : starEach (e :: es) X.env = (false, eval e X.env) :: starEach es X.env := by rfl) (hpl : (backTo pos (starEach es X.env)).any (·.1) = false := by rfl) :
    PE X (.Call (.Name x p) (e :: es) [] pos) (tMake C sp dvs E t) := by
  intro pins s σ H Q I h
  refine wpAny_Call_Name_kw (ld_glob I hg hm ?_ hdb)
  refine PySem.W.callWith_K (h₀ := X.base) I.ok.mod.kin M.kp (thn (ha pos pins s σ H _ I h) fun us s1 ⟨vs, H1, I1, r, q⟩ => ⟨I1.kIn, ?_⟩) he hpl
  exact run_make M F hr hb hd hx I1 r q
theorem pe_make0 (M : Mk X.K C f) (F : FnOk X.prog X.w X.K X.mg X.base CX k f fd ps sp) (hr : Room (k + 1) X.A) (hg : Gl X x) (hm : X.mg x = some (.ref C)) (hb : Binds X.K fd ps ds) (hd : Vals dvs ds) (hx : Passes CX X E)
    (hdb : (x == ("__debug__" : Str)) = false := by decide) : PE X (.Call (.Name x p) [] [] pos) (tMake C sp dvs E tNil) := by
  intro pins s σ H Q I h
  refine wpAny_Call_Name_kw (ld_glob I hg hm ?_ hdb)
  exact PySem.W.callWith_K0 I.kIn M.kp (run_make (us := []) M F hr hb hd hx I .nil h)
end

/-! ### keywords -/
/-- the values of the keywords, from the left -/
def PK (X : Cx) (kws : List Keyword) (t : TA) : Prop :=
  ∀ (pos : Pos) (pins : List (Addr × Obj)) (s : Shared) (σ : St) (H : Hp) (Q : List V → Hp → Prop), Inv X pins σ H s → t σ H Q → wpAny (model X.prog X.w) X.A (evalAll ((backToKw pos (keywordEach kws X.env)).map (·.2))) (AP X pins σ Q) X.xe s
section
variable {X : Cx} {CX : CXT} {k : Nat} {f C : Addr} {fd : FuncData} {ps ks : List Str} {sp : Sp} {E : XK} {x m : Str} {p pos apos kpos : Pos} {e o : Expr} {es : List Expr} {kws : List Keyword} {te ta : TE} {t tk : TA} {nm : Option Str}
theorem pk_nil : PK X [] tNil := fun _ _ _ _ H Q I h => wpAny_evalAll_nil ⟨[], H, I, .nil, h⟩
theorem pk_cons (ha : PE X e te) (hr : PK X kws t) : PK X (⟨nm, e, kpos⟩ :: kws) (tCons te t) := by
  intro pos pins s σ H Q I h
  show wpAny _ _ (evalAll ((do let v ← eval e X.env; standAt pos; pure v) :: (backToKw pos (keywordEach kws X.env)).map (·.2))) _ _ s
  refine wpAny_evalAll_cons (wpAny_bind (thn (ha pins s σ H _ I h) fun u s1 ⟨x, H1, I1, r1, q1⟩ => wpAny_bind (wpAny_standAt (wpAny_pure ?_))))
  exact thn (hr pos pins s1 σ H1 _ I1 q1) fun us s2 ⟨xs, H2, I2, r2, q2⟩ => ⟨x :: xs, H2, I2, .cons r1 r2, q2⟩

/-- how a call with keywords binds: g puts the positional values us and the keywords' values ws (names ks) in the parameters' order, defaults among them -/
structure KBinds (K : PySem.W.Frag) (fd : FuncData) (ps ks : List Str) (g : List Value → List Value → List Value) (gV : List V → List V → List V) : Prop where
  to : ∀ (s : Shared) (us ws : List Value), K.In s.heap → (g us ws).length = ps.length → BindsTo s fd ⟨us, ks.zip ws⟩ (ps.zip (g us ws))
  rel : ∀ {vs : List V} {us : List Value} {zs : List V} {ws : List Value}, Vals vs us → Vals zs ws → Vals (gV vs zs) (g us ws)
def tCallK (sp : Sp) (gV : List V → List V → List V) (E : XK) (t tk : TA) : TE := fun σ H Q => t σ H fun vs H1 => tk σ H1 fun zs H2 => sp (gV vs zs) H2 Q E
variable {g : List Value → List Value → List Value} {gV : List V → List V → List V}
theorem run_fnk {pins : List (Addr × Obj)} {σ : St} {H : Hp} {s : Shared} {Q : VK} {us ws : List Value} {vs zs : List V} (F : FnOk X.prog X.w X.K X.mg X.base CX k f fd ps sp) (hr : Room k X.A) (hb : KBinds X.K fd ps ks g gV) (hx : Passes CX X E)
    (I : Inv X pins σ H s) (r : Vals vs us) (rz : Vals zs ws) (h : sp (gV vs zs) H Q E) : wpAny (model X.prog X.w) X.A (call (.ref f) us (ks.zip ws)) (EP X pins σ Q) X.xe s := by
  have r2 := hb.rel r rz
  have hl : (g us ws).length = ps.length := by rw [← r2.length]; exact F.len _ _ _ _ h
  refine wpAny_call (codeAny_mono (F.run X.A X.stack s H ⟨us, ks.zip ws⟩ (g us ws) (gV vs zs) Q E hr I.env0 (hb.to s us ws I.kIn hl) r2 h) fun r s' hq => ?_)
  cases r with
  | error e => exact hx pins σ H s e s' I hq
  | ok fl =>
    cases fl with
    | ret u => exact I.after hq
    | next => exact False.elim hq
    | brk => exact False.elim hq
    | cont => exact False.elim hq
/-- f(e, .., k = v, ..) -/
theorem pe_callK (F : FnOk X.prog X.w X.K X.mg X.base CX k f fd ps sp) (hr : Room k X.A) (hg : Gl X x) (hm : X.mg x = some (.ref f)) (hk : PySem.W.keepIn X.K (.ref f) = true) (hb : KBinds X.K fd ps ks g gV) (hx : Passes CX X E)
    (ha : PA X (e :: es) t) (hkw : PK X kws tk) (hall : (backToKw pos (keywordEach kws X.env)).all (·.1.isSome) = true := by rfl) (hks : (backToKw pos (keywordEach kws X.env)).filterMap (·.1) = ks := by rfl)
    (hdb : (x == ("__debug__" : Str)) = false := by decide) (he : starEach (e :: es) X.env = (false, eval e X.env) :: starEach es X.env := by rfl)
    (hpl : ((backTo pos (starEach (e :: es) X.env)).any (·.1) || (backToKw pos (keywordEach kws X.env)).any (·.1.isNone)) = false := by rfl) :
    PE X (.Call (.Name x p) (e :: es) kws pos) (tCallK sp gV E t tk) := by
  intro pins s σ H Q I h
  refine wpAny_Call_Name_kw (ld_glob I hg hm ?_ hdb)
  refine PySem.W.callWith_KW (h₀ := X.base) I.ok.mod.kin hk hall (thn (ha pos pins s σ H _ I h) fun us s1 ⟨vs, H1, I1, r, q⟩ => ?_) hpl he
  refine thn (hkw pos pins s1 σ H1 _ I1 q) fun ws s2 ⟨zs, H2, I2, rz, q2⟩ => ⟨I2.kIn, ?_⟩
  rw [hks]
  exact run_fnk F hr hb hx I2 r rz q2
end

/-! ### a def's body keeps its promise -/
/-- names: the parameters first -/
structure FnScope (N P : List Str) (sc : Scope) : Prop where
  kind : sc.kind = .function
  co : sc.isCoroutine = false
  gen : sc.isGenerator = false
  nd : N.Nodup
  pre : N.take P.length = P
  par : ∀ x ∈ P, sc.names.lookup x = some .local ∨ sc.names.lookup x = some .cell
  nofree : ∀ y ∈ sc.names, y.2 ≠ .free

theorem bindL_out {kindOf : Str → Option NameKind} {x : Str} : ∀ {binds : List (Str × Value)} {m : Str → Option Value}, (∀ v, (x, v) ∉ binds) → bindL kindOf binds m x = m x
  | [], _, _ => rfl
  | (n, v) :: r, m, h => by
    unfold bindL
    rw [bindL_out fun w hw => h w (List.mem_cons_of_mem _ hw)]
    split
    · have : x ≠ n := by rintro rfl; exact h v List.mem_cons_self
      simp [this]
    · rfl
theorem bindC_out {kindOf : Str → Option NameKind} {x : Str} : ∀ {binds : List (Str × Value)} {m : Str → Option Value}, (∀ v, (x, v) ∉ binds) → bindC kindOf binds m x = m x
  | [], _, _ => rfl
  | (n, v) :: r, m, h => by
    unfold bindC
    rw [bindC_out fun w hw => h w (List.mem_cons_of_mem _ hw)]
    split
    · rfl
    · have : x ≠ n := by rintro rfl; exact h v List.mem_cons_self
      simp [this]
theorem bindL_get {kindOf : Str → Option NameKind} {x : Str} {v : Value} : ∀ {P : List Str} {vs : List Value} {i : Nat} {m : Str → Option Value}, P.Nodup → P[i]? = some x → vs[i]? = some v → kindOf x = some .local →
    bindL kindOf (P.zip vs) m x = some v
  | [], _, _, _, _, h, _, _ => by simp at h
  | _ :: _, [], _, _, _, _, h, _ => by simp at h
  | p :: P, w :: vs, 0, m, nd, h1, h2, hk => by
    simp at h1 h2; subst h1; subst h2
    show bindL kindOf ((p, w) :: P.zip vs) m p = _
    unfold bindL
    rw [bindL_out fun v hv => (List.nodup_cons.mp nd).1 (List.of_mem_zip hv).1, if_pos hk]
    simp
  | p :: P, w :: vs, i + 1, m, nd, h1, h2, hk => by
    show bindL kindOf ((p, w) :: P.zip vs) m x = _
    unfold bindL
    exact bindL_get (i := i) (List.nodup_cons.mp nd).2 (by simpa using h1) (by simpa using h2) hk
theorem bindC_get {kindOf : Str → Option NameKind} {x : Str} {v : Value} : ∀ {P : List Str} {vs : List Value} {i : Nat} {m : Str → Option Value}, P.Nodup → P[i]? = some x → vs[i]? = some v → kindOf x ≠ some .local →
    bindC kindOf (P.zip vs) m x = some v
  | [], _, _, _, _, h, _, _ => by simp at h
  | _ :: _, [], _, _, _, _, h, _ => by simp at h
  | p :: P, w :: vs, 0, m, nd, h1, h2, hk => by
    simp at h1 h2; subst h1; subst h2
    show bindC kindOf ((p, w) :: P.zip vs) m p = _
    unfold bindC
    rw [bindC_out fun v hv => (List.nodup_cons.mp nd).1 (List.of_mem_zip hv).1, if_neg hk]
    simp
  | p :: P, w :: vs, i + 1, m, nd, h1, h2, hk => by
    show bindC kindOf ((p, w) :: P.zip vs) m x = _
    unfold bindC
    exact bindC_get (i := i) (List.nodup_cons.mp nd).2 (by simpa using h1) (by simpa using h2) hk

/-- the names' values at the entry -/
def start (N : List Str) (vs : List V) : St := vs.map some ++ List.replicate (N.length - vs.length) none

/-- the context of a def's body, at its entry; an exception leaves the frame, then lies as CX says -/
def cxOf (CX : CXT) (P : Program) (w : World) (K : PySem.W.Frag) (mg : Str → Option Value) (base : Heap) (N : List Str) (qual : Str) (scope : Scope) (f : Addr) (cd : Value) (A : Around) (outer : List Env) (s : Shared) (H : Hp) (E : XK) : Cx where
  prog := P
  w := w
  K := K
  mg := mg
  base := base
  A := A.deeper (envOfC qual scope s.heap.objs.size f cd)
  N := N
  s₀ := s
  H₀ := H
  env := envOfC qual scope s.heap.objs.size f cd
  outer := outer
  stack := envOfC qual scope s.heap.objs.size f cd :: outer
  ex := []
  calm := true
  fn := fun _ => true
  pn := []
  xe := fun e s' => wpAny (model P w) (A.deeper (envOfC qual scope s.heap.objs.size f cd)) (leaving (envOfC qual scope s.heap.objs.size f cd) e) (fun _ s'' => CX outer H s E e s'') (fun e' s'' => CX outer H s E e' s'') s'

theorem cell_has {sc : Scope} {n : Nat} {x : Str} (h : sc.names.lookup x = some .cell) : ∃ c, (cellsFrom n sc.names []).lookup x = some c := by
  have q := PySem.W.cellsFrom_some sc.names n [] (.inl h)
  exact Option.isSome_iff_exists.mp q

theorem inv_start {CX : CXT} {P : Program} {w : World} {K : PySem.W.Frag} {mg : Str → Option Value} {base : Heap} {N ps : List Str} {qual : Str} {scope : Scope} {f : Addr} {cd : Value} {A : Around} {outer : List Env} {s s1 : Shared} {H : Hp} {E : XK} {us : List Value} {vs : List V}
    (S : FnScope N ps scope) (hd : A.handled = none) (e0 : Env0 P w K mg base A outer s H) (hl : vs.length = ps.length) (r : Vals vs us)
    (x : InCallC s s.heap.objs.size (bindL (envOfC qual scope s.heap.objs.size f cd).kindOf (ps.zip us) fun _ => none) (cellsFrom (s.heap.objs.size + 1) scope.names []) (bindC (envOfC qual scope s.heap.objs.size f cd).kindOf (ps.zip us) fun _ => none) s1) :
    Inv (cxOf CX P w K mg base N qual scope f cd A outer s H E) [] (start N vs) H s1 := by
  have hpl : ps.length ≤ N.length := by have := congrArg List.length S.pre; rw [List.length_take] at this; omega
  obtain ⟨h1, tk, rfl, hk⟩ := x.done
  have noA : ∀ b : Addr, b ∉ (cxOf CX P w K mg base N qual scope f cd A outer s H E).ex := fun b z => absurd (show b ∈ ([] : List Addr) from z) (by simp)
  refine ⟨⟨e0.mod, S.kind, rfl, rfl, Nat.le_refl _, fun y z c h1 h2 => ?_, fun y hy => ?_, fun y c _ h => ?_, fun _ => hd, Around.frames_deeper e0.frames, .inr ⟨rfl, rfl⟩, fun b z => absurd z (noA b), e0.bs, e0.bsz, fun b _ _ => noA b, fun b z => absurd z (noA b), e0.funs, e0.frf⟩,
    rfl, e0.bare, Un.kept hk, ⟨_, x.toInCall.ns, fun i y v h1 h2 h3 => ?_⟩, fun y c h => ⟨_, x.cell y c h⟩, e0.hok.fresh (Nat.le_refl _), fun y c h => ?_, fun p hp => absurd (show p ∈ ([] : List (Addr × Obj)) from hp) (by simp), e0.hok.kept hk, ?_⟩
  · exact name_of_addr x.apart (PySem.mem_of_lookup h1) (PySem.mem_of_lookup h2)
  · have hy : scope.names.lookup y = some .cell ∨ scope.names.lookup y = some .free := hy
    rcases hy with hy | hy
    · exact cell_has hy
    · exact absurd rfl (S.nofree _ (PySem.mem_of_lookup hy))
  · exact Nat.le_of_lt (x.above y c (PySem.mem_of_lookup h))
  · have hi : i < vs.length := by
      unfold start at h2
      by_cases hi : i < vs.length
      · exact hi
      · rw [List.getElem?_append_right (by simpa using hi)] at h2
        rw [List.getElem?_replicate] at h2
        split at h2 <;> cases h2
    have ha : vs[i]? = some v := by
      unfold start at h2
      rw [List.getElem?_append_left (by simpa using hi), List.getElem?_map] at h2
      cases e : vs[i]? with
      | none => rw [e] at h2; cases h2
      | some a => rw [e] at h2; cases h2; rfl
    obtain ⟨u, hu, rv⟩ := r.get ha
    have hp : ps[i]? = some y := by
      rw [← S.pre, List.getElem?_take_of_lt (by omega)]; exact h1
    have ndP : ps.Nodup := by rw [← S.pre]; exact S.nd.sublist (List.take_sublist _ _)
    refine ⟨u, rv, ?_⟩
    rcases S.par y (List.mem_of_getElem? hp) with k | k
    · exact .inl ⟨k, bindL_get ndP hp hu k⟩
    · obtain ⟨c, e⟩ := cell_has (n := s.heap.objs.size + 1) k
      refine .inr ⟨.inl k, c, e, ?_⟩
      have q := x.cell y c e
      rw [bindC_get ndP hp hu (by show scope.names.lookup y ≠ _; rw [k]; decide)] at q
      exact q
  · exact e0.hok.fresh (Nat.le_of_lt (x.above y c (PySem.mem_of_lookup h)))
  · unfold start
    show _ = N.length
    rw [List.length_append, List.length_map, List.length_replicate]
    omega

/-- THE RULE: a def (or a method) of the text, by its body. The body's reading t is chosen for each entry; it is run at the parameters' values -/
theorem fn_of {CX : CXT} {P : Program} {w : World} {K : PySem.W.Frag} {mg : Str → Option Value} {base : Heap} {k : Nat} {f : Addr} {name qual : Str} {params : Arguments} {body : List Stmt} {scope : Scope} {dV kV doc pm cdv ct oc : Value} {an od : Option Addr}
    {osl : Array (Option Value)} {N ps : List Str} {sp : Sp} (lk : K.lookup f = some ⟨oc, od, .func (PySem.W.fnOf name qual params body scope dV kV doc pm an cdv ct), osl⟩) (hcd : PySem.W.codeIn K cdv qual = true) (S : FnScope N ps scope)
    (len : ∀ vs H Q E, sp vs H Q E → vs.length = ps.length)
    (hbody : ∀ (A : Around) (outer : List Env) (s : Shared) (H : Hp) (vs : List V) (Q : VK) (E : XK), Room k (A.deeper (envOfC qual scope s.heap.objs.size f cdv)) → sp vs H Q E →
      ∃ t, PSs (cxOf CX P w K mg base N qual scope f cdv A outer s H E) body t ∧ t { nx := fun _ H' => Q .non H', rt := Q } (start N vs) H) :
    FnOk P w K mg base CX (k + 1) f (PySem.W.fnOf name qual params body scope dV kV doc pm an cdv ct) ps sp := by
  refine ⟨len, fun A outer s H args us vs Q E hr e0 hb r hsp => ?_⟩
  have hl := len _ _ _ _ hsp
  have KX : K.In s.heap := e0.mod.kin.keeps fun b o e => (e0.bs b o e).1
  have lim : s.heap.NoLimit := e0.mod.nolimit.keeps fun b o e => (e0.bs b o e).1
  have hkind : ∀ y ∈ ps.zip us, scope.names.lookup y.1 = some .local ∨ (scope.names.lookup y.1 = some .cell ∧ ((cellsFrom (s.heap.objs.size + 1) scope.names []).lookup y.1).isSome = true) := fun ⟨n, v⟩ hy => by
    rcases S.par n (List.of_mem_zip hy).1 with q | q
    · exact .inl q
    · exact .inr ⟨q, PySem.W.cellsFrom_some _ _ _ (.inl q)⟩
  refine codeAny_call_function hr.depth (KX _ _ lk) rfl S.co S.gen rfl (PySem.W.codeRec_of KX hcd) (hb _ _ _ _ ?_)
  refine wpAny_newFunctionEnv_cells S.kind hkind fun env he s1 x => ?_
  subst he
  refine ⟨lim.keeps x.toInCall.keep, codeAny_func ?_⟩
  obtain ⟨t, ht, hq⟩ := hbody A outer s H vs Q E (hr.deeper _) hsp
  have I : Inv (cxOf CX P w K mg base N qual scope f cdv A outer s H E) [] (start N vs) H s1 := inv_start S hr.hd e0 hl r x
  refine wpAny_mono (ht [] s1 (start N vs) H _ I hq) (fun fl s' hs => ?_) fun e s' hs => hs
  have fin : ∀ {σ' : St} {H' : Hp} {v : V} {u : Value}, Inv (cxOf CX P w K mg base N qual scope f cdv A outer s H E) [] σ' H' s' → RelV v u → Q v H' → CE outer P w H s Q u s' :=
    fun {σ' H' v u} J rv q => ⟨v, H', J.os, J.bare, J.base, J.hok, rv, q⟩
  cases fl with
  | ret u =>
    obtain ⟨v, σ', H', J, rv, q⟩ := hs
    exact fin J rv q
  | next =>
    obtain ⟨σ', H', J, q⟩ := hs
    exact fin (v := V.non) (u := Value.none) J rfl q
  | brk =>
    obtain ⟨_, _, _, q⟩ := hs
    exact False.elim q
  | cont =>
    obtain ⟨_, _, _, q⟩ := hs
    exact False.elim q
end L2

namespace L2
open PySem PySem.Spec PyProof.Rows
section
variable {X : Cx} {x : Str} {p pos : Pos} {e : Expr} {es : List Expr} {t : TA} {id T : String} {r : List V → Hp → VK → Prop}

def tCB (r : List V → Hp → VK → Prop) (t : TA) : TE := fun σ H Q => t σ H fun vs H1 => r vs H1 Q
/-- f(e, ..), f a built-in function -/
theorem pe_callB (hc : CallR X (.builtin id) r) (hg : Gl X x) (hm : X.mg x = none) (hv : bootBuiltins x = some (.builtin id)) (ha : PA X (e :: es) t) (hn : x ≠ "__name__" := by decide) (hdb : (x == ("__debug__" : Str)) = false := by decide)
    (he : starEach (e :: es) X.env = (false, eval e X.env) :: starEach es X.env := by rfl) (hpl : (backTo pos (starEach es X.env)).any (·.1) = false := by rfl) : PE X (.Call (.Name x p) (e :: es) [] pos) (tCB r t) := by
  intro pins s σ H Q I h
  refine wpAny_Call_Name_kw (ld_blt I hg hm hv ?_ hn hdb)
  exact PyProof.Rows.callWith_builtin1 (thn (ha pos pins s σ H _ I h) fun us s1 ⟨vs, H1, I1, r1, q1⟩ => hc pins s1 σ H1 vs us Q I1 r1 q1) he hpl
/-- T(e, ..), T a built-in type -/
theorem pe_callTy (hc : CallR X (.type T) r) (hg : Gl X x) (hm : X.mg x = none) (hv : bootBuiltins x = some (.type T)) (ha : PA X (e :: es) t) (hn : x ≠ "__name__" := by decide) (hdb : (x == ("__debug__" : Str)) = false := by decide)
    (he : starEach (e :: es) X.env = (false, eval e X.env) :: starEach es X.env := by rfl) (hpl : (backTo pos (starEach es X.env)).any (·.1) = false := by rfl) : PE X (.Call (.Name x p) (e :: es) [] pos) (tCB r t) := by
  intro pins s σ H Q I h
  refine wpAny_Call_Name_kw (ld_blt I hg hm hv ?_ hn hdb)
  exact PyProof.Rows.callWith_type1 (thn (ha pos pins s σ H _ I h) fun us s1 ⟨vs, H1, I1, r1, q1⟩ => hc pins s1 σ H1 vs us Q I1 r1 q1) he hpl
/-- T() -/
theorem pe_callTy0 (hc : CallR X (.type T) r) (hg : Gl X x) (hm : X.mg x = none) (hv : bootBuiltins x = some (.type T)) (hn : x ≠ "__name__" := by decide) (hdb : (x == ("__debug__" : Str)) = false := by decide) :
    PE X (.Call (.Name x p) [] [] pos) (tCB r tNil) := by
  intro pins s σ H Q I h
  refine wpAny_Call_Name_kw (ld_blt I hg hm hv ?_ hn hdb)
  exact PyProof.Rows.callWith_type0 (hc pins s σ H [] [] Q I .nil h)
end
end L2

namespace HT
open PySem PyProof.Rows

/-- t < u of tuples of ints -/
def lexLt : List Int → List Int → Bool
  | [], [] => false
  | [], _ :: _ => true
  | _ :: _, [] => false
  | x :: xs, y :: ys => if x = y then lexLt xs ys else decide (x < y)
theorem lexLt_cons (x y : Int) (xs ys : List Int) : lexLt (x :: xs) (y :: ys) = if x = y then lexLt xs ys else decide (x < y) := rfl
theorem lexLt_nil_nil : lexLt [] [] = false := rfl
theorem lexLt_nil_cons (y : Int) (ys : List Int) : lexLt [] (y :: ys) = true := rfl
theorem lexLt_cons_nil (x : Int) (xs : List Int) : lexLt (x :: xs) [] = false := rfl

theorem eqAt_int (A : Around) (s : Shared) (a : Int) (t : Tok) (c : Int) (u : Tok) : ∃ e, SeqAt.EqAt A s (.int a t) (.int c u) e ∧ (e = true ↔ a = c) :=
  ⟨(a == c), SeqAt.EqAt.int_int a t c u, by simp⟩
theorem rcLt_int (A : Around) (s : Shared) (a : Int) (t : Tok) (c : Int) (u : Tok) (prog : Program) (w : World) (E : Value → Shared → Prop) (Q : Value → Shared → Prop) (h : Q (.bool (decide (a < c))) s) :
    wpAny (model prog w) A (richCompare .Lt (.int a t) (.int c u)) Q E s :=
  (PyProof.Rows.lt_int h : wpAny (model prog w) A (compareOp .Lt (.int a t) (.int c u)) Q E s)

section
open PySem.SeqAt
open PySem.AutoSeq1 (wpAny_loadPart')
open PySem.MeetsSeq PySem.MeetsSeq2 PySem.MeetsSeq3

theorem tuple_lt_ints (l b : Addr) (items items2 : Array Value) (n n2 : Nat) (dd dd2 : Option Addr) (sl sl2 : Array (Option Value)) (ns ms : List Int) (hi : IntsAre items.toList ns) (hj : IntsAre items2.toList ms) :
    Meets (Builtin.«tuple.__lt__» ⟨[.ref l, .ref b], []⟩)
      (fun _ R s => s.heap.get? l = some { cls := .type "tuple", dict := dd, data := .seq items n, slots := sl } ∧ s.heap.get? b = some { cls := .type "tuple", dict := dd2, data := .seq items2 n2, slots := sl2 } ∧
        R (.ok (.ret (.bool (lexLt ns ms)))) s) :=
  .of_wp fun prog w A R s h => by
    obtain ⟨hp, g, d, tk, os⟩ := s; obtain ⟨hl, hb, h⟩ := h
    have f2 := AutoSeq1.sub_tuple_tuple
    have z1 : items.size = ns.length := by rw [← hi.length]; simp
    have z2 : items2.size = ms.length := by rw [← hj.length]; simp
    wp_walk using wpAny_loadPart' hl, wpAny_loadPart' hb, wpAny_forIn_list _ (fun rest b s' => b.1 = none ∧ s' = ⟨hp, g, d, tk, os⟩ ∧ ∃ (vs ws : List Value) (ns' ms' : List Int), rest = vs.zip ws ∧
      IntsAre vs ns' ∧ IntsAre ws ms' ∧ ns'.length + items2.size = ms'.length + items.size ∧ R (.ok (.ret (.bool (lexLt ns' ms')))) ⟨hp, g, d, tk, os⟩) _
    case turn =>
      rintro ⟨y, x⟩ rest b s' ⟨hb', rfl, vs, ws, ns', ms', hz, hvi, hwi, hlen, hR⟩
      cases hvi with
      | nil => rw [List.zip_nil_left] at hz; cases hz
      | cons a t hvi' =>
        cases hwi with
        | nil => rw [List.zip_nil_right] at hz; cases hz
        | cons c u hwi' =>
          rw [List.zip_cons_cons] at hz
          injection hz with hyx hrest
          injection hyx with hy hx
          subst hy hx
          rw [lexLt_cons] at hR
          simp only [List.length_cons] at hlen
          obtain ⟨e, he, hiff⟩ := eqAt_int A.in1 ⟨hp, g, d, tk, os⟩ a t c u
          refine wpAny_bind (he prog w _ _ ?_)
          cases e with
          | true =>
            rw [if_pos (hiff.mp rfl)] at hR
            wp_walk
            exact ⟨rfl, rfl, _, _, _, _, hrest, hvi', hwi', by omega, hR⟩
          | false =>
            rw [if_neg (fun q => absurd (hiff.mpr q) Bool.false_ne_true)] at hR
            have hri := rcLt_int A.in1 ⟨hp, g, d, tk, os⟩ a t c u prog w
            wp_walk using hri
            exact ⟨_, rfl, by simpa using hR⟩
    case fin =>
      rintro ⟨b1, b2⟩ s' ⟨hb', rfl, vs, ws, ns', ms', hz, hvi, hwi, hlen, hR⟩
      simp only at hb'
      subst hb'
      have hv : lexLt ns' ms' = decide (items.size < items2.size) := by
        cases hvi with
        | nil =>
          cases hwi with
          | nil =>
            simp only [List.length_nil] at hlen
            rw [lexLt_nil_nil]
            exact (decide_eq_false (by omega)).symm
          | cons c u hw =>
            simp only [List.length_nil, List.length_cons] at hlen
            rw [lexLt_nil_cons]
            exact (decide_eq_true (by omega)).symm
        | cons a t hv =>
          cases hwi with
          | nil =>
            simp only [List.length_nil, List.length_cons] at hlen
            rw [lexLt_cons_nil]
            exact (decide_eq_false (by omega)).symm
          | cons c u hw =>
            rw [List.zip_cons_cons] at hz
            cases hz
      rw [hv] at hR
      wp_walk
      exact ⟨_, rfl, by simpa [Builtin.Tuple.tupleCompareSizes] using hR⟩
    case h =>
      exact ⟨rfl, rfl, items.toList, items2.toList, ns, ms, rfl, hi, hj, by omega, h⟩
end

section
variable {prog : Program} {w : World} {A : Around} {E : Value → Shared → Prop} {s : Shared}

theorem lt_tupInts {l b : Addr} {items items2 : Array Value} {ns ms : List Int} {Q : Value → Shared → Prop} (hl : IsTup s.heap l items) (hb : IsTup s.heap b items2) (hi : IntsAre items.toList ns) (hj : IntsAre items2.toList ms)
    (hu : A.units < cLine) (h : Q (.bool (lexLt ns ms)) s) : wpAny (model prog w) A (compareOp .Lt (.ref l) (.ref b)) Q E s := by
  obtain ⟨⟨cls, dd, data, sl⟩, ho, hc, n, hd⟩ := id hl
  obtain ⟨⟨cls2, dd2, data2, sl2⟩, ho2, hc2, n2, hd2⟩ := id hb
  simp only at hc hd hc2 hd2
  subst hc hd hc2 hd2
  exact richCompare_meets_room (op := .Lt) ⟨_, ho, rfl⟩ ⟨_, ho2, rfl⟩ PySem.F.slot_tuple_lt PySem.F.entry_tuple_lt (PySem.F.args_tuple_lt_2 _ _) (tuple_lt_ints l b items items2 n n2 dd dd2 sl sl2 ns ms hi hj)
    ⟨ho, ho2, show Value.bool (lexLt ns ms) ≠ Value.notImplemented ∧ Q (.bool (lexLt ns ms)) s from ⟨(fun x => nomatch x), h⟩⟩ hu

/-- t + u, t not empty -/
theorem cat_tup {t b : Addr} {vs ws : List Value} {Q : Value → Shared → Prop} (ht : IsTup s.heap t vs.toArray) (hb : IsTup s.heap b ws.toArray) (hv : vs ≠ [])
    (h1 : ws = [] → Q (.ref t) s) (h2 : ws ≠ [] → Q (.ref s.heap.objs.size) { s with heap := s.heap.push { cls := .type "tuple", data := .seq (vs ++ ws).toArray } })
    (hsz : vs.length + ws.length ≤ sizeLine) : wpAny (model prog w) A (binaryOp .Add (.ref t) (.ref b)) Q E s := by
  obtain ⟨⟨cls, dd, data, sl⟩, ho, hc, n, hd⟩ := id ht
  obtain ⟨⟨cls2, dd2, data2, sl2⟩, ho2, hc2, n2, hd2⟩ := id hb
  simp only at hc hd hc2 hd2
  subst hc hd hc2 hd2
  have e : vs.toArray ++ ws.toArray = (vs ++ ws).toArray := by simp
  by_cases hw : ws = []
  · exact concat_meets ⟨_, ho, rfl⟩ ⟨_, ho2, rfl⟩ noFill_tuple_add seq_tuple_add PySem.F.slot_tuple_add PySem.F.entry_tuple_add (PySem.F.args_tuple_add_2 _ _)
      (tuple_addW1 t b vs.toArray ws.toArray n n2 dd dd2 sl sl2 (by simpa using hv) (by simp [hw])) ⟨ho, ho2, h1 hw⟩
  · refine concat_meets ⟨_, ho, rfl⟩ ⟨_, ho2, rfl⟩ noFill_tuple_add seq_tuple_add PySem.F.slot_tuple_add PySem.F.entry_tuple_add (PySem.F.args_tuple_add_2 _ _)
      (tuple_addW2 t b vs.toArray ws.toArray n n2 dd dd2 sl sl2 (by simpa using hv) (by simpa using hw) (by rw [List.size_toArray, List.size_toArray]; exact hsz)) ⟨ho, ho2, ?_⟩
    rw [e]
    exact h2 hw

/-! ### t[a:b], not the whole -/
/-- a slice's bound as a place among n (d where it is left out) -/
def sIx (n d : Nat) : Option Int → Nat
  | none => d
  | some v => if v < 0 then (v + (n : Int)).toNat else min v.toNat n
theorem sIx_none (n d : Nat) : sIx n d none = d := rfl
theorem sIx_nat (n d k : Nat) : sIx n d (some (k : Int)) = min k n := by
  show (if (k : Int) < 0 then ((k : Int) + (n : Int)).toNat else min (k : Int).toNat n) = min k n
  rw [if_neg (by omega), Int.toNat_natCast]
theorem sIx_le (n d : Nat) (hd : d ≤ n) (o : Option Int) : sIx n d o ≤ n := by
  cases o with
  | none => exact hd
  | some v =>
    show (if v < 0 then (v + (n : Int)).toNat else min v.toNat n) ≤ n
    by_cases hv : v < 0
    · rw [if_pos hv]; omega
    · rw [if_neg hv]; exact Nat.min_le_right _ _
theorem clip_eq (v : Int) (n d : Nat) : (if v < 0 then max (v + (n : Int)) 0 else min v (n : Int)) = ((sIx n d (some v) : Nat) : Int) := by
  show (if v < 0 then max (v + (n : Int)) 0 else min v (n : Int)) = (((if v < 0 then (v + (n : Int)).toNat else min v.toNat n) : Nat) : Int)
  by_cases hv : v < 0
  · simp only [if_pos hv]; omega
  · simp only [if_neg hv]; omega
theorem adjust_gen (lo hi : Option Int) (n : Nat) : Builtin.Slice.sliceAdjust lo hi 1 (n : Int) = (((sIx n 0 lo : Nat) : Int), ((sIx n n hi : Nat) : Int)) := by
  have h1 : ¬ ((1 : Int) < 0) := by omega
  unfold Builtin.Slice.sliceAdjust
  simp only [h1, if_false]
  refine Prod.ext ?_ ?_
  · cases lo with
    | none => rfl
    | some v => exact clip_eq v n 0
  · cases hi with
    | none => rfl
    | some v => exact clip_eq v n n
theorem places_gen (i j : Nat) : Builtin.Slice.slicePlaces (i : Int) (j : Int) 1 = j - i := by
  unfold Builtin.Slice.slicePlaces
  have h1 : (1 : Int) > 0 := by omega
  simp only [h1, if_true, Int.ediv_one]
  split <;> omega
theorem slicePart_ {v : Value} {o : Option Int} {Q : Option Int → Shared → Prop} (p : IsPart v o) (h : Q o s) : wpAny (model prog w) A (Builtin.Slice.slicePartIndex v) Q E s := by
  cases p with
  | none => exact slicePart_none h
  | int i t => exact slicePart_int h
theorem sliceApplied_gen {sl : Addr} {vl vu : Value} {lo hi : Option Int} {n : Nat} {Q : Int × Int × Nat → Shared → Prop} (hs : s.heap.IsSliceOf sl vl vu .none) (pl : IsPart vl lo) (pu : IsPart vu hi)
    (h : Q (((sIx n 0 lo : Nat) : Int), 1, sIx n n hi - sIx n 0 lo) s) : wpAny (model prog w) A (Builtin.Slice.sliceApplied (.ref sl) (pure (n : Int))) Q E s := by
  obtain ⟨os, hos, hcs, hds⟩ := id hs
  unfold Builtin.Slice.sliceApplied Builtin.Slice.sliceFields
  refine wpAny_bind (wpAny_bind (wpAny_field hos hds (x := vl) rfl (wpAny_bind (wpAny_field hos hds (x := vu) rfl (wpAny_bind (wpAny_field hos hds (x := .none) rfl (wpAny_pure ?_)))))))
  refine wpAny_bind (slicePart_none ?_)
  show wpAny _ _ (if ((1 : Int) == 0) = true then _ else _) _ _ s
  rw [if_neg (by decide)]
  refine wpAny_bind (slicePart_ pl (wpAny_bind (slicePart_ pu (wpAny_bind (wpAny_pure ?_)))))
  show wpAny _ _ (match Builtin.Slice.sliceAdjust lo hi 1 (n : Int) with | (lo, hi) => pure (lo, (1 : Int), Builtin.Slice.slicePlaces lo hi 1)) _ _ s
  rw [adjust_gen lo hi n]
  show wpAny _ _ (pure (((sIx n 0 lo : Nat) : Int), (1 : Int), Builtin.Slice.slicePlaces ((sIx n 0 lo : Nat) : Int) ((sIx n n hi : Nat) : Int) 1)) _ _ s
  rw [places_gen]
  exact wpAny_pure h
theorem pick_gen (xs : Array Value) (i k : Nat) : ((List.range k).filterMap fun (m : Nat) => xs[((i : Int) + (m : Int) * 1).toNat]?).toArray = ((xs.toList.drop i).take k).toArray := by
  have e : (fun (m : Nat) => xs[((i : Int) + (m : Int) * 1).toNat]?) = fun m => xs[i + m]? := by
    funext m
    have : ((i : Int) + (m : Int) * 1).toNat = i + m := by omega
    rw [this]
  rw [e]
  have := pick_run xs i k
  rw [List.filterMap_map] at this
  have e2 : ((fun x => xs[x]?) ∘ fun x => i + x) = fun m => xs[i + m]? := rfl
  rw [e2] at this
  rw [this]

theorem getItem_tuple_cut {t sl : Addr} {items : Array Value} {vl vu : Value} {lo hi : Option Int} {Q : Value → Shared → Prop} (ht : IsTup s.heap t items) (hs : s.heap.IsSliceOf sl vl vu .none) (pl : IsPart vl lo) (pu : IsPart vu hi)
    (hw : ¬ (sIx items.size 0 lo = 0 ∧ sIx items.size items.size hi = items.size))
    (h : Q (.ref s.heap.objs.size) { s with heap := s.heap.push { cls := .type "tuple", data := .seq ((items.toList.drop (sIx items.size 0 lo)).take (sIx items.size items.size hi - sIx items.size 0 lo)).toArray } })
    (hsz : items.size ≤ sizeLine) : wpAny (model prog w) A (getItem (.ref t) (.ref sl)) Q E s := by
  have htake : sizeOk (.seq ((items.toList.drop (sIx items.size 0 lo)).take (sIx items.size items.size hi - sIx items.size 0 lo)).toArray) := by
    show ((items.toList.drop (sIx items.size 0 lo)).take (sIx items.size items.size hi - sIx items.size 0 lo)).toArray.size ≤ sizeLine
    rw [List.size_toArray, List.length_take, List.length_drop, Array.length_toList]
    omega
  have hj : sIx items.size items.size hi ≤ items.size := sIx_le _ _ (Nat.le_refl _) hi
  obtain ⟨os, hos, hcs, hds⟩ := id hs
  have hTs : s.TypeIs (.ref sl) "slice" := ⟨os, hos, hcs⟩
  unfold getItem
  try with_reducible refine wpAny_holding ?_
  first | refine wpAny_bind (wpAny_pure ?_) | skip
  refine wpAny_bind (wpAny_sequenceKey ht.typeIs (by decide) ?_)
  refine wpAny_bind (wpAny_callSpecial?_slot (name := Str.ofString "__getitem__") ht.typeIs PyProof.Rows.slot_tuple_getitem
    (wpAny_call_entry PyProof.Rows.slot_tuple_getitem ht.typeIs entry_tuple_getitem ?_ (args_tuple_getitem _ _)))
  show wpAny _ _ (Builtin.Tuple.tupleItemsOf (.ref t) >>= _) _ _ s
  refine wpAny_bind (tupleItemsOf_ ht ?_)
  refine wpAny_bind (wpAny_typeOf hTs ?_)
  rw [if_pos (by decide)]
  refine wpAny_bind (sliceApplied_gen hs pl pu ?_)
  have hno : ¬ ((((sIx items.size 0 lo : Nat) : Int) == 0 && (1 : Int) == 1 && (sIx items.size items.size hi - sIx items.size 0 lo) == items.size) = true) := by
    intro q
    rw [Bool.and_eq_true, Bool.and_eq_true] at q
    have q1 : ((sIx items.size 0 lo : Nat) : Int) = 0 := eq_of_beq q.1.1
    have q2 : sIx items.size items.size hi - sIx items.size 0 lo = items.size := eq_of_beq q.2
    exact hw ⟨by omega, by omega⟩
  show wpAny _ _ (if (((sIx items.size 0 lo : Nat) : Int) == 0 && (1 : Int) == 1 && (sIx items.size items.size hi - sIx items.size 0 lo) == items.size) = true then _ else _) _ _ s
  rw [if_neg hno, pick_gen]
  first
    | exact wpAny_bind (m := Builtin.Tuple.tupleExact _) (wpAny_newObj_type (wpAny_pure ⟨_, rfl, wpAny_pure h⟩) htake)
    | exact wpAny_bind (m := Builtin.Tuple.tupleExact _) (wpAny_newObj_type (wpAny_bind (wpAny_pure (wpAny_pure ⟨_, rfl, wpAny_pure h⟩))) htake)
    | exact wpAny_bind (wpAny_bind (m := Builtin.Tuple.tupleExact _) (wpAny_newObj_type (wpAny_pure (wpAny_pure ⟨_, rfl, wpAny_pure h⟩)) htake))
    | exact wpAny_bind (wpAny_bind (m := Builtin.Tuple.tupleExact _) (wpAny_newObj_type (wpAny_pure ⟨_, rfl, wpAny_pure h⟩) htake))
end
end HT

namespace L2
open PySem PySem.Spec PyProof.Rows

/-! ### the parts of a slice -/
abbrev TO := St → Hp → (Option Int → Hp → Prop) → Prop
/-- a slice's part (left out, or an int) -/
def PO (X : Cx) (e : Option Expr) (t : TO) : Prop :=
  ∀ (pins : List (Addr × Obj)) (s : Shared) (σ : St) (H : Hp) (Q : Option Int → Hp → Prop), Inv X pins σ H s → t σ H Q →
    wpAny (model X.prog X.w) X.A (evalPart e X.env) (fun u s' => ∃ o H', Inv X pins σ H' s' ∧ IsPart u o ∧ Q o H') X.xe s
def tNoPart : TO := fun _ H Q => Q none H
def tPart (t : TE) : TO := fun σ H Q => t σ H fun x H1 => ∃ i, x = .int i ∧ Q (some i) H1

theorem intsAre_of {ns : List Int} : ∀ {us : List Value}, Vals (ns.map V.int) us → IntsAre us ns := by
  induction ns with
  | nil => intro us r; rw [List.map_nil] at r; cases r; exact .nil
  | cons n ns ih =>
    intro us r
    rw [List.map_cons] at r
    cases r with
    | cons r1 r2 =>
      obtain ⟨t, e⟩ := r1
      subst e
      exact .cons n t (ih r2)

section
variable {X : Cx} {e : Expr} {te : TE} {lo hi : Option Expr} {tl th : TO} {pos p2 : Pos}

theorem po_none : PO X none tNoPart := by
  intro pins s σ H Q I h
  rw [evalPart_none]
  exact wpAny_pure ⟨none, H, I, .none, h⟩
theorem po_some (h : PE X e te) : PO X (some e) (tPart te) := by
  intro pins s σ H Q I hw
  rw [evalPart_some]
  refine thn (h pins s σ H _ I hw) fun u s1 ⟨x, H1, I1, r1, q1⟩ => ?_
  obtain ⟨i, rfl, q⟩ := q1
  obtain ⟨t, rfl⟩ := r1
  exact ⟨some i, H1, I1, .int i t, q⟩

/-- what a slice of a value is, by values: the slice object stands at sl -/
def SlR (X : Cx) (r : V → Option Int → Option Int → Hp → VK → Prop) : Prop :=
  ∀ (pins : List (Addr × Obj)) (s : Shared) (σ : St) (H : Hp) (x : V) (v vl vu : Value) (lo hi : Option Int) (sl : Addr) (Q : VK), Inv X pins σ H s → RelV x v → s.heap.IsSliceOf sl vl vu .none → IsPart vl lo → IsPart vu hi → r x lo hi H Q →
    ∃ T id, typeLookup (.type T) "__getitem__" = pure (some (.builtin id)) ∧ s.TypeIs v T ∧ wpAny (model X.prog X.w) X.A (getItem v (.ref sl)) (EP X pins σ Q) X.xe s
theorem SlR.or {r r' : V → Option Int → Option Int → Hp → VK → Prop} (h : SlR X r) (h' : SlR X r') : SlR X (fun x lo hi H Q => r x lo hi H Q ∨ r' x lo hi H Q) := by
  intro pins s σ H x v vl vu lo hi sl Q I rx hs pl pu q
  rcases q with q | q
  · exact h pins s σ H x v vl vu lo hi sl Q I rx hs pl pu q
  · exact h' pins s σ H x v vl vu lo hi sl Q I rx hs pl pu q
def tSl (r : V → Option Int → Option Int → Hp → VK → Prop) (te : TE) (tl th : TO) : TE := fun σ H Q => te σ H fun x H1 => tl σ H1 fun l H2 => th σ H2 fun u H3 => r x l u H3 Q
/-- a[lo:hi], any a -/
theorem pe_slice {r : V → Option Int → Option Int → Hp → VK → Prop} (hr : SlR X r) (he : PE X e te) (hl : PO X lo tl) (hu : PO X hi th) : PE X (.Subscript e (.Slice lo hi none p2) pos) (tSl r te tl th) := by
  intro pins s σ H Q I h
  refine Subscript_ (thn (he pins s σ H _ I h) fun v s1 ⟨x, H1, I1, r1, q1⟩ => ?_)
  refine wpAny_Slice (thn (hl pins s1 σ H1 _ I1 q1) fun vl s2 ⟨l, H2, I2, pl, q2⟩ => thn (hu pins s2 σ H2 _ I2 q2) fun vu s3 ⟨u, H3, I3, pu, q3⟩ => ?_)
  rw [evalPart_none]
  refine wpAny_pure ?_
  have I4 : Inv X pins σ H3 { s3 with heap := s3.heap.push { cls := .type "slice", data := .fields #[vl, vu, .none] } } := I3.kept (t' := s3.toks) fun b ob q => Heap.get?_push_of_some _ q
  obtain ⟨T, id, hT, ht, hg⟩ := hr pins { s3 with heap := s3.heap.push { cls := .type "slice", data := .fields #[vl, vu, .none] } } σ H3 x v vl vu l u s3.heap.objs.size Q I4 r1 (Heap.IsSliceOf.new ..) pl pu q3
  show wpAny (model X.prog X.w) X.A (subscriptTail e (.Slice lo hi none p2) v (.ref s3.heap.objs.size)) (EP X pins σ Q) X.xe { s3 with heap := s3.heap.push { cls := .type "slice", data := .fields #[vl, vu, .none] } }
  exact tail_any (ops := [.ref s3.heap.objs.size, v]) ht hT hg (by with_unfolding_all rfl)

/-- the items of xs[lo:hi] -/
def cutV (xs : List V) (lo hi : Option Int) : List V := (xs.drop (HT.sIx xs.length 0 lo)).take (HT.sIx xs.length xs.length hi - HT.sIx xs.length 0 lo)
theorem cutV_length (xs : List V) (lo hi : Option Int) : (cutV xs lo hi).length ≤ xs.length := by
  unfold cutV
  rw [List.length_take, List.length_drop]
  omega
/-- t[lo:hi], not the whole of it (the whole would be t itself) -/
def rSlT (K : PySem.W.Frag) : V → Option Int → Option Int → Hp → VK → Prop := fun x lo hi H Q => ∃ a xs, x = .ref a ∧ SqT K H a xs ∧
  ¬ (HT.sIx xs.length 0 lo = 0 ∧ HT.sIx xs.length xs.length hi = xs.length) ∧ ∀ p, H p = none → Q (.ref p) (upd H p (.tup (cutV xs lo hi)))
theorem sl_tup : SlR X (rSlT X.K) := by
  intro pins s σ H x v vl vu lo hi sl Q I rx hs pl pu h
  obtain ⟨a, xs, rfl, hx, hw, q⟩ := h
  cases rx
  obtain ⟨its, r, ht, hz⟩ := I.tuple hx
  have hlen : its.toArray.size = xs.length := by rw [List.size_toArray]; exact r.length.symm
  refine ⟨"tuple", _, PyProof.Rows.slot_tuple_getitem.lookup, ht.typeIs, ?_⟩
  refine HT.getItem_tuple_cut ht hs pl pu (by rw [hlen]; exact hw) ?_ (by rw [hlen]; exact hz)
  rw [hlen]
  refine ⟨.ref s.heap.objs.size, _, I.laid (t' := s.toks) (o := .tup (cutV xs lo hi)) (fun b ob q => Heap.get?_push_of_some _ q) (Nat.le_refl _) ?_, rfl, q _ (I.hok.fresh (Nat.le_refl _))⟩
  exact ⟨Nat.le_trans (cutV_length xs lo hi) hz, _, (r.drop (HT.sIx xs.length 0 lo)).take (HT.sIx xs.length xs.length hi - HT.sIx xs.length 0 lo), IsTup.new _ _⟩

/-! ### t < u, t + u -/
def rLtT (K : PySem.W.Frag) : R2 := fun x y H Q => ∃ a b ns ms, x = .ref a ∧ y = .ref b ∧ SqT K H a (ns.map V.int) ∧ SqT K H b (ms.map V.int) ∧ Q (.bl (HT.lexLt ns ms)) H
theorem op_ltT (hu : X.A.units < cLine) : OpR X (compareOp .Lt) (rLtT X.K) := by
  intro pins s σ H x y v u Q I rx ry h
  obtain ⟨a, b, ns, ms, rfl, rfl, ha, hb, q⟩ := h
  cases rx
  cases ry
  obtain ⟨its, r1, p1, _⟩ := I.tuple ha
  obtain ⟨its2, r2, p2, _⟩ := I.tuple hb
  have i1 : IntsAre its.toArray.toList ns := intsAre_of r1
  have i2 : IntsAre its2.toArray.toList ms := intsAre_of r2
  exact HT.lt_tupInts p1 p2 i1 i2 hu ⟨.bl (HT.lexLt ns ms), H, I, rfl, q⟩
/-- t + u, t not empty: u empty gives t itself -/
def rCatT (K : PySem.W.Frag) : R2 := fun x y H Q => ∃ a b xs ys, x = .ref a ∧ y = .ref b ∧ SqT K H a xs ∧ SqT K H b ys ∧ xs ≠ [] ∧ xs.length + ys.length ≤ sizeLine ∧
  (ys = [] → Q (.ref a) H) ∧ (ys ≠ [] → ∀ p, H p = none → Q (.ref p) (upd H p (.tup (xs ++ ys))))
theorem Vals.nil_iff {xs : List V} {us : List Value} (r : Vals xs us) : us = [] ↔ xs = [] := by
  cases r with
  | nil => simp
  | cons _ _ => simp
theorem op_catT : OpR X (binaryOp .Add) (rCatT X.K) := by
  intro pins s σ H x y v u Q I rx ry h
  obtain ⟨a, b, xs, ys, rfl, rfl, ha, hb, hx, hz, q1, q2⟩ := h
  cases rx
  cases ry
  obtain ⟨its, r1, p1, _⟩ := I.tuple ha
  obtain ⟨its2, r2, p2, _⟩ := I.tuple hb
  refine HT.cat_tup p1 p2 (fun z => hx (r1.nil_iff.mp z)) (fun z => ⟨.ref a, H, I, rfl, q1 (r2.nil_iff.mp z)⟩) (fun z => ?_) (by rw [← r1.length, ← r2.length]; exact hz)
  refine ⟨.ref s.heap.objs.size, _, I.laid (t' := s.toks) (o := .tup (xs ++ ys)) (fun b ob q => Heap.get?_push_of_some _ q) (Nat.le_refl _) ?_, rfl, q2 (fun w => z (r2.nil_iff.mpr w)) _ (I.hok.fresh (Nat.le_refl _))⟩
  exact ⟨by rw [List.length_append]; exact hz, _, r1.append r2, IsTup.new _ _⟩
/-- tuple(t) -/
theorem call_tupleT : CallR X (.type "tuple") (fun xs H Q => ∃ a ys, xs = [.ref a] ∧ SqT X.K H a ys ∧ Q (.ref a) H) := by
  intro pins s σ H xs us Q I r h
  obtain ⟨a, ys, rfl, ha, q⟩ := h
  obtain ⟨u, rfl, ru⟩ := vals1 r
  cases ru
  obtain ⟨its, _, p1, _⟩ := I.tuple ha
  exact call_tuple_same (items := its.toArray) p1 ⟨.ref a, H, I, rfl, q⟩
end
end L2

namespace L2
open PySem PySem.Spec PyProof.Rows

/-! ### places -/
/-- the place that an index of any sign means -/
def ixN (n : Nat) (i : Int) : Option Nat := if 0 ≤ i then (if i < n then some i.toNat else none) else if -(n : Int) ≤ i then some (i + n).toNat else none
def atI {α : Type} (xs : List α) (i : Int) : Option α := (ixN xs.length i).bind fun j => xs[j]?
theorem ixN_seq {n : Nat} {i : Int} {j : Nat} (h : ixN n i = some j) : seqIndex? i n = some j ∧ j < n ∧ -(n : Int) ≤ i ∧ i < n := by
  unfold ixN at h
  by_cases h0 : 0 ≤ i
  · rw [if_pos h0] at h
    by_cases h1 : i < n
    · rw [if_pos h1] at h
      have e : i.toNat = j := Option.some.inj h
      exact ⟨by rw [seqIndex_of h0 h1, e], by omega, by omega, h1⟩
    · rw [if_neg h1] at h; cases h
  · rw [if_neg h0] at h
    by_cases h1 : -(n : Int) ≤ i
    · rw [if_pos h1] at h
      have e : (i + n).toNat = j := Option.some.inj h
      exact ⟨by rw [seqIndex_neg (by omega) h1, e], by omega, h1, by omega⟩
    · rw [if_neg h1] at h; cases h
theorem atI_get {α : Type} {xs : List α} {i : Int} {v : α} (h : atI xs i = some v) : ∃ j, seqIndex? i xs.length = some j ∧ xs[j]? = some v ∧ j < xs.length ∧ -(xs.length : Int) ≤ i ∧ i < xs.length := by
  unfold atI at h
  cases e : ixN xs.length i with
  | none => rw [e] at h; cases h
  | some j =>
    rw [e] at h
    obtain ⟨h1, h2, h3, h4⟩ := ixN_seq e
    exact ⟨j, h1, h, h2, h3, h4⟩
theorem atI_nat {α : Type} {xs : List α} {j : Nat} {v : α} (h : xs[j]? = some v) : atI xs (j : Int) = some v := by
  have hj : j < xs.length := (List.getElem?_eq_some_iff.mp h).1
  have e : ixN xs.length (j : Int) = some j := by
    unfold ixN
    rw [if_pos (by omega), if_pos (by omega)]; simp
  unfold atI; rw [e]; exact h
theorem atI_last {α : Type} (xs : List α) (v : α) : atI (xs ++ [v]) (-1) = some v := by
  have hl : (xs ++ [v]).length = xs.length + 1 := by simp
  have e : ixN (xs ++ [v]).length (-1) = some xs.length := by
    unfold ixN
    rw [hl, if_neg (by decide), if_pos (by omega)]
    congr 1
    omega
  unfold atI
  rw [e]
  show (xs ++ [v])[xs.length]? = some v
  simp

/-! ### what may be subscripted -/
/-- what stands as an index of a plain subscript -/
def PlainIx (b : Expr) : Prop := ∀ o i, subscripted b false o i = operate [o, i] (getItem o i)
/-- a subscript by values -/
def IxR (X : Cx) (r : R2) : Prop :=
  ∀ (value slice : Expr) (pins : List (Addr × Obj)) (s : Shared) (σ : St) (H : Hp) (x y : V) (v u : Value) (Q : VK), Inv X pins σ H s → RelV x v → RelV y u → r x y H Q →
    subscripted slice false v u = operate [v, u] (getItem v u) → wpAny (model X.prog X.w) X.A (subscriptTail value slice v u) (EP X pins σ Q) X.xe s
/-- a call of a builtin's method by values: the receiver, the arguments -/
def MtR (X : Cx) (id : String) (r : V → List V → Hp → VK → Prop) : Prop :=
  ∀ (pins : List (Addr × Obj)) (s : Shared) (σ : St) (H : Hp) (x : V) (xs : List V) (v : Value) (us : List Value) (Q : VK), Inv X pins σ H s → RelV x v → Vals xs us → r x xs H Q →
    wpAny (model X.prog X.w) X.A (call (.builtin id) (v :: us)) (EP X pins σ Q) X.xe s
section
variable {X : Cx} {a b : Expr} {ta tb : TE} {pos : Pos}
theorem IxR.or {r r' : R2} (h : IxR X r) (h' : IxR X r') : IxR X (fun x y H Q => r x y H Q ∨ r' x y H Q) := by
  intro value slice pins s σ H x y v u Q I rx ry q hs
  rcases q with q | q
  · exact h value slice pins s σ H x y v u Q I rx ry q hs
  · exact h' value slice pins s σ H x y v u Q I rx ry q hs
theorem MtR.or {id : String} {r r' : V → List V → Hp → VK → Prop} (h : MtR X id r) (h' : MtR X id r') : MtR X id (fun x xs H Q => r x xs H Q ∨ r' x xs H Q) := by
  intro pins s σ H x xs v us Q I rx rs q
  rcases q with q | q
  · exact h pins s σ H x xs v us Q I rx rs q
  · exact h' pins s σ H x xs v us Q I rx rs q
/-- a[b] -/
theorem pe_ix {r : R2} (hr : IxR X r) (ha : PE X a ta) (hb : PE X b tb) (hs : PlainIx b) : PE X (.Subscript a b pos) (tOp r ta tb) := by
  intro pins s σ H Q I h
  exact Subscript_ (binT ha hb I h fun v u s2 x y H2 I2 rx ry q => hr a b pins s2 σ H2 x y v u Q I2 rx ry q (hs _ _))

def rIxL (K : PySem.W.Frag) : R2 := fun x y H Q => ∃ p xs i v, x = .ref p ∧ y = .int i ∧ SqL K H p xs ∧ atI xs i = some v ∧ Q v H
def rIxT (K : PySem.W.Frag) : R2 := fun x y H Q => ∃ p xs i v, x = .ref p ∧ y = .int i ∧ SqT K H p xs ∧ atI xs i = some v ∧ Q v H
def rIxS : R2 := fun x y H Q => ∃ z i c, x = .str z ∧ y = .int i ∧ z.length ≤ sizeLine ∧ atI z.cps.toList i = some c ∧ Q (.str ⟨#[c]⟩) H
theorem ix_list : IxR X (rIxL X.K) := by
  intro value slice pins s σ H x y v u Q I rx ry h hs
  obtain ⟨p, xs, i, z, rfl, rfl, hq, he, q⟩ := h
  cases rx
  obtain ⟨t, rfl⟩ := ry
  obtain ⟨its, r, pl, hz⟩ := I.list hq
  obtain ⟨j, h1, h2, h3, h4, h5⟩ := atI_get he
  obtain ⟨w, ew, rw'⟩ := r.get h2
  have hl := r.length
  have hn := line63
  have fin : EP X pins σ Q w s := ⟨z, H, I, rw', q⟩
  by_cases h0 : 0 ≤ i
  · have hj : i.toNat = j := by
      rw [seqIndex_of h0 h5] at h1
      exact Option.some.inj h1
    exact item_listR pl.isList h0 (by omega) (by rw [hj]; simpa using ew) fin hs
  · have hj : (i + (its.toArray.size : Int)).toNat = j := by
      rw [seqIndex_neg (by omega) h4] at h1
      rw [List.size_toArray, ← hl]
      exact Option.some.inj h1
    exact subscriptTail_builtinR (x := w) pl.isList.typeIs slot_list_getitem.lookup
      (wpAny_getItem_list_neg (Q := fun r s' => r = w ∧ EP X pins σ Q r s') pl.isList (by omega) (by rw [List.size_toArray] <;> omega) (by omega) (by rw [hj]; simpa using ew) ⟨rfl, fin⟩) hs
theorem ix_tup : IxR X (rIxT X.K) := by
  intro value slice pins s σ H x y v u Q I rx ry h hs
  obtain ⟨p, xs, i, z, rfl, rfl, hq, he, q⟩ := h
  cases rx
  obtain ⟨t, rfl⟩ := ry
  obtain ⟨its, r, pl, hz⟩ := I.tuple hq
  obtain ⟨j, h1, h2, h3, h4, h5⟩ := atI_get he
  obtain ⟨w, ew, rw'⟩ := r.get h2
  have hl := r.length
  have hn := line63
  have fin : EP X pins σ Q w s := ⟨z, H, I, rw', q⟩
  exact subscriptTail_builtinR (x := w) pl.typeIs slot_tuple_getitem.lookup
    (getItem_tuple (j := j) (Q := fun r s' => r = w ∧ EP X pins σ Q r s') pl (by omega) (by omega) (by rw [List.size_toArray, ← hl]; exact h1) (by simpa using ew) ⟨rfl, fin⟩) hs
theorem ix_str : IxR X rIxS := by
  intro value slice pins s σ H x y v u Q I rx ry h hs
  obtain ⟨z, i, c, rfl, rfl, hz, he, q⟩ := h
  obtain ⟨t, rfl⟩ := rx
  obtain ⟨t', rfl⟩ := ry
  obtain ⟨j, h1, h2, h3, h4, h5⟩ := atI_get he
  have hl : z.cps.toList.length = z.length := by simp [Str.length]
  rw [hl] at h1 h4 h5
  have hn := line63
  exact tail_any (typeIs_str s z t) slot_str_getitem.lookup (getItem_str (c := c) (by
    have e1 : decide (i < -(2 ^ 63 : Int)) = false := decide_eq_false (by omega)
    have e2 : decide (i ≥ 2 ^ 63) = false := decide_eq_false (by omega)
    rw [e1, e2, Bool.or_false]) (by rw [h1]; simpa using h2) ⟨.str ⟨#[c]⟩, H, I.tok _, ⟨_, rfl⟩, q⟩) hs
/-- list, tuple or str -/
def rIx (K : PySem.W.Frag) : R2 := fun x y H Q => rIxL K x y H Q ∨ rIxT K x y H Q ∨ rIxS x y H Q
theorem ix_seq : IxR X (rIx X.K) := ix_list.or (ix_tup.or ix_str)

/-! ### xs[i] = v, any sign -/
/-- the list's object behind a store -/
theorem mapSeq_set (its : List Value) (n j : Nat) (u : Value) : Obj.mapSeq (·.setIfInBounds j u) { cls := .type "list", data := .seq its.toArray n } = { cls := .type "list", data := .seq (its.set j u).toArray n } := by
  simp [Obj.mapSeq]
theorem Inv.lst {pins : List (Addr × Obj)} {σ : St} {H : Hp} {s : Shared} {p : Addr} {xs : List V} (I : Inv X pins σ H s) (h : H p = some (.lst xs)) :
    ∃ (its : List Value) (n : Nat), Vals xs its ∧ s.heap.get? p = some { cls := .type "list", data := .seq its.toArray n } ∧ xs.length ≤ sizeLine := by
  obtain ⟨z, its, n, r, e⟩ := I.hok p _ h
  exact ⟨its, n, r, e, z⟩
/-- the list at p is written by an update of its object -/
theorem Inv.lstUpd {pins : List (Addr × Obj)} {σ : St} {H : Hp} {s : Shared} {p : Addr} {xs ys : List V} {its its' : List Value} {n n' : Nat} {f : Obj → Obj} (I : Inv X pins σ H s) (h : H p = some (.lst xs))
    (ho : s.heap.get? p = some { cls := .type "list", data := .seq its.toArray n }) (hf : f { cls := .type "list", data := .seq its.toArray n } = { cls := .type "list", data := .seq its'.toArray n' }) (r : Vals ys its') (hz : ys.length ≤ sizeLine) (t : Nat) :
    Inv X pins σ (upd H p (.lst ys)) { s with heap := s.heap.update p f, toks := t } := by
  have e : (s.heap.update p f).get? p = some { cls := .type "list", data := .seq its'.toArray n' } := by
    rw [Heap.get?_update_self f ho (by rw [hf] <;> rfl), hf]
  refine I.write (x := p) (e := p) (by rw [h]; trivial) (.inl rfl) (fun b u hb q => (Heap.get?_update_other _ _ (Ne.symm hb)).trans q) ⟨_, e⟩ ?_
  exact ⟨hz, its', n', r, e⟩
def rSetL : V → V → V → Hp → (Hp → Prop) → Prop := fun o i v H Q => ∃ p xs k j, o = .ref p ∧ i = .int k ∧ H p = some (.lst xs) ∧ ixN xs.length k = some j ∧ Q (upd H p (.lst (xs.set j v)))
theorem set_list : PSet X rSetL := by
  intro pins s σ H o i v ov iv u Q I ro ri rv h
  obtain ⟨p, xs, k, j, rfl, rfl, hp, hj, q⟩ := h
  cases ro
  obtain ⟨t, rfl⟩ := ri
  obtain ⟨its, n, r, ho, hz⟩ := I.lst hp
  obtain ⟨h1, h2, h3, h4⟩ := ixN_seq hj
  have hl := r.length
  have hn := line63
  have I' : Inv X pins σ (upd H p (.lst (xs.set j v))) { s with heap := s.heap.update p (Obj.mapSeq (·.setIfInBounds j u)) } :=
    I.lstUpd hp ho (mapSeq_set its n j u) (r.set rv j) (by rw [List.length_set]; exact hz) s.toks
  by_cases h0 : 0 ≤ k
  · have hk : k.toNat = j := by
      rw [seqIndex_of h0 h4] at h1
      exact Option.some.inj h1
    exact PySem.W.ki_setAt ho h0 (by omega) (by rw [List.size_toArray, ← hl]; exact h4) (by rw [hk]; exact ⟨_, I', q⟩)
  · have hk : (k + (its.toArray.size : Int)).toNat = j := by
      rw [seqIndex_neg (by omega) h3] at h1
      rw [List.size_toArray, ← hl]
      exact Option.some.inj h1
    exact PySem.W.ki_setBack ho (by omega) (by rw [List.size_toArray, ← hl]; exact h3) (by omega) (by rw [hk]; exact ⟨_, I', q⟩)

/-! ### slices -/
theorem slice_bounds (lo hi : Option Int) (n : Nat) : (sliceBounds lo hi none n).1 = ((HT.sIx n 0 lo : Nat) : Int) ∧ (sliceBounds lo hi none n).2.1 = ((HT.sIx n n hi : Nat) : Int) ∧ (sliceBounds lo hi none n).2.2 = 1 := by
  refine ⟨?_, ?_, rfl⟩
  · cases lo with
    | none => simp [sliceBounds, HT.sIx]
    | some i =>
      simp only [sliceBounds, HT.sIx, Option.getD_none, show (1 : Int) > 0 by decide, if_true]
      by_cases h : i < 0
      · simp only [h, if_true] <;> omega
      · simp only [h, if_false] <;> omega
  · cases hi with
    | none => simp [sliceBounds, HT.sIx]
    | some i =>
      simp only [sliceBounds, HT.sIx, Option.getD_none, show (1 : Int) > 0 by decide, if_true]
      by_cases h : i < 0
      · simp only [h, if_true] <;> omega
      · simp only [h, if_false] <;> omega
theorem slicePick_cut (its : List Value) (lo hi : Option Int) : slicePick its.toArray lo hi none = ((its.drop (HT.sIx its.length 0 lo)).take (HT.sIx its.length its.length hi - HT.sIx its.length 0 lo)).toArray := by
  obtain ⟨h1, h2, h3⟩ := slice_bounds lo hi its.toArray.size
  unfold slicePick
  rw [h1, h2, h3]
  simp only [sliceRange_one, pick_run, List.size_toArray] <;> rfl
/-- xs[lo:hi] of a list: a new list -/
def rSlL (K : PySem.W.Frag) : V → Option Int → Option Int → Hp → VK → Prop := fun x lo hi H Q => ∃ a xs, x = .ref a ∧ SqL K H a xs ∧ ∀ p, H p = none → Q (.ref p) (upd H p (.lst (cutV xs lo hi)))
theorem sl_list : SlR X (rSlL X.K) := by
  intro pins s σ H x v vl vu lo hi sl Q I rx hs pl pu h
  obtain ⟨a, xs, rfl, hx, q⟩ := h
  cases rx
  obtain ⟨its, r, ht, hz⟩ := I.list hx
  have hlen := r.length
  refine ⟨"list", _, slot_list_getitem.lookup, ht.isList.typeIs, ?_⟩
  refine wpAny_getItem_list_slice ht.isList hs pl pu .none (by simp) ?_ (by rw [List.size_toArray] <;> omega)
  rw [slicePick_cut, ← hlen]
  refine ⟨.ref s.heap.objs.size, _, I.laid (t' := s.toks) (o := .lst (cutV xs lo hi)) (fun b ob q => Heap.get?_push_of_some _ q) (Nat.le_refl _) ?_, rfl, q _ (I.hok.fresh (Nat.le_refl _))⟩
  exact ⟨Nat.le_trans (cutV_length xs lo hi) hz, _, 0, (r.drop (HT.sIx xs.length 0 lo)).take (HT.sIx xs.length xs.length hi - HT.sIx xs.length 0 lo), Heap.get?_push_size _ rfl⟩

/-! ### in, not in: flat items -/
def flatV : V → Bool
  | .non => true
  | .bl _ => true
  | .int _ => true
  | .str _ => true
  | _ => false
/-- == of flat values -/
def eqV : V → V → Bool
  | .non, .non => true
  | .bl a, .bl b => a == b
  | .bl a, .int b => (if a then 1 else 0) == b
  | .int a, .bl b => a == (if b then 1 else 0)
  | .int a, .int b => a == b
  | .str a, .str b => a == b
  | _, _ => false
theorem eqAt_V {A : Around} {s : Shared} {y x : V} {u v : Value} (ry : RelV y u) (rx : RelV x v) (fy : flatV y = true) (fx : flatV x = true) : SeqAt.EqAt A s u v (eqV y x) := by
  cases y with
  | non =>
    cases ry
    cases x with
    | non => cases rx; exact SeqAt.EqAt.same _
    | bl b => cases rx; exact SeqAt.EqAt.none_bool b
    | int b => obtain ⟨t, rfl⟩ := rx; exact SeqAt.EqAt.none_int b t
    | str b => obtain ⟨t, rfl⟩ := rx; exact SeqAt.EqAt.none_str b t
    | _ => exact absurd (show false = true from fx) Bool.false_ne_true
  | bl a =>
    cases ry
    cases x with
    | non => cases rx; exact SeqAt.EqAt.bool_none a
    | bl b => cases rx; exact SeqAt.EqAt.bool_bool a b
    | int b => obtain ⟨t, rfl⟩ := rx; exact SeqAt.EqAt.bool_int a b t
    | str b => obtain ⟨t, rfl⟩ := rx; exact SeqAt.EqAt.bool_str a b t
    | _ => exact absurd (show false = true from fx) Bool.false_ne_true
  | int a =>
    obtain ⟨t', rfl⟩ := ry
    cases x with
    | non => cases rx; exact SeqAt.EqAt.int_none a t'
    | bl b => cases rx; exact SeqAt.EqAt.int_bool a t' b
    | int b => obtain ⟨t, rfl⟩ := rx; exact SeqAt.EqAt.int_int a t' b t
    | str b => obtain ⟨t, rfl⟩ := rx; exact SeqAt.EqAt.int_str a t' b t
    | _ => exact absurd (show false = true from fx) Bool.false_ne_true
  | str a =>
    obtain ⟨t', rfl⟩ := ry
    cases x with
    | non => cases rx; exact SeqAt.EqAt.str_none a t'
    | bl b => cases rx; exact SeqAt.EqAt.str_bool a t' b
    | int b => obtain ⟨t, rfl⟩ := rx; exact SeqAt.EqAt.str_int a t' b t
    | str b => obtain ⟨t, rfl⟩ := rx; exact SeqAt.EqAt.str_str a t' b t
    | _ => exact absurd (show false = true from fx) Bool.false_ne_true
  | _ => exact absurd (show false = true from fy) Bool.false_ne_true
/-- the items' answers, read off the values (a value's own answer does not lean on its token) -/
def eqU (x : V) (u : Value) : Bool := match u with
  | .none => eqV .non x
  | .bool b => eqV (.bl b) x
  | .int i _ => eqV (.int i) x
  | .str z _ => eqV (.str z) x
  | _ => false
theorem eqU_of {x y : V} {u : Value} (r : RelV y u) (f : flatV y = true) : eqU x u = eqV y x := by
  cases y with
  | non => cases r; rfl
  | bl b => cases r; rfl
  | int i => obtain ⟨t, rfl⟩ := r; rfl
  | str z => obtain ⟨t, rfl⟩ := r; rfl
  | _ => exact absurd (show false = true from f) Bool.false_ne_true
theorem any_eqU {x : V} : ∀ {xs : List V} {us : List Value}, Vals xs us → xs.all flatV = true → us.any (eqU x) = xs.any fun y => eqV y x
  | _, _, .nil, _ => rfl
  | y :: xs, u :: us, .cons r t, f => by
    rw [List.all_cons, Bool.and_eq_true] at f
    rw [List.any_cons, List.any_cons, eqU_of r f.1, any_eqU t f.2]
theorem mem_eqAt {A : Around} {s : Shared} {x : V} {v : Value} (rx : RelV x v) (fx : flatV x = true) : ∀ {xs : List V} {us : List Value}, Vals xs us → xs.all flatV = true → ∀ u ∈ us, SeqAt.EqAt A s u v (eqU x u)
  | _, _, .nil, _ => fun u hu => by cases hu
  | y :: xs, u :: us, .cons r t, f => fun u' hu => by
    rw [List.all_cons, Bool.and_eq_true] at f
    rcases List.mem_cons.mp hu with rfl | hu
    · rw [eqU_of r f.1]; exact eqAt_V r rx f.1 fx
    · exact mem_eqAt rx fx t f.2 u' hu
def inV (x : V) (xs : List V) : Bool := xs.any fun y => eqV y x
/-- x in a list or tuple of flat items -/
def rIn (K : PySem.W.Frag) (neg : Bool) : R2 := fun x y H Q => ∃ p xs, y = .ref p ∧ (SqL K H p xs ∨ SqT K H p xs) ∧ flatV x = true ∧ xs.all flatV = true ∧ Q (.bl (if neg then !inV x xs else inV x xs)) H
theorem op_in_seq : OpR X (compareOp .In) (rIn X.K false) := by
  intro pins s σ H x y v u Q I rx ry h
  obtain ⟨p, xs, rfl, hq, fx, fs, q⟩ := h
  cases ry
  rcases hq with hq | hq
  · obtain ⟨its, r, pl, hz⟩ := I.list hq
    refine SeqAt.in_listAt (eqU x) pl.isList (fun w hw => mem_eqAt rx fx r fs w (by simpa using hw)) ⟨.bl _, H, I, rfl, ?_⟩
    rw [show its.toArray.any (eqU x) = its.any (eqU x) by simp, any_eqU r fs]
    exact q
  · obtain ⟨its, r, pl, hz⟩ := I.tuple hq
    refine SeqAt.in_tupleAt (eqU x) pl (fun w hw => mem_eqAt rx fx r fs w (by simpa using hw)) ⟨.bl _, H, I, rfl, ?_⟩
    rw [show its.toArray.any (eqU x) = its.any (eqU x) by simp, any_eqU r fs]
    exact q
theorem op_notIn_seq : OpR X (compareOp .NotIn) (rIn X.K true) := by
  intro pins s σ H x y v u Q I rx ry h
  obtain ⟨p, xs, rfl, hq, fx, fs, q⟩ := h
  cases ry
  rcases hq with hq | hq
  · obtain ⟨its, r, pl, hz⟩ := I.list hq
    refine SeqAt.notIn_listAt (eqU x) pl.isList (fun w hw => mem_eqAt rx fx r fs w (by simpa using hw)) ⟨.bl _, H, I, rfl, ?_⟩
    rw [show its.toArray.any (eqU x) = its.any (eqU x) by simp, any_eqU r fs]
    exact q
  · obtain ⟨its, r, pl, hz⟩ := I.tuple hq
    refine SeqAt.notIn_tupleAt (eqU x) pl (fun w hw => mem_eqAt rx fx r fs w (by simpa using hw)) ⟨.bl _, H, I, rfl, ?_⟩
    rw [show its.toArray.any (eqU x) = its.any (eqU x) by simp, any_eqU r fs]
    exact q
theorem op_notIn_str : OpR X (compareOp .NotIn) (fun x y H Q => ∃ i j, x = .str i ∧ y = .str j ∧ Q (.bl (!(!(Builtin.Str.occurrences j i 0 j.length 1).isEmpty))) H) := by
  intro pins s σ H x y v u Q I rx ry h
  obtain ⟨i, j, rfl, rfl, q⟩ := h
  obtain ⟨t, rfl⟩ := rx
  obtain ⟨t', rfl⟩ := ry
  exact notIn_str ⟨.bl _, H, I, rfl, q⟩

/-! ### len, list(x), tuple(x) of any list or tuple that is read -/
theorem call_len_seq : CallR X (.builtin "len") (fun xs H Q => ∃ p ys, xs = [.ref p] ∧ (SqL X.K H p ys ∨ SqT X.K H p ys) ∧ Q (.int ys.length) H) := by
  intro pins s σ H xs us Q I r h
  obtain ⟨p, ys, rfl, hq, q⟩ := h
  obtain ⟨u, rfl, rx⟩ := vals1 r
  cases rx
  have hn := line63
  rcases hq with hq | hq
  · obtain ⟨its, r', pl, hz⟩ := I.list hq
    have hlen := r'.length
    exact Calls.call_len_list pl.isList (by simp only [List.size_toArray] <;> omega) ⟨.int ys.length, H, I.tok _, ⟨s.toks + 1, by rw [List.size_toArray, hlen]⟩, q⟩
  · obtain ⟨its, r', pl, hz⟩ := I.tuple hq
    have hlen := r'.length
    exact len_tuple pl (by simp only [List.size_toArray] <;> omega) ⟨.int ys.length, H, I.tok _, ⟨s.toks + 1, by rw [List.size_toArray, hlen]⟩, q⟩
theorem call_len_str : CallR X (.builtin "len") (fun xs H Q => ∃ z, xs = [.str z] ∧ z.length ≤ sizeLine ∧ Q (.int z.length) H) := by
  intro pins s σ H xs us Q I r h
  obtain ⟨z, rfl, hz, q⟩ := h
  obtain ⟨u, rfl, t, rfl⟩ := vals1 r
  have hn := line63
  exact len_str (by omega) ⟨.int z.length, H, I.tok _, ⟨_, rfl⟩, q⟩
theorem CallR.or {f : Value} {r r' : List V → Hp → VK → Prop} (h : CallR X f r) (h' : CallR X f r') : CallR X f (fun xs H Q => r xs H Q ∨ r' xs H Q) := by
  intro pins s σ H xs us Q I rs q
  rcases q with q | q
  · exact h pins s σ H xs us Q I rs q
  · exact h' pins s σ H xs us Q I rs q
theorem call_list_of : CallR X (.type "list") (fun xs H Q => ∃ p ys, xs = [.ref p] ∧ (SqL X.K H p ys ∨ SqT X.K H p ys) ∧ ∀ l, H l = none → Q (.ref l) (upd H l (.lst ys))) := by
  intro pins s σ H xs us Q I r h
  obtain ⟨p, ys, rfl, hq, q⟩ := h
  obtain ⟨u, rfl, rx⟩ := vals1 r
  cases rx
  have fin : ∀ (its : List Value), Vals ys its → ys.length ≤ sizeLine → ∀ (h' : Heap) (c' : Nat), (∀ b o', s.heap.get? b = some o' → h'.get? b = some o') →
      h'.get? s.heap.objs.size = some { cls := .type "list", dict := none, data := .seq its.toArray c', slots := #[] } → EP X pins σ Q (.ref s.heap.objs.size) { s with heap := h' } := fun its r' hz h' c' kp e =>
    ⟨.ref s.heap.objs.size, _, I.laid (t' := s.toks) kp (Nat.le_refl _) (show ObjOk X.prog X.w _ h' _ (.lst ys) from ⟨hz, its, c', r', e⟩), rfl, q _ (I.hok.fresh (Nat.le_refl _))⟩
  rcases hq with hq | hq
  · obtain ⟨its, r', pl, hz⟩ := I.list hq
    have hlen := r'.length
    obtain ⟨o, ho, hc, n, hd⟩ := pl.isList
    exact call_list_seq p (.inl rfl) ho hc hd (fun h' c' kp e => fin its r' hz h' c' kp e) (by simp only [List.size_toArray] <;> omega)
  · obtain ⟨its, r', pl, hz⟩ := I.tuple hq
    have hlen := r'.length
    obtain ⟨o, ho, hc, n, hd⟩ := pl
    exact call_list_seq p (.inr rfl) ho hc hd (fun h' c' kp e => fin its r' hz h' c' kp e) (by simp only [List.size_toArray] <;> omega)
theorem call_tuple_of : CallR X (.type "tuple") (fun xs H Q => ∃ p ys, xs = [.ref p] ∧ ((SqL X.K H p ys ∧ ∀ l, H l = none → Q (.ref l) (upd H l (.tup ys))) ∨ (SqT X.K H p ys ∧ Q (.ref p) H))) := by
  intro pins s σ H xs us Q I r h
  obtain ⟨p, ys, rfl, h⟩ := h
  obtain ⟨u, rfl, rx⟩ := vals1 r
  cases rx
  rcases h with ⟨hq, q⟩ | ⟨hq, q⟩
  · obtain ⟨its, r', pl, hz⟩ := I.list hq
    have hlen := r'.length
    refine call_tuple_list pl.isList (fun h' kp => ?_) (by simp only [List.size_toArray] <;> omega)
    have I1 : Inv X pins σ H { s with heap := h' } := I.kept (t' := s.toks) kp
    have I2 : Inv X pins σ (upd H h'.objs.size (.tup ys)) { s with heap := h'.push { cls := .type "tuple", data := .seq its.toArray } } :=
      I1.laid (t' := s.toks) (fun b o e => Heap.get?_push_of_some _ e) (Nat.le_refl _) (show ObjOk X.prog X.w _ _ _ (.tup ys) from ⟨hz, its, r', IsTup.new _ _⟩)
    exact ⟨.ref h'.objs.size, _, I2, rfl, q _ (I1.hok.fresh (Nat.le_refl _))⟩
  · obtain ⟨its, r', pl, hz⟩ := I.tuple hq
    exact call_tuple_same pl ⟨.ref p, H, I, rfl, q⟩

/-! ### the call of a builtin's method: o.m(..) -/
/-- the value is of that builtin type -/
def tyV (K : PySem.W.Frag) (T : String) (x : V) (H : Hp) : Prop := match x with
  | .str _ => T = "str"
  | .int _ => T = "int"
  | .ref p => (T = "list" ∧ ∃ xs, SqL K H p xs) ∨ (T = "tuple" ∧ ∃ o, K.lookup p = some o ∧ o.cls = .type "tuple" ∧ o.dict = none) ∨
      (T = "dict" ∧ ((∃ kvs, H p = some (.dK kvs)) ∨ ∃ kvs, H p = some (.dT kvs))) ∨ (T = "set" ∧ ∃ S n, H p = some (.set S n))
  | _ => False
theorem tyV_is {pins : List (Addr × Obj)} {σ : St} {H : Hp} {s : Shared} {T : String} {x : V} {v : Value} (I : Inv X pins σ H s) (r : RelV x v) (ty : tyV X.K T x H) :
    s.TypeIs v T ∧ ∀ a, v = .ref a → ∃ ob, s.heap.get? a = some ob ∧ ob.dict = none := by
  cases x with
  | str z =>
    obtain ⟨t, rfl⟩ := r
    cases (show T = "str" from ty)
    exact ⟨typeIs_str s z t, fun _ e => nomatch e⟩
  | int i =>
    obtain ⟨t, rfl⟩ := r
    cases (show T = "int" from ty)
    exact ⟨typeIs_int s i t, fun _ e => nomatch e⟩
  | ref p =>
    cases r
    rcases ty with ⟨rfl, xs, hq⟩ | ⟨rfl, o, hk, hc, hd⟩ | ⟨rfl, hk⟩ | ⟨rfl, S, n, hk⟩
    · obtain ⟨its, _, pl, _⟩ := I.list hq
      refine ⟨pl.isList.typeIs, fun a e => ?_⟩
      cases e
      obtain ⟨o, n, e, c, hd, _⟩ := pl
      exact ⟨o, e, hd⟩
    · refine ⟨⟨o, I.kIn p o hk, hc⟩, fun a e => ?_⟩
      cases e
      exact ⟨o, I.kIn _ o hk, hd⟩
    · have z : ∃ o, s.heap.get? p = some o ∧ o.ExactDict := by
        rcases hk with ⟨kvs, hk⟩ | ⟨kvs, hk⟩
        · obtain ⟨_, _, _, _, o, _, _, e, ex, _⟩ := I.hok p _ hk
          exact ⟨o, e, ex⟩
        · obtain ⟨_, _, _, _, o, _, _, e, ex, _⟩ := I.hok p _ hk
          exact ⟨o, e, ex⟩
      obtain ⟨o, e, ex⟩ := z
      refine ⟨⟨o, e, ex.1⟩, fun a e2 => ?_⟩
      cases e2
      exact ⟨o, e, ex.2.1⟩
    · obtain ⟨o, _, _, _, e, ex, _⟩ := I.hok p _ hk
      refine ⟨⟨o, e, ex.1⟩, fun a e2 => ?_⟩
      cases e2
      exact ⟨o, e, ex.2.1⟩
  | _ => exact False.elim ty
def tBM0 (K : PySem.W.Frag) (T : String) (r : V → List V → Hp → VK → Prop) (to : TE) : TE := fun σ H Q => to σ H fun x H1 => tyV K T x H1 ∧ r x [] H1 Q
def tBM (K : PySem.W.Frag) (T : String) (r : V → List V → Hp → VK → Prop) (to : TE) (t : TA) : TE := fun σ H Q => to σ H fun x H1 => tyV K T x H1 ∧ t σ H1 fun xs H2 => r x xs H2 Q
variable {o e : Expr} {es : List Expr} {to : TE} {t : TA} {name : Str} {apos cpos : Pos} {T id : String} {r : V → List V → Hp → VK → Prop}
theorem pe_bm0 (pa : PlainAttrs T) (slot : Slot T name id) (hty : typeOf (.builtin id) = pure (.type "method_descriptor")) (hm : MtR X id r) (ho : PE X o to)
    (hbase : attributeBase o name X.env (eval o X.env) = eval o X.env := by rfl) (hline : (apos.endLine == cpos.line) = true := by rfl) : PE X (.Call (.Attribute o name apos) [] [] cpos) (tBM0 X.K T r to) := by
  intro pins s σ H Q I h
  refine wpAny_Call_method0_late hbase hline (thn (ho pins s σ H _ I h) fun v s1 ⟨x, H1, I1, r1, ty, q1⟩ => ?_)
  obtain ⟨h1, h2⟩ := tyV_is I1 r1 ty
  exact ⟨T, id, pa, slot, hty, h1, h2, Calls.callWith_builtin rfl (PySem.evalArgs_none (hm pins s1 σ H1 x [] v [] Q I1 r1 .nil q1))⟩
theorem pe_bm (pa : PlainAttrs T) (slot : Slot T name id) (hty : typeOf (.builtin id) = pure (.type "method_descriptor")) (hm : MtR X id r) (ho : PE X o to) (ha : PA X (e :: es) t)
    (hbase : attributeBase o name X.env (eval o X.env) = eval o X.env := by rfl)
    (hfew : ((backTo cpos (starEach (e :: es) X.env)).all (fun x => !x.1) && (backToKw cpos (keywordEach [] X.env)).all (fun x => x.1.isSome)
      && decide ((e :: es).length + ([] : List Keyword).length + (if ([] : List Keyword).isEmpty then 0 else 1) < 30)) = true := by rfl)
    (hline : (apos.endLine == cpos.line) = true := by rfl) (hs : starEach (e :: es) X.env = (false, eval e X.env) :: starEach es X.env := by rfl) (hplain : (backTo cpos (starEach es X.env)).any (·.1) = false := by rfl) :
    PE X (.Call (.Attribute o name apos) (e :: es) [] cpos) (tBM X.K T r to t) := by
  intro pins s σ H Q I h
  refine wpAny_Call_method_late hbase hfew hline rfl (thn (ho pins s σ H _ I h) fun v s1 ⟨x, H1, I1, r1, ty, q1⟩ => ?_)
  obtain ⟨h1, h2⟩ := tyV_is I1 r1 ty
  refine ⟨T, id, pa, slot, hty, h1, h2, ?_⟩
  have hA := ha cpos pins s1 σ H1 _ I1 q1
  rw [hs] at hA ⊢
  refine Calls.callWith_builtin (by show (false || (backTo cpos (starEach es X.env)).any (·.1)) = false; rw [hplain] <;> rfl) (Calls.evalArgs_plain ?_)
  exact thn hA fun us s2 ⟨vs, H2, I2, r2, q2⟩ => hm pins s2 σ H2 x vs v us Q I2 r1 r2 q2
/- xs.append(e), list.index on a module's tuple .. are MtR facts of 06m -/
end
end L2

namespace L2
open PySem PySem.Spec PyProof.Rows

def MtM (X : Cx) (id : String) (r : V → List V → Hp → VK → Prop) : Prop :=
  ∀ (pins : List (Addr × Obj)) (s : Shared) (σ : St) (H : Hp) (x : V) (xs : List V) (v : Value) (us : List Value) (Q : VK), Inv X pins σ H s → RelV x v → Vals xs us → r x xs H Q →
    wpAny (model X.prog X.w) X.A (call (.builtin id) (v :: us)) (EP X pins σ Q) X.xe s

/-! ### lists of values -/
theorem Vals.one : ∀ {x : V} {us : List Value}, Vals [x] us → ∃ u, us = [u] ∧ RelV x u
  | _, _, .cons r .nil => ⟨_, rfl, r⟩
theorem Vals.two : ∀ {x y : V} {us : List Value}, Vals [x, y] us → ∃ u v, us = [u, v] ∧ RelV x u ∧ RelV y v
  | _, _, _, .cons r (.cons q .nil) => ⟨_, _, rfl, r, q⟩
theorem Vals.zero : ∀ {us : List Value}, Vals [] us → us = []
  | _, .nil => rfl
theorem Vals.dropLast {xs : List V} {us : List Value} (h : Vals xs us) : Vals xs.dropLast us.dropLast := by
  induction h with
  | nil => exact .nil
  | cons r t ih =>
    cases t with
    | nil => exact .nil
    | cons q t' => exact .cons r ih
theorem Vals.eraseIdx : ∀ {xs : List V} {us : List Value} (i : Nat), Vals xs us → Vals (xs.eraseIdx i) (us.eraseIdx i)
  | _, _, _, .nil => .nil
  | _, _, 0, .cons _ t => t
  | _, _, i + 1, .cons r t => .cons r (Vals.eraseIdx i t)
theorem Vals.reverse {xs : List V} {us : List Value} (h : Vals xs us) : Vals xs.reverse us.reverse := by
  induction h with
  | nil => exact .nil
  | cons r t ih => rw [List.reverse_cons, List.reverse_cons]; exact Vals.append ih (.cons r .nil)
theorem Vals.rep {xs : List V} {us : List Value} (h : Vals xs us) : ∀ k : Nat, Vals (List.replicate k xs).flatten (List.replicate k us).flatten
  | 0 => .nil
  | k + 1 => by
    rw [List.replicate_succ, List.replicate_succ, List.flatten_cons, List.flatten_cons]
    exact Vals.append h (Vals.rep h k)
theorem erase_last {α : Type} (l : List α) : l.eraseIdx (l.length - 1) = l.dropLast := by
  induction l with
  | nil => rfl
  | cons a r ih =>
    cases r with
    | nil => rfl
    | cons b r =>
      have e : (a :: b :: r).length - 1 = ((b :: r).length - 1) + 1 := by
        have h1 : (a :: b :: r).length = r.length + 2 := rfl
        have h2 : (b :: r).length = r.length + 1 := rfl
        omega
      rw [e, List.eraseIdx_cons_succ, ih]
      all_goals rfl
theorem len_erase {α : Type} : ∀ (l : List α) (i : Nat), (l.eraseIdx i).length ≤ l.length
  | [], _ => Nat.le_refl _
  | _ :: _, 0 => Nat.le_succ _
  | _ :: r, i + 1 => Nat.succ_le_succ (len_erase r i)
theorem foldl_rep (its : List Value) : ∀ (k : Nat) (acc : List Value),
    List.foldl (fun x1 x2 => x1 ++ x2) acc.toArray (List.replicate k its.toArray) = (acc ++ (List.replicate k its).flatten).toArray
  | 0, acc => by simp
  | k + 1, acc => by
    have e : acc.toArray ++ its.toArray = (acc ++ its).toArray := by simp
    have e2 : (acc ++ its) ++ (List.replicate k its).flatten = acc ++ (List.replicate (k + 1) its).flatten := by
      rw [List.replicate_succ, List.flatten_cons, List.append_assoc]
    rw [← e2, ← foldl_rep its k (acc ++ its), ← e, List.replicate_succ, List.foldl_cons]

section
variable {X : Cx} {pins : List (Addr × Obj)} {σ : St} {H : Hp} {s : Shared} {l b : Addr} {xs ys zs : List V}

/-! ### the two steps: a tracked list is rewritten, a new list is laid -/
theorem Inv.lset {its its' : List Value} {n : Nat} {f : Array Value → Array Value} {t' : Nat} (I : Inv X pins σ H s) (hH : H l = some (.lst xs))
    (e : s.heap.get? l = some { cls := .type "list", data := .seq its.toArray n }) (hf : f its.toArray = its'.toArray) (hv : Vals ys its') (hz : ys.length ≤ sizeLine) :
    Inv X pins σ (upd H l (.lst ys)) { s with heap := s.heap.update l (Obj.mapSeq f), toks := t' } := by
  have q := PySem.IsL.update e f
  rw [hf] at q
  refine I.write (x := l) (e := l) (by rw [hH]; exact trivial) (.inl rfl) (fun b' u hb hu => (Heap.get?_update_other s.heap (Obj.mapSeq f) (Ne.symm hb)).trans hu) ⟨_, q⟩ ?_
  exact ⟨hz, its', _, hv, q⟩
theorem Inv.lnew {its : List Value} {t' : Nat} (I : Inv X pins σ H s) (hv : Vals ys its) (hz : ys.length ≤ sizeLine) :
    Inv X pins σ (upd H s.heap.objs.size (.lst ys)) { s with heap := s.heap.push { cls := .type "list", data := .seq its.toArray }, toks := t' } :=
  I.laid (fun _ _ q => Heap.get?_push_of_some _ q) (Nat.le_refl _) ⟨hz, its, 0, hv, Heap.get?_push_size _ rfl⟩
theorem Inv.fresh (I : Inv X pins σ H s) : H s.heap.objs.size = none := I.hok.fresh (Nat.le_refl _)
theorem Inv.lstM (I : Inv X pins σ H s) (hH : H l = some (.lst xs)) : xs.length ≤ sizeLine ∧ ∃ (its : List Value) (n : Nat), Vals xs its ∧ xs.length = its.length ∧ s.heap.get? l = some { cls := .type "list", data := .seq its.toArray n } := by
  obtain ⟨z, its, n, r, e⟩ := I.hok l _ hH
  exact ⟨z, its, n, r, r.length, e⟩

theorem notLongL {n : Nat} (h : n ≤ sizeLine) : Builtin.List.listTooLong n = false := by
  unfold Builtin.List.listTooLong
  exact decide_eq_false (by omega)
end

section
variable {X : Cx}

/-! ### methods -/
def rAppend : V → List V → Hp → VK → Prop := fun x vs H Q => ∃ l xs y, x = .ref l ∧ vs = [y] ∧ H l = some (.lst xs) ∧ xs.length < sizeLine ∧ Q .non (upd H l (.lst (xs ++ [y])))
theorem mt_append : MtM X "list.append" rAppend := by
  intro pins s σ H x vs v us Q I rx rv h
  obtain ⟨l, xs, y, rfl, rfl, hH, hz, q⟩ := h
  cases rx
  obtain ⟨u, rfl, ru⟩ := rv.one
  obtain ⟨z, its, n, r, hl, e⟩ := I.lstM hH
  refine call_meets F.slot_list_append ⟨_, e, rfl⟩ F.entry_list_append (F.args_list_append_2 _ _) (PySem.list_append l its.toArray n u (by rw [List.size_toArray]; omega)) ⟨e, ?_⟩
  refine ⟨.non, _, I.lset (its' := its ++ [u]) hH e (by simp) (r.append (.cons ru .nil)) ?_, rfl, q⟩
  rw [List.length_append, List.length_singleton]
  omega

def rExtend : V → List V → Hp → VK → Prop := fun x vs H Q => ∃ l b xs zs, x = .ref l ∧ vs = [.ref b] ∧ H l = some (.lst xs) ∧ H b = some (.lst zs) ∧ xs.length + zs.length ≤ sizeLine ∧ Q .non (upd H l (.lst (xs ++ zs)))
theorem mt_extend : MtM X "list.extend" rExtend := by
  intro pins s σ H x vs v us Q I rx rv h
  obtain ⟨l, b, xs, zs, rfl, rfl, hH, hB, hz, q⟩ := h
  cases rx
  obtain ⟨u, rfl, ru⟩ := rv.one
  cases ru
  obtain ⟨z, its, n, r, hl, e⟩ := I.lstM hH
  obtain ⟨z2, its2, n2, r2, hl2, e2⟩ := I.lstM hB
  have hsz : its.toArray.size + its2.toArray.size ≤ sizeLine := by rw [List.size_toArray, List.size_toArray]; omega
  have hlong : ¬ (!its.toArray.isEmpty && Builtin.List.listTooLong (its.toArray.size + its2.toArray.size)) = true := by
    rw [notLongL hsz, Bool.and_false]
    exact Bool.false_ne_true
  refine call_meets F.slot_list_extend ⟨_, e, rfl⟩ F.entry_list_extend (F.args_list_extend_2 _ _)
    (AutoSeq1.list_extend_list_list_0 l its.toArray n b its2.toArray n2 hlong (by rw [List.size_toArray]; omega) (by omega)) ⟨e, e2, ?_⟩
  refine ⟨.non, _, I.lset (its' := its ++ its2) hH e (by simp) (r.append r2) ?_, rfl, q⟩
  rw [List.length_append]
  omega

def rPop : V → List V → Hp → VK → Prop := fun x vs H Q => ∃ l xs y, x = .ref l ∧ vs = [] ∧ H l = some (.lst xs) ∧ xs[xs.length - 1]? = some y ∧ Q y (upd H l (.lst xs.dropLast))
theorem mt_pop : MtM X "list.pop" rPop := by
  intro pins s σ H x vs v us Q I rx rv h
  obtain ⟨l, xs, y, rfl, rfl, hH, hy, q⟩ := h
  cases rx
  have hus := rv.zero
  subst hus
  obtain ⟨z, its, n, r, hl, e⟩ := I.lstM hH
  obtain ⟨u, hu, ru⟩ := r.get hy
  have hy' : its.toArray[its.toArray.size - 1]? = some u := by
    show its.toArray[its.length - 1]? = some u
    rw [← Array.getElem?_toList, ← hl]
    exact hu
  refine call_meets F.slot_list_pop ⟨_, e, rfl⟩ F.entry_list_pop (F.args_list_pop_1 _) (MeetsSeq.list_pop_last l its.toArray n u hy' (by rw [List.size_toArray]; omega)) ⟨e, ?_⟩
  refine ⟨y, _, I.lset (its' := its.dropLast) hH e ?_ r.dropLast ?_, ru, q⟩
  · show its.toArray.eraseIdxIfInBounds (its.toArray.size - 1) = its.dropLast.toArray
    rw [List.size_toArray, List.eraseIdxIfInBounds_toArray, erase_last]
  · rw [List.length_dropLast]
    omega

def rPopAt : V → List V → Hp → VK → Prop := fun x vs H Q => ∃ l xs i k y, x = .ref l ∧ vs = [.int i] ∧ H l = some (.lst xs) ∧ -(2 ^ 63) ≤ i ∧ i < 2 ^ 63 ∧ seqIndex? i xs.length = some k ∧ xs[k]? = some y ∧ Q y (upd H l (.lst (xs.eraseIdx k)))
theorem mt_popAt : MtM X "list.pop" rPopAt := by
  intro pins s σ H x vs v us Q I rx rv h
  obtain ⟨l, xs, i, k, y, rfl, rfl, hH, h1, h2, hk, hy, q⟩ := h
  cases rx
  obtain ⟨u, rfl, ru⟩ := rv.one
  obtain ⟨t, rfl⟩ := ru
  obtain ⟨z, its, n, r, hl, e⟩ := I.lstM hH
  obtain ⟨w, hw, rw'⟩ := r.get hy
  refine call_meets F.slot_list_pop ⟨_, e, rfl⟩ F.entry_list_pop (F.args_list_pop_2 _ _)
    (MeetsSeq.list_pop_at l its.toArray n i t k w (fitsIndex_both h1 h2) (by rw [List.size_toArray, ← hl]; exact hk) (by rw [← Array.getElem?_toList]; exact hw) (by rw [List.size_toArray]; omega)) ⟨e, ?_⟩
  refine ⟨y, _, I.lset (its' := its.eraseIdx k) hH e ?_ (r.eraseIdx k) ?_, rw', q⟩
  · show its.toArray.eraseIdxIfInBounds k = (its.eraseIdx k).toArray
    rw [List.eraseIdxIfInBounds_toArray]
  · have := len_erase xs k
    omega

def rReverse : V → List V → Hp → VK → Prop := fun x vs H Q => ∃ l xs, x = .ref l ∧ vs = [] ∧ H l = some (.lst xs) ∧ Q .non (upd H l (.lst xs.reverse))
theorem mt_reverse : MtM X "list.reverse" rReverse := by
  intro pins s σ H x vs v us Q I rx rv h
  obtain ⟨l, xs, rfl, rfl, hH, q⟩ := h
  cases rx
  have hus := rv.zero
  subst hus
  obtain ⟨z, its, n, r, hl, e⟩ := I.lstM hH
  refine call_meets F.slot_list_reverse ⟨_, e, rfl⟩ F.entry_list_reverse (F.args_list_reverse_1 _) (AutoSeq1.list_reverse_list_0 l its.toArray n (by rw [List.size_toArray]; omega)) ⟨e, ?_⟩
  refine ⟨.non, _, I.lset (its' := its.reverse) hH e (by simp) r.reverse ?_, rfl, q⟩
  rw [List.length_reverse]
  omega

def rClear : V → List V → Hp → VK → Prop := fun x vs H Q => ∃ l xs, x = .ref l ∧ vs = [] ∧ H l = some (.lst xs) ∧ Q .non (upd H l (.lst []))
theorem mt_clear : MtM X "list.clear" rClear := by
  intro pins s σ H x vs v us Q I rx rv h
  obtain ⟨l, xs, rfl, rfl, hH, q⟩ := h
  cases rx
  have hus := rv.zero
  subst hus
  obtain ⟨z, its, n, r, hl, e⟩ := I.lstM hH
  refine call_meets F.slot_list_clear ⟨_, e, rfl⟩ F.entry_list_clear (F.args_list_clear_1 _) (AutoSeq1.list_clear_list_0 l its.toArray n (by rw [List.size_toArray]; omega)) ⟨e, ?_⟩
  exact ⟨.non, _, I.lset (its' := []) (ys := []) hH e rfl .nil (Nat.zero_le _), rfl, q⟩

/-! ### list + list, list += list, list * int -/
def rCat : R2 := fun x y H Q => ∃ l b xs zs, x = .ref l ∧ y = .ref b ∧ H l = some (.lst xs) ∧ H b = some (.lst zs) ∧ xs.length + zs.length ≤ sizeLine ∧ ∀ p, H p = none → Q (.ref p) (upd H p (.lst (xs ++ zs)))
theorem op_cat : OpR X (binaryOp .Add) rCat := by
  intro pins s σ H x y v u Q I rx ry h
  obtain ⟨l, b, xs, zs, rfl, rfl, hH, hB, hz, q⟩ := h
  cases rx
  cases ry
  obtain ⟨z, its, n, r, hl, e⟩ := I.lstM hH
  obtain ⟨z2, its2, n2, r2, hl2, e2⟩ := I.lstM hB
  refine PySem.P.add_list e e2 ?_ (by rw [List.size_toArray, List.size_toArray]; omega)
  have ea : its.toArray ++ its2.toArray = (its ++ its2).toArray := by simp
  rw [ea]
  exact ⟨.ref _, _, I.lnew (t' := s.toks) (r.append r2) (by rw [List.length_append]; omega), rfl, q _ I.fresh⟩
/-- a list times an int (a negative one is nothing) -/
def rRep : R2 := fun x y H Q => ∃ l k xs, x = .ref l ∧ y = .int k ∧ H l = some (.lst xs) ∧ -(2 ^ 63) ≤ k ∧ k < 2 ^ 63 ∧ xs.length * k.toNat ≤ sizeLine ∧
  ∀ p, H p = none → Q (.ref p) (upd H p (.lst (List.replicate k.toNat xs).flatten))
theorem len_rep {α : Type} (xs : List α) (k : Nat) : (List.replicate k xs).flatten.length = k * xs.length := by
  induction k with
  | zero => simp
  | succ k ih => rw [List.replicate_succ, List.flatten_cons, List.length_append, ih, Nat.succ_mul, Nat.add_comm]
theorem op_rep : OpR X (binaryOp .Mult) rRep := by
  intro pins s σ H x y v u Q I rx ry h
  obtain ⟨l, k, xs, rfl, rfl, hH, h1, h2, hz, q⟩ := h
  cases rx
  obtain ⟨t, rfl⟩ := ry
  obtain ⟨z, its, n, r, hl, e⟩ := I.lstM hH
  have hlen : its.toArray.size * k.toNat ≤ sizeLine := by rw [List.size_toArray, ← hl]; exact hz
  have hcap : ¬ its.toArray.size * k.toNat > (2 ^ 63 - 1) / 8 := by
    have : (sizeLine : Nat) ≤ (2 ^ 63 - 1) / 8 := by decide
    omega
  have hfit : ¬ (!Builtin.List.listFitsIndex k) = true := by
    rw [fitsIndex_both h1 h2]
    exact Bool.false_ne_true
  have hlong : ¬ Builtin.List.listTooLong (its.toArray.size * k.toNat) = true := by
    rw [notLongL hlen]
    exact Bool.false_ne_true
  have hnew : List.foldl (fun x1 x2 => x1 ++ x2) #[] (List.replicate (if its.toArray.isEmpty = true then 0 else k.toNat) its.toArray) = (List.replicate k.toNat its).flatten.toArray := by
    have f0 : ∀ m : Nat, List.foldl (fun x1 x2 => x1 ++ x2) #[] (List.replicate m its.toArray) = (List.replicate m its).flatten.toArray := fun m => by
      have := foldl_rep its m []
      rw [List.nil_append] at this
      exact this
    rw [f0]
    cases its with
    | nil => simp
    | cons a r' => rw [if_neg (by simp)]
  refine wpAny_binaryOp_repeat_ref (T := "list") (U := "int") (by decide) ⟨_, e, rfl⟩ (fun s' => typeIs_int s' k t) noFill_list_mul F.fills_int_mul F.slot_int_rmul repeat_list F.slot_int_index.lookup
    (call_meets F.slot_int_rmul (typeIs_int s k t) F.entry_int_rmul (F.args_int_rmul_2 _ _) (int___rmul___int_list k t l its.toArray n)
      ⟨e, rfl, ⟨_, e, rfl⟩, call_meets F.slot_list_mul ⟨_, e, rfl⟩ F.entry_list_mul (F.args_list_mul_2 _ _) (AutoListH.list___mul___list_int_3 l its.toArray n k t hfit hcap hlong) ⟨e, ?_⟩⟩)
  rw [hnew]
  exact ⟨.ref _, _, I.lnew (t' := s.toks) (r.rep k.toNat) (by rw [len_rep, Nat.mul_comm]; exact hz), rfl, q _ I.fresh⟩

/-! ### del xs[i] -/
theorem del_list {pins : List (Addr × Obj)} {s : Shared} {σ : St} {H : Hp} {l : Addr} {xs : List V} {i : Int} {t : Tok} {k : Nat} {Q : Unit → Shared → Prop} (I : Inv X pins σ H s) (hH : H l = some (.lst xs))
    (h1 : -(2 ^ 63) ≤ i) (h2 : i < 2 ^ 63) (hk : seqIndex? i xs.length = some k) (h : ∀ s', Inv X pins σ (upd H l (.lst (xs.eraseIdx k))) s' → Q () s') :
    wpAny (model X.prog X.w) X.A (delItem (.ref l) (.int i t)) Q X.xe s := by
  obtain ⟨z, its, n, r, hl, e⟩ := I.lstM hH
  refine PySem.P.delItem_list (k := k) e (fitsIndex_both h1 h2) (by rw [List.size_toArray, ← hl]; exact hk) (h _ ?_) (by rw [List.size_toArray]; omega)
  refine I.lset (its' := its.eraseIdx k) (t' := s.toks) hH e ?_ (r.eraseIdx k) ?_
  · show its.toArray.eraseIdxIfInBounds k = (its.eraseIdx k).toArray
    rw [List.eraseIdxIfInBounds_toArray]
  · have := len_erase xs k
    omega
end

/-! ### xs[a:b] = ys -/
section
variable {prog : Program} {w : World} {A : Around} {E : Value → Shared → Prop} {s : Shared}
theorem splice_eq (its its2 : List Value) (a c : Nat) : its.toArray.extract 0 a ++ its2.toArray ++ its.toArray.extract c its.toArray.size = (its.take a ++ its2 ++ its.drop c).toArray := by
  apply Array.toList_inj.mp
  first
    | (simp
       exact List.take_of_length_le (by simp))
    | simp [List.take_of_length_le]
    | simp
theorem bounds_run {a c n : Nat} (hac : a ≤ c) (hc : c ≤ n) : sliceBounds (some (a : Int)) (some (c : Int)) none n = ((a : Int), (c : Int), 1) := by
  simp only [sliceBounds, Option.getD_none]
  have h1 : ¬ ((a : Int) < 0) := by omega
  have h2 : ¬ ((c : Int) < 0) := by omega
  simp only [h1, h2, if_false, show (1 : Int) > 0 by decide, if_true]
  congr 1
  · omega
  · congr 1; omega
set_option maxRecDepth 100000 in
/-- list.__setitem__ with a slice of step one and another list -/
theorem setItem_slice {l b sl : Addr} {items new : Array Value} {n n2 : Nat} {vl vu : Value} {a c : Nat} {Q : Unit → Shared → Prop}
    (e : s.heap.get? l = some { cls := .type "list", data := .seq items n }) (e2 : s.heap.get? b = some { cls := .type "list", data := .seq new n2 }) (hne : l ≠ b)
    (hs : s.heap.IsSliceOf sl vl vu .none) (pl : IsPart vl (some (a : Int))) (pu : IsPart vu (some (c : Int))) (hac : a ≤ c) (hc : c ≤ items.size)
    (hsz : items.size + new.size ≤ sizeLine) (h : Q () { s with heap := s.heap.update l (Obj.mapSeq fun xs => xs.extract 0 a ++ new ++ xs.extract c xs.size) }) :
    wpAny (model prog w) A (setItem (.ref l) (.ref sl) (.ref b)) Q E s := by
  have hl : s.heap.IsList l items := PySem.IsL.isList e
  have hb : s.heap.IsList b new := PySem.IsL.isList e2
  obtain ⟨os, hos, hcs, hds⟩ := id hs
  have hTs : s.TypeIs (.ref sl) "slice" := ⟨os, hos, hcs⟩
  have hstep : ¬ ((rawPart none == rawInt 0) = true) := Bool.false_ne_true
  have hsame : Builtin.List.listSameRef (.ref l) (.ref b) = false := by
    unfold Builtin.List.listSameRef
    exact beq_eq_false_iff_ne.mpr hne
  have hmax : (max (a : Int) (c : Int)).toNat = c := by omega
  have hz' : ((fun xs : Array Value => xs.extract 0 a ++ new ++ xs.extract c xs.size) items).size ≤ sizeLine + 1 := by
    simp only [Array.size_append, Array.size_extract]
    omega
  unfold setItem
  try with_reducible refine wpAny_holding ?_
  first | refine wpAny_bind (wpAny_pure ?_) | skip
  refine wpAny_bind (wpAny_sequenceKey hl.typeIs (by decide) ?_)
  refine wpAny_bind (wpAny_callSpecial?_slot (name := Str.ofString "__setitem__") hl.typeIs slot_list_setitem
    (wpAny_call_entry slot_list_setitem hl.typeIs entry_list_setitem ?_ (args_list_setitem _ _ _)))
  show wpAny _ _ (Builtin.List.listSubscript? (.ref sl) >>= _) _ _ s
  refine wpAny_bind ?_
  unfold Builtin.List.listSubscript?
  refine wpAny_bind (wpAny_specialOf hTs slice_no_index ?_)
  simp only [Option.isNone_none, if_true]
  refine wpAny_pure ?_
  show wpAny _ _ (typeOf (.ref sl) >>= _) _ _ s
  refine wpAny_bind (wpAny_typeOf hTs ?_)
  first
    | rw [if_neg (by decide)]
    | refine PySem.W.KFB.if_not (by decide) ?_
  rw [listSliceParts_eq]
  refine wpAny_bind (wpAny_bind (wpAny_field hos hds (x := .none) rfl (wpAny_bind (wpAny_listPart .none ?_))))
  rw [if_neg hstep]
  refine wpAny_bind (wpAny_field hos hds (x := vl) rfl (wpAny_bind (wpAny_listPart pl ?_)))
  refine wpAny_bind (wpAny_field hos hds (x := vu) rfl (wpAny_bind (wpAny_listPart pu (wpAny_pure ?_))))
  first
    | simp only [hsame, Bool.false_eq_true, if_false]
    | refine PySem.W.KFB.if_not hsame ?_
    | (dsimp only
       rw [if_neg (by rw [hsame]; exact Bool.false_ne_true)])
  refine wpAny_bind (m := Builtin.List.listAllItems (.ref b) "must assign iterable to extended slice") ?_
  unfold Builtin.List.listAllItems
  refine wpAny_bind (wpAny_typeOf hb.typeIs ?_)
  first
    | refine PySem.W.KFB.if_so (by decide) ?_
    | rw [if_pos (by decide)]
    | simp only [beq_self_eq_true, Bool.true_or, if_true]
  unfold Builtin.List.listItems
  refine wpAny_bind (wpAny_seqItems e2 rfl (wpAny_pure ?_))
  refine wpAny_bind (wpAny_bind (wpAny_seqItems e rfl (wpAny_pure ?_)))
  refine wpAny_bind (wpAny_of_eq ((sliceIndices_raw (some (a : Int)) (some (c : Int)) none items.size (by simp)).trans (congrArg (pure : Int × Int × Int → Sem (Int × Int × Int)) (bounds_run hac hc))) ?_)
  show wpAny _ _ (if ((1 : Int) == 1) = true then _ else _) _ _ s
  rw [if_pos (by decide)]
  refine wpAny_bind (wpAny_rule ?_)
  first
    | simp only [notLongL hsz, Bool.false_eq_true, if_false]
    | refine PySem.W.KFB.if_not (notLongL hsz) ?_
  first | refine wpAny_bind (wpAny_pure ?_) | skip
  show wpAny _ _ (updateSeq l (fun xs => xs.extract 0 ((a : Int)).toNat ++ new ++ xs.extract (max (a : Int) (c : Int)).toNat xs.size) >>= _) _ _ s
  rw [hmax, Int.toNat_natCast]
  refine wpAny_bind (wpAny_updateSeq (hz := Nat.le_trans (Nat.le_add_right _ _) hsz) (_hz' := hz') e rfl ?_)
  refine wpAny_bind (wpAny_letGo ?_)
  first
    | exact wpAny_bind (wpAny_pure (wpAny_pure ⟨.none, rfl, wpAny_pure h⟩))
    | exact wpAny_pure ⟨.none, rfl, wpAny_pure h⟩
end

section
variable {X : Cx}
/-- xs[a:c] = ys of another list, at the value level: sl is the slice object that was just made -/
theorem set_slice {pins : List (Addr × Obj)} {s : Shared} {σ : St} {H : Hp} {l b sl : Addr} {xs ys : List V} {a c : Int} {vl vu : Value} {Q : Unit → Shared → Prop} (I : Inv X pins σ H s)
    (hH : H l = some (.lst xs)) (hB : H b = some (.lst ys)) (hne : l ≠ b) (hs : s.heap.IsSliceOf sl vl vu .none) (ra : RelV (.int a) vl) (rc : RelV (.int c) vu) (h0 : 0 ≤ a) (hac : a ≤ c) (hc : c ≤ xs.length)
    (hz : xs.length + ys.length ≤ sizeLine) (h : ∀ s', Inv X pins σ (upd H l (.lst (xs.take a.toNat ++ ys ++ xs.drop c.toNat))) s' → Q () s') :
    wpAny (model X.prog X.w) X.A (setItem (.ref l) (.ref sl) (.ref b)) Q X.xe s := by
  obtain ⟨ta, rfl⟩ := ra
  obtain ⟨tc, rfl⟩ := rc
  obtain ⟨z, its, n, r, hl, e⟩ := I.lstM hH
  obtain ⟨z2, its2, n2, r2, hl2, e2⟩ := I.lstM hB
  obtain ⟨a', rfl⟩ := Int.eq_ofNat_of_zero_le h0
  obtain ⟨c', rfl⟩ := Int.eq_ofNat_of_zero_le (Int.le_trans h0 hac)
  simp only [Int.toNat_natCast] at h
  refine setItem_slice (a := a') (c := c') e e2 hne hs (.int _ _) (.int _ _) (by omega) (by rw [List.size_toArray]; omega) (by rw [List.size_toArray, List.size_toArray]; omega) (h _ ?_)
  refine I.lset (its' := its.take a' ++ its2 ++ its.drop c') (t' := s.toks) hH e ?_ (Vals.append (Vals.append (r.take _) r2) (r.drop _)) ?_
  · exact splice_eq its its2 a' c'
  · rw [List.length_append, List.length_append, List.length_take, List.length_drop]
    omega
end
end L2

namespace Att
open PySem PySem.W PySem.Calls PyProof.Rows

/-! ### the script -/
theorem ints_of_wellAll {P : Params} {h : Heap} : ∀ (ns : List Int) (vs : List Value), WellAll P h vs (ns.map WData.int) → IntsAre vs ns := by
  intro ns
  induction ns with
  | nil =>
    intro vs w
    rw [List.map_nil] at w
    cases w
    exact .nil
  | cons n ns ih =>
    intro vs w
    rw [List.map_cons] at w
    cases w with
    | cons a b =>
      cases a
      exact .cons _ _ (ih _ b)

theorem script_of {l : OpenLaw} {n : Nat} (hn : l.most = some n) {P : Params} {h : Heap} {args : List WData} {vals : List Value}
    (hpre : l.row.toRowW.claim.pre args = true) (hwl : WellAll P h vals args) :
    ∃ a vs ns, vals = [Value.ref a] ∧ args = [WData.list (ns.map WData.int)] ∧ h.get? a = some { cls := .type "list", data := .seq vs.toArray } ∧ IntsAre vs ns ∧ ns.length ≤ n := by
  have hsh : WShape.hasAll [] args [.list .int] = true := (pre_splitW hpre).1
  have hc : l.pre.holds [] { args := args } = true := (pre_splitW hpre).2
  obtain ⟨d, r, rfl, h1, h2⟩ := hasAllW_cons hsh
  obtain rfl := hasAllW_nil h2
  obtain ⟨xs, rfl, h3⟩ := hasW_list h1
  obtain ⟨ns, rfl⟩ := items_int h3
  have hlen : ns.length ≤ n := by
    unfold OpenLaw.pre at hc
    have h4 : (WTm.not (.lt (.lit (.int (n : Int))) (.len (.arg 0)))).holds [] { args := [.list (ns.map .int)] } = true := by
      have h4 := (holds_andW hc).1
      rw [hn] at h4
      exact h4
    have h5 := condW_of h4 (w_not (w_lt w_lit (w_len_list (w_arg rfl))))
    rw [List.length_map] at h5
    refine Nat.le_of_not_lt fun q => ?_
    have q' : (n : Int) < ((ns.length : Nat) : Int) := by omega
    first
      | (rw [decide_eq_true q'] at h5; exact absurd h5 (by decide))
      | (simp at h5; omega)
  cases hwl with
  | cons w1 w2 =>
    cases w2
    cases w1 with
    | list ho hall => exact ⟨_, _, ns, rfl, rfl, ho, ints_of_wellAll ns _ hall, hlen⟩

theorem post_true (l : OpenLaw) (args : List WData) : l.row.toRowW.claim.post args (.bool true) args = true :=
  postW_of (r := l.row.toRowW) (X := (true == true))
    (show WShape.has [] (.bool true) .bool = true by first | rfl | decide | simp [WShape.has, WShape.arms, WShape.armsAll])
    (show (WTm.eq .res (.lit (.bool true))).value [] { args := args, res := some (.bool true), after := args } = some (.bool (true == true)) from w_eq_bool (w_res rfl) w_lit) rfl

/-! ### the attachment: holds_open's last premise (the goal 'hc' behind k_head) from a wpAny of the law's body -/
theorem attach {l : OpenLaw} {n : Nat} {q : Program} {loose : List Str} {XP : (Str → Option Value) → Heap → Prop} {YP : World → Heap → Prop} {d : DefRec} {x : Str}
    (hn : l.most = some n) (hdf : d.params.defaults = [])
    (hbind : ∀ pm cd doc v : Value, bindArgs (docDef d.name d.params d.body d.scope pm cd doc) ⟨[v], []⟩ = pure [(x, v)])
    (hx : d.scope.names.lookup x = some .local ∨ d.scope.names.lookup x = some .cell)
    (hk : d.scope.kind = .function) (hco : d.scope.isCoroutine = false) (hgen : d.scope.isGenerator = false)
    (body : ∀ (w : World) (s₀ s₁ s : Shared) (mg mb : Str → Option Value) (fa : Addr) (o : Obj) (pm cd doc : Value) (a : Addr) (vs : List Value) (ns : List Int),
      Ground q loose [] XP w s₀ mg mb s₁.heap → YP w s₁.heap →
      s₁.heap.get? fa = some o → o.data = .func (docDef d.name d.params d.body d.scope pm cd doc) → s₁.heap.CodeRec cd d.name → mg d.name = some (.ref fa) →
      s₁.heap.get? a = some { cls := .type "list", data := .seq vs.toArray } → IntsAre vs ns → ns.length ≤ n →
      s.gens = #[] → s.os = s₁.os →
      Fr s₁.heap s₁.heap.objs.size s.heap (bindL (envOfC d.name d.scope s₁.heap.objs.size fa cd).kindOf [(x, .ref a)] fun _ => none) →
      Cl s₁.heap.objs.size (cellsFrom (s₁.heap.objs.size + 1) d.scope.names []) s.heap (bindC (envOfC d.name d.scope s₁.heap.objs.size fa cd).kindOf [(x, .ref a)] fun _ => none) →
      wpAny (model l.prog w) (callerA.deeper (envOfC d.name d.scope s₁.heap.objs.size fa cd)) (execs d.body (envOfC d.name d.scope s₁.heap.objs.size fa cd))
        (fun f s' => f = .ret (.bool true) ∧ OldK s₁.heap s'.heap ∧ s'.os = s₁.os ∧ AllBare s'.gens) (fun _ _ => False) s) :
    WalkO q loose XP YP l.row.toRowW d [] (fun f vs => PySem.call f vs) := by
  intro w s₀ s₁ mg mb G Y fa o pm cd doc dV kV ho hd hcd hD hmg hg args vals as hpre hlay hrd hwl hlo
  obtain rfl : dV = .none := Dflts.none hD hdf
  obtain rfl : kV = .none := Dflts.noKw hD
  obtain ⟨a, vs, ns, rfl, rfl, hobj, hints, hlen⟩ := script_of hn hpre hwl
  refine enter_call ?_
  refine call_cells_ret (o := o) (by rw [depth_caller]; decide) ho (fd_plain hd) G.T.nolimit hcd (hbind pm cd doc (.ref a)) (fun y hy => ?_) (fun h₁ tk F X => ?_) hco hgen hk
  · obtain rfl : y = (x, Value.ref a) := List.mem_singleton.mp hy
    rcases hx with e | e
    · exact .inl e
    · exact .inr ⟨e, cellsFrom_some _ _ _ (.inl e)⟩
  · refine wpAny_mono (body w s₀ s₁ { s₁ with heap := h₁, toks := tk } mg mb fa o pm cd doc a vs ns G Y ho (fd_plain hd) hcd hmg hobj hints hlen hg rfl F X) (fun f s' hq => ?_) (fun _ _ hq => hq)
    obtain ⟨rfl, h2, h3, h4⟩ := hq
    exact ⟨.inl ⟨.bool true, .bool true, [], rfl, fun _ => rfl, .bool true, post_true l _, fun _ => ⟨List.Pairwise.nil, fun _ hm => (nomatch hm)⟩⟩, h2, h3, h4⟩

/-- the same from a codeAny of the CALL (for a layer whose function contracts speak of calls) -/
theorem attach_call {l : OpenLaw} {n : Nat} {q : Program} {loose : List Str} {XP : (Str → Option Value) → Heap → Prop} {YP : World → Heap → Prop} {d : DefRec}
    (hn : l.most = some n) (hdf : d.params.defaults = [])
    (call : ∀ (w : World) (s₀ s₁ : Shared) (mg mb : Str → Option Value) (fa : Addr) (o : Obj) (pm cd doc : Value) (a : Addr) (vs : List Value) (ns : List Int),
      Ground q loose [] XP w s₀ mg mb s₁.heap → YP w s₁.heap →
      s₁.heap.get? fa = some o → o.data = .func (docDef d.name d.params d.body d.scope pm cd doc) → s₁.heap.CodeRec cd d.name → mg d.name = some (.ref fa) →
      s₁.heap.get? a = some { cls := .type "list", data := .seq vs.toArray } → IntsAre vs ns → ns.length ≤ n → s₁.gens = #[] →
      codeAny (model l.prog w) callerA (.call (.ref fa) ⟨[.ref a], []⟩) (fun r s' => r = .ok (.ret (.bool true)) ∧ OldK s₁.heap s'.heap ∧ s'.os = s₁.os ∧ AllBare s'.gens) s₁) :
    WalkO q loose XP YP l.row.toRowW d [] (fun f vs => PySem.call f vs) := by
  intro w s₀ s₁ mg mb G Y fa o pm cd doc dV kV ho hd hcd hD hmg hg args vals as hpre hlay hrd hwl hlo
  obtain rfl : dV = .none := Dflts.none hD hdf
  obtain rfl : kV = .none := Dflts.noKw hD
  obtain ⟨a, vs, ns, rfl, rfl, hobj, hints, hlen⟩ := script_of hn hpre hwl
  refine enter_call (codeAny_mono (call w s₀ s₁ mg mb fa o pm cd doc a vs ns G Y ho (fd_plain hd) hcd hmg hobj hints hlen hg) fun r s' hq => ?_)
  obtain ⟨rfl, h2, h3, h4⟩ := hq
  exact ⟨.inl ⟨.bool true, .bool true, [], rfl, fun _ => rfl, .bool true, post_true l _, fun _ => ⟨List.Pairwise.nil, fun _ hm => (nomatch hm)⟩⟩, h2, h3, h4⟩

/-- the same where the top left finished generators (o_head chose holds_openN): nothing may have changed at all and no generator may be left -/
theorem attachN {l : OpenLaw} {n : Nat} {q : Program} {loose : List Str} {XP : (Str → Option Value) → Heap → Prop} {YP : World → Heap → Prop} {d : DefRec} {x : Str}
    (hn : l.most = some n) (hdf : d.params.defaults = [])
    (hbind : ∀ pm cd doc v : Value, bindArgs (docDef d.name d.params d.body d.scope pm cd doc) ⟨[v], []⟩ = pure [(x, v)])
    (hx : d.scope.names.lookup x = some .local ∨ d.scope.names.lookup x = some .cell)
    (hk : d.scope.kind = .function) (hco : d.scope.isCoroutine = false) (hgen : d.scope.isGenerator = false)
    (body : ∀ (w : World) (s₀ s₁ s : Shared) (mg mb : Str → Option Value) (fa : Addr) (o : Obj) (pm cd doc : Value) (a : Addr) (vs : List Value) (ns : List Int),
      Ground q loose [] XP w s₀ mg mb s₁.heap → YP w s₁.heap →
      s₁.heap.get? fa = some o → o.data = .func (docDef d.name d.params d.body d.scope pm cd doc) → s₁.heap.CodeRec cd d.name → mg d.name = some (.ref fa) →
      s₁.heap.get? a = some { cls := .type "list", data := .seq vs.toArray } → IntsAre vs ns → ns.length ≤ n →
      s.gens = #[] → s.os = s₁.os →
      Fr s₁.heap s₁.heap.objs.size s.heap (bindL (envOfC d.name d.scope s₁.heap.objs.size fa cd).kindOf [(x, .ref a)] fun _ => none) →
      Cl s₁.heap.objs.size (cellsFrom (s₁.heap.objs.size + 1) d.scope.names []) s.heap (bindC (envOfC d.name d.scope s₁.heap.objs.size fa cd).kindOf [(x, .ref a)] fun _ => none) →
      wpAny (model l.prog w) (callerA.deeper (envOfC d.name d.scope s₁.heap.objs.size fa cd)) (execs d.body (envOfC d.name d.scope s₁.heap.objs.size fa cd))
        (fun f s' => f = .ret (.bool true) ∧ (∀ b o, s₁.heap.get? b = some o → s'.heap.get? b = some o) ∧ s'.os = s₁.os ∧ s'.gens = #[]) (fun _ _ => False) s) :
    WalkN q loose XP YP l.row.toRowW d [] (fun f vs => PySem.call f vs) := by
  intro w s₀ s₁ mg mb G Y fa o pm cd doc dV kV ho hd hcd hD hmg hg args vals as hpre hlay hrd hwl hlo
  obtain rfl : dV = .none := Dflts.none hD hdf
  obtain rfl : kV = .none := Dflts.noKw hD
  obtain ⟨a, vs, ns, rfl, rfl, hobj, hints, hlen⟩ := script_of hn hpre hwl
  refine enter_callW ?_
  refine call_cells_ret (o := o) (by rw [depth_caller]; decide) ho (fd_plain hd) G.T.nolimit hcd (hbind pm cd doc (.ref a)) (fun y hy => ?_) (fun h₁ tk F X => ?_) hco hgen hk
  · obtain rfl : y = (x, Value.ref a) := List.mem_singleton.mp hy
    rcases hx with e | e
    · exact .inl e
    · exact .inr ⟨e, cellsFrom_some _ _ _ (.inl e)⟩
  · refine wpAny_mono (body w s₀ s₁ { s₁ with heap := h₁, toks := tk } mg mb fa o pm cd doc a vs ns G Y ho (fd_plain hd) hcd hmg hobj hints hlen hg rfl F X) (fun f s' hq => ?_) (fun _ _ hq => hq)
    obtain ⟨rfl, h2, h3, h4⟩ := hq
    exact ⟨.inl ⟨.bool true, .bool true, [], rfl, fun _ => rfl, .bool true, post_true l _, fun _ => ⟨List.Pairwise.nil, fun _ hm => (nomatch hm)⟩⟩, h2, h3, h4⟩

/-! ### rules over ANY heap (no ledger) from facts about the written part K: the library's own take a ledger (News) for what they write -/
section
variable {prog : Program} {w : World} {A : Around} {E : Value → Shared → Prop} {s : Shared} {K : Frag}

/-- a def of the module, or a method (qual 'C.m'), entered: the frame is the next address; cells behind it -/
theorem call_fn {R : Result → Shared → Prop} {name qual : Str} {params : Arguments} {body : List Stmt} {scope : Scope} {dV kV doc pm cdv ct oc : Value} {an od : Option Addr} {osl : Array (Option Value)} {f : Addr} {args : Args} {binds : List (Str × Value)}
    (X : K.In s.heap) (hlim : s.heap.NoLimit) (ho : K.lookup f = some ⟨oc, od, .func (fnOf name qual params body scope dV kV doc pm an cdv ct), osl⟩) (hcd : codeIn K cdv qual = true) (hroom : A.depth < recursionLimit)
    (hbind : BindsTo s (fnOf name qual params body scope dV kV doc pm an cdv ct) args binds)
    (hkind : (binds.all fun y => scope.names.lookup y.1 == some .local || scope.names.lookup y.1 == some .cell) = true)
    (h : ∀ s₁, InCallC s s.heap.objs.size (bindL (envOfC qual scope s.heap.objs.size f cdv).kindOf binds fun _ => none) (cellsFrom (s.heap.objs.size + 1) scope.names [])
        (bindC (envOfC qual scope s.heap.objs.size f cdv).kindOf binds fun _ => none) s₁ →
      wpAny (model prog w) (A.deeper (envOfC qual scope s.heap.objs.size f cdv)) (execs body (envOfC qual scope s.heap.objs.size f cdv))
        (fun fl s' => R (.ok (.ret (match fl with | .ret v => v | _ => .none))) s')
        (fun e s' => wpAny (model prog w) (A.deeper (envOfC qual scope s.heap.objs.size f cdv)) (leaving (envOfC qual scope s.heap.objs.size f cdv) e) (fun _ s'' => R (.error e) s'') (fun e' s'' => R (.error e') s'') s') s₁)
    (hco : scope.isCoroutine = false) (hgen : scope.isGenerator = false) (hk : scope.kind = .function) : codeAny (model prog w) A (.call (.ref f) args) R s := by
  refine codeAny_call_function hroom (X _ _ ho) rfl hco hgen rfl (codeRec_of X hcd) (hbind _ _ _ _ ?_)
  refine wpAny_newFunctionEnv_cells hk (kindsX hkind _) fun env he s₁ x => ?_
  subst he
  exact ⟨hlim.keeps x.toInCall.keep, codeAny_func (h s₁ x)⟩

/-- C(..): dict at size, instance at size + 1, then __init__ -/
theorem make_obj {R : Result → Shared → Prop} {C fI : Addr} {rest : List Value} {kw : List (Str × Value)}
    (X : K.In s.heap) (hm : makesIn K C = true) (hi : findIn K (.ref C) "__init__" = some (some (.ref fI))) (hf : isFn K (.ref fI) = true)
    (h : codeAny (model prog w) (A.under (.builtin "type.__call__" ⟨.ref C :: rest, kw⟩)) (.call (.ref fI) ⟨.ref (s.heap.objs.size + 1) :: rest, kw⟩) (InitBack (s.heap.objs.size + 1) R)
      { s with heap := (s.heap.push emptyDict).push (instObj C s.heap.objs.size) }) : codeAny (model prog w) A (.call (.ref C) ⟨rest, kw⟩) R s := by
  obtain ⟨hh, g, d, t, os⟩ := s
  exact make_core (makes_of X hm) (looks_findIn X hi) (fun self => bind_fn X self (beq_iff_eq.mp hf)) (.inl rfl) h

/-- x.name where the instance's dict holds the name and the class does not -/
theorem get_field {x C : Addr} {ox : Obj} {es : List DictEntry} {n : Nat} {name : Str} {expr : Bool} {v : Value} {Q : Value → Shared → Prop}
    (X : K.In s.heap) (I : PySem.W.InstAt s.heap x ox C (some (dictOf es n))) (hg : plainGet K C name = true) (hh : hasDictIn K C = true) (ha : findIn K (.ref C) name = some none)
    (hl : getL name es = some (some v)) (hv : handedIn v = true) (h : Q v { s with toks := s.toks + 1 }) : wpAny (model prog w) A (getAttr (.ref x) name expr) Q E s :=
  get_value X I (plainGet_of hg).1 (findObj_own hh ha rfl hl) hv h

/-- x.m(..): the method found in the class -/
theorem get_method {x C f : Addr} {ox : Obj} {es : List DictEntry} {n : Nat} {name : Str} {pl : Sem Bool} {Q : Value × List Value → Shared → Prop}
    (X : K.In s.heap) (I : PySem.W.InstAt s.heap x ox C (some (dictOf es n))) (hg : plainGet K C name = true) (hf : findIn K (.ref C) name = some (some (.ref f))) (ht : isFn K (.ref f) = true)
    (hl : getL name es = some none) (h : Q (.ref f, [.ref x]) s) : wpAny (model prog w) A (getMethod (.ref x) name pl) Q E s :=
  method_fn X I (plainGet_of hg).1 (plainGet_of hg).2 hf (beq_iff_eq.mp ht) (by show (lookIn name (dictOf es n)).map _ = _; rw [lookIn_dict, hl]; rfl) h

/-! the whole heap as the ledger: makes every rule that writes through a ledger a rule over any heap -/
def noObjs (h : Heap) : Heap := { h with objs := #[] }
theorem noObjs_get (h : Heap) (b : Addr) : (noObjs h).get? b = none := by
  cases e : (noObjs h).get? b with
  | none => rfl
  | some o => exact absurd (Heap.lt_size e) (Nat.not_lt_zero _)
def ledger (h : Heap) (L d : Addr) : List (Addr × Obj) := (List.range h.objs.size).filterMap fun a => if a = L ∨ a = d then none else (h.get? a).map fun o => (a, o)
theorem mem_ledger {h : Heap} {L d a : Addr} {o : Obj} : (a, o) ∈ ledger h L d ↔ a ≠ L ∧ a ≠ d ∧ h.get? a = some o := by
  unfold ledger
  rw [List.mem_filterMap]
  constructor
  · rintro ⟨b, _, e⟩
    split at e
    · cases e
    · rename_i hb
      obtain ⟨o', ho, e'⟩ := Option.map_eq_some_iff.mp e
      cases e'
      exact ⟨fun q => hb (.inl q), fun q => hb (.inr q), ho⟩
  · rintro ⟨n1, n2, ho⟩
    refine ⟨a, List.mem_range.mpr (Heap.lt_size ho), ?_⟩
    rw [if_neg (show ¬ (a = L ∨ a = d) from fun q => q.elim n1 n2), ho] <;> rfl
theorem news_ledger {h : Heap} {L d : Addr} {od : Obj} (hne : d ≠ L) (ho : h.get? d = some od) : News (noObjs h) L h ([] ++ (d, od) :: ledger h L d) := by
  rintro ⟨a, o⟩ hp
  rcases List.mem_cons.mp hp with e | hp
  · cases e
    exact ⟨ho, hne, noObjs_get _ _⟩
  · obtain ⟨n1, n2, e⟩ := mem_ledger.mp hp
    exact ⟨e, n1, noObjs_get _ _⟩
theorem fr_all {h : Heap} {L : Addr} {m : Str → Option Value} (n : h.Ns L m) : Fr (noObjs h) L h m :=
  ⟨n, fun b o e => (by rw [noObjs_get] at e; cases e), Nat.zero_le _⟩
/-- Upd of the head entry (for append_K, setItem_K ..) -/
theorem upd_ledger {h : Heap} {L d : Addr} {o o' : Obj} : Upd d o o' ((d, o) :: ledger h L d) ((d, o') :: ledger h L d) :=
  .head fun ⟨_, _⟩ hp => (mem_ledger.mp hp).2.1

/-- x.name = v over any heap: L is any namespace of the heap (the frame's, say): its map stays, its object is not told; all else but the dict stays -/
theorem set_field {x C dx L : Addr} {ox : Obj} {m : Str → Option Value} {es es' : List DictEntry} {n n' : Nat} {name : Str} {v : Value} {Q : Unit → Shared → Prop}
    (X : K.In s.heap) (I : PySem.W.InstAt s.heap x ox C (some (dictOf es n))) (hd : ox.dict = some dx) (hL : s.heap.Ns L m) (hne : dx ≠ L)
    (hs : findIn K (.ref C) "__setattr__" = some (some (.builtin "object.__setattr__"))) (hp : plainOver K C = true) (ht : takerIn K C name = some none) (hh : hasDictIn K C = true) (hl : (getL name es).isSome = true)
    (e : (putL name (PyData.keyHash w.params name) (.str name (s.toks + 1)) v es, putN name es n) = (es', n')) (hz : es'.length ≤ 1000)
    (h : ∀ h' : Heap, h'.Ns L m → h'.get? dx = some (dictOf es' n') → (∀ b o, b ≠ dx → b ≠ L → s.heap.get? b = some o → h'.get? b = some o) → Q () { s with heap := h', toks := s.toks + 2 }) :
    wpAny (model prog w) A (setAttr (.ref x) name v) Q E s := by
  obtain ⟨e1, e2⟩ := Prod.mk.inj e
  have hdx : s.heap.get? dx = some (dictOf es n) := by
    have := I.dict
    rw [hd] at this
    exact this
  refine set_plain X I hs (osa_dict (s := { s with toks := s.toks + 1 }) (h₀ := noObjs s.heap) (L := L) (m := m) (od := dictOf es n) (od' := dictOf es' n') (es := es') (n := n') (pre := []) (post := ledger s.heap L dx)
    (fr_all hL) (news_ledger hne hdx) X I hd hp ht hh hl (fun _ q => nomatch q) (fun ⟨_, _⟩ q => (mem_ledger.mp q).2.1) (by rw [putName_dict, e1, e2]) rfl hz fun h' F' N' => ?_)
  exact h h' F'.ns (N'.get (List.Mem.head _)) fun b o n1 n2 ho => N'.get (List.Mem.tail _ (mem_ledger.mpr ⟨n2, n1, ho⟩))
end
end Att

namespace L2
open PySem PySem.Spec PyProof.Rows

theorem vals_ints : ∀ {vs : List Value} {ns : List Int}, IntsAre vs ns → Vals (ns.map V.int) vs
  | _, _, .nil => .nil
  | _, _, .cons n t h => .cons ⟨t, rfl⟩ (vals_ints h)

/-- nothing is tracked but the script, known to the object (or it is an object of the module) -/
def Only (H : Hp) : Prop := ∀ b, H b = none ∨ ∃ o xs, H b = some (.frz o (.lst xs))

/-- THE HEAD: the law's promise, at the heap behind the top. F, the promise of the law's def, may use that base is part of the heap (so K.In base, base.Ns mainGlobals mg stand in Mod) -/
theorem law_call {P : Program} {w : World} {K : PySem.W.Frag} {mg mb : Str → Option Value} {CX : CXT} {k : Nat} {fa a : Addr} {fd : FuncData} {x : Str} {sp : Sp} {s₁ : Shared} {vs : List Value} {ns : List Int}
    (KX : K.In s₁.heap) (hns : s₁.heap.Ns mainGlobals mg) (hb : s₁.heap.Ns builtinsNs mb) (hbb : ∀ x : Str, x ≠ "__name__" → mb x = bootBuiltins x) (hlim : s₁.heap.NoLimit) (hg : s₁.gens = #[])
    (ha : s₁.heap.get? a = some { cls := .type "list", data := .seq vs.toArray }) (hi : IntsAre vs ns) (hl : ns.length ≤ sizeLine) (hr : Room k callerA)
    (F : ∀ base : Heap, K.In base → base.Ns mainGlobals mg → FnOk P w K mg base CX k fa fd [x] sp) (hbind : ∀ (s : Shared) (u : Value), BindsTo s fd ⟨[u], []⟩ [(x, u)])
    (hsp : ∀ H : Hp, Only H → SqL K H a (ns.map V.int) → sp [.ref a] H (fun v _ => v = .bl true) fun _ _ _ => False)
    (hCX : ∀ H e s', CX [] H s₁ (fun _ _ _ => False) e s' → False) :
    codeAny (model P w) callerA (.call (.ref fa) ⟨[.ref a], []⟩) (fun r s' => r = .ok (.ret (.bool true)) ∧ OldK s₁.heap s'.heap ∧ s'.os = s₁.os ∧ AllBare s'.gens) s₁ := by
  have rv := vals_ints hi
  have lenV := hi.length
  -- from an abstract heap in which nothing but the script may be tracked
  have core : ∀ H : Hp, Only H → SqL K H a (ns.map V.int) → HOk P w H s₁.heap → (∀ b, H b ≠ none → b = a) → (H a ≠ none → K.lookup a = none) →
      codeAny (model P w) callerA (.call (.ref fa) ⟨[.ref a], []⟩) (fun r s' => r = .ok (.ret (.bool true)) ∧ OldK s₁.heap s'.heap ∧ s'.os = s₁.os ∧ AllBare s'.gens) s₁ := by
    intro H hO hS hok hA hK
    have base_of : ∀ {b : Addr} {o : Obj}, s₁.heap.get? b = some o → H b = none → (hidT s₁.heap H).get? b = some o := fun e n => hidT_get e n
    have noA : ∀ {b : Addr} {o : Obj} {es : Array DictEntry} {ep : Nat}, s₁.heap.get? b = some o → o.data = .dict es ep → H b = none := fun {b o es ep} e d => by
      cases q : H b with
      | none => rfl
      | some u =>
        have e' : b = a := hA b (by rw [q]; simp)
        subst e'
        rw [ha] at e; cases e
        have d' : Data.seq vs.toArray _ = Data.dict es ep := d
        cases d'
    have nsK : ∀ {b : Addr} {m : Str → Option Value}, s₁.heap.Ns b m → (hidT s₁.heap H).Ns b m := fun {b m} ⟨o, es, ep, e, d, r⟩ => ⟨o, es, ep, base_of e (noA e d), d, r⟩
    have hKb : K.In (hidT s₁.heap H) := fun b o e => base_of (KX b o e) (by
      cases q : H b with
      | none => rfl
      | some u =>
        have e' : b = a := hA b (by rw [q]; simp)
        subst e'
        rw [hK (by rw [q]; simp)] at e; cases e)
    have hM : Mod K mg (hidT s₁.heap H) := ⟨hKb, nsK hns, ⟨mb, nsK hb, hbb⟩, let ⟨mc, h1, h2⟩ := hlim; ⟨mc, nsK h1, h2⟩⟩
    have e0 : Env0 P w K mg (hidT s₁.heap H) callerA [] s₁ H := ⟨rfl, hM, fun b o e => of_hidT e, Nat.le_of_eq (hidT_size _ _), trivial, fun b hb => absurd (show b ∈ ([] : List Addr) from hb) (by simp), hok, .of_eq hg⟩
    refine codeAny_mono ((F _ hKb (nsK hns)).run callerA [] s₁ H ⟨[.ref a], []⟩ [.ref a] [.ref a] _ _ hr e0 (hbind s₁ (.ref a)) (.cons rfl .nil) (hsp H hO hS)) fun r s' h => ?_
    cases r with
    | error e => exact (hCX H e s' h).elim
    | ok fl =>
      cases fl with
      | next => exact False.elim h
      | brk => exact False.elim h
      | cont => exact False.elim h
      | ret u =>
        obtain ⟨v, H', os, bare, un, hok', r', q⟩ := h
        have q' : v = .bl true := q
        subst q'
        obtain rfl : u = Value.bool true := r'
        refine ⟨rfl, OldK.of_keep fun b o e => ?_, os, bare⟩
        cases q : H b with
        | none => exact un.keep b o e q (by intro z; exact absurd (show b ∈ ([] : List Addr) from z) (by simp)) (by simp)
        | some u =>
          rcases hO b with z | ⟨ob, xs, z⟩
          · rw [q] at z; cases z
          · have z2 := un.frzs b ob _ z
            obtain ⟨e1, _⟩ := hok b _ z
            obtain ⟨e2, _⟩ := hok' b _ z2
            rw [e] at e1; cases e1
            exact e2
  cases hk : K.lookup a with
  | some o =>
    -- the script is one of the module's own objects
    have e := KX a o hk
    rw [ha] at e
    cases e
    refine core (fun _ => none) (fun _ => .inl rfl) (.inr ⟨_, vs.toArray, _, hk, rfl, rfl, rfl, by rw [List.size_toArray, lenV]; exact hl, by simpa using rv⟩) (fun b u z => by have z' : (none : Option HO) = some u := z; cases z') (fun b z => absurd rfl z) fun z => absurd rfl z
  | none =>
    refine core (fun b => if b = a then some (.frz { cls := .type "list", data := .seq vs.toArray } (.lst (ns.map V.int))) else none) (fun b => ?_) (.inl (.inr ⟨{ cls := .type "list", data := .seq vs.toArray }, if_pos rfl⟩)) (fun b u z => ?_) (fun b z => ?_) fun _ => hk
    · by_cases hb : b = a
      · exact .inr ⟨_, _, if_pos hb⟩
      · exact .inl (if_neg hb)
    · by_cases hb : b = a
      · have z' := (if_pos hb).symm.trans z
        cases z'
        subst hb
        exact ⟨ha, by rw [List.length_map]; exact hl, vs, _, rv, ha⟩
      · have z' := (if_neg hb).symm.trans z
        cases z'
    · by_cases hb : b = a
      · exact hb
      · exact absurd (if_neg hb) z
end L2

namespace L2
open PySem PySem.Spec PyProof.Rows

abbrev KOf {K : PySem.W.Frag} {h : Heap} (_ : K.In h) : PySem.W.Frag := K

/-- the goal that k_head leaves (case hc), from the law's promise. F gives the function object fd (K's own) once, then the promise over every base -/
theorem walk_of {l : PySem.W.OpenLaw} {n k : Nat} {q : Program} {loose : List Str} {XP : (Str → Option Value) → Heap → Prop} {YP : World → Heap → Prop} {d : DefRec} {K : Params → PySem.W.Frag} {CX : World → CXT} {sp : World → Sp} {x : Str}
    (hn : l.most = some n) (hn2 : n ≤ sizeLine) (hdf : d.params.defaults = []) (hr : Room k callerA)
    (hY : ∀ (w : World) (h : Heap), YP w h → (K w.params).In h)
    (F : ∀ (w : World) (mg : Str → Option Value) (fa : Addr) (h : Heap), (K w.params).In h → h.Ns mainGlobals mg → mg d.name = some (.ref fa) →
      ∃ fd : FuncData, (∀ (s : Shared) (u : Value), BindsTo s fd ⟨[u], []⟩ [(x, u)]) ∧
        ∀ base : Heap, (K w.params).In base → base.Ns mainGlobals mg → FnOk l.prog w (K w.params) mg base (CX w) k fa fd [x] (sp w))
    (hsp : ∀ (w : World) (H : Hp) (a : Addr) (ns : List Int), ns.length ≤ n → Only H → SqL (K w.params) H a (ns.map V.int) → sp w [.ref a] H (fun v _ => v = .bl true) fun _ _ _ => False)
    (hCX : ∀ (w : World) (H : Hp) (s : Shared) (e : Value) (s' : Shared), CX w [] H s (fun _ _ _ => False) e s' → False) :
    PySem.W.WalkO q loose XP YP l.row.toRowW d [] (fun f vs => PySem.call f vs) := by
  refine Att.attach_call hn hdf fun w s₀ s₁ mg mb fa o pm cd doc a vs ns G Y ho hd hcd hmg hobj hints hlen hg => ?_
  have KX := hY w _ Y
  obtain ⟨fd, hb, hF⟩ := F w mg fa _ KX G.T.g hmg
  exact law_call KX G.T.g G.T.b G.T.builtins G.T.nolimit hg hobj hints (Nat.le_trans hlen hn2) hr hF hb (fun H hO hS => hsp w H a ns hlen hO hS) fun H e s' => hCX w H s₁ e s'
/-- the same where the promise hangs on the written part alone: (sp := My.sp_law), no hole under a binder -/
theorem walk_ofK {l : PySem.W.OpenLaw} {n k : Nat} {q : Program} {loose : List Str} {XP : (Str → Option Value) → Heap → Prop} {YP : World → Heap → Prop} {d : DefRec} {K : Params → PySem.W.Frag} {CX : CXT} {sp : PySem.W.Frag → Sp} {x : Str}
    (hn : l.most = some n) (hn2 : n ≤ sizeLine) (hdf : d.params.defaults = []) (hr : Room k callerA)
    (hY : ∀ (w : World) (h : Heap), YP w h → (K w.params).In h)
    (F : ∀ (w : World) (mg : Str → Option Value) (fa : Addr) (h : Heap), (K w.params).In h → h.Ns mainGlobals mg → mg d.name = some (.ref fa) →
      ∃ fd : FuncData, (∀ (s : Shared) (u : Value), BindsTo s fd ⟨[u], []⟩ [(x, u)]) ∧
        ∀ base : Heap, (K w.params).In base → base.Ns mainGlobals mg → FnOk l.prog w (K w.params) mg base CX k fa fd [x] (sp (K w.params)))
    (hsp : ∀ (K : PySem.W.Frag) (H : Hp) (a : Addr) (ns : List Int), ns.length ≤ n → Only H → SqL K H a (ns.map V.int) → sp K [.ref a] H (fun v _ => v = .bl true) fun _ _ _ => False)
    (hCX : ∀ (H : Hp) (s : Shared) (e : Value) (s' : Shared), CX [] H s (fun _ _ _ => False) e s' → False) :
    PySem.W.WalkO q loose XP YP l.row.toRowW d [] (fun f vs => PySem.call f vs) :=
  walk_of (K := K) (CX := fun _ => CX) (sp := fun w => sp (K w.params)) hn hn2 hdf hr hY F (fun w H a ns h1 h2 h3 => hsp (K w.params) H a ns h1 h2 h3) fun _ H s e s' => hCX H s e s'
end L2

/- THE LAST THEOREM (shape; LID, My.* are yours):
   My.Adr: a structure of the addresses that your layer names (classes, functions); My.Txt K t: a structure (Prop) of the equations over K;
   My.txt_mk : {K} {implicit addresses ..} (e1 : nsIn K mainGlobals "law" = some (some (.ref f))) (e2 : K.lookup f = some ⟨oc, od, .func (fnOf "law" "law" params body scope dV kV doc pm an cdv ct), sl⟩) (e3 : codeIn K cdv "law" = true) .. : ∃ t, My.Txt K t

set_option maxRecDepth 100000 in
set_option maxHeartbeats 0 in
theorem PySem.Challenge.cw_LID_holds : PySem.Challenge.rw_LID.Holds := by
  w_on; o_law; k_head; (case hw => w_witness2)
  k_fill
  refine L2.walk_of (l := PySem.Challenge.rw_LID) (n := 63) (k := 40) (x := "script") (CX := fun w => ..) (sp := fun _ => My.sp_law) rfl (by decide) rfl ⟨rfl, by decide, by decide⟩ (fun w h Y => PySem.W.kIn_of Y) ?F ?S ?C
  case F =>
    intro w mg fa h KX G hmg
    have T : ∃ t, My.Txt (L2.KOf KX) t := by
      dsimp only [L2.KOf]                          -- K must stand as «<heap const> w.params» for k_is
      refine' My.txt_mk ?e1 ?e2 ?e3 ..
      (case e1 => PySem.W.k_is)                    -- in the order: a name -> its address -> its object -> its parts
      (case e2 => PySem.W.k_is)
      ..
    obtain ⟨t, T⟩ := T
    have e0 := hmg.symm.trans (PySem.W.mg_of KX G T.law)
    cases e0                                       -- fa is the law's own address
    exact ⟨_, fun s u => .of_eq rfl, fun base kb nb => My.law_fn T kb nb⟩     -- if «.of_eq rfl» comes too early: refine' ⟨_, ?b, fun base kb nb => My.law_fn T kb nb⟩; exact fun s u => .of_eq rfl
  case S => exact fun w H a ns hl hO hS => ..
  case C => exact ..
(the tactic k_is has no namespace: write k_is) -/

/-! SHORT WORDS over the layer: a def of the text, its body, what a loop and a test want. -/
namespace L2
open PySem PySem.Spec PyProof.Rows

/-! ### the text by places -/
/-- the j-th statement of a class's body -/
def inClass (s : Stmt) (j : Nat) : Stmt := match s with
  | .ClassDef _ _ _ body _ _ _ _ _ _ _ => body.getD j (.Pass ⟨0, 0, 0, 0⟩)
  | _ => .Pass ⟨0, 0, 0, 0⟩
def defArgs (s : Stmt) : Arguments := match s with
  | .FunctionDef _ a _ _ _ _ _ _ _ _ => a
  | _ => { posonlyargs := [], args := [], vararg := none, kwonlyargs := [], kw_defaults := [], kwarg := none, defaults := [] }
def defBody (s : Stmt) : List Stmt := match s with
  | .FunctionDef _ _ b _ _ _ _ _ _ _ => b
  | _ => []
def defScope (s : Stmt) : Scope := match s with
  | .FunctionDef _ _ _ _ _ _ sc _ _ _ => sc
  | _ => { kind := .function, names := [], isGenerator := false, isCoroutine := false }

/-! ### no exception leaves a def -/
abbrev CX0 : CXT := fun _ _ _ _ _ _ => False
abbrev E0 : XK := fun _ _ _ => False
theorem pass0 {X : Cx} : Passes CX0 X E0 := fun _ _ _ _ _ _ _ h => h.elim

/-! ### a def (or method) of the text as it stands behind the top -/
structure Fun (K : PySem.W.Frag) (x qual : Str) (st : Stmt) (f : Addr) (fd : FuncData) : Prop where
  ex : ∃ (oc : Value) (od : Option Addr) (kV doc pm : Value) (an : Option Addr) (cdv ct : Value) (osl : Array (Option Value)),
    fd = PySem.W.fnOf x qual (defArgs st) (defBody st) (defScope st) .none kV doc pm an cdv ct ∧ K.lookup f = some ⟨oc, od, .func fd, osl⟩ ∧ PySem.W.codeIn K cdv qual = true
  kp : PySem.W.keepIn K (.ref f) = true
section
variable {P : Program} {w : World} {K : PySem.W.Frag} {mg : Str → Option Value} {base : Heap}
/-- THE RULE for a def: its body as a term of rules, and the reading of that term -/
theorem Fun.ok {x qual : Str} {st : Stmt} {f : Addr} {fd : FuncData} {N ps : List Str} {k : Nat} {sp : Sp} (F : Fun K x qual st f fd) (S : FnScope N ps (defScope st)) (len : ∀ vs H Q E, sp vs H Q E → vs.length = ps.length)
    (hbody : ∀ (cdv : Value) (A : Around) (outer : List Env) (s : Shared) (H : Hp) (vs : List V) (Q : VK) (E : XK), Room k (A.deeper (envOfC qual (defScope st) s.heap.objs.size f cdv)) → sp vs H Q E →
      ∃ t, PSs (cxOf CX0 P w K mg base N qual (defScope st) f cdv A outer s H E).nox (defBody st) t ∧ t { nx := fun _ H' => Q .non H', rt := Q } (start N vs) H) : FnOk P w K mg base CX0 (k + 1) f fd ps sp := by
  obtain ⟨oc, od, kV, doc, pm, an, cdv, ct, osl, rfl, lk, hcd⟩ := F.ex
  refine fn_of lk hcd S len fun A outer s H vs Q E hr hsp => ?_
  obtain ⟨t, h, q⟩ := hbody cdv A outer s H vs Q E hr hsp
  exact ⟨t, h.nox, q⟩
/-- how its arguments bind (no defaults): h is «fun _ _ _ _ _ _ us hl => match us, hl with | [_, _], _ => rfl», one _ a parameter -/
theorem Fun.binds {x qual : Str} {st : Stmt} {f : Addr} {fd : FuncData} {ps : List Str} (F : Fun K x qual st f fd)
    (h : ∀ (kV doc pm : Value) (an : Option Addr) (cdv ct : Value) (us : List Value), us.length = ps.length → bindArgs (PySem.W.fnOf x qual (defArgs st) (defBody st) (defScope st) .none kV doc pm an cdv ct) ⟨us, []⟩ = pure (ps.zip us)) : Binds K fd ps [] := by
  obtain ⟨oc, od, kV, doc, pm, an, cdv, ct, osl, rfl, lk, hcd⟩ := F.ex
  exact .all (h kV doc pm an cdv ct)
theorem fun_mk {x qual : Str} {st : Stmt} {f : Addr} {oc : Value} {od an : Option Addr} {osl : Array (Option Value)} {kV doc pm cdv ct : Value} (l : K.lookup f = some ⟨oc, od, .func (PySem.W.fnOf x qual (defArgs st) (defBody st) (defScope st) .none kV doc pm an cdv ct), osl⟩)
    (c : PySem.W.codeIn K cdv qual = true) (k : PySem.W.keepIn K (.ref f) = true) : Fun K x qual st f (PySem.W.fnOf x qual (defArgs st) (defBody st) (defScope st) .none kV doc pm an cdv ct) := ⟨⟨oc, od, kV, doc, pm, an, cdv, ct, osl, rfl, l, c⟩, k⟩
end
theorem hu_of {A : Around} {k : Nat} (hr : Room k A) : A.units + 1 < cLine := Nat.lt_of_le_of_lt (Nat.add_le_add_left (by decide : 1 ≤ 64) _) hr.units
theorem small1000 {n : Nat} (h : n ≤ 1000) : n < sizeLine := Nat.lt_of_le_of_lt h (by decide)

/-! ### expressions in short: the name that stands in the i-th slot -/
section
variable {X : Cx}
theorem pv (i : Nat) {x : Str} {pos : Pos} (hN : X.N[i]? = some x := by rfl) (hv : Vis X.env.scope x := by first | exact Or.inl rfl | exact Or.inr (Or.inl rfl) | exact Or.inr (Or.inr rfl)) (hd : (x == ("__debug__" : Str)) = false := by decide)
    (hcd : (x == ("__classdict__" : Str)) = false := by decide) : PE X (.Name x pos) (tVar i) := pe_var hN hv hd hcd
end

/-! ### tests -/
theorem iteF {A B : Prop} (h : B) : if false = true then A else B := by
  rw [if_neg Bool.false_ne_true]
  exact h
theorem iteT {A B : Prop} (h : A) : if true = true then A else B := by
  rw [if_pos rfl]
  exact h
theorem ite2 {c A B : Prop} [Decidable c] (h1 : c → A) (h2 : ¬ c → B) : if c then A else B := by
  by_cases h : c
  · rw [if_pos h]
    exact h1 h
  · rw [if_neg h]
    exact h2 h
theorem iteNS {c A B : Prop} [Decidable c] (hc : c) (h : B) : if (!decide c) = true then A else B := by
  rw [decide_eq_true hc]
  exact iteF h

/-! ### heaps -/
/-- all that was tracked is as it was -/
def Same (H H' : Hp) : Prop := ∀ b o, H b = some o → H' b = some o
theorem Same.refl (H : Hp) : Same H H := fun _ _ h => h
theorem Same.trans {H H1 H2 : Hp} (a : Same H H1) (b : Same H1 H2) : Same H H2 := fun c o h => b c o (a c o h)
theorem Same.free {H H' : Hp} (e : Same H H') {l : Addr} (h : H' l = Option.none) : H l = Option.none := by
  cases q : H l with
  | none => rfl
  | some o =>
    rw [e l o q] at h
    cases h
theorem Same.seq {K : PySem.W.Frag} {H H' : Hp} {a : Addr} {xs : List V} (e : Same H H') (h : SqL K H a xs) : SqL K H' a xs := by
  rcases h with (h | ⟨o, h⟩) | h
  · exact .inl (.inl (e _ _ h))
  · exact .inl (.inr ⟨o, e _ _ h⟩)
  · exact .inr h

end L2

set_option Elab.async false
set_option linter.all false
set_option maxRecDepth 100000
set_option maxHeartbeats 4000000
namespace L2
open PySem PySem.Spec PyProof.Rows

/-! ### comprehensions -/
theorem compLoopT {prog : Program} {w : World} {A : Around} {R : Result → Shared → Prop} {s : Shared} {elt target iter : Expr} {ifs : List Expr} {scope : Scope} {pos : Pos} {it acc : Value} {env : Env} (I : Nat → Shared → Prop)
    (turn : ∀ n s, I n s → wpAny (model prog w) A (pyNext it) (fun r s₁ => match r with
      | none => R (.ok .next) s₁
      | some v => wpAny (model prog w) A (letOwnedTupleGo target it v) (fun _ s₁' => wpAny (model prog w) A (assign target env v) (fun _ s₂ =>
          wpAny (model prog w) A (forIn ifs true fun c r => if r = true then do let ok ← isTrue c env (eval c env); pure (ForInStep.yield ok) else pure (ForInStep.yield r)) (fun ok s₃ =>
            if ok = true then wpAny (model prog w) A (eval elt env) (fun x s₄ =>
              wpAny (model prog w) A (call (.builtin "list.append") [acc, x]) (fun _ s₅ => ∃ m, m < n ∧ I m s₅) (notedBy (model prog w) A env fun e s' => R (.error e) s') s₄) (notedBy (model prog w) A env fun e s' => R (.error e) s') s₃
            else ∃ m, m < n ∧ I m s₃) (notedBy (model prog w) A env fun e s' => R (.error e) s') s₂) (notedBy (model prog w) A env fun e s' => R (.error e) s') s₁') (notedBy (model prog w) A env fun e s' => R (.error e) s') s₁) (notedBy (model prog w) A env fun e s' => R (.error e) s') s)
    (n : Nat) (h : I n s) :
    codeAny (model prog w) A (.compLoop (.ListComp elt [⟨target, iter, ifs, 0⟩] scope pos) 0 it acc env) R s := by
  refine codeAny_loop rfl I (fun n s hI => ?_) n h
  show wpAny _ A ((compTurn (.ListComp elt [⟨target, iter, ifs, 0⟩] scope pos) 0 it acc env).onRaise (fun x => do noteFrame x env; theTreesLotGoes x)) _ _ s
  refine wpAny_noted ?_
  rw [compTurn_list]
  refine wpAny_bind (wpAny_standAt (wpAny_bind (wpAny_mono (turn n s hI) (fun r s₁ h₁ => ?_) fun _ _ h' => h')))
  cases r with
  | none => exact wpAny_pure h₁
  | some v =>
    refine wpAny_bind (wpAny_mono h₁ (fun _ s₁' h₁' => ?_) fun _ _ h' => h')
    refine wpAny_bind (wpAny_mono h₁' (fun _ s₂ h₂ => wpAny_bind (wpAny_mono h₂ (fun ok s₃ h₃ => ?_) fun _ _ h' => h')) fun _ _ h' => h')
    cases ok with
    | false => exact wpAny_pure ⟨rfl, h₃⟩
    | true =>
      exact wpAny_bind (wpAny_bind (wpAny_mono h₃ (fun x s₄ h₄ => wpAny_bind (wpAny_mono h₄ (fun _ s₅ h₅ => wpAny_pure (wpAny_pure ⟨rfl, h₅⟩)) fun _ _ h' => h')) fun _ _ h' => h'))

/-- the closure of a block: its free names' cells -/
def clOf (cells : List (Str × Addr)) : List (Str × NameKind) → List (Str × Addr) → List (Str × Addr)
  | [], acc => acc
  | (n, k) :: r, acc => clOf cells r (if k == .free then (match cells.lookup n with | some c => (n, c) :: acc | none => acc) else acc)
theorem closure_forIn {env : Env} : ∀ (names : List (Str × NameKind)) (acc : List (Str × Addr)), (∀ y ∈ names, y.2 = .free → ∃ c, env.cells.lookup y.1 = some c) →
    (forIn names acc fun (x : Str × NameKind) (cs : List (Str × Addr)) => (if x.2 == .free then do let c ← cellOf env x.1; pure (ForInStep.yield ((x.1, c) :: cs)) else pure (ForInStep.yield cs) : Sem (ForInStep (List (Str × Addr))))) = pure (clOf env.cells names acc)
  | [], acc, _ => by rw [List.forIn_nil]; rfl
  | (n, k) :: r, acc, h => by
    have ih := fun a => closure_forIn r a fun y hy => h y (List.mem_cons_of_mem _ hy)
    rw [List.forIn_cons]
    unfold clOf
    cases e : (k == NameKind.free) with
    | false =>
      simp only [Bool.false_eq_true, if_false]
      exact ih acc
    | true =>
      have hk : k = .free := by simpa using e
      obtain ⟨c, hc⟩ := h (n, k) List.mem_cons_self hk
      have e1 : cellOf env n = pure c := by unfold cellOf; rw [hc]
      simp only [if_true, e1, hc]
      exact ih _
theorem closureFor_of {scope : Scope} {env : Env} (h : ∀ y ∈ scope.names, y.2 = .free → ∃ c, env.cells.lookup y.1 = some c) : closureFor scope env = pure (clOf env.cells scope.names []) := by
  have := closure_forIn (env := env) scope.names [] h
  show (forIn scope.names [] (fun (x : Str × NameKind) (cs : List (Str × Addr)) => (if x.2 == .free then do let c ← cellOf env x.1; pure (ForInStep.yield ((x.1, c) :: cs)) else pure (ForInStep.yield cs) : Sem (ForInStep (List (Str × Addr))))) >>= fun cs => pure cs) = _
  rw [this]
  rfl

theorem clOf_mem {cells : List (Str × Addr)} {n : Str} {c : Addr} : ∀ {names : List (Str × NameKind)} {acc : List (Str × Addr)}, (n, c) ∈ clOf cells names acc → cells.lookup n = some c ∨ (n, c) ∈ acc
  | [], _, h => .inr h
  | (m, k) :: r, acc, h => by
    unfold clOf at h
    rcases clOf_mem h with z | z
    · exact .inl z
    · cases e : (k == NameKind.free) with
      | false => simp only [e, Bool.false_eq_true, if_false] at z; exact .inr z
      | true =>
        simp only [e, if_true] at z
        cases q : cells.lookup m with
        | none => rw [q] at z; exact .inr z
        | some d =>
          rw [q] at z
          rcases List.mem_cons.mp z with y | y
          · cases y; exact .inl q
          · exact .inr y
theorem clOf_has {cells : List (Str × Addr)} {n : Str} {c : Addr} (hc : cells.lookup n = some c) : ∀ {names : List (Str × NameKind)} {acc : List (Str × Addr)}, ((n, NameKind.free) ∈ names ∨ (n, c) ∈ acc) → (n, c) ∈ clOf cells names acc
  | [], _, h => by rcases h with h | h; (exact absurd h (by simp)); exact h
  | (m, k) :: r, acc, h => by
    unfold clOf
    refine clOf_has hc ?_
    rcases h with h | h
    · rcases List.mem_cons.mp h with e | h
      · cases e
        right
        simp [hc]
      · exact .inl h
    · right
      cases e : (k == NameKind.free) with
      | false => simpa using h
      | true =>
        simp only [if_true]
        cases q : cells.lookup m with
        | none => exact h
        | some d => exact List.mem_cons_of_mem _ h
theorem lookup_of_mem {α : Type} {n : Str} {c : α} : ∀ {l : List (Str × α)}, (n, c) ∈ l → (∀ d, (n, d) ∈ l → d = c) → l.lookup n = some c
  | (m, d) :: r, h, u => by
    rw [List.lookup_cons]
    cases e : n == m with
    | true =>
      have e' := beq_iff_eq.mp e
      subst e'
      rw [u d List.mem_cons_self]
    | false =>
      rcases List.mem_cons.mp h with z | z
      · cases z; simp at e
      · exact lookup_of_mem z fun d' h' => u d' (List.mem_cons_of_mem _ h')
theorem clOf_lookup {cells : List (Str × Addr)} {n : Str} {c : Addr} {names : List (Str × NameKind)} (hc : cells.lookup n = some c) (h : (n, NameKind.free) ∈ names) : (clOf cells names []).lookup n = some c := by
  refine lookup_of_mem (clOf_has hc (.inl h)) fun d hd => ?_
  rcases clOf_mem hd with z | z
  · rw [hc] at z; exact (Option.some.inj z).symm
  · exact absurd z (by simp)
theorem cellsFrom_append : ∀ (names : List (Str × NameKind)) (n : Nat) (acc : List (Str × Addr)), cellsFrom n names acc = cellsFrom n names [] ++ acc
  | [], _, acc => by simp [cellsFrom]
  | (x, k) :: r, n, acc => by
    unfold cellsFrom
    split
    · rw [cellsFrom_append r (n + 1) ((x, n) :: acc), cellsFrom_append r (n + 1) [(x, n)]]
      simp
    · exact cellsFrom_append r n acc
theorem cellsFrom_name : ∀ {names : List (Str × NameKind)} {n : Nat} {acc : List (Str × Addr)} {x : Str} {c : Addr}, (x, c) ∈ cellsFrom n names acc → (x, NameKind.cell) ∈ names ∨ (x, c) ∈ acc
  | [], _, _, _, _, h => .inr h
  | (y, k) :: r, n, acc, x, c, h => by
    unfold cellsFrom at h
    split at h
    · rename_i hk
      rcases cellsFrom_name h with z | z
      · exact .inl (List.mem_cons_of_mem _ z)
      · rcases List.mem_cons.mp z with e | z
        · cases e
          have : k = .cell := by simpa using hk
          subst this
          exact .inl List.mem_cons_self
        · exact .inr z
    · rcases cellsFrom_name h with z | z
      · exact .inl (List.mem_cons_of_mem _ z)
      · exact .inr z
theorem lookup_app {α : Type} (x : Str) : ∀ (l r : List (Str × α)), (l ++ r).lookup x = (l.lookup x).or (r.lookup x)
  | [], r => by simp
  | (y, v) :: l, r => by
    rw [List.cons_append, List.lookup_cons, List.lookup_cons]
    cases x == y with
    | true => rfl
    | false => exact lookup_app x l r
end L2

set_option Elab.async false
set_option linter.all false
set_option maxRecDepth 100000
set_option maxHeartbeats 4000000
namespace L2
open PySem PySem.Spec PyProof.Rows

def compCheck (N' : List Str) (src : List (Option Nat)) (scope : Scope) (XN : List Str) (xs : Scope) : Bool :=
  (scope.kind == .function) &&
  (scope.names.all fun y => !(y.2 == .free) || (xs.names.lookup y.1 == some .cell || xs.names.lookup y.1 == some .free)) &&
  (scope.names.all fun y => !(y.2 == .local) || scope.names.lookup y.1 == some .local) &&
  (scope.names.all fun y => !(y.2 == .cell) || (scope.names.all fun z => !(z.1 == y.1) || z.2 == .cell)) &&
  (src.length == N'.length) &&
  ((N'.zip src).all fun y => match y.2 with | none => true | some j => XN[j]? == some y.1 && scope.names.lookup y.1 == some .free)

structure CompCk (N' : List Str) (src : List (Option Nat)) (scope : Scope) (XN : List Str) (xs : Scope) : Prop where
  kind : scope.kind = .function
  fr : ∀ y ∈ scope.names, y.2 = .free → xs.names.lookup y.1 = some .cell ∨ xs.names.lookup y.1 = some .free
  loc : ∀ y ∈ scope.names, y.2 = .local → scope.names.lookup y.1 = some .local
  cel : ∀ y ∈ scope.names, y.2 = .cell → ∀ z ∈ scope.names, z.1 = y.1 → z.2 = .cell
  len : src.length = N'.length
  sr : ∀ (i j : Nat) (x : Str), src[i]? = some (some j) → N'[i]? = some x → XN[j]? = some x ∧ scope.names.lookup x = some .free
theorem compCk {N' : List Str} {src : List (Option Nat)} {scope : Scope} {XN : List Str} {xs : Scope} (h : compCheck N' src scope XN xs = true) : CompCk N' src scope XN xs := by
  unfold compCheck at h
  simp only [Bool.and_eq_true] at h
  obtain ⟨⟨⟨⟨⟨h1, h2⟩, h3⟩, h4⟩, h5⟩, h6⟩ := h
  refine ⟨by simpa using h1, fun y hy e => ?_, fun y hy e => ?_, fun y hy e z hz ez => ?_, by simpa using h5, fun i j x e1 e2 => ?_⟩
  · have := List.all_eq_true.mp h2 y hy
    simpa [e] using this
  · have := List.all_eq_true.mp h3 y hy
    simpa [e] using this
  · have := List.all_eq_true.mp h4 y hy
    simp only [e, beq_self_eq_true, Bool.not_true, Bool.false_or] at this
    have := List.all_eq_true.mp this z hz
    simpa [ez] using this
  · have hm : (x, some j) ∈ N'.zip src := by
      refine List.mem_of_getElem? (i := i) ?_
      rw [List.getElem?_zip_eq_some]
      exact ⟨e2, e1⟩
    have := List.all_eq_true.mp h6 _ hm
    simpa using this

/-- the context of a comprehension's block -/
abbrev cxComp (X : Cx) (N' : List Str) (scope : Scope) (C : Addr) (cells : List (Str × Addr)) (s : Shared) (H : Hp) (ex : List Addr) : Cx where
  prog := X.prog
  w := X.w
  K := X.K
  mg := X.mg
  base := X.base
  A := X.A
  N := N'
  s₀ := s
  H₀ := H
  env := { scope := relabel scope X.env, locals := C, globals := X.env.globals, cells := cells, qual := X.env.qual, func := none, code := X.env.code, frame := X.env.frame, builtins := X.env.builtins }
  outer := X.stack
  stack := X.stack
  ex := ex
  fn := fun x => scope.names.lookup x == some .cell
  calm := X.calm
  pn := []
  xe := fun _ _ => False

/-- the tests of a comprehension -/
def PIf (X : Cx) (ifs : List Expr) (t : TT) : Prop :=
  ∀ (pins : List (Addr × Obj)) (s : Shared) (σ : St) (H : Hp) (Q : Bool → Hp → Prop), Inv X pins σ H s → t σ H Q →
    wpAny (model X.prog X.w) X.A (forIn ifs true fun c r => if r = true then do let ok ← isTrue c X.env (eval c X.env); pure (ForInStep.yield ok) else pure (ForInStep.yield r)) (TP X pins σ Q) X.xe s
def tYes : TT := fun _ H Q => Q true H
theorem pif_nil {X : Cx} : PIf X [] tYes := fun _ _ _ H _ I h => wpAny_tests_nil ⟨H, I, h⟩
theorem pif_one {X : Cx} {c : Expr} {t : TT} (h : PT X c t) : PIf X [c] t := fun pins s σ H Q I hw => wpAny_tests_one (h pins s σ H Q I hw)

def srcSt (src : List (Option Nat)) (σ : St) : St := src.map fun o => match o with | none => none | some j => (σ[j]?).join
def tComp (src : List (Option Nat)) (wi : TI) (g : TG) (tc : TT) (te : TE) : TE := fun σ H Q => wi σ H fun J H1 => ∀ D, H1 D = none →
  ∃ W : Nat → Nat → St → Hp → Prop, (∃ m, W 0 m (srcSt src σ) (upd H1 D (.lst []))) ∧ ∀ i m σ' H', W i m σ' H' →
    (J.stop i H' ∧ Q (.ref D) H') ∨ (J.go i H' ∧ ∃ N : St → Hp → Prop, (∀ σ2 H2, N σ2 H2 → ∃ m', m' < m ∧ W (i + 1) m' σ2 H2) ∧
      ∀ x H2, J.yld i H' x H2 → g x σ' H2 fun σ3 H3 => tc σ3 H3 fun b H4 => if b = true then te σ3 H4 fun v H5 => ∃ ys, H5 D = some (.lst ys) ∧ ys.length < sizeLine ∧ N σ3 (upd H5 D (.lst (ys ++ [v]))) else N σ3 H4)

theorem lookup_relabel {env : Env} : ∀ {names : List (Str × NameKind)} {x : Str} {k : NameKind}, names.lookup x = some k →
    (names.map fun (n, k) => if (k == NameKind.free && env.scope.kind == .function && env.kindOf n == some .cell) then (n, NameKind.cell) else (n, k)).lookup x =
      some (if (k == NameKind.free && env.scope.kind == .function && env.kindOf x == some .cell) then NameKind.cell else k)
  | [], _, _, h => by simp at h
  | (n, k) :: r, x, k', h => by
    have ih := @lookup_relabel env r x k'
    show List.lookup x ((if (k == NameKind.free && env.scope.kind == .function && env.kindOf n == some .cell) = true then (n, NameKind.cell) else (n, k)) :: _) = _
    cases hx : x == n with
    | true =>
      have e := beq_iff_eq.mp hx
      subst e
      simp only [List.lookup_cons, hx] at h
      cases h
      by_cases hc : (k == NameKind.free && env.scope.kind == .function && env.kindOf x == some .cell) = true
      · rw [if_pos hc, if_pos hc]; simp only [List.lookup_cons, hx]
      · rw [if_neg hc, if_neg hc]; simp only [List.lookup_cons, hx]
    | false =>
      simp only [List.lookup_cons, hx] at h
      by_cases hc : (k == NameKind.free && env.scope.kind == .function && env.kindOf n == some .cell) = true
      · rw [if_pos hc]; simp only [List.lookup_cons, hx]; exact ih h
      · rw [if_neg hc]; simp only [List.lookup_cons, hx]; exact ih h
theorem lookup_relabel_none {env : Env} : ∀ {names : List (Str × NameKind)} {x : Str}, names.lookup x = none →
    (names.map fun (n, k) => if (k == NameKind.free && env.scope.kind == .function && env.kindOf n == some .cell) then (n, NameKind.cell) else (n, k)).lookup x = none
  | [], _, _ => rfl
  | (n, k) :: r, x, h => by
    have ih := @lookup_relabel_none env r x
    show List.lookup x ((if (k == NameKind.free && env.scope.kind == .function && env.kindOf n == some .cell) = true then (n, NameKind.cell) else (n, k)) :: _) = _
    cases hx : x == n with
    | true => simp only [List.lookup_cons, hx] at h; cases h
    | false =>
      simp only [List.lookup_cons, hx] at h
      by_cases hc : (k == NameKind.free && env.scope.kind == .function && env.kindOf n == some .cell) = true
      · rw [if_pos hc]; simp only [List.lookup_cons, hx]; exact ih h
      · rw [if_neg hc]; simp only [List.lookup_cons, hx]; exact ih h

theorem mem_lookup_some {α : Type} : ∀ {l : List (Str × α)} {n : Str} {c : α}, (n, c) ∈ l → ∃ d, l.lookup n = some d
  | (m, d) :: r, n, c, h => by
    rw [List.lookup_cons]
    cases e : n == m with
    | true => exact ⟨d, rfl⟩
    | false =>
      rcases List.mem_cons.mp h with z | z
      · cases z; simp at e
      · exact mem_lookup_some z

/-- the entry of the block -/
theorem comp_start {X : Cx} {N' : List Str} {src : List (Option Nat)} {scope : Scope} {pins : List (Addr × Obj)} {σ : St} {H : Hp} {s s4 : Shared} {fp : List Addr}
    (hck : CompCk N' src scope X.N X.env.scope) (I : Inv X pins σ H s) (hf : ∀ b ∈ fp, FpOk X pins H b) (hfl : ∀ b ∈ fp, b < s.heap.objs.size)
    (e4 : ∃ tk, s4 = { s with heap := pushCells (s.heap.push { cls := .type "dict", data := .dict #[] }) scope.names, toks := tk }) :
    Inv (cxComp X N' scope s.heap.objs.size (cellsFrom (s.heap.objs.size + 1) scope.names (clOf X.env.cells scope.names [])) s H fp) [] (srcSt src σ) H s4 := by
  obtain ⟨tk, rfl⟩ := e4
  have hk : ∀ b o, s.heap.get? b = some o → (pushCells (s.heap.push { cls := .type "dict", data := .dict #[] }) scope.names).get? b = some o := fun b o e => pushCells_keeps _ _ b o (Heap.get?_push_of_some _ e)
  have ok := cellsFrom_ok scope.names (s.heap.push { cls := .type "dict", data := .dict #[] }) (s.heap.objs.size + 1) [] ⟨fun _ _ hm => (nomatch hm), List.Pairwise.nil⟩ (by rw [Heap.size_push]; exact Nat.le_refl _)
  rw [Heap.size_push] at ok
  have eapp := cellsFrom_append scope.names (s.heap.objs.size + 1) (clOf X.env.cells scope.names [])
  -- a cell of the block: new, or one of the frame's
  have lk : ∀ x c, (cellsFrom (s.heap.objs.size + 1) scope.names (clOf X.env.cells scope.names [])).lookup x = some c →
      ((x, c) ∈ cellsFrom (s.heap.objs.size + 1) scope.names [] ∧ (x, NameKind.cell) ∈ scope.names) ∨ (X.env.cells.lookup x = some c ∧ (cellsFrom (s.heap.objs.size + 1) scope.names []).lookup x = none) := fun x c e => by
    rw [eapp, lookup_app] at e
    cases q : (cellsFrom (s.heap.objs.size + 1) scope.names []).lookup x with
    | some d =>
      rw [q] at e
      have e' : d = c := Option.some.inj e
      subst e'
      have hm := PySem.mem_of_lookup q
      refine .inl ⟨hm, ?_⟩
      rcases cellsFrom_name hm with z | z
      · exact z
      · exact absurd z (by simp)
    | none =>
      rw [q] at e
      have e' : (clOf X.env.cells scope.names []).lookup x = some c := e
      rcases clOf_mem (PySem.mem_of_lookup e') with z | z
      · exact .inr ⟨z, rfl⟩
      · exact absurd z (by simp)
  have up : ∀ x c, (x, c) ∈ cellsFrom (s.heap.objs.size + 1) scope.names [] → s.heap.objs.size + 1 ≤ c := fun x c h => (ok.empty x c h).2
  have old : ∀ x c, X.env.cells.lookup x = some c → c < s.heap.objs.size := fun x c h => by
    obtain ⟨v, q⟩ := I.cell x c h
    exact q.lt
  have hbelow : ∀ b, b < s.heap.objs.size → b ≠ s.heap.objs.size := fun b h => Nat.ne_of_lt h
  have fpl : ∀ b ∈ fp, H b = none ∧ b ≠ X.env.locals ∧ b ∉ X.fs := fun b hb => ⟨(hf b hb).1, (hf b hb).2.1, (hf b hb).2.2.1⟩
  have hns : (pushCells (s.heap.push { cls := .type "dict", data := .dict #[] }) scope.names).Ns s.heap.objs.size (fun _ => none) := (Heap.Ns.new s.heap (.type "dict")).keeps (pushCells_keeps _ _)
  have hkind : ∀ x k, scope.names.lookup x = some k → (relabel scope X.env).names.lookup x = some (if (k == NameKind.free && X.env.scope.kind == .function && X.env.kindOf x == some .cell) then NameKind.cell else k) := fun x k e => lookup_relabel (env := X.env) e
  have hkind0 : ∀ x, scope.names.lookup x = none → (relabel scope X.env).names.lookup x = none := fun x e => lookup_relabel_none (env := X.env) e
  -- a free name of the block has the frame's cell
  have frc : ∀ x c, (x, NameKind.free) ∈ scope.names → X.env.cells.lookup x = some c → (cellsFrom (s.heap.objs.size + 1) scope.names (clOf X.env.cells scope.names [])).lookup x = some c := fun x c hx hc => by
    rw [eapp, lookup_app]
    cases q : (cellsFrom (s.heap.objs.size + 1) scope.names []).lookup x with
    | some d =>
      rcases cellsFrom_name (PySem.mem_of_lookup q) with z | z
      · have := hck.cel _ z rfl _ hx rfl
        cases this
      · exact absurd z (by simp)
    | none => exact clOf_lookup hc hx
  have hfree : ∀ x, (x, NameKind.free) ∈ scope.names → ∃ c, X.env.cells.lookup x = some c := fun x hx => I.ok.has x (hck.fr _ hx rfl)
  refine ⟨⟨I.ok.mod, hck.kind, I.ok.glob, I.ok.blt, Nat.le_refl _, fun x y c e1 e2 => ?_, fun x hx => ?_, fun x c hx e => ?_, I.ok.hd, I.ok.frames, .inl rfl, fun b hb => ⟨hbelow b (hfl b hb), fun x c e z => ?_⟩, I.bs, Nat.le_trans I.ok.bsz I.sz, fun b o e hb => ?_, fun b hb z => ?_, I.stack, I.stkFree⟩,
    rfl, I.bare, Un.kept hk, ⟨_, hns, fun i x v e1 e2 e3 => ?_⟩, fun x c e => ?_, I.hok.fresh (Nat.le_refl _), fun x c e => ?_, fun p hp => absurd (show p ∈ ([] : List (Addr × Obj)) from hp) (by simp), I.hok.kept hk, by unfold srcSt; rw [List.length_map]; exact hck.len⟩
  · rcases lk x c e1 with ⟨a1, _⟩ | ⟨a1, _⟩ <;> rcases lk y c e2 with ⟨a2, _⟩ | ⟨a2, _⟩
    · exact name_of_addr ok.apart a1 a2
    · exact absurd (Nat.lt_of_lt_of_le (old _ _ a2) (Nat.le_of_succ_le (up _ _ a1))) (Nat.lt_irrefl _)
    · exact absurd (Nat.lt_of_lt_of_le (old _ _ a1) (Nat.le_of_succ_le (up _ _ a2))) (Nat.lt_irrefl _)
    · exact I.ok.inj x y c a1 a2
  · cases q : scope.names.lookup x with
    | none =>
      have hx' : (relabel scope X.env).names.lookup x = some .cell ∨ (relabel scope X.env).names.lookup x = some .free := hx
      rw [hkind0 x q] at hx'
      rcases hx' with z | z <;> cases z
    | some k =>
      have hx' : (relabel scope X.env).names.lookup x = some .cell ∨ (relabel scope X.env).names.lookup x = some .free := hx
      rw [hkind x k q] at hx'
      cases k with
      | free =>
        obtain ⟨c, hc⟩ := hfree x (PySem.mem_of_lookup q)
        exact ⟨c, frc x c (PySem.mem_of_lookup q) hc⟩
      | cell =>
        obtain ⟨c, hc⟩ := cell_has (n := s.heap.objs.size + 1) q
        exact ⟨c, by show (cellsFrom _ _ _).lookup x = _; rw [eapp, lookup_app, hc]; rfl⟩
      | _ => rcases hx' with z | z <;> cases z
  · have hx' : (scope.names.lookup x == some .cell) = true := hx
    have q : scope.names.lookup x = some .cell := by simpa using hx'
    rcases lk x c e with ⟨a, _⟩ | ⟨a, b⟩
    · have := up _ _ a; show s.heap.objs.size ≤ c; omega
    · obtain ⟨d, hd⟩ := cell_has (n := s.heap.objs.size + 1) q
      rw [hd] at b; cases b
  · subst z
    rcases lk x c e with ⟨a, _⟩ | ⟨a, _⟩
    · exact absurd (Nat.lt_of_lt_of_le (hfl c hb) (Nat.le_of_succ_le (up _ _ a))) (Nat.lt_irrefl _)
    · exact (hf c hb).2.2.2.2.1 x c a rfl
  · rcases (hf b hb).2.2.2.1 with z | z
    · exact I.ok.noex b o e z
    · exact absurd (Nat.lt_of_lt_of_le (Heap.lt_size e) (Nat.le_trans I.ok.bsz z)) (Nat.lt_irrefl _)
  · rcases List.mem_cons.mp (I.stkSub b z) with y | y
    · exact (fpl b hb).2.1 y
    · exact (fpl b hb).2.2 y
  · have e2' : (srcSt src σ)[i]? = some (some v) := e2
    unfold srcSt at e2'
    rw [List.getElem?_map] at e2'
    cases q : src[i]? with
    | none => rw [q] at e2'; cases e2'
    | some o =>
      rw [q] at e2'
      cases o with
      | none => cases e2'
      | some j =>
        have e2'' : (σ[j]?).join = some v := Option.some.inj e2'
        have ej : σ[j]? = some (some v) := by
          cases q2 : σ[j]? with
          | none => rw [q2] at e2''; cases e2''
          | some o2 => rw [q2] at e2''; exact congrArg some e2''
        obtain ⟨h1, h2⟩ := hck.sr i j x q e1
        have hm := PySem.mem_of_lookup h2
        obtain ⟨mX, hnX, hlX⟩ := I.loc
        have hvis : Vis X.env.scope x := by
          rcases hck.fr _ hm rfl with z | z
          · exact .inr (.inl z)
          · exact .inr (.inr z)
        obtain ⟨u, ru, look⟩ := hlX j x v h1 ej hvis
        refine ⟨u, ru, .inr ?_⟩
        have hcell : ∃ c, X.env.cells.lookup x = some c ∧ s.heap.IsCell c (some u) := by
          rcases look with ⟨z, _⟩ | ⟨_, c, z1, z2⟩
          · have z' : X.env.scope.names.lookup x = some .local := z
            rcases hck.fr _ hm rfl with y | y <;> (rw [z'] at y; cases y)
          · exact ⟨c, z1, z2⟩
        obtain ⟨c, c1, c2⟩ := hcell
        refine ⟨?_, c, frc x c hm c1, c2.keeps hk⟩
        show (relabel scope X.env).names.lookup x = some .cell ∨ (relabel scope X.env).names.lookup x = some .free
        rw [hkind x _ h2]
        by_cases hc : (NameKind.free == NameKind.free && X.env.scope.kind == .function && X.env.kindOf x == some .cell) = true
        · rw [if_pos hc]; exact .inl rfl
        · rw [if_neg hc]; exact .inr rfl
  · rcases lk x c e with ⟨a, _⟩ | ⟨a, _⟩
    · exact ⟨_, (ok.empty x c a).1⟩
    · obtain ⟨v, q⟩ := I.cell x c a
      exact ⟨v, q.keeps hk⟩
  · rcases lk x c e with ⟨a, _⟩ | ⟨a, _⟩
    · exact I.hok.fresh (by have := up _ _ a; omega)
    · exact I.freeC x c a

/-- behind the block -/
theorem comp_end {X : Cx} {N' : List Str} {scope : Scope} {pins : List (Addr × Obj)} {σ σ' : St} {H H5 : Hp} {s s5 : Shared} {fp : List Addr} {cells : List (Str × Addr)} {h' : Heap}
    (I : Inv X pins σ H s) (hf : ∀ b ∈ fp, FpOk X pins H b) (J : Inv (cxComp X N' scope s.heap.objs.size cells s H fp) [] σ' H5 s5) (hs : Heap.SameBut s.heap.objs.size s5.heap h') :
    Inv X pins σ H5 { s5 with heap := h' } := by
  have neC : ∀ b o, s.heap.get? b = some o → b ≠ s.heap.objs.size := fun b o e => Nat.ne_of_lt (Heap.lt_size e)
  have u : Un (frs X.stack) fp H H5 s.heap s5.heap := J.base
  refine I.call' (s' := { s5 with heap := h' }) (ch := fp) J.os ⟨fun b o e n hb hx => ?_, fun b o e n hb hx => ?_, fun b o e n hx => u.free b o e n hx, fun b o e hx => ?_, u.tups, u.frzs, u.tbls⟩ (fun b o e => ?_) J.bare fun b hb => ⟨(hf b hb).2.2.2.1, (hf b hb).2.1, (hf b hb).2.2.2.2.1, (hf b hb).2.2.2.2.2⟩
  · exact (hs.2 b (neC b o e)).trans (u.keep b o e n hb hx)
  · obtain ⟨sl, q⟩ := u.slot b o e n hb hx
    exact ⟨sl, (hs.2 b (neC b o e)).trans q⟩
  · obtain ⟨o', q⟩ := u.there b o e hx
    exact ⟨o', (hs.2 b (neC b o e)).trans q⟩
  · have fr : H5 s.heap.objs.size = none := J.free
    refine (J.hok b o e).stay (fun c w' hc q => (hs.2 c ?_).trans q) (fun _ q => q) fun _ _ q => q
    rintro rfl
    rcases hc with z | hc
    · rw [← z, fr] at e; cases e
    · rw [fr] at hc; cases hc

theorem wpAny_compEnv {M : Model} {A : Around} {E : Value → Shared → Prop} {s : Shared} {scope : Scope} {globals : Addr} {closure : List (Str × Addr)} {qual : Str} {outer : Env} {Q : Env → Shared → Prop}
    (h : Q { scope := scope, locals := s.heap.objs.size, globals := globals, cells := cellsFrom (s.heap.objs.size + 1) scope.names closure, qual := qual, func := none, code := outer.code, frame := outer.frame, builtins := outer.builtins }
      { s with heap := pushCells (s.heap.push { cls := .type "dict", data := .dict #[] }) scope.names }) :
    wpAny M A (newFunctionEnv scope globals closure [] qual none .none (some outer)) Q E s := by
  simp only [newFunctionEnv, Option.isSome_some, if_true]
  refine wpAny_bind (wpAny_alloc ?_)
  refine wpAny_bind (wpAny_layCells _ (fun name kind cells => by cases hkc : kind == NameKind.cell <;> simp [hkc]) _ _ _ _ ?_)
  rw [show ({ s with heap := s.heap.push { cls := .type "dict", data := .dict #[] } } : Shared).heap.objs.size = s.heap.objs.size + 1 from Heap.size_push ..]
  refine wpAny_bind ?_
  rw [List.forIn_nil]
  exact wpAny_pure (wpAny_pure h)


theorem comp_loop {X' : Cx} {R : Result → Shared → Prop} {elt tg iter : Expr} {ifs : List Expr} {scope : Scope} {pos : Pos} {g : TG} {tc : TT} {te : TE} {J : It} {fp : List Addr} {it D : Addr} {tn : Nat → Heap → Prop} {W : Nat → Nat → St → Hp → Prop}
    {QD : Hp → Prop} {σ0 : St} {H0 : Hp} {s4 : Shared} {m0 : Nat} (hx : X'.xe = fun _ _ => False) (hcalm : X'.calm = true) (I4 : Inv X' [] σ0 H0 s4) (T : Turn X'.prog X'.w X'.K tg J fp it tn) (tn4 : tn 0 s4.heap)
    (stat : ∀ H' : Hp, (∀ b ∈ fp, H' b = none) → ∀ b ∈ fp, FpOk X' [] H' b) (fr0 : ∀ b ∈ fp, H0 b = none) (w0 : W 0 m0 σ0 H0)
    (turn : ∀ i m σ' H', W i m σ' H' → (J.stop i H' ∧ QD H') ∨ (J.go i H' ∧ ∃ N : St → Hp → Prop, (∀ σ2 H2, N σ2 H2 → ∃ m', m' < m ∧ W (i + 1) m' σ2 H2) ∧
      ∀ x H2, J.yld i H' x H2 → g x σ' H2 fun σ3 H3 => tc σ3 H3 fun b H4 => if b = true then te σ3 H4 fun v H5 => ∃ ys, H5 D = some (.lst ys) ∧ ys.length < sizeLine ∧ N σ3 (upd H5 D (.lst (ys ++ [v]))) else N σ3 H4))
    (hg : PG X' tg g) (hif : PIf X' ifs tc) (he : PE X' elt te) (hend : ∀ σ' H' s', Inv X' [] σ' H' s' → QD H' → R (.ok .next) s') :
    codeAny (model X'.prog X'.w) X'.A (.compLoop (.ListComp elt [⟨tg, iter, ifs, 0⟩] scope pos) 0 (.ref it) (.ref D) X'.env) R s4 := by
  have nox : ∀ {α : Type} {t : Sem α} {Q Q' : α → Shared → Prop} {E : Value → Shared → Prop} {s : Shared}, wpAny (model X'.prog X'.w) X'.A t Q X'.xe s → (∀ a s, Q a s → Q' a s) → wpAny (model X'.prog X'.w) X'.A t Q' E s :=
    fun h hQ => wpAny_mono h hQ fun _ _ z => by rw [hx] at z; exact z.elim
  refine compLoopT (fun n s' => ∃ i σ' H', Inv X' [] σ' H' s' ∧ tn i s'.heap ∧ (∀ b ∈ fp, H' b = none) ∧ W i n σ' H') ?_ m0 ⟨0, σ0, H0, I4, tn4, fr0, w0⟩
  rintro n s3 ⟨i, σ3, H3, I3, st3, fr3, w3⟩
  rcases turn i n σ3 H3 w3 with ⟨stop, qn⟩ | ⟨go, N, hN, step⟩
  · refine nox (T.done X' rfl rfl rfl hcalm i [] s3 σ3 H3 X'.xe I3 (stat H3 fr3) st3 stop) fun r s4 ⟨hr, I4⟩ => ?_
    subst hr
    exact hend σ3 H3 s4 I4 qn
  · refine nox (T.item X' rfl rfl rfl hcalm i [] s3 σ3 H3 X'.xe I3 (stat H3 fr3) st3 go) fun r s4 ⟨u, hr, h4⟩ => ?_
    subst hr
    refine nox h4 fun _ s5 ⟨x, H5, I5, r5, y5, st5, fr5⟩ => ?_
    have I5' := I5.pinned (stat H5 fr5) (T.obj _ _ st5)
    refine nox (hg _ s5 σ3 H5 x u _ I5' r5 (step x H5 y5)) fun _ s6 ⟨σ6, H6, I6, q6⟩ => ?_
    have again : ∀ {σ7 : St} {H7 : Hp} {s7 : Shared}, Inv X' ([] ++ pinsAt fp s5.heap) σ7 H7 s7 → N σ7 H7 → ∃ m, m < n ∧ ∃ i σ' H', Inv X' [] σ' H' s7 ∧ tn i s7.heap ∧ (∀ b ∈ fp, H' b = none) ∧ W i m σ' H' := fun {σ7 H7 s7} I7 n7 => by
      obtain ⟨m', hm, w7⟩ := hN σ7 H7 n7
      refine ⟨m', hm, i + 1, σ7, H7, I7.unpinned, T.keep _ _ _ st5 fun b hb o e => (I7.pin (b, o) (List.mem_append_right _ (List.mem_append_right _ (mem_pinsAt hb e)))).1, fun b hb => ?_, w7⟩
      obtain ⟨o, e, d⟩ := T.obj _ _ st5 b hb
      exact (I7.pin (b, o) (List.mem_append_right _ (List.mem_append_right _ (mem_pinsAt hb e)))).2.1
    refine nox (hif _ s6 σ6 H6 _ I6 q6) fun b s7 ⟨H7, I7, q7⟩ => ?_
    cases b with
    | false =>
      rw [if_neg Bool.false_ne_true] at q7 ⊢
      exact again I7 q7
    | true =>
      rw [if_pos rfl] at q7 ⊢
      refine nox (he _ s7 σ6 H7 _ I7 q7) fun v s8 ⟨y, H8, I8, r8, ys, hy, hz, q8⟩ => ?_
      refine nox (mt_append _ s8 σ6 H8 (.ref D) [y] (.ref D) [v] (fun _ H9 => N σ6 H9) I8 rfl (.cons r8 .nil) ⟨D, ys, y, rfl, rfl, hy, hz, q8⟩) fun v9 s9 ⟨_, H9, I9, _, q9⟩ => ?_
      exact again I9 q9

theorem pe_comp {X : Cx} {elt tg iter : Expr} {ifs : List Expr} {scope : Scope} {pos : Pos} {wi : TI} {g : TG} {tc : TT} {te : TE} (N' : List Str) (src : List (Option Nat))
    (hck : compCheck N' src scope X.N X.env.scope = true) (hi : PI X tg iter wi) (hcalm : X.calm = true)
    (hin : ∀ (C : Addr) (cells : List (Str × Addr)) (s : Shared) (H : Hp) (ex : List Addr), PG (cxComp X N' scope C cells s H ex) tg g ∧ PIf (cxComp X N' scope C cells s H ex) ifs tc ∧ PE (cxComp X N' scope C cells s H ex) elt te)
    (hs : ∀ x, foldedSetIterable iter X.env x = pure x := by intro _; rfl) : PE X (.ListComp elt [⟨tg, iter, ifs, 0⟩] scope pos) (tComp src wi g tc te) := by
  intro pins s σ H Q I h
  have ck := compCk hck
  rw [eval_ListComp]
  have hcl := closureFor_of (scope := scope) (env := X.env) fun y hy e => I.ok.has y.1 (ck.fr y hy e)
  refine wpAny_comprehension_free (use := none) rfl hs hcl ck.kind ck.loc (thn (hi pins s σ H _ I h) fun v s1 h1 => thn h1 fun itv s2 h2 => ?_)
  obtain ⟨it, fp, tn, J, H2, e, I2, T, st2, f2, W⟩ := h2
  subst e
  have hD := I2.fresh
  obtain ⟨W, ⟨m0, w0⟩, turn⟩ := W _ hD
  have I3 := I2.lnew (its := []) (ys := []) (t' := s2.toks) .nil (Nat.zero_le _)
  have fpD : ∀ b ∈ fp, b < s2.heap.objs.size := fun b hb => by obtain ⟨o, q, _⟩ := T.obj _ _ st2 b hb; exact Heap.lt_size q
  have f3 : ∀ b ∈ fp, FpOk X pins (upd H2 s2.heap.objs.size (.lst [])) b := fun b hb => ⟨by rw [upd_ne (Nat.ne_of_lt (fpD b hb))]; exact (f2 b hb).1, (f2 b hb).2⟩
  refine wpAny_newObj_type (wpAny_compEnv ?_)
  generalize hs3 : ({ s2 with heap := s2.heap.push { cls := .type "list", data := .seq ([] : List Value).toArray }, toks := s2.toks } : Shared) = s3 at I3
  have hs3' : ({ s2 with heap := s2.heap.push { cls := .type "list", data := .seq ([] : List Value).toArray } } : Shared) = s3 := hs3
  have fp3 : ∀ b ∈ fp, b < s3.heap.objs.size := fun b hb => by
    rw [← hs3]
    show b < (s2.heap.push _).objs.size
    rw [Heap.size_push]
    exact Nat.lt_succ_of_lt (fpD b hb)
  have I4 := comp_start (s4 := { s3 with heap := pushCells (s3.heap.push { cls := .type "dict", data := .dict #[] }) scope.names }) ck I3 f3 fp3 ⟨_, rfl⟩
  have tn4 : tn 0 (pushCells (s3.heap.push { cls := .type "dict", data := .dict #[] }) scope.names) := T.keep _ _ _ st2 fun b hb o e => pushCells_keeps _ _ b o (Heap.get?_push_of_some _ (by rw [← hs3]; exact Heap.get?_push_of_some _ e))
  obtain ⟨hg, hif, he⟩ := hin s3.heap.objs.size (cellsFrom (s3.heap.objs.size + 1) scope.names (clOf X.env.cells scope.names [])) s3 (upd H2 s2.heap.objs.size (.lst [])) fp
  have stat : ∀ H' : Hp, (∀ b ∈ fp, H' b = none) → ∀ b ∈ fp, FpOk (cxComp X N' scope s3.heap.objs.size (cellsFrom (s3.heap.objs.size + 1) scope.names (clOf X.env.cells scope.names [])) s3 (upd H2 s2.heap.objs.size (.lst [])) fp) [] H' b := fun H' hn b hb =>
    ⟨hn b hb, (I4.ok.exf b hb).1, I4.ok.exfs b hb, .inl hb, fun x c e => (I4.ok.exf b hb).2 x c e, fun p hp => absurd (show p ∈ ([] : List (Addr × Obj)) from hp) (by simp)⟩
  have T' : Turn X.prog X.w X.K tg J fp it tn := T
  have fr0 : ∀ b ∈ fp, upd H2 s2.heap.objs.size (.lst []) b = none := fun b hb => (f3 b hb).1
  have L := comp_loop (X' := cxComp X N' scope s3.heap.objs.size (cellsFrom (s3.heap.objs.size + 1) scope.names (clOf X.env.cells scope.names [])) s3 (upd H2 s2.heap.objs.size (.lst [])) fp) (R := compPost (model X.prog X.w) X.A X.xe none (EP X pins σ Q) (Value.ref s2.heap.objs.size) s3.heap.objs.size) (iter := iter) (scope := scope) (pos := pos) (QD := fun H' => Q (.ref s2.heap.objs.size) H') rfl hcalm I4 T' tn4 stat fr0 w0 turn hg hif he
    (fun σ' H' s' J' q => by
      obtain ⟨mm, hn, _⟩ := J'.loc
      exact ⟨mm, hn, fun h' hs' => ⟨.ref s2.heap.objs.size, H', comp_end I3 f3 J' hs', rfl, q⟩⟩)
  exact codeAny_compStart_list L (T.self _ _ _ _ _ tn4 L)
end L2

set_option Elab.async false
set_option linter.all false
set_option maxRecDepth 100000
set_option maxHeartbeats 4000000
namespace L2
open PySem PySem.Spec PyProof.Rows
section
variable {X : Cx}
theorem b_abs : bootBuiltins "abs" = some (.builtin "abs") := by decide +kernel
theorem b_len : bootBuiltins "len" = some (.builtin "len") := by decide +kernel
theorem b_min : bootBuiltins "min" = some (.builtin "min") := by decide +kernel
theorem b_max : bootBuiltins "max" = some (.builtin "max") := by decide +kernel
theorem b_sum : bootBuiltins "sum" = some (.builtin "sum") := by decide +kernel
theorem b_all : bootBuiltins "all" = some (.builtin "all") := by decide +kernel
theorem b_isinstance : bootBuiltins "isinstance" = some (.builtin "isinstance") := by decide +kernel
theorem b_int : bootBuiltins "int" = some (.type "int") := by decide +kernel
theorem b_bool : bootBuiltins "bool" = some (.type "bool") := by decide +kernel
theorem b_str : bootBuiltins "str" = some (.type "str") := by decide +kernel
theorem b_tuple : bootBuiltins "tuple" = some (.type "tuple") := by decide +kernel
theorem b_list : bootBuiltins "list" = some (.type "list") := by decide +kernel
theorem b_sorted : bootBuiltins "sorted" = some (.builtin "sorted") := by decide +kernel

/-! // by a positive divisor below 2 ^ 4096 -/
def CDivL (i j : Int) : Prop := 0 < j ∧ j < 2 ^ 4096
theorem log2_lt_of {y : Int} (h0 : 0 < y) (h : y < 2 ^ 4096) : y.natAbs.log2 < 9000 := by
  have hn : y.natAbs < 2 ^ 4096 := by
    have : (y.natAbs : Int) = y := by omega
    have h2 : (y.natAbs : Int) < ((2 ^ 4096 : Nat) : Int) := by rw [this]; simpa using h
    exact Int.ofNat_lt.mp h2
  have := (Nat.log2_lt (by omega)).mpr hn
  omega
theorem op_fdivL : OpR X (binaryOp .FloorDiv) (rI CDivL fun i j => .int (i / j)) := opI fun i j _ _ _ _ _ hc q => by
  refine floordiv_int (by have := hc.1; omega) ?_ (.inl (PyProof.noPylong_of_log2 (log2_lt_of hc.1 hc.2)))
  rw [Int.fdiv_eq_ediv_of_nonneg i (by have := hc.1; omega)]
  exact q

/-! isinstance with a built-in class -/
def rIsi (K : PySem.W.Frag) : List V → Hp → VK → Prop := fun xs H Q => ∃ x T t b, xs = [x, .ty T] ∧ TyOf K H x t ∧ PySem.W.kitOne K t (.type T) = some b ∧ Q (.bl b) H
theorem call_isi {K : PySem.W.Frag} (hK : X.K = K) : CallR X (.builtin "isinstance") (rIsi K) := by
  subst hK
  intro pins s σ H xs us Q I r h
  obtain ⟨x, T, t, b, rfl, ty, e, q⟩ := h
  obtain ⟨u, w', rfl, r1, r2⟩ := vals2 r
  cases r2
  exact isinst_ok I r1 ty e fun tk => ⟨.bl b, H, I.tok _, rfl, q⟩
theorem ki_ii {K : PySem.W.Frag} : PySem.W.kitOne K (.type "int") (.type "int") = some true := rfl
theorem ki_ib {K : PySem.W.Frag} : PySem.W.kitOne K (.type "int") (.type "bool") = some false := by with_unfolding_all rfl
theorem ki_bi {K : PySem.W.Frag} : PySem.W.kitOne K (.type "bool") (.type "int") = some true := by with_unfolding_all rfl
theorem ki_ni {K : PySem.W.Frag} : PySem.W.kitOne K (.type "NoneType") (.type "int") = some false := by with_unfolding_all rfl
theorem ki_tt {K : PySem.W.Frag} : PySem.W.kitOne K (.type "tuple") (.type "tuple") = some true := rfl
theorem ki_ti {K : PySem.W.Frag} : PySem.W.kitOne K (.type "tuple") (.type "int") = some false := by with_unfolding_all rfl

/-! the rules that name K, by any K that it is -/
theorem ix_listK {K : PySem.W.Frag} (hK : X.K = K) : IxR X (rIxL K) := by subst hK; exact ix_list
theorem ix_tupK {K : PySem.W.Frag} (hK : X.K = K) : IxR X (rIxT K) := by subst hK; exact ix_tup
theorem call_lenK {K : PySem.W.Frag} (hK : X.K = K) : CallR X (.builtin "len") (fun xs H Q => ∃ p ys, xs = [.ref p] ∧ (SqL K H p ys ∨ SqT K H p ys) ∧ Q (.int ys.length) H) := by subst hK; exact call_len_seq
theorem call_tupleK {K : PySem.W.Frag} (hK : X.K = K) : CallR X (.type "tuple") (fun xs H Q => ∃ p ys, xs = [.ref p] ∧ ((SqL K H p ys ∧ ∀ l, H l = none → Q (.ref l) (upd H l (.tup ys))) ∨ (SqT K H p ys ∧ Q (.ref p) H))) := by subst hK; exact call_tuple_of
theorem call_listK {K : PySem.W.Frag} (hK : X.K = K) : CallR X (.type "list") (fun xs H Q => ∃ p ys, xs = [.ref p] ∧ (SqL K H p ys ∨ SqT K H p ys) ∧ ∀ l, H l = none → Q (.ref l) (upd H l (.lst ys))) := by subst hK; exact call_list_of
theorem pi_listK {K : PySem.W.Frag} {tg l : Expr} {tl : TE} (hK : X.K = K) (hl : PE X l tl) : PI X tg l (iList K tl) := by subst hK; exact pi_list hl
theorem pi_tupK {K : PySem.W.Frag} {tg l : Expr} {tl : TE} (hK : X.K = K) (hl : PE X l tl) : PI X tg l (iTup K tl) := by subst hK; exact pi_tup hl
theorem pg_tupK {K : PySem.W.Frag} {pos : Pos} {es : List Expr} {k : Nat} {t : TGs} {n : Nat} (hK : X.K = K) (hc : X.calm = true) (h : PGs X es t)
    (hn : (assignEach es X.env).length = n := by rfl) (hst : (assignEach es X.env).findIdx? (·.1) = none := by rfl) : PG X (.Tuple es k pos) (gTup K n t) := by subst hK; exact pg_tup hc h hn hst
end
end L2
namespace L2
open PySem PySem.Spec PyProof.Rows
/-- a def of the text as it stands behind the top: its object, its name, its binding -/
structure DefAt (K : PySem.W.Frag) (mg : Str → Option Value) (x : Str) (st : Stmt) (ps : List Str) (f : Addr) (fd : FuncData) : Prop where
  fn : Fun K x x st f fd
  mg : mg x = some (.ref f)
  bi : Binds K fd ps []
end L2

set_option Elab.async false
set_option linter.all false
set_option maxRecDepth 100000
set_option maxHeartbeats 4000000
namespace L2
open PySem PySem.Spec PyProof.Rows
theorem ne_symm' {a b : Addr} (h : a ≠ b) : b ≠ a := fun e => h e.symm
theorem iteB {c : Prop} [Decidable c] {A B : Prop} (h1 : c → A) (h2 : ¬ c → B) : if decide c = true then A else B := by
  by_cases h : c
  · rw [if_pos (decide_eq_true h)]; exact h1 h
  · rw [if_neg (by rw [decide_eq_false h]; decide)]; exact h2 h
theorem iteNB {c : Prop} [Decidable c] {A B : Prop} (h1 : ¬ c → A) (h2 : c → B) : if (!decide c) = true then A else B := by
  by_cases h : c
  · rw [if_neg (by rw [decide_eq_true h]; decide)]; exact h2 h
  · rw [if_pos (by rw [decide_eq_false h]; rfl)]; exact h1 h
theorem upd_self {H : Hp} {b : Addr} {o : HO} (h : H b = some o) : upd H b o = H := by
  funext x
  unfold upd
  split
  · rename_i e; rw [e, h]
  · rfl
theorem two4096 : (10 : Int) ^ 61 < 2 ^ 4096 := by decide +kernel
theorem lt4096 {n : Int} (h : n ≤ 10 ^ 61) : n < 2 ^ 4096 := Int.lt_of_le_of_lt h two4096

/-- an if whose ways meet: M holds behind either -/
def tIfJ (c : TT) (t u : TS) : TS := fun D σ H => ∃ M : St → Hp → Prop, tIfS c t u { D with nx := M } σ H ∧ ∀ σ' H', M σ' H' → D.nx σ' H'
theorem ps_ifJ {X : Cx} {pos : Pos} {c : Expr} {a b : List Stmt} {tc : TT} {t u : TS} (hc : PT X c tc) (ha : PSs X a t) (hb : PSs X b u) : PS X (.If c a b pos) (tIfJ tc t u) := by
  intro pins s σ H D I h
  obtain ⟨M, h1, h2⟩ := h
  refine thn (ps_if hc ha hb pins s σ H { D with nx := M } I h1) fun f s1 q => ?_
  cases f with
  | next => obtain ⟨σ', H', I', m⟩ := q; exact ⟨σ', H', I', h2 _ _ m⟩
  | brk => exact q
  | cont => exact q
  | ret u => exact q
theorem atI_ints {ns : List Int} {i : Int} (h0 : 0 ≤ i) (h : i < (ns.map V.int).length) : ∃ z, atI (ns.map V.int) i = some (.int z) := by
  have hl : i.toNat < ns.length := by rw [List.length_map] at h; omega
  refine ⟨ns[i.toNat], ?_⟩
  have q : atI (ns.map V.int) ((i.toNat : Nat) : Int) = some (.int ns[i.toNat]) := atI_nat (by rw [List.getElem?_map, List.getElem?_eq_getElem hl]; rfl)
  rwa [show ((i.toNat : Nat) : Int) = i by omega] at q
theorem abs_nn (i : Int) : 0 ≤ (if i < 0 then -i else i) := by split <;> omega

@[irreducible] def Hold (p : Prop) : Prop := p
theorem Hold.mk {p : Prop} (h : p) : Hold p := by unfold Hold; exact h
theorem Hold.out {p : Prop} (h : Hold p) : p := by unfold Hold at h; exact h

/-- all but the object at b stands as it stood -/
def KeepBut (b : Addr) (H H' : Hp) : Prop := ∀ x o, x ≠ b → H x = some o → H' x = some o
theorem KeepBut.upd {b : Addr} {H : Hp} {o : HO} : KeepBut b H (upd H b o) := fun x o hx h => by rw [upd_ne hx]; exact h
theorem KeepBut.refl {b : Addr} {H : Hp} : KeepBut b H H := fun _ _ _ h => h
theorem KeepBut.trans {b : Addr} {H H1 H2 : Hp} (h : KeepBut b H H1) (h' : KeepBut b H1 H2) : KeepBut b H H2 := fun x o hx e => h' x o hx (h x o hx e)
theorem KeepBut.put {b : Addr} {H H1 : Hp} {o : HO} (h : KeepBut b H H1) : KeepBut b H (L2.upd H1 b o) := h.trans .upd
theorem KeepBut.new {b p : Addr} {H H1 : Hp} {o : HO} (h : KeepBut b H H1) (hp : H1 p = none) : KeepBut b H (L2.upd H1 p o) := fun x o hx e => by
  have e1 := h x o hx e
  rw [upd_ne (ne_of_none e1 hp)]
  exact e1
theorem KeepBut.same {b : Addr} {H0 H H' : Hp} (h : KeepBut b H H') (s : Same H0 H) (hb : H0 b = none) : Same H0 H' := fun x o e => h x o (ne_of_none e hb) (s x o e)
theorem Same.new {p : Addr} {H H1 : Hp} {o : HO} (h : Same H H1) (hp : H1 p = none) : Same H (L2.upd H1 p o) := fun x o e => by
  have e1 := h x o e
  rw [upd_ne (ne_of_none e1 hp)]
  exact e1
theorem Same.sqT {K : PySem.W.Frag} {H H' : Hp} {a : Addr} {xs : List V} (e : Same H H') (h : SqT K H a xs) : SqT K H' a xs := by
  rcases h with (h | ⟨o, h⟩) | h
  · exact .inl (.inl (e _ _ h))
  · exact .inl (.inr ⟨o, e _ _ h⟩)
  · exact .inr h
theorem Same.none {H H' : Hp} {p : Addr} (e : Same H H') (h : H' p = none) : H p = none := e.free h
end L2

set_option Elab.async false
set_option linter.all false
set_option maxRecDepth 100000
set_option maxHeartbeats 4000000
namespace L2
open PySem PySem.Spec PyProof.Rows

/-! ### min of a list, with a default -/
section
variable {prog : Program} {w : World} {A : Around} {R : Result → Shared → Prop} {I : Addr} {fp wr : List Addr} {n : Nat} {P : Nat → Value → Prop} {St : Nat → Heap → Prop} {kw : List (Str × Value)}
theorem min_loopD (W : Walks prog w A.in1 I fp wr n P St) (bt : Nat → Nat → Bool) (hcmp : CmpOf prog w A.in1 .Lt P bt) (S : Addr) (hSf : S ∉ fp) :
    ∀ (k j : Nat) (s : Shared) (vb : Value) (c : Nat), n - (j + 1) = k → j + 1 ≤ n → St (j + 1) s.heap → P (argBest bt j) vb →
    s.heap.get? S = some { cls := .type "list", dict := none, data := .seq #[vb, vb] c, slots := #[] } →
    (∀ v h' tk, P (argBest bt (n - 1)) v → (∀ b o, b ∉ wr → b ≠ S → s.heap.get? b = some o → h'.get? b = some o) → R (.ok (.ret v)) { s with heap := h', toks := tk }) →
    codeAny (model prog w) A (.builtin "min.loop" ⟨[.ref I, .none, .ref S], kw⟩) R s := by
  have hSw : S ∉ wr := fun h => hSf (W.sub _ h)
  have hname : (toString "min" ++ toString ".loop" : String) = "min.loop" := by decide
  intro k
  induction k with
  | zero =>
    intro j s vb c hk hj hst hPb hS hR
    have hin : j + 1 = n := by omega
    refine codeAny_builtin F.entry_min_loop ?_
    rw [Around.under_plainId F.plain_min_loop _]
    show wpAny _ A.in1 (seqItems? (.ref S) >>= _) _ _ s
    refine wpAny_bind (wpAny_seqItems hS rfl ?_)
    show wpAny _ A.in1 (tryCatch (pyNext (.ref I)) _ >>= _) _ _ s
    refine wpAny_bind (wpAny_tryCatch (W.done s _ _ (hin ▸ hst) fun h' tk hk' => ?_))
    have hS' := hk' S _ hSw hS
    show wpAny _ A.in1 (updateSeq S (fun _ => #[]) >>= _) _ _ _
    refine wpAny_bind ?_
    refine wpAny_updateSeq hS' rfl (wpAny_bind (wpAny_letGo (wpAny_pure ?_)))
    refine hR vb _ tk (by rw [← hin]; exact hPb) fun b o hbw hbS e => (Heap.get?_update_other _ _ (Ne.symm hbS)).trans (hk' b o hbw e)
  | succ k ih =>
    intro j s vb c hk hj hst hPb hS hR
    have hlt : j + 1 < n := by omega
    refine codeAny_builtin F.entry_min_loop ?_
    rw [Around.under_plainId F.plain_min_loop _]
    show wpAny _ A.in1 (seqItems? (.ref S) >>= _) _ _ s
    refine wpAny_bind (wpAny_seqItems hS rfl ?_)
    show wpAny _ A.in1 (tryCatch (pyNext (.ref I)) _ >>= _) _ _ s
    refine wpAny_bind (wpAny_tryCatch (W.item (j + 1) s _ _ hlt hst fun v h' tk hP hst' hk' => ?_))
    have hS' := hk' S _ hSw hS
    show wpAny _ A.in1 (tryCatch (holding [v, v] (richCompare .Lt v vb >>= _)) _ >>= _) _ _ _
    refine wpAny_bind (wpAny_tryCatch (wpAny_holding (wpAny_bind (hcmp (j + 1) (argBest bt j) v vb _ _ _ hP hPb ?_))))
    refine wpAny_bind (wpAny_holding (wpAny_truthy_bool ?_))
    refine wpAny_bind (wpAny_letGo (wpAny_pure ?_))
    cases hb : bt (j + 1) (argBest bt j) with
    | true =>
      simp only [if_true]
      refine wpAny_bind ?_
      refine wpAny_updateSeq hS' rfl (wpAny_bind (wpAny_letGo ?_))
      rw [hname]
      refine wpAny_pure ⟨plainId_quiet F.plain_min_loop _, ih (j + 1) _ v _ (by omega) hlt (W.frame _ _ _ hst' fun b hbf o e => ?_) (by simp only [argBest, hb, if_true]; exact hP) (Heap.get?_update_self _ hS' rfl)
        fun v' h'' tk'' hP' hk'' => ?_⟩
      · exact (Heap.get?_update_other _ _ (fun h : S = b => hSf (by rw [h]; exact hbf))).trans e
      · exact hR v' h'' tk'' hP' fun b o hbw hbS e => hk'' b o hbw hbS ((Heap.get?_update_other _ _ (Ne.symm hbS)).trans (hk' b o hbw e))
    | false =>
      simp only [Bool.false_eq_true, if_false]
      refine wpAny_bind (wpAny_letGo ?_)
      rw [hname]
      refine wpAny_pure ⟨plainId_quiet F.plain_min_loop _, ih (j + 1) _ vb c (by omega) hlt hst' (by simp only [argBest, hb, Bool.false_eq_true, if_false]; exact hPb) hS' fun v' h'' tk'' hP' hk'' => ?_⟩
      exact hR v' h'' tk'' hP' fun b o hbw hbS e => hk'' b o hbw hbS (hk' b o hbw e)
theorem min_firstD (W : Walks prog w A.in1 I fp wr n P St) (bt : Nat → Nat → Bool) (hcmp : CmpOf prog w A.in1 .Lt P bt) (S : Addr) (hSf : S ∉ fp) {s : Shared} {c : Nat} {d : Value} (hst : St 0 s.heap)
    (hS : s.heap.get? S = some { cls := .type "list", dict := none, data := .seq #[] c, slots := #[] })
    (h0 : n = 0 → ∀ h' tk, (∀ b o, b ∉ wr → b ≠ S → s.heap.get? b = some o → h'.get? b = some o) → R (.ok (.ret d)) { s with heap := h', toks := tk })
    (hR : 0 < n → ∀ v h' tk, P (argBest bt (n - 1)) v → (∀ b o, b ∉ wr → b ≠ S → s.heap.get? b = some o → h'.get? b = some o) → R (.ok (.ret v)) { s with heap := h', toks := tk }) :
    codeAny (model prog w) A (.builtin "min.loop" ⟨[.ref I, .none, .ref S], [(Str.ofString "default", d)]⟩) R s := by
  have hSw : S ∉ wr := fun h => hSf (W.sub _ h)
  have hname : (toString "min" ++ toString ".loop" : String) = "min.loop" := by decide
  refine codeAny_builtin F.entry_min_loop ?_
  rw [Around.under_plainId F.plain_min_loop _]
  show wpAny _ A.in1 (seqItems? (.ref S) >>= _) _ _ s
  refine wpAny_bind (wpAny_seqItems hS rfl ?_)
  show wpAny _ A.in1 (tryCatch (pyNext (.ref I)) _ >>= _) _ _ s
  rcases Nat.eq_zero_or_pos n with hn | hn
  · refine wpAny_bind (wpAny_tryCatch (W.done s _ _ (hn ▸ hst) fun h' tk hk' => ?_))
    show wpAny _ A.in1 (rule _ >>= _) _ _ _
    refine wpAny_bind (wpAny_rule (wpAny_pure ?_))
    exact h0 hn h' tk fun b o hbw _ e => hk' b o hbw e
  · refine wpAny_bind (wpAny_tryCatch (W.item 0 s _ _ hn hst fun v h' tk hP hst' hk' => ?_))
    have hS' := hk' S _ hSw hS
    show wpAny _ A.in1 (updateSeq S (fun _ => #[v, v]) >>= _) _ _ _
    refine wpAny_bind ?_
    refine wpAny_updateSeq hS' rfl ?_
    rw [hname]
    refine wpAny_pure ⟨plainId_quiet F.plain_min_loop _, min_loopD W bt hcmp S hSf _ 0 _ v _ rfl hn (W.frame _ _ _ hst' fun b hbf o e => ?_) hP (Heap.get?_update_self _ hS' rfl) fun v' h'' tk'' hP' hk'' => ?_⟩
    · exact (Heap.get?_update_other _ _ (fun h : S = b => hSf (by rw [h]; exact hbf))).trans e
    · exact hR hn v' h'' tk'' hP' fun b o hbw hbS e => hk'' b o hbw hbS ((Heap.get?_update_other _ _ (Ne.symm hbS)).trans (hk' b o hbw e))
end
theorem args_minD (a d : Value) : argsOk "min" ⟨[a], [(Str.ofString "default", d)]⟩ := by unfold argsOk; kernel_rfl
theorem argBest_le (bt : Nat → Nat → Bool) : ∀ k, argBest bt k ≤ k
  | 0 => Nat.le_refl _
  | k + 1 => by
    unfold argBest
    split
    · exact Nat.le_refl _
    · exact Nat.le_succ_of_le (argBest_le bt k)
theorem argBest_min (val : Nat → Int) : ∀ k j, j ≤ k → val (argBest (fun i j => decide (val i < val j)) k) ≤ val j
  | 0, j, h => by have : j = 0 := by omega
                  subst this; exact Int.le_refl _
  | k + 1, j, h => by
    have ih := argBest_min val k
    unfold argBest
    by_cases hb : val (k + 1) < val (argBest (fun i j => decide (val i < val j)) k)
    · rw [if_pos (by simpa using hb)]
      by_cases hj : j = k + 1
      · subst hj; exact Int.le_refl _
      · have := ih j (by omega); omega
    · rw [if_neg (by simpa using hb)]
      by_cases hj : j = k + 1
      · subst hj; omega
      · exact ih j (by omega)
def rMinD (K : PySem.W.Frag) : V → V → Hp → VK → Prop := fun x d H Q => ∃ a ns, x = .ref a ∧ SqL K H a (ns.map V.int) ∧ (ns = [] → Q d H) ∧ ∀ m ∈ ns, (∀ y ∈ ns, m ≤ y) → Q (.int m) H
theorem vals_at {ns : List Int} {its : List Value} (r : Vals (ns.map V.int) its) {i : Nat} {v : Value} (h : its[i]? = some v) : ∃ z t, ns[i]? = some z ∧ v = Value.int z t := by
  have hl := r.length
  rw [List.length_map] at hl
  have hi : i < its.length := (List.getElem?_eq_some_iff.mp h).1
  obtain ⟨u, e1, q⟩ := r.get (i := i) (x := .int ns[i]) (by rw [List.getElem?_map, List.getElem?_eq_getElem (by omega)]; rfl)
  rw [h] at e1; cases e1
  obtain ⟨t, rfl⟩ := q
  exact ⟨_, t, List.getElem?_eq_getElem (by omega), rfl⟩
theorem run_minD {X : Cx} {pins : List (Addr × Obj)} {σ : St} {H : Hp} {s : Shared} {x d : V} {u w' : Value} {Q : VK} (hc : X.calm = true) (I : Inv X pins σ H s) (rx : RelV x u) (rd : RelV d w') (h : rMinD X.K x d H Q) :
    wpAny (model X.prog X.w) X.A (call (.builtin "min") [u] [(Str.ofString "default", w')]) (EP X pins σ Q) X.xe s := by
  obtain ⟨a, ns, rfl, hS, q0, qm⟩ := h
  cases rx
  obtain ⟨its, rv, pl, hz⟩ := I.list hS
  have hl := rv.length
  rw [List.length_map] at hl
  have hname : (toString "min" ++ toString ".loop" : String) = "min.loop" := by decide
  refine kmb_tree F.kind_min F.plain_min F.entry_min (args_minD _ _) ?_
  show wpAny _ X.A.in1 (Builtin.Builtins.bindParams "min" ["key", "default"] 0 ⟨[], [(Str.ofString "default", w')]⟩ >>= _) _ _ s
  refine wpAny_bind (wpAny_of_eq (show Builtin.Builtins.bindParams "min" ["key", "default"] 0 ⟨[], [(Str.ofString "default", w')]⟩ = pure [none, some w'] from rfl) ?_)
  refine wpAny_bind (wpAny_pure ?_)
  refine wpAny_bind (wpAny_pyIter_list pl.isList ?_)
  have hal : a < s.heap.objs.size := by obtain ⟨o, _, e, _⟩ := pl; exact Heap.lt_size e
  have W := Walks.list (prog := X.prog) (w := X.w) (A := X.A.in1) (I.ok.hd hc) s.heap.objs.size a (Nat.ne_of_lt hal) its.toArray
  refine wpAny_bind (wpAny_newObj_type ?_)
  generalize hs2 : s.heap.push _ = h2
  have hsz2 : h2.objs.size = s.heap.objs.size + 1 := by rw [← hs2, Heap.size_push]
  have hk2 : ∀ b o, s.heap.get? b = some o → h2.get? b = some o := fun b o e => by rw [← hs2]; exact Heap.get?_push_of_some _ e
  have hSf : h2.objs.size ∉ [s.heap.objs.size, a] := by
    rw [hsz2]
    intro z
    rcases List.mem_cons.mp z with z | z
    · exact absurd z (Nat.succ_ne_self _)
    · have z' : s.heap.objs.size + 1 = a := by simpa using z
      exact absurd (Nat.lt_of_lt_of_le hal (by rw [← z']; exact Nat.le_succ _)) (Nat.lt_irrefl _)
  have st0 : (h2.push { cls := .type "list", data := .seq ([] : List Value).toArray }).IsListIter s.heap.objs.size a 0 ∧ (h2.push { cls := .type "list", data := .seq ([] : List Value).toArray }).IsList a its.toArray := by
    refine ⟨⟨_, Heap.get?_push_of_some _ (by rw [← hs2]; exact Heap.get?_push_size _ rfl), rfl, rfl⟩, ?_⟩
    obtain ⟨o, e, r⟩ := pl.isList
    exact ⟨o, Heap.get?_push_of_some _ (hk2 _ _ e), r⟩
  let val : Nat → Int := fun i => ns.getD i 0
  have hval : ∀ i v, its.toArray[i]? = some v → ∃ t, v = Value.int (val i) t := fun i v e => by
    obtain ⟨z, t, e1, e2⟩ := vals_at rv (i := i) (v := v) (by rw [List.getElem?_toArray] at e; exact e)
    refine ⟨t, ?_⟩
    rw [e2]
    show Value.int z t = Value.int (ns.getD i 0) t
    rw [List.getD_eq_getElem?_getD, e1]
    rfl
  rw [hname]
  have nx : ∀ (h' : Heap) (tk : Nat), (∀ b o, b ∉ [s.heap.objs.size] → b ≠ h2.objs.size → (h2.push { cls := .type "list", data := .seq ([] : List Value).toArray }).get? b = some o → h'.get? b = some o) → Inv X pins σ H { s with heap := h', toks := tk } := fun h' tk k => I.kept fun b o e => by
    refine k b o ?_ ?_ (Heap.get?_push_of_some _ (hk2 b o e))
    · intro z
      have z' : b = s.heap.objs.size := by simpa using z
      exact absurd (Heap.lt_size e) (by rw [z']; exact Nat.lt_irrefl _)
    · intro z
      exact absurd (Heap.lt_size e) (by rw [z, hsz2]; exact Nat.not_lt.mpr (Nat.le_succ _))
  refine wpAny_pure ⟨plainId_quiet F.plain_min_loop _, min_firstD (d := w') W _ (CmpOf.ints_lt val hval) h2.objs.size hSf st0 (Heap.get?_push_size _ rfl) (fun hn h' tk k => ?_) fun hn v h' tk hP k => ?_⟩
  · have e : ns = [] := by
      have : its.toArray.size = 0 := hn
      have : its.length = 0 := by simpa using this
      exact List.length_eq_zero_iff.mp (by omega)
    exact ⟨d, H, nx h' tk k, rd, q0 e⟩
  · obtain ⟨z, t, e1, e2⟩ := vals_at rv (i := argBest (fun i j => decide (val i < val j)) (its.toArray.size - 1)) (v := v) (by rw [List.getElem?_toArray] at hP; exact hP)
    subst e2
    have hv : val (argBest (fun i j => decide (val i < val j)) (its.toArray.size - 1)) = z := by
      show ns.getD _ 0 = z
      rw [List.getD_eq_getElem?_getD, e1]
      rfl
    refine ⟨.int z, H, nx h' tk k, ⟨t, rfl⟩, qm z (List.mem_of_getElem? e1) fun y hy => ?_⟩
    obtain ⟨j, hj, e3⟩ := List.mem_iff_getElem.mp hy
    have := argBest_min val (its.toArray.size - 1) j (by simp only [List.size_toArray]; omega)
    rw [hv] at this
    have e4 : val j = y := by
      show ns.getD j 0 = y
      rw [List.getD_eq_getElem?_getD, List.getElem?_eq_getElem hj]
      exact e3
    omega
def tMinD (K : PySem.W.Frag) (ta td : TE) : TE := fun σ H Q => ta σ H fun x H1 => td σ H1 fun d H2 => rMinD K x d H2 Q
theorem pe_minD {X : Cx} {K : PySem.W.Frag} {e de : Expr} {ta td : TE} {p pos kp : Pos} (hK : X.K = K) (hc : X.calm = true) (hg : Gl X "min") (hm : X.mg "min" = none) (ha : PE X e ta) (hd : PE X de td)
    (hs : starEach [e] X.env = [(false, eval e X.env)] := by rfl) :
    PE X (.Call (.Name "min" p) [e] [⟨some "default", de, kp⟩] pos) (tMinD K ta td) := by
  subst hK
  intro pins s σ H Q I h
  refine wpAny_Call_Name_kw (ld_blt I hg hm b_min ?_)
  have h' : tCons ta tNil σ H (fun vs H1 => match vs with | [x] => td σ H1 fun d H2 => rMinD X.K x d H2 Q | _ => False) := h
  refine callWith_kw (env := X.env) (thn ((pa_cons ha pa_nil hs) pos pins s σ H _ I h') fun us s1 ⟨vs, H1, I1, r1, q1⟩ => ?_) (by rw [hs]; rfl) (by rw [hs]; rfl)
  match vs, q1, r1 with
  | [x], q1, r1 =>
    obtain ⟨u, rfl, ru⟩ := vals1 r1
    refine kws_cons (thn (hd pins s1 σ H1 _ I1 q1) fun v s2 ⟨d, H2, I2, rd, q2⟩ => kws_nil ?_)
    exact run_minD hc I2 ru rd q2
end L2

set_option Elab.async false
set_option linter.all false
set_option maxRecDepth 100000
set_option maxHeartbeats 4000000
namespace L2
open PySem PySem.Spec PyProof.Rows

/-! ### data: what a value tells, through tuples and lists -/
inductive D where
  | non | bl (b : Bool) | int (i : Int) | str (x : Str) | tup (l : List D) | lst (l : List D)
mutual
def Den (K : PySem.W.Frag) (H : Hp) : D → V → Prop
  | .non, v => v = .non
  | .bl b, v => v = .bl b
  | .int i, v => v = .int i
  | .str x, v => v = .str x
  | .tup l, v => ∃ a xs, v = .ref a ∧ SqT K H a xs ∧ DenL K H l xs
  | .lst l, v => ∃ a xs, v = .ref a ∧ SqL K H a xs ∧ DenL K H l xs
def DenL (K : PySem.W.Frag) (H : Hp) : List D → List V → Prop
  | [], xs => xs = []
  | d :: l, xs => ∃ x r, xs = x :: r ∧ Den K H d x ∧ DenL K H l r
end
mutual
theorem Den.mono {K : PySem.W.Frag} {H H' : Hp} (s : Same H H') : ∀ (d : D) (v : V), Den K H d v → Den K H' d v
  | .non, _, h => h
  | .bl _, _, h => h
  | .int _, _, h => h
  | .str _, _, h => h
  | .tup l, _, h => by
    unfold Den at h ⊢
    obtain ⟨a, xs, e, q, r⟩ := h
    exact ⟨a, xs, e, s.sqT q, DenL.mono s l xs r⟩
  | .lst l, _, h => by
    unfold Den at h ⊢
    obtain ⟨a, xs, e, q, r⟩ := h
    exact ⟨a, xs, e, s.seq q, DenL.mono s l xs r⟩
theorem DenL.mono {K : PySem.W.Frag} {H H' : Hp} (s : Same H H') : ∀ (l : List D) (xs : List V), DenL K H l xs → DenL K H' l xs
  | [], _, h => h
  | d :: l, _, h => by
    unfold DenL at h ⊢
    obtain ⟨x, r, e, q, t⟩ := h
    exact ⟨x, r, e, Den.mono s d x q, DenL.mono s l r t⟩
end
theorem DenL.length {K : PySem.W.Frag} {H : Hp} : ∀ {l : List D} {xs : List V}, DenL K H l xs → xs.length = l.length
  | [], _, h => by unfold DenL at h; subst h; rfl
  | d :: l, _, h => by
    unfold DenL at h
    obtain ⟨x, r, rfl, _, t⟩ := h
    rw [List.length_cons, List.length_cons, DenL.length t]
theorem DenL.get {K : PySem.W.Frag} {H : Hp} : ∀ {l : List D} {xs : List V} {i : Nat} {d : D}, DenL K H l xs → l[i]? = some d → ∃ x, xs[i]? = some x ∧ Den K H d x
  | [], _, _, _, _, e => by simp at e
  | d :: l, _, 0, d', h, e => by
    unfold DenL at h
    obtain ⟨x, r, rfl, q, t⟩ := h
    have e' : d = d' := by simpa using e
    subst e'
    exact ⟨x, rfl, q⟩
  | d :: l, _, i + 1, _, h, e => by
    unfold DenL at h
    obtain ⟨x, r, rfl, q, t⟩ := h
    obtain ⟨y, e1, e2⟩ := DenL.get (i := i) t (by simpa using e)
    exact ⟨y, by simpa using e1, e2⟩
theorem DenL.get' {K : PySem.W.Frag} {H : Hp} {l : List D} {xs : List V} {i : Nat} {x : V} (h : DenL K H l xs) (e : xs[i]? = some x) : ∃ d, l[i]? = some d ∧ Den K H d x := by
  have hl := h.length
  have hi : i < l.length := by rw [← hl]; exact (List.getElem?_eq_some_iff.mp e).1
  obtain ⟨y, e1, e2⟩ := h.get (i := i) (List.getElem?_eq_getElem hi)
  rw [e] at e1; cases e1
  exact ⟨_, List.getElem?_eq_getElem hi, e2⟩
theorem DenL.append {K : PySem.W.Frag} {H : Hp} : ∀ {l m : List D} {xs ys : List V}, DenL K H l xs → DenL K H m ys → DenL K H (l ++ m) (xs ++ ys)
  | [], _, _, _, h, h' => by unfold DenL at h; subst h; exact h'
  | d :: l, _, _, _, h, h' => by
    unfold DenL at h
    obtain ⟨x, r, rfl, q, t⟩ := h
    show DenL K H (d :: (l ++ _)) _
    unfold DenL
    exact ⟨x, r ++ _, rfl, q, DenL.append t h'⟩
theorem DenL.snoc {K : PySem.W.Frag} {H : Hp} {l : List D} {xs : List V} {d : D} {x : V} (h : DenL K H l xs) (q : Den K H d x) : DenL K H (l ++ [d]) (xs ++ [x]) :=
  h.append (by unfold DenL; exact ⟨x, [], rfl, q, by unfold DenL; rfl⟩)
theorem DenL.nil {K : PySem.W.Frag} {H : Hp} : DenL K H [] [] := by unfold DenL; rfl
theorem DenL.cons {K : PySem.W.Frag} {H : Hp} {l : List D} {xs : List V} {d : D} {x : V} (q : Den K H d x) (h : DenL K H l xs) : DenL K H (d :: l) (x :: xs) := by unfold DenL; exact ⟨x, xs, rfl, q, h⟩
theorem DenL.uncons {K : PySem.W.Frag} {H : Hp} {l : List D} {xs : List V} {d : D} (h : DenL K H (d :: l) xs) : ∃ x r, xs = x :: r ∧ Den K H d x ∧ DenL K H l r := by unfold DenL at h; exact h
theorem DenL.unnil {K : PySem.W.Frag} {H : Hp} {xs : List V} (h : DenL K H [] xs) : xs = [] := by unfold DenL at h; exact h
theorem DenL.ints {K : PySem.W.Frag} {H : Hp} : ∀ (ns : List Int), DenL K H (ns.map D.int) (ns.map V.int)
  | [] => DenL.nil
  | n :: ns => DenL.cons (by unfold Den; rfl) (DenL.ints ns)
theorem Den.tupI {K : PySem.W.Frag} {H : Hp} {a : Addr} {xs : List V} {l : List D} (h : SqT K H a xs) (q : DenL K H l xs) : Den K H (.tup l) (.ref a) := by unfold Den; exact ⟨a, xs, rfl, h, q⟩
theorem Den.lstI {K : PySem.W.Frag} {H : Hp} {a : Addr} {xs : List V} {l : List D} (h : SqL K H a xs) (q : DenL K H l xs) : Den K H (.lst l) (.ref a) := by unfold Den; exact ⟨a, xs, rfl, h, q⟩
theorem Den.tupE {K : PySem.W.Frag} {H : Hp} {v : V} {l : List D} (h : Den K H (.tup l) v) : ∃ a xs, v = .ref a ∧ SqT K H a xs ∧ DenL K H l xs := by unfold Den at h; exact h
theorem Den.lstE {K : PySem.W.Frag} {H : Hp} {v : V} {l : List D} (h : Den K H (.lst l) v) : ∃ a xs, v = .ref a ∧ SqL K H a xs ∧ DenL K H l xs := by unfold Den at h; exact h
theorem Den.intE {K : PySem.W.Frag} {H : Hp} {v : V} {i : Int} (h : Den K H (.int i) v) : v = .int i := by unfold Den at h; exact h
theorem Den.nonE {K : PySem.W.Frag} {H : Hp} {v : V} (h : Den K H .non v) : v = .non := by unfold Den at h; exact h
theorem Den.strE {K : PySem.W.Frag} {H : Hp} {v : V} {x : Str} (h : Den K H (.str x) v) : v = .str x := by unfold Den at h; exact h
theorem Den.intI {K : PySem.W.Frag} {H : Hp} {i : Int} : Den K H (.int i) (.int i) := by unfold Den; rfl
theorem Den.strI {K : PySem.W.Frag} {H : Hp} {i : Str} : Den K H (.str i) (.str i) := by unfold Den; rfl
theorem Den.nonI {K : PySem.W.Frag} {H : Hp} : Den K H .non .non := by unfold Den; rfl

/-! ### == of values that tell the same -/
mutual
def D.deep : D → Nat
  | .tup l => D.deepL l + 1
  | .lst l => D.deepL l + 1
  | _ => 0
def D.deepL : List D → Nat
  | [] => 0
  | d :: l => max (D.deep d) (D.deepL l)
end
theorem D.deepL_mem : ∀ {l : List D} {i : Nat} {d : D}, l[i]? = some d → D.deep d ≤ D.deepL l
  | [], _, _, e => by simp at e
  | d :: l, 0, d', e => by
    have e' : d = d' := by simpa using e
    subst e'
    unfold D.deepL
    exact Nat.le_max_left _ _
  | d :: l, i + 1, _, e => by
    unfold D.deepL
    exact Nat.le_trans (D.deepL_mem (i := i) (by simpa using e)) (Nat.le_max_right _ _)
theorem all_true (n : Nat) : (List.range n).all (fun _ => true) = true := by simp
theorem eqAt_den {X : Cx} {pins : List (Addr × Obj)} {σ : St} {H : Hp} {s : Shared} (I : Inv X pins σ H s) : ∀ (k : Nat) (d : D) (x y : V) (u v : Value) (A : Around), D.deep d ≤ k → Den X.K H d x → Den X.K H d y → RelV x u → RelV y v → Room k A → SeqAt.EqAt A s u v true := by
  intro k
  induction k with
  | zero =>
    intro d x y u v A hd h1 h2 r1 r2 hr
    cases d with
    | non => cases h1.nonE; cases h2.nonE; cases r1; cases r2; exact SeqAt.EqAt.same _
    | bl b => unfold Den at h1 h2; subst h1; subst h2; cases r1; cases r2; exact SeqAt.EqAt.same _
    | int i => cases h1.intE; cases h2.intE; obtain ⟨t, rfl⟩ := r1; obtain ⟨t', rfl⟩ := r2; have := SeqAt.EqAt.int_int (A := A) (s := s) i t i t'; rwa [beq_self_eq_true] at this
    | str i => cases h1.strE; cases h2.strE; obtain ⟨t, rfl⟩ := r1; obtain ⟨t', rfl⟩ := r2; have := SeqAt.EqAt.str_str (A := A) (s := s) i t i t'; rwa [beq_self_eq_true] at this
    | tup l => unfold D.deep at hd; omega
    | lst l => unfold D.deep at hd; omega
  | succ k ih =>
    intro d x y u v A hd h1 h2 r1 r2 hr
    cases d with
    | non => cases h1.nonE; cases h2.nonE; cases r1; cases r2; exact SeqAt.EqAt.same _
    | bl b => unfold Den at h1 h2; subst h1; subst h2; cases r1; cases r2; exact SeqAt.EqAt.same _
    | int i => cases h1.intE; cases h2.intE; obtain ⟨t, rfl⟩ := r1; obtain ⟨t', rfl⟩ := r2; have := SeqAt.EqAt.int_int (A := A) (s := s) i t i t'; rwa [beq_self_eq_true] at this
    | str i => cases h1.strE; cases h2.strE; obtain ⟨t, rfl⟩ := r1; obtain ⟨t', rfl⟩ := r2; have := SeqAt.EqAt.str_str (A := A) (s := s) i t i t'; rwa [beq_self_eq_true] at this
    | tup l =>
      obtain ⟨a, xs, rfl, q1, d1⟩ := h1.tupE
      obtain ⟨b, ys, rfl, q2, d2⟩ := h2.tupE
      cases r1; cases r2
      by_cases hab : a = b
      · subst hab; exact SeqAt.EqAt.same _
      · obtain ⟨its, v1, t1, _⟩ := I.tuple q1
        obtain ⟨its', v2, t2, _⟩ := I.tuple q2
        have l1 := v1.length
        have l2 := v2.length
        have e1 := d1.length
        have e2 := d2.length
        have key := SeqAt.RcAt.tuples (A := A) (s := s) (e := fun _ => true) t1 t2 hr.units0 fun j h1 h2 => by
          have h1' : j < its.length := by simpa using h1
          have h2' : j < its'.length := by simpa using h2
          have hj : j < l.length := by omega
          obtain ⟨x, ex, dx⟩ := d1.get (List.getElem?_eq_getElem hj)
          obtain ⟨y, ey, dy⟩ := d2.get (List.getElem?_eq_getElem hj)
          obtain ⟨u, eu, ru⟩ := v1.get ex
          obtain ⟨w, ew, rw'⟩ := v2.get ey
          have g1 : its.toArray[j] = u := by
            have := List.getElem?_eq_getElem h1'
            rw [eu] at this
            simpa using (Option.some.inj this).symm
          have g2 : its'.toArray[j] = w := by
            have := List.getElem?_eq_getElem h2'
            rw [ew] at this
            simpa using (Option.some.inj this).symm
          rw [g1, g2]
          refine ih _ x y u w A.in1 ?_ dx dy ru rw' hr.in1
          have := D.deepL_mem (List.getElem?_eq_getElem hj)
          unfold D.deep at hd
          omega
        rw [all_true, show (its.toArray.size == its'.toArray.size) = true by simp; omega] at key
        exact SeqAt.EqAt.of_refs hab key
    | lst l =>
      obtain ⟨a, xs, rfl, q1, d1⟩ := h1.lstE
      obtain ⟨b, ys, rfl, q2, d2⟩ := h2.lstE
      cases r1; cases r2
      by_cases hab : a = b
      · subst hab; exact SeqAt.EqAt.same _
      · obtain ⟨its, v1, t1, _⟩ := I.list q1
        obtain ⟨its', v2, t2, _⟩ := I.list q2
        have l1 := v1.length
        have l2 := v2.length
        have e1 := d1.length
        have e2 := d2.length
        have key := SeqAt.RcAt.lists (A := A) (s := s) (e := fun _ => true) t1.isList t2.isList (by simp; omega) hr.units0 fun j h1 h2 => by
          have h1' : j < its.length := by simpa using h1
          have h2' : j < its'.length := by simpa using h2
          have hj : j < l.length := by omega
          obtain ⟨x, ex, dx⟩ := d1.get (List.getElem?_eq_getElem hj)
          obtain ⟨y, ey, dy⟩ := d2.get (List.getElem?_eq_getElem hj)
          obtain ⟨u, eu, ru⟩ := v1.get ex
          obtain ⟨w, ew, rw'⟩ := v2.get ey
          have g1 : its.toArray[j] = u := by
            have := List.getElem?_eq_getElem h1'
            rw [eu] at this
            simpa using (Option.some.inj this).symm
          have g2 : its'.toArray[j] = w := by
            have := List.getElem?_eq_getElem h2'
            rw [ew] at this
            simpa using (Option.some.inj this).symm
          rw [g1, g2]
          refine ih _ x y u w A.in1 ?_ dx dy ru rw' hr.in1
          have := D.deepL_mem (List.getElem?_eq_getElem hj)
          unfold D.deep at hd
          omega
        rw [all_true] at key
        exact SeqAt.EqAt.of_refs hab key

section
variable {X : Cx}
/-- the two tell the same -/
def rEqD (K : PySem.W.Frag) (k : Nat) (b : Bool) : R2 := fun x y H Q => ∃ d, Den K H d x ∧ Den K H d y ∧ D.deep d ≤ k ∧ 0 < D.deep d ∧ Q (.bl b) H
theorem eqIt {pins : List (Addr × Obj)} {σ : St} {H : Hp} {s : Shared} (I : Inv X pins σ H s) {k : Nat} {l : List D} {xs ys : List V} {its its' : List Value} {A : Around} (hd : D.deepL l ≤ k) (d1 : DenL X.K H l xs) (d2 : DenL X.K H l ys) (v1 : Vals xs its) (v2 : Vals ys its') (hr : Room k A) :
    ∀ j (h1 : j < its.toArray.size) (h2 : j < its'.toArray.size), SeqAt.EqAt A s its.toArray[j] its'.toArray[j] true := fun j h1 h2 => by
  have l1 := v1.length
  have l2 := v2.length
  have e1 := d1.length
  have e2 := d2.length
  have h1' : j < its.length := by simpa using h1
  have h2' : j < its'.length := by simpa using h2
  have hj : j < l.length := by omega
  obtain ⟨x, ex, dx⟩ := d1.get (List.getElem?_eq_getElem hj)
  obtain ⟨y, ey, dy⟩ := d2.get (List.getElem?_eq_getElem hj)
  obtain ⟨u, eu, ru⟩ := v1.get ex
  obtain ⟨w, ew, rw'⟩ := v2.get ey
  have g1 : its.toArray[j] = u := by
    have := List.getElem?_eq_getElem h1'
    rw [eu] at this
    simpa using (Option.some.inj this).symm
  have g2 : its'.toArray[j] = w := by
    have := List.getElem?_eq_getElem h2'
    rw [ew] at this
    simpa using (Option.some.inj this).symm
  rw [g1, g2]
  exact eqAt_den I k _ x y u w A (Nat.le_trans (D.deepL_mem (List.getElem?_eq_getElem hj)) hd) dx dy ru rw' hr
theorem op_eqD {K : PySem.W.Frag} {k : Nat} (hr : Room k X.A) (hK : X.K = K) : OpR X (compareOp .Eq) (rEqD K k true) := by
  subst hK
  intro pins s σ H x y v u Q I rx ry h
  obtain ⟨d, h1, h2, hd, h0, q⟩ := h
  cases d with
  | tup l =>
    obtain ⟨a, xs, rfl, q1, d1⟩ := h1.tupE
    obtain ⟨b, ys, rfl, q2, d2⟩ := h2.tupE
    cases rx; cases ry
    obtain ⟨its, v1, t1, _⟩ := I.tuple q1
    obtain ⟨its', v2, t2, _⟩ := I.tuple q2
    obtain ⟨k', rfl⟩ : ∃ k', k = k' + 1 := ⟨k - 1, by unfold D.deep at hd; omega⟩
    refine SeqAt.RcAt.tuples (e := fun _ => true) t1 t2 hr.units0 (eqIt I (by unfold D.deep at hd; omega) d1 d2 v1 v2 hr.in1) X.prog X.w X.xe _ ?_
    have l1 := v1.length
    have l2 := v2.length
    have e1 := d1.length
    have e2 := d2.length
    rw [all_true, show (its.toArray.size == its'.toArray.size) = true by simp; omega]
    exact ⟨.bl true, H, I, rfl, q⟩
  | lst l =>
    obtain ⟨a, xs, rfl, q1, d1⟩ := h1.lstE
    obtain ⟨b, ys, rfl, q2, d2⟩ := h2.lstE
    cases rx; cases ry
    obtain ⟨its, v1, t1, _⟩ := I.list q1
    obtain ⟨its', v2, t2, _⟩ := I.list q2
    obtain ⟨k', rfl⟩ : ∃ k', k = k' + 1 := ⟨k - 1, by unfold D.deep at hd; omega⟩
    have l1 := v1.length
    have l2 := v2.length
    have e1 := d1.length
    have e2 := d2.length
    refine SeqAt.RcAt.lists (e := fun _ => true) t1.isList t2.isList (by simp; omega) hr.units0 (eqIt I (by unfold D.deep at hd; omega) d1 d2 v1 v2 hr.in1) X.prog X.w X.xe _ ?_
    rw [all_true]
    exact ⟨.bl true, H, I, rfl, q⟩
  | _ => exact absurd h0 (by unfold D.deep; omega)
theorem op_neD {K : PySem.W.Frag} {k : Nat} (hr : Room k X.A) (hK : X.K = K) : OpR X (compareOp .NotEq) (rEqD K k false) := by
  subst hK
  intro pins s σ H x y v u Q I rx ry h
  obtain ⟨d, h1, h2, hd, h0, q⟩ := h
  cases d with
  | tup l =>
    obtain ⟨a, xs, rfl, q1, d1⟩ := h1.tupE
    obtain ⟨b, ys, rfl, q2, d2⟩ := h2.tupE
    cases rx; cases ry
    obtain ⟨its, v1, t1, _⟩ := I.tuple q1
    obtain ⟨its', v2, t2, _⟩ := I.tuple q2
    obtain ⟨k', rfl⟩ : ∃ k', k = k' + 1 := ⟨k - 1, by unfold D.deep at hd; omega⟩
    refine SeqAt.RcNeAt.tuples (e := fun _ => true) t1 t2 hr.units0 (eqIt I (by unfold D.deep at hd; omega) d1 d2 v1 v2 hr.in1) X.prog X.w X.xe _ ?_
    have l1 := v1.length
    have l2 := v2.length
    have e1 := d1.length
    have e2 := d2.length
    rw [all_true, show (its.toArray.size == its'.toArray.size) = true by simp; omega]
    exact ⟨.bl false, H, I, rfl, q⟩
  | lst l =>
    obtain ⟨a, xs, rfl, q1, d1⟩ := h1.lstE
    obtain ⟨b, ys, rfl, q2, d2⟩ := h2.lstE
    cases rx; cases ry
    obtain ⟨its, v1, t1, _⟩ := I.list q1
    obtain ⟨its', v2, t2, _⟩ := I.list q2
    obtain ⟨k', rfl⟩ : ∃ k', k = k' + 1 := ⟨k - 1, by unfold D.deep at hd; omega⟩
    have l1 := v1.length
    have l2 := v2.length
    have e1 := d1.length
    have e2 := d2.length
    refine SeqAt.RcNeAt.lists (e := fun _ => true) t1.isList t2.isList (by simp; omega) hr.units0 (eqIt I (by unfold D.deep at hd; omega) d1 d2 v1 v2 hr.in1) X.prog X.w X.xe _ ?_
    rw [all_true]
    exact ⟨.bl false, H, I, rfl, q⟩
  | _ => exact absurd h0 (by unfold D.deep; omega)
end
end L2

set_option Elab.async false
set_option linter.all false
set_option maxRecDepth 100000
set_option maxHeartbeats 4000000
namespace L2
open PySem PySem.Spec PyProof.Rows
section
variable {X : Cx}
/-! ### t + u, any t and u -/
def rCatA (K : PySem.W.Frag) : R2 := fun x y H Q => ∃ a b xs ys, x = .ref a ∧ y = .ref b ∧ SqT K H a xs ∧ SqT K H b ys ∧ xs.length + ys.length ≤ sizeLine ∧ ∀ p H', Same H H' → SqT K H' p (xs ++ ys) → Q (.ref p) H'
theorem cat_nil {prog : Program} {w : World} {A : Around} {E : Value → Shared → Prop} {s : Shared} {t b : Addr} {ws : List Value} {Q : Value → Shared → Prop} (ht : IsTup s.heap t ([] : List Value).toArray) (hb : IsTup s.heap b ws.toArray) (h1 : Q (.ref b) s) :
    wpAny (model prog w) A (binaryOp .Add (.ref t) (.ref b)) Q E s := by
  obtain ⟨⟨cls, dd, data, sl⟩, ho, hc, n, hd⟩ := id ht
  obtain ⟨⟨cls2, dd2, data2, sl2⟩, ho2, hc2, n2, hd2⟩ := id hb
  simp only at hc hd hc2 hd2
  subst hc hd hc2 hd2
  exact concat_meets ⟨_, ho, rfl⟩ ⟨_, ho2, rfl⟩ noFill_tuple_add seq_tuple_add PySem.F.slot_tuple_add PySem.F.entry_tuple_add (PySem.F.args_tuple_add_2 _ _)
      (tuple_addW0 t b _ ws.toArray n n2 dd dd2 sl sl2 rfl) ⟨ho, ho2, h1⟩
theorem op_catK {K : PySem.W.Frag} (hK : X.K = K) : OpR X (binaryOp .Add) (rCatA K) := by
  subst hK
  intro pins s σ H x y v u Q I rx ry h
  obtain ⟨a, b, xs, ys, e1, e2, ha, hb, hz, q⟩ := h
  by_cases hx : xs = []
  · subst e1; subst e2; subst hx
    cases rx; cases ry
    obtain ⟨its, r1, p1, _⟩ := I.tuple ha
    obtain ⟨its2, r2, p2, _⟩ := I.tuple hb
    obtain rfl : its = [] := r1.nil_iff.mpr rfl
    exact cat_nil p1 p2 ⟨.ref b, H, I, rfl, q b H (Same.refl H) hb⟩
  · refine op_catT pins s σ H x y v u Q I rx ry ⟨a, b, xs, ys, e1, e2, ha, hb, hx, hz, fun z => ?_, fun z p hp => ?_⟩
    · subst z
      exact q a H (Same.refl H) (by rw [List.append_nil]; exact ha)
    · exact q p _ ((Same.refl H).new hp) (SqT.of upd_same)
/-! ### t[lo:hi], any part of it -/
def rSlA (K : PySem.W.Frag) : V → Option Int → Option Int → Hp → VK → Prop := fun x lo hi H Q => ∃ a xs, x = .ref a ∧ SqT K H a xs ∧ ∀ p H', Same H H' → SqT K H' p (cutV xs lo hi) → Q (.ref p) H'
theorem getItem_whole {prog : Program} {w : World} {A : Around} {E : Value → Shared → Prop} {s : Shared} {t sl : Addr} {items : Array Value} {vl vu : Value} {lo hi : Option Int} {Q : Value → Shared → Prop} (ht : IsTup s.heap t items) (hs : s.heap.IsSliceOf sl vl vu .none) (pl : IsPart vl lo) (pu : IsPart vu hi)
    (hw : HT.sIx items.size 0 lo = 0 ∧ HT.sIx items.size items.size hi = items.size) (h : Q (.ref t) s) : wpAny (model prog w) A (getItem (.ref t) (.ref sl)) Q E s := by
  obtain ⟨os, hos, hcs, hds⟩ := id hs
  have hTs : s.TypeIs (.ref sl) "slice" := ⟨os, hos, hcs⟩
  unfold getItem
  try with_reducible refine wpAny_holding ?_
  first | refine wpAny_bind (wpAny_pure ?_) | skip
  refine wpAny_bind (wpAny_sequenceKey ht.typeIs (by decide) ?_)
  refine wpAny_bind (wpAny_callSpecial?_slot (name := Str.ofString "__getitem__") ht.typeIs PyProof.Rows.slot_tuple_getitem
    (wpAny_call_entry PyProof.Rows.slot_tuple_getitem ht.typeIs entry_tuple_getitem ?_ (args_tuple_getitem _ _)))
  show wpAny _ _ (Builtin.Tuple.tupleItemsOf (.ref t) >>= _) _ _ s
  refine wpAny_bind (tupleItemsOf_ ht ?_)
  refine wpAny_bind (wpAny_typeOf hTs ?_)
  rw [if_pos (by decide)]
  refine wpAny_bind (HT.sliceApplied_gen hs pl pu ?_)
  have hyes : ((((HT.sIx items.size 0 lo : Nat) : Int) == 0 && (1 : Int) == 1 && (HT.sIx items.size items.size hi - HT.sIx items.size 0 lo) == items.size) = true) := by
    rw [hw.1, hw.2]
    simp
  show wpAny _ _ (if (((HT.sIx items.size 0 lo : Nat) : Int) == 0 && (1 : Int) == 1 && (HT.sIx items.size items.size hi - HT.sIx items.size 0 lo) == items.size) = true then _ else _) _ _ s
  rw [if_pos hyes]
  refine wpAny_bind (wpAny_bind (wpAny_typeOf ht.typeIs (wpAny_pure ?_)))
  rw [if_pos (by decide)]
  exact wpAny_bind (wpAny_rule (wpAny_pure ⟨_, rfl, wpAny_pure h⟩))
theorem cutV_whole {xs : List V} {lo hi : Option Int} (h : HT.sIx xs.length 0 lo = 0 ∧ HT.sIx xs.length xs.length hi = xs.length) : cutV xs lo hi = xs := by
  unfold cutV
  rw [h.1, h.2]
  simp
theorem sl_tupK {K : PySem.W.Frag} (hK : X.K = K) : SlR X (rSlA K) := by
  subst hK
  intro pins s σ H x v vl vu lo hi sl Q I rx hs pl pu h
  obtain ⟨a, xs, e1, hx, q⟩ := h
  by_cases hw : HT.sIx xs.length 0 lo = 0 ∧ HT.sIx xs.length xs.length hi = xs.length
  · subst e1
    cases rx
    obtain ⟨its, r, ht, hz⟩ := I.tuple hx
    have hlen : its.toArray.size = xs.length := by rw [List.size_toArray]; exact r.length.symm
    refine ⟨"tuple", _, PyProof.Rows.slot_tuple_getitem.lookup, ht.typeIs, ?_⟩
    exact getItem_whole ht hs pl pu (by rw [hlen]; exact hw) ⟨.ref a, H, I, rfl, q a H (Same.refl H) (by rw [cutV_whole hw]; exact hx)⟩
  · exact sl_tup pins s σ H x v vl vu lo hi sl Q I rx hs pl pu ⟨a, xs, e1, hx, hw, fun p hp => q p _ ((Same.refl H).new hp) (SqT.of upd_same)⟩
theorem sl_listK {K : PySem.W.Frag} (hK : X.K = K) : SlR X (rSlL K) := by subst hK; exact sl_list
theorem op_inK {K : PySem.W.Frag} (hK : X.K = K) : OpR X (compareOp .In) (rIn K false) := by subst hK; exact op_in_seq
theorem op_notInK {K : PySem.W.Frag} (hK : X.K = K) : OpR X (compareOp .NotIn) (rIn K true) := by subst hK; exact op_notIn_seq

/-! ### sum of a list of ints -/
theorem call_sumL {K : PySem.W.Frag} (hc : X.calm = true) (hK : X.K = K) : CallR X (.builtin "sum") (fun xs H Q => ∃ a ns, xs = [.ref a] ∧ SqL K H a (ns.map V.int) ∧ PySem.SumFits ns ∧ Q (.int ns.sum) H) := by
  subst hK
  intro pins s σ H xs us Q I r h
  obtain ⟨a, ns, rfl, hS, hfit, q⟩ := h
  obtain ⟨u, rfl, ru⟩ := vals1 r
  cases ru
  obtain ⟨its, rv, pl, hz⟩ := I.list hS
  have hl := rv.length
  rw [List.length_map] at hl
  refine call_sum_walk (wpAny_pyIter_list pl.isList ?_)
  have hal : a < s.heap.objs.size := by obtain ⟨o, _, e, _⟩ := pl; exact Heap.lt_size e
  have W := Walks.list (prog := X.prog) (w := X.w) (A := X.A.in1) (I.ok.hd hc) s.heap.objs.size a (Nat.ne_of_lt hal) its.toArray
  let val : Nat → Int := fun i => ns.getD i 0
  have hval : ∀ i v, its.toArray[i]? = some v → ∃ t, v = Value.int (val i) t := fun i v e => by
    obtain ⟨z, t, e1, e2⟩ := vals_at rv (i := i) (v := v) (by rw [List.getElem?_toArray] at e; exact e)
    refine ⟨t, ?_⟩
    rw [e2]
    show Value.int z t = Value.int (ns.getD i 0) t
    rw [List.getD_eq_getElem?_getD, e1]
    rfl
  have es : its.toArray.size = ns.length := by rw [List.size_toArray]; omega
  refine ⟨_, _, _, _, _, _, val, rfl, W, ⟨⟨_, Heap.get?_push_size _ rfl, rfl, rfl⟩, ?_⟩, fun b hb => ?_, hval, fun j hj => ?_, fun h' tk t' k => ?_⟩
  · obtain ⟨o, e, r⟩ := pl.isList
    exact ⟨o, Heap.get?_push_of_some _ e, r⟩
  · show b < (s.heap.push _).objs.size
    rw [Heap.size_push]
    rcases List.mem_cons.mp hb with z | z
    · rw [z]; exact Nat.lt_succ_self _
    · have z' : b = a := by simpa using z
      rw [z']; exact Nat.lt_succ_of_lt hal
  · rw [es] at hj
    obtain ⟨h1, h2⟩ := hfit j hj
    refine ⟨h1, ?_⟩
    rw [PyProof.Rows.preSum_getD]
    exact h2
  · have e : preSum val its.toArray.size = ns.sum := by
      show preSum (fun i => ns.getD i 0) _ = _
      rw [PyProof.Rows.preSum_getD, es, List.take_length]
    refine ⟨.int ns.sum, H, I.kept (h' := h') (t' := tk) fun b o q => k b o ?_ (Heap.get?_push_of_some _ q), ⟨t', by rw [e]⟩, q⟩
    intro z
    have z' : b = s.heap.objs.size := by simpa using z
    exact absurd (Heap.lt_size q) (by rw [z']; exact Nat.lt_irrefl _)
end

/-! ### a text walked sign by sign -/
def Its (x : Str) : It := ⟨fun i _ => i < x.cps.size, fun i H v H' => H' = H ∧ ∃ c, x.cps[i]? = some c ∧ v = .str ⟨#[c]⟩, fun i _ => x.cps.size ≤ i⟩
theorem turn_str {P : Program} {w : World} {K : PySem.W.Frag} {tg : Expr} {ty : String} {x : Str} {t : Tok} (it : Addr) (hn : ["enumerate", "zip", "dict_itemiterator", "dict_reverseitemiterator", "odict_iterator", "itertools.zip_longest", "itertools.pairwise"].contains ty = false)
    (W : ∀ A : Around, A.handled = none → Walks P w A it [it] [it] x.cps.size (SignAt x) (fun i h => h.IsStrIter it ty x t i))
    (hend : ∀ (A : Around) (s : Shared) (i : Nat) (Q : Option Value → Shared → Prop) (E : Value → Shared → Prop), A.handled = none → s.heap.IsStrIter it ty x t i → x.cps[i]? = none → (∀ h', Heap.ExtBut it s.heap h' → Q none { s with heap := h' }) → wpAny (model P w) A (pyNext (.ref it)) Q E s)
    (hself : ∀ (A : Around) (i : Nat) (s : Shared) (Q : Value → Shared → Prop) (E : Value → Shared → Prop), s.heap.IsStrIter it ty x t i → Q (.ref it) s → wpAny (model P w) A (pyIter (.ref it)) Q E s) : Turn P w K tg (Its x) [it] it (fun i h => h.IsStrIter it ty x t i) where
  mem := by simp
  obj := fun i h st b hb => by
    have e : b = it := by simpa using hb
    subst e
    obtain ⟨o, ho, hc, hd⟩ := st
    exact ⟨o, ho, fun v z => by rw [hd] at z; cases z⟩
  keep := fun i h h' st k => by
    obtain ⟨o, ho, r⟩ := st
    exact ⟨o, k it (by simp) _ ho, r⟩
  item := by
    intro X hP hw hK hc i pins s σ H E I hf st hg
    subst hP hw hK
    obtain ⟨f0, f1, f2, f3, f4, f5⟩ := hf it (by simp)
    refine (W X.A (I.ok.hd hc)).item i s _ _ hg st fun v h' tk hv st' kk => ?_
    obtain ⟨c, u, hcx, rfl⟩ := hv
    have I1 : Inv X pins σ H { s with heap := h', toks := tk } := I.turned (fun b o hb e => kk b o (by simpa using hb) e) f0 f1 f3 f4 f5
    obtain ⟨o, ho, hcl, hd⟩ := id st'
    exact ⟨_, rfl, go_of (s := { s with heap := h', toks := tk }) (n := ty) ho hcl hd hn ⟨.str ⟨#[c]⟩, H, I1, ⟨u, rfl⟩, ⟨rfl, c, hcx, rfl⟩, st', fun b hb => (hf b hb).1⟩⟩
  done := by
    intro X hP hw hK hc i pins s σ H E I hf st hg
    subst hP hw hK
    obtain ⟨f0, f1, f2, f3, f4, f5⟩ := hf it (by simp)
    have hin : x.cps.size ≤ i := hg
    exact hend X.A s i _ E (I.ok.hd hc) st (by simp; omega) fun h' eb => ⟨rfl, I.turned (t' := s.toks) (fun b o hb e => eb b o hb e) f0 f1 f3 f4 f5⟩
  self := fun A i s Q E st h => hself A i s Q E st h
def iStr (tl : TE) : TI := fun σ H R => tl σ H fun v H1 => ∃ x, v = .str x ∧ R (Its x) H1
theorem pi_str {X : Cx} {tg l : Expr} {tl : TE} (hl : PE X l tl) : PI X tg l (iStr tl) := by
  intro pins s σ H R I h
  refine thn (hl pins s σ H _ I h) fun v s1 ⟨v0, H1, I1, r1, q1⟩ => ?_
  obtain ⟨x, e, q⟩ := q1
  subst e
  obtain ⟨t, rfl⟩ := r1
  have fin : ∀ (ty : String) (o : Obj), o = { cls := .type ty, data := .fields #[.str x t, .int 0 0] } → Turn X.prog X.w X.K tg (Its x) [s1.heap.objs.size] s1.heap.objs.size (fun i h => h.IsStrIter s1.heap.objs.size ty x t i) → PIE X pins σ tg R (.ref s1.heap.objs.size) { s1 with heap := s1.heap.push o } := fun ty o eo T => by
    subst eo
    refine ⟨s1.heap.objs.size, [s1.heap.objs.size], _, _, H1, rfl, I1.kept (t' := s1.toks) fun b o e => Heap.get?_push_of_some _ e, T, ⟨_, Heap.get?_push_size _ rfl, rfl, rfl⟩, fun b hb => ?_, q⟩
    have e : b = s1.heap.objs.size := by simpa using hb
    subst e
    exact I1.fpOk (Nat.le_refl _) (I1.hok.fresh (Nat.le_refl _))
  cases ha : x.cps.all (· < 128)
  · exact wpAny_pyIter_wide ha (fin "str_iterator" _ rfl (turn_str _ (by decide) (fun A hA => Walks.strWide hA _ x t) (fun A s i Q E hA st hx hQ => wpAny_pyNext_wide_end hA st hx hQ) fun A i s Q E st h => wpAny_pyIter_striter_wide st h))
  · exact wpAny_pyIter_ascii ha (fin "str_ascii_iterator" _ rfl (turn_str _ (by decide) (fun A hA => Walks.strAscii hA _ x t) (fun A s i Q E hA st hx hQ => wpAny_pyNext_ascii_end hA st hx hQ) fun A i s Q E st h => wpAny_pyIter_striter_ascii st h))
/-- a for over a text -/
theorem for_str {x : Str} {g : TG} {tb : TS} {D : Ends} {σ : St} {H : Hp} (Pv : Nat → St → Hp → Prop) (h0 : Pv 0 σ H)
    (hs : ∀ i c σ H, x.cps[i]? = some c → Pv i σ H → g (.str ⟨#[c]⟩) σ H fun σ2 H2 => tb { D with nx := Pv (i + 1), ct := Pv (i + 1), bk := D.nx } σ2 H2) (hd : ∀ σ H, Pv x.cps.size σ H → D.nx σ H) :
    ∃ W : Nat → Nat → St → Hp → Prop, (∃ m, W 0 m σ H) ∧ ∀ i m σ H, W i m σ H →
      ((Its x).stop i H ∧ D.nx σ H) ∨ ((Its x).go i H ∧ ∃ N : St → Hp → Prop, (∀ σ' H', N σ' H' → ∃ m', m' < m ∧ W (i + 1) m' σ' H') ∧ ∀ v H', (Its x).yld i H v H' → g v σ H' fun σ2 H2 => tb { D with nx := N, ct := N, bk := D.nx } σ2 H2) := by
  refine ⟨fun i m σ H => m = x.cps.size - i ∧ i ≤ x.cps.size ∧ Pv i σ H, ⟨x.cps.size, by simp, Nat.zero_le _, h0⟩, ?_⟩
  rintro i m σ H ⟨rfl, hi, p⟩
  by_cases hlt : i < x.cps.size
  · refine .inr ⟨hlt, Pv (i + 1), fun σ' H' p' => ⟨x.cps.size - (i + 1), by omega, rfl, hlt, p'⟩, fun v H' y => ?_⟩
    obtain ⟨e, c, hc, rfl⟩ := y
    subst e
    exact hs i c σ _ hc p
  · have e : i = x.cps.size := by omega
    subst e
    exact .inl ⟨Nat.le_refl _, hd σ H p⟩
/-! ### comprehensions: the forms one uses -/
theorem comp_range {lo : Int} {n : Nat} {D : Addr} {g : TG} {tc : TT} {te : TE} {QD : Hp → Prop} {σ : St} {H : Hp} (Pv : Nat → St → Hp → Prop) (h0 : Pv 0 σ (upd H D (.lst [])))
    (hs : ∀ i  σ H, i < n → Pv i σ H → g (.int (lo + i)) σ H fun σ3 H3 => tc σ3 H3 fun b H4 => if b = true then te σ3 H4 fun v H5 => ∃ ys, H5 D = some (.lst ys) ∧ ys.length < sizeLine ∧ Pv (i + 1) σ3 (upd H5 D (.lst (ys ++ [v]))) else Pv (i + 1) σ3 H4)
    (hd : ∀ σ H, Pv n σ H → QD H) :
    ∃ W : Nat → Nat → St → Hp → Prop, (∃ m, W 0 m σ (upd H D (.lst []))) ∧ ∀ i m σ' H', W i m σ' H' →
      ((Itr lo n).stop i H' ∧ QD H') ∨ ((Itr lo n).go i H' ∧ ∃ N : St → Hp → Prop, (∀ σ2 H2, N σ2 H2 → ∃ m', m' < m ∧ W (i + 1) m' σ2 H2) ∧
        ∀ x H2, (Itr lo n).yld i H' x H2 → g x σ' H2 fun σ3 H3 => tc σ3 H3 fun b H4 => if b = true then te σ3 H4 fun v H5 => ∃ ys, H5 D = some (.lst ys) ∧ ys.length < sizeLine ∧ N σ3 (upd H5 D (.lst (ys ++ [v]))) else N σ3 H4) := by
  refine ⟨fun i m σ H => m = n - i ∧ i ≤ n ∧ Pv i σ H, ⟨n, by simp, Nat.zero_le _, h0⟩, ?_⟩
  rintro i m σ H ⟨rfl, hi, p⟩
  by_cases hlt : i < n
  · refine .inr ⟨hlt, Pv (i + 1), fun σ' H' p' => ⟨n - (i + 1), by omega, rfl, hlt, p'⟩, fun x H' y => ?_⟩
    obtain ⟨e, y⟩ := y
    subst e y
    exact hs i σ _ hlt p
  · have e : i = n := by omega
    subst e
    exact .inl ⟨Nat.le_refl _, hd σ H p⟩
theorem comp_tup {K : PySem.W.Frag} {a : Addr} {xs : List V} {D : Addr} {g : TG} {tc : TT} {te : TE} {QD : Hp → Prop} {σ : St} {H : Hp} (Pv : Nat → St → Hp → Prop) (h0 : Pv 0 σ (upd H D (.lst [])))
    (hl : ∀ i σ H, i ≤ xs.length → Pv i σ H → SqT K H a xs)
    (hs : ∀ i x σ H, xs[i]? = some x → Pv i σ H → g x σ H fun σ3 H3 => tc σ3 H3 fun b H4 => if b = true then te σ3 H4 fun v H5 => ∃ ys, H5 D = some (.lst ys) ∧ ys.length < sizeLine ∧ Pv (i + 1) σ3 (upd H5 D (.lst (ys ++ [v]))) else Pv (i + 1) σ3 H4)
    (hd : ∀ σ H, Pv xs.length σ H → QD H) :
    ∃ W : Nat → Nat → St → Hp → Prop, (∃ m, W 0 m σ (upd H D (.lst []))) ∧ ∀ i m σ' H', W i m σ' H' →
      ((Itt K a).stop i H' ∧ QD H') ∨ ((Itt K a).go i H' ∧ ∃ N : St → Hp → Prop, (∀ σ2 H2, N σ2 H2 → ∃ m', m' < m ∧ W (i + 1) m' σ2 H2) ∧
        ∀ x H2, (Itt K a).yld i H' x H2 → g x σ' H2 fun σ3 H3 => tc σ3 H3 fun b H4 => if b = true then te σ3 H4 fun v H5 => ∃ ys, H5 D = some (.lst ys) ∧ ys.length < sizeLine ∧ N σ3 (upd H5 D (.lst (ys ++ [v]))) else N σ3 H4) := by
  refine ⟨fun i m σ H => m = xs.length - i ∧ i ≤ xs.length ∧ Pv i σ H, ⟨xs.length, by simp, Nat.zero_le _, h0⟩, ?_⟩
  rintro i m σ H ⟨rfl, hi, p⟩
  by_cases hlt : i < xs.length
  · have q := hl i σ H hi p
    refine .inr ⟨⟨xs, xs[i], q, by simp [hlt]⟩, Pv (i + 1), fun σ' H' p' => ⟨xs.length - (i + 1), by omega, rfl, hlt, p'⟩, fun x H' y => ?_⟩
    obtain ⟨e, y⟩ := y
    subst e
    exact hs i x σ _ (y xs q) p
  · have e : i = xs.length := by omega
    subst e
    exact .inl ⟨⟨xs, hl _ σ H (Nat.le_refl _) p, Nat.le_refl _⟩, hd σ H p⟩
theorem comp_list {K : PySem.W.Frag} {a : Addr} {xs : List V} {D : Addr} {g : TG} {tc : TT} {te : TE} {QD : Hp → Prop} {σ : St} {H : Hp} (Pv : Nat → St → Hp → Prop) (h0 : Pv 0 σ (upd H D (.lst [])))
    (hl : ∀ i σ H, i ≤ xs.length → Pv i σ H → SqL K H a xs)
    (hs : ∀ i x σ H, xs[i]? = some x → Pv i σ H → g x σ H fun σ3 H3 => tc σ3 H3 fun b H4 => if b = true then te σ3 H4 fun v H5 => ∃ ys, H5 D = some (.lst ys) ∧ ys.length < sizeLine ∧ Pv (i + 1) σ3 (upd H5 D (.lst (ys ++ [v]))) else Pv (i + 1) σ3 H4)
    (hd : ∀ σ H, Pv xs.length σ H → QD H) :
    ∃ W : Nat → Nat → St → Hp → Prop, (∃ m, W 0 m σ (upd H D (.lst []))) ∧ ∀ i m σ' H', W i m σ' H' →
      ((Itl K a).stop i H' ∧ QD H') ∨ ((Itl K a).go i H' ∧ ∃ N : St → Hp → Prop, (∀ σ2 H2, N σ2 H2 → ∃ m', m' < m ∧ W (i + 1) m' σ2 H2) ∧
        ∀ x H2, (Itl K a).yld i H' x H2 → g x σ' H2 fun σ3 H3 => tc σ3 H3 fun b H4 => if b = true then te σ3 H4 fun v H5 => ∃ ys, H5 D = some (.lst ys) ∧ ys.length < sizeLine ∧ N σ3 (upd H5 D (.lst (ys ++ [v]))) else N σ3 H4) := by
  refine ⟨fun i m σ H => m = xs.length - i ∧ i ≤ xs.length ∧ Pv i σ H, ⟨xs.length, by simp, Nat.zero_le _, h0⟩, ?_⟩
  rintro i m σ H ⟨rfl, hi, p⟩
  by_cases hlt : i < xs.length
  · have q := hl i σ H hi p
    refine .inr ⟨⟨xs, xs[i], q, by simp [hlt]⟩, Pv (i + 1), fun σ' H' p' => ⟨xs.length - (i + 1), by omega, rfl, hlt, p'⟩, fun x H' y => ?_⟩
    obtain ⟨e, y⟩ := y
    subst e
    exact hs i x σ _ (y xs q) p
  · have e : i = xs.length := by omega
    subst e
    exact .inl ⟨⟨xs, hl _ σ H (Nat.le_refl _) p, Nat.le_refl _⟩, hd σ H p⟩
theorem comp_str {x : Str} {D : Addr} {g : TG} {tc : TT} {te : TE} {QD : Hp → Prop} {σ : St} {H : Hp} (Pv : Nat → St → Hp → Prop) (h0 : Pv 0 σ (upd H D (.lst [])))
    (hs : ∀ i c σ H, x.cps[i]? = some c → Pv i σ H → g (.str ⟨#[c]⟩) σ H fun σ3 H3 => tc σ3 H3 fun b H4 => if b = true then te σ3 H4 fun v H5 => ∃ ys, H5 D = some (.lst ys) ∧ ys.length < sizeLine ∧ Pv (i + 1) σ3 (upd H5 D (.lst (ys ++ [v]))) else Pv (i + 1) σ3 H4)
    (hd : ∀ σ H, Pv x.cps.size σ H → QD H) :
    ∃ W : Nat → Nat → St → Hp → Prop, (∃ m, W 0 m σ (upd H D (.lst []))) ∧ ∀ i m σ' H', W i m σ' H' →
      ((Its x).stop i H' ∧ QD H') ∨ ((Its x).go i H' ∧ ∃ N : St → Hp → Prop, (∀ σ2 H2, N σ2 H2 → ∃ m', m' < m ∧ W (i + 1) m' σ2 H2) ∧
        ∀ xx H2, (Its x).yld i H' xx H2 → g xx σ' H2 fun σ3 H3 => tc σ3 H3 fun b H4 => if b = true then te σ3 H4 fun v H5 => ∃ ys, H5 D = some (.lst ys) ∧ ys.length < sizeLine ∧ N σ3 (upd H5 D (.lst (ys ++ [v]))) else N σ3 H4) := by
  refine ⟨fun i m σ H => m = x.cps.size - i ∧ i ≤ x.cps.size ∧ Pv i σ H, ⟨x.cps.size, by simp, Nat.zero_le _, h0⟩, ?_⟩
  rintro i m σ H ⟨rfl, hi, p⟩
  by_cases hlt : i < x.cps.size
  · refine .inr ⟨hlt, Pv (i + 1), fun σ' H' p' => ⟨x.cps.size - (i + 1), by omega, rfl, hlt, p'⟩, fun v H' y => ?_⟩
    obtain ⟨e, c, hc, rfl⟩ := y
    subst e
    exact hs i c σ _ hc p
  · have e : i = x.cps.size := by omega
    subst e
    exact .inl ⟨Nat.le_refl _, hd σ H p⟩
end L2

set_option Elab.async false
set_option linter.all false
set_option maxRecDepth 100000
set_option maxHeartbeats 4000000
namespace L2
open PySem PySem.Spec PyProof.Rows
section
variable {X : Cx} {K : PySem.W.Frag} {T id : String} {name : Str} {o e : Expr} {es : List Expr} {to : TE} {t : TA} {r : V → List V → Hp → VK → Prop} {apos cpos : Pos}
theorem pe_bmK (hK : X.K = K) (pa : PlainAttrs T) (slot : Slot T name id) (hty : typeOf (.builtin id) = pure (.type "method_descriptor")) (hm : MtR X id r) (ho : PE X o to) (ha : PA X (e :: es) t)
    (hbase : attributeBase o name X.env (eval o X.env) = eval o X.env := by rfl)
    (hfew : ((backTo cpos (starEach (e :: es) X.env)).all (fun x => !x.1) && (backToKw cpos (keywordEach [] X.env)).all (fun x => x.1.isSome)
      && decide ((e :: es).length + ([] : List Keyword).length + (if ([] : List Keyword).isEmpty then 0 else 1) < 30)) = true := by rfl)
    (hline : (apos.endLine == cpos.line) = true := by rfl) (hs : starEach (e :: es) X.env = (false, eval e X.env) :: starEach es X.env := by rfl) (hplain : (backTo cpos (starEach es X.env)).any (·.1) = false := by rfl) :
    PE X (.Call (.Attribute o name apos) (e :: es) [] cpos) (tBM K T r to t) := by
  subst hK
  exact pe_bm pa slot hty hm ho ha hbase hfew hline hs hplain
end

/-! ### machines -/
structure Mach where
  letters : Int
  rooms : Int
  begins : List Int
  ends : List Int
  doors : List (Int × Str × Int × Int)
def doorD (q : Int × Str × Int × Int) : D := .tup [.int q.1, .str q.2.1, .int q.2.2.1, .int q.2.2.2]
def Mach.D (M : Mach) : D := .tup [.int M.letters, .int M.rooms, .tup (M.begins.map .int), .tup (M.ends.map .int), .tup (M.doors.map doorD)]
/-- the one sign at a place of abc -/
def ltr (i : Nat) : Str := ⟨#[97 + i]⟩
structure DoorOk (letters rooms : Int) (q : Int × Str × Int × Int) : Prop where
  s0 : 0 ≤ q.1
  s1 : q.1 < rooms
  l : ∃ i : Nat, (i : Int) < letters ∧ q.2.1 = ltr i
  g0 : 0 ≤ q.2.2.1
  g1 : q.2.2.1 < rooms
  t0 : 0 ≤ q.2.2.2
  t1 : q.2.2.2 ≤ 3
structure RoomsOk (rooms : Int) (l : List Int) : Prop where
  mem : ∀ r ∈ l, 0 ≤ r ∧ r < rooms
  up : l.Pairwise (· < ·)
structure Mach.Ok (most : Nat) (M : Mach) : Prop where
  l0 : 1 ≤ M.letters
  l1 : M.letters ≤ 3
  r0 : 1 ≤ M.rooms
  r1 : M.rooms ≤ 5
  b : RoomsOk M.rooms M.begins
  e : RoomsOk M.rooms M.ends
  d : ∀ q ∈ M.doors, DoorOk M.letters M.rooms q
  m : M.doors.length ≤ most
theorem RoomsOk.nil {rooms : Int} : RoomsOk rooms [] := ⟨fun _ h => absurd h (by simp), List.Pairwise.nil⟩
theorem abc_at {i : Int} (h0 : 0 ≤ i) (h : i < 3) : atI (Str.ofString "abc").cps.toList i = some (97 + i.toNat) := by
  obtain rfl | rfl | rfl : i = 0 ∨ i = 1 ∨ i = 2 := by omega
  all_goals rfl
theorem RoomsOk.len {rooms : Int} {l : List Int} (h : RoomsOk rooms l) (hr : rooms ≤ 5) : l.length ≤ 5 := by
  have key : ∀ (l : List Int) (lo : Int), l.Pairwise (· < ·) → (∀ r ∈ l, lo ≤ r ∧ r < 5) → (l.length : Int) ≤ max (5 - lo) 0 := by
    intro l
    induction l with
    | nil => intro lo _ _; simp; omega
    | cons a l ih =>
      intro lo hp hm
      obtain ⟨h1, h2⟩ := List.pairwise_cons.mp hp
      have ha := hm a List.mem_cons_self
      have := ih (a + 1) h2 fun r hr => ⟨by have := h1 r hr; omega, (hm r (List.mem_cons_of_mem _ hr)).2⟩
      rw [List.length_cons]
      omega
  have := key l 0 h.up fun r hr' => ⟨(h.mem r hr').1, by have := (h.mem r hr').2; omega⟩
  omega
end L2
namespace L2
open PySem PySem.Spec PyProof.Rows
/-! ### data of tuples alone, kept where the tuples are -/
mutual
def D.tups : D → Bool
  | .lst _ => false
  | .tup l => D.tupsL l
  | _ => true
def D.tupsL : List D → Bool
  | [] => true
  | d :: l => D.tups d && D.tupsL l
end
def TSame (K : PySem.W.Frag) (H H' : Hp) : Prop := ∀ a xs, SqT K H a xs → SqT K H' a xs
theorem TSame.refl {K : PySem.W.Frag} {H : Hp} : TSame K H H := fun _ _ h => h
theorem TSame.trans {K : PySem.W.Frag} {H H1 H2 : Hp} (a : TSame K H H1) (b : TSame K H1 H2) : TSame K H H2 := fun x xs h => b x xs (a x xs h)
theorem TSame.of {K : PySem.W.Frag} {H H' : Hp} (a : Same H H') : TSame K H H' := fun _ _ h => a.sqT h
theorem TSame.put {K : PySem.W.Frag} {H : Hp} {b : Addr} {ys : List V} {o : HO} (h : H b = some (.lst ys)) : TSame K H (upd H b o) := fun a xs q => by
  rcases q with (q | ⟨ob, q⟩) | q
  · exact .inl (.inl (by rw [upd_ne (ne_of q h (by intro z; cases z))]; exact q))
  · exact .inl (.inr ⟨ob, by rw [upd_ne (ne_of q h (by intro z; cases z))]; exact q⟩)
  · exact .inr q
theorem TSame.new {K : PySem.W.Frag} {H : Hp} {b : Addr} {o : HO} (h : H b = none) : TSame K H (upd H b o) := TSame.of ((Same.refl H).new h)
theorem TSame.but {K : PySem.W.Frag} {H H' : Hp} {b : Addr} {ys : List V} (k : KeepBut b H H') (h : H b = some (.lst ys)) : TSame K H H' := fun a xs q => by
  rcases q with (q | ⟨ob, q⟩) | q
  · exact .inl (.inl (k _ _ (ne_of q h (by intro z; cases z)) q))
  · exact .inl (.inr ⟨ob, k _ _ (ne_of q h (by intro z; cases z)) q⟩)
  · exact .inr q
mutual
theorem Den.monoT {K : PySem.W.Frag} {H H' : Hp} (s : TSame K H H') : ∀ (d : D) (v : V), d.tups = true → Den K H d v → Den K H' d v
  | .non, _, _, h => h
  | .bl _, _, _, h => h
  | .int _, _, _, h => h
  | .str _, _, _, h => h
  | .tup l, _, hd, h => by
    unfold Den at h ⊢
    obtain ⟨a, xs, e, q, r⟩ := h
    exact ⟨a, xs, e, s a xs q, DenL.monoT s l xs (by unfold D.tups at hd; exact hd) r⟩
  | .lst l, _, hd, _ => by unfold D.tups at hd; cases hd
theorem DenL.monoT {K : PySem.W.Frag} {H H' : Hp} (s : TSame K H H') : ∀ (l : List D) (xs : List V), D.tupsL l = true → DenL K H l xs → DenL K H' l xs
  | [], _, _, h => h
  | d :: l, _, hd, h => by
    unfold D.tupsL at hd
    rw [Bool.and_eq_true] at hd
    unfold DenL at h ⊢
    obtain ⟨x, r, e, q, t⟩ := h
    exact ⟨x, r, e, Den.monoT s d x hd.1 q, DenL.monoT s l r hd.2 t⟩
end
theorem tupsL_all : ∀ {l : List D}, (∀ d ∈ l, d.tups = true) → D.tupsL l = true
  | [], _ => by unfold D.tupsL; rfl
  | d :: l, h => by
    unfold D.tupsL
    rw [h d List.mem_cons_self, tupsL_all fun x hx => h x (List.mem_cons_of_mem _ hx)]
    rfl
theorem tupsL_ints (l : List Int) : D.tupsL (l.map .int) = true := tupsL_all fun d hd => by
  obtain ⟨i, _, rfl⟩ := List.mem_map.mp hd
  unfold D.tups; rfl
theorem doorD_tups (q : Int × Str × Int × Int) : (doorD q).tups = true := by simp [doorD, D.tups, D.tupsL]
theorem tupsL_doors (l : List (Int × Str × Int × Int)) : D.tupsL (l.map doorD) = true := tupsL_all fun d hd => by
  obtain ⟨i, _, rfl⟩ := List.mem_map.mp hd
  exact doorD_tups i
theorem Mach.D_tups (M : Mach) : M.D.tups = true := by simp [Mach.D, D.tups, D.tupsL, tupsL_ints, tupsL_doors]
theorem Den.mkDoor {K : PySem.W.Frag} {H : Hp} {p : Addr} {a c d : Int} {b : Str} (h : H p = some (.tup [.int a, .str b, .int c, .int d])) : Den K H (doorD (a, b, c, d)) (.ref p) :=
  Den.tupI (SqT.of h) (.cons Den.intI (.cons Den.strI (.cons Den.intI (.cons Den.intI .nil))))
/-- a machine's parts -/
theorem Mach.parts {K : PySem.W.Frag} {H : Hp} {M : Mach} {v : V} (h : Den K H M.D v) : ∃ m b e d ds, v = .ref m ∧ SqT K H m [.int M.letters, .int M.rooms, .ref b, .ref e, .ref d] ∧ SqT K H b (M.begins.map V.int) ∧ SqT K H e (M.ends.map V.int) ∧ SqT K H d ds ∧ DenL K H (M.doors.map doorD) ds := by
  obtain ⟨m, xs, rfl, hT, hL⟩ := h.tupE
  obtain ⟨x0, r0, rfl, h0, hL⟩ := hL.uncons
  obtain ⟨x1, r1, rfl, h1, hL⟩ := hL.uncons
  obtain ⟨x2, r2, rfl, h2, hL⟩ := hL.uncons
  obtain ⟨x3, r3, rfl, h3, hL⟩ := hL.uncons
  obtain ⟨x4, r4, rfl, h4, hL⟩ := hL.uncons
  cases hL.unnil
  cases h0.intE
  cases h1.intE
  obtain ⟨b, bs, rfl, tb, lb⟩ := h2.tupE
  obtain ⟨e, es, rfl, te, le⟩ := h3.tupE
  obtain ⟨d, ds, rfl, td, ld⟩ := h4.tupE
  have isInts : ∀ {l : List Int} {xs : List V}, DenL K H (l.map .int) xs → xs = l.map V.int := by
    intro l
    induction l with
    | nil => intro xs h; exact h.unnil
    | cons i l ih =>
      intro xs h
      obtain ⟨x, r, rfl, q, t⟩ := h.uncons
      cases q.intE
      rw [ih t]; rfl
  cases isInts lb
  cases isInts le
  exact ⟨m, b, e, d, ds, rfl, hT, tb, te, td, ld⟩
theorem Mach.mk_den {K : PySem.W.Frag} {H : Hp} {M : Mach} {m b e d : Addr} {ds : List V} (hT : SqT K H m [.int M.letters, .int M.rooms, .ref b, .ref e, .ref d]) (tb : SqT K H b (M.begins.map V.int)) (te : SqT K H e (M.ends.map V.int)) (td : SqT K H d ds) (ld : DenL K H (M.doors.map doorD) ds) : Den K H M.D (.ref m) :=
  Den.tupI hT (.cons Den.intI (.cons Den.intI (.cons (Den.tupI tb (DenL.ints _)) (.cons (Den.tupI te (DenL.ints _)) (.cons (Den.tupI td ld) .nil)))))
theorem door_parts {K : PySem.W.Frag} {H : Hp} {q : Int × Str × Int × Int} {v : V} (h : Den K H (doorD q) v) : ∃ p, v = .ref p ∧ SqT K H p [.int q.1, .str q.2.1, .int q.2.2.1, .int q.2.2.2] := by
  obtain ⟨m, xs, rfl, hT, hL⟩ := h.tupE
  obtain ⟨x0, r0, rfl, h0, hL⟩ := hL.uncons
  obtain ⟨x1, r1, rfl, h1, hL⟩ := hL.uncons
  obtain ⟨x2, r2, rfl, h2, hL⟩ := hL.uncons
  obtain ⟨x3, r3, rfl, h3, hL⟩ := hL.uncons
  cases hL.unnil
  cases h0.intE
  cases h1.strE
  cases h2.intE
  cases h3.intE
  exact ⟨m, rfl, hT⟩
end L2
namespace L2
open PySem PySem.Spec PyProof.Rows
theorem DenL.drop {K : PySem.W.Frag} {H : Hp} : ∀ (k : Nat) {l : List D} {xs : List V}, DenL K H l xs → DenL K H (l.drop k) (xs.drop k)
  | 0, _, _, h => h
  | k + 1, [], _, h => by cases h.unnil; exact h
  | k + 1, d :: l, _, h => by
    obtain ⟨x, r, rfl, q, t⟩ := h.uncons
    exact DenL.drop k t
theorem DenL.take {K : PySem.W.Frag} {H : Hp} : ∀ (k : Nat) {l : List D} {xs : List V}, DenL K H l xs → DenL K H (l.take k) (xs.take k)
  | 0, _, _, h => .nil
  | k + 1, [], _, h => by cases h.unnil; exact h
  | k + 1, d :: l, _, h => by
    obtain ⟨x, r, rfl, q, t⟩ := h.uncons
    exact .cons q (DenL.take k t)
/-- xs[-k:] -/
theorem cutV_last (xs : List V) (k : Nat) (hk : 0 < k) : cutV xs (some (-(k : Int))) none = xs.drop (xs.length - k) := by
  unfold cutV
  have e : HT.sIx xs.length 0 (some (-(k : Int))) = xs.length - k := by
    have := HT.clip_eq (-(k : Int)) xs.length 0
    rw [if_pos (by omega)] at this
    omega
  rw [e, HT.sIx_none]
  rw [List.take_of_length_le (by rw [List.length_drop]; omega)]
end L2
namespace L2
theorem deepL_ints : ∀ (l : List Int), D.deepL (l.map .int) = 0
  | [] => by simp [D.deepL]
  | i :: l => by rw [List.map_cons, D.deepL, deepL_ints l]; simp [D.deep]
theorem deep_lst_ints (l : List Int) : D.deep (.lst (l.map .int)) = 1 := by rw [D.deep, deepL_ints]
theorem deep_tup_ints (l : List Int) : D.deep (.tup (l.map .int)) = 1 := by rw [D.deep, deepL_ints]
end L2

set_option Elab.async false
set_option linter.all false
set_option maxRecDepth 100000
set_option maxHeartbeats 4000000
namespace L2
open PySem PySem.Spec PyProof.Rows
/-! ### prices: a number or none -/
def optV : Option Int → V
  | none => .non
  | some i => .int i
def optD : Option Int → D
  | none => .non
  | some i => .int i
def addO : Option Int → Option Int → Option Int
  | some a, some b => some (a + b)
  | _, _ => none
def cutO (k : Int) : Option Int → Option Int
  | none => none
  | some p => some (if p ≤ k then p else k + 1)
def minO : List Int → Option Int
  | [] => none
  | a :: l => some (match minO l with | none => a | some b => if b < a then b else a)
theorem minO_nil_iff : ∀ {l : List Int}, minO l = none ↔ l = []
  | [] => by simp [minO]
  | a :: l => by simp [minO]
theorem minO_spec : ∀ {l : List Int} {m : Int}, minO l = some m → m ∈ l ∧ ∀ y ∈ l, m ≤ y
  | [], m, h => by cases h
  | a :: l, m, h => by
    unfold minO at h
    have h' := Option.some.inj h
    cases e : minO l with
    | none =>
      rw [e] at h'
      have : l = [] := minO_nil_iff.mp e
      subst this
      have : a = m := h'
      subst this
      exact ⟨List.mem_cons_self, fun y hy => by have : y = a := by simpa using hy
                                                omega⟩
    | some b =>
      rw [e] at h'
      obtain ⟨h1, h2⟩ := minO_spec e
      have h'' : (if b < a then b else a) = m := h'
      split at h''
      · subst h''
        exact ⟨List.mem_cons_of_mem _ h1, fun y hy => by
          rcases List.mem_cons.mp hy with z | z
          · omega
          · exact h2 y z⟩
      · subst h''
        exact ⟨List.mem_cons_self, fun y hy => by
          rcases List.mem_cons.mp hy with z | z
          · omega
          · have := h2 y z; omega⟩
theorem minO_of {l : List Int} {m : Int} (h1 : m ∈ l) (h2 : ∀ y ∈ l, m ≤ y) : minO l = some m := by
  cases e : minO l with
  | none => rw [minO_nil_iff.mp e] at h1; simp at h1
  | some b =>
    obtain ⟨a1, a2⟩ := minO_spec e
    have := a2 m h1
    have := h2 b a1
    rw [show b = m by omega]
theorem minO_map {f : Int → Int} (hf : ∀ a b, a ≤ b → f a ≤ f b) (l : List Int) : minO (l.map f) = (minO l).map f := by
  cases e : minO l with
  | none => rw [minO_nil_iff.mp e]; rfl
  | some m =>
    obtain ⟨h1, h2⟩ := minO_spec e
    exact minO_of (List.mem_map_of_mem h1) fun y hy => by
      obtain ⟨x, hx, rfl⟩ := List.mem_map.mp hy
      exact hf _ _ (h2 x hx)
theorem minO_append (l : List Int) (a : Int) : minO (l ++ [a]) = some (match minO l with | none => a | some b => if a < b then a else b) := by
  cases e : minO l with
  | none => rw [minO_nil_iff.mp e]; rfl
  | some b =>
    obtain ⟨h1, h2⟩ := minO_spec e
    show _ = some (if a < b then a else b)
    refine minO_of ?_ fun y hy => ?_
    · split
      · simp
      · exact List.mem_append_left _ h1
    · rcases List.mem_append.mp hy with z | z
      · have := h2 y z
        split <;> omega
      · have : y = a := by simpa using z
        split <;> omega
theorem cutO_minO (k : Int) (l : List Int) : cutO k (minO l) = minO (l.map fun x => if k + 1 < x then k + 1 else x) := by
  rw [minO_map (fun a b h => by split <;> split <;> omega)]
  cases minO l with
  | none => rfl
  | some m =>
    show some (if m ≤ k then m else k + 1) = some (if k + 1 < m then k + 1 else m)
    congr 1
    split <;> split <;> omega
theorem Den.optI {K : PySem.W.Frag} {H : Hp} (o : Option Int) : Den K H (optD o) (optV o) := by
  cases o with
  | none => exact Den.nonI
  | some i => exact Den.intI
theorem Den.optE {K : PySem.W.Frag} {H : Hp} {o : Option Int} {v : V} (h : Den K H (optD o) v) : v = optV o := by
  cases o with
  | none => exact h.nonE
  | some i => exact h.intE
theorem DenL.opts {K : PySem.W.Frag} {H : Hp} : ∀ (l : List (Option Int)), DenL K H (l.map optD) (l.map optV)
  | [] => DenL.nil
  | o :: l => DenL.cons (Den.optI o) (DenL.opts l)
theorem DenL.optsE {K : PySem.W.Frag} {H : Hp} : ∀ {l : List (Option Int)} {xs : List V}, DenL K H (l.map optD) xs → xs = l.map optV
  | [], _, h => h.unnil
  | o :: l, _, h => by
    obtain ⟨x, r, rfl, q, t⟩ := h.uncons
    rw [q.optE, DenL.optsE t]
    rfl
theorem deep_opt (o : Option Int) : D.deep (optD o) = 0 := by cases o <;> simp [optD, D.deep]
theorem deepL_opts : ∀ (l : List (Option Int)), D.deepL (l.map optD) = 0
  | [] => by simp [D.deepL]
  | o :: l => by rw [List.map_cons, D.deepL, deepL_opts l, deep_opt]; rfl
theorem deep_row (l : List (Option Int)) : D.deep (.tup (l.map optD)) = 1 := by rw [D.deep, deepL_opts]
theorem at_opts {l : List (Option Int)} {i : Int} (h0 : 0 ≤ i) (h : i < l.length) : atI (l.map optV) i = some (optV (l.getD i.toNat none)) := by
  have hl : i.toNat < l.length := by omega
  have q : atI (l.map optV) ((i.toNat : Nat) : Int) = some (optV (l.getD i.toNat none)) := atI_nat (by rw [List.getElem?_map, List.getElem?_eq_getElem hl, List.getD_eq_getElem?_getD, List.getElem?_eq_getElem hl]; rfl)
  rwa [show ((i.toNat : Nat) : Int) = i by omega] at q
theorem inV_ints (r : Int) : ∀ (l : List Int), inV (.int r) (l.map V.int) = decide (r ∈ l)
  | [] => by simp [inV]
  | a :: l => by
    have ih := inV_ints r l
    unfold inV at ih ⊢
    rw [List.map_cons, List.any_cons, ih]
    show ((a == r) || _) = _
    by_cases e : r = a
    · subst e; simp
    · have e2 : (a == r) = false := by simp; omega
      rw [e2]
      simp [e]
theorem flat_ints (l : List Int) : (l.map V.int).all flatV = true := by
  rw [List.all_eq_true]
  intro x hx
  obtain ⟨i, _, rfl⟩ := List.mem_map.mp hx
  rfl
theorem opt_non (o : Option Int) : decide (optV o = .non) = o.isNone := by cases o <;> rfl
end L2

set_option Elab.async false
set_option linter.all false
set_option maxRecDepth 100000
set_option maxHeartbeats 4000000
namespace L2
open PySem PySem.Spec PyProof.Rows
theorem ps_setComp {X : Cx} {elt tg iter : Expr} {ifs : List Expr} {scope : Scope} {pos spos py : Pos} {y : Str} {i : Nat} {wi : TI} {g : TG} {tc : TT} {te : TE} (N' : List Str) (src : List (Option Nat))
    (hN : X.N.Nodup) (hyi : X.N[i]? = some y) (hyl : X.env.scope.names.lookup y = some .local)
    (hck : compCheck N' src scope X.N X.env.scope = true) (hi : PI X tg iter wi) (hcalm : X.calm = true)
    (hin : ∀ (C : Addr) (cells : List (Str × Addr)) (s : Shared) (H : Hp) (ex : List Addr), PG (cxComp X N' scope C cells s H ex) tg g ∧ PIf (cxComp X N' scope C cells s H ex) ifs tc ∧ PE (cxComp X N' scope C cells s H ex) elt te)
    (hs : ∀ x, foldedSetIterable iter X.env x = pure x := by intro _; rfl)
    (hsw : swapsWith (.ListComp elt [⟨tg, iter, ifs, 0⟩] scope pos) (some (.Name y py)) spos.line X.env = pure true := by rfl) :
    PS X (.Assign [.Name y py] (.ListComp elt [⟨tg, iter, ifs, 0⟩] scope pos) spos) (tAsg (tComp src wi g tc te) (gName i)) := by
  intro pins s σ H D0 I h
  have ck := compCk hck
  rw [exec_Assign_Name_used _ _ _ _ hsw]
  refine wpAny_bind (wpAny_standAt (wpAny_bind ?_))
  show wpAny _ X.A (do let _ ← comprehension (.ListComp elt [⟨tg, iter, ifs, 0⟩] scope pos) scope X.env _ (newList []) false (eval iter X.env) (some (assign (.Name y py) X.env))) _ _ s
  have hcl := closureFor_of (scope := scope) (env := X.env) fun y hy e => I.ok.has y.1 (ck.fr y hy e)
  refine wpAny_bind (wpAny_mono (wpAny_comprehension_free (use := some (assign (.Name y py) X.env)) (Q := fun _ s' => SP X pins D0 .next s') rfl hs hcl ck.kind ck.loc (thn (hi pins s σ H _ I h) fun v s1 h1 => thn h1 fun itv s2 h2 => ?_)) (fun _ s' hq => wpAny_pure (wpAny_pure hq)) fun _ _ e => e)
  obtain ⟨it, fp, tn, J, H2, e, I2, T, st2, f2, W⟩ := h2
  subst e
  have hD := I2.fresh
  obtain ⟨W, ⟨m0, w0⟩, turn⟩ := W _ hD
  have I3 := I2.lnew (its := []) (ys := []) (t' := s2.toks) .nil (Nat.zero_le _)
  have fpD : ∀ b ∈ fp, b < s2.heap.objs.size := fun b hb => by obtain ⟨o, q, _⟩ := T.obj _ _ st2 b hb; exact Heap.lt_size q
  have f3 : ∀ b ∈ fp, FpOk X pins (upd H2 s2.heap.objs.size (.lst [])) b := fun b hb => ⟨by rw [upd_ne (Nat.ne_of_lt (fpD b hb))]; exact (f2 b hb).1, (f2 b hb).2⟩
  refine wpAny_newObj_type (wpAny_compEnv ?_)
  generalize hs3 : ({ s2 with heap := s2.heap.push { cls := .type "list", data := .seq ([] : List Value).toArray }, toks := s2.toks } : Shared) = s3 at I3
  have hs3' : ({ s2 with heap := s2.heap.push { cls := .type "list", data := .seq ([] : List Value).toArray } } : Shared) = s3 := hs3
  have fp3 : ∀ b ∈ fp, b < s3.heap.objs.size := fun b hb => by
    rw [← hs3]
    show b < (s2.heap.push _).objs.size
    rw [Heap.size_push]
    exact Nat.lt_succ_of_lt (fpD b hb)
  have I4 := comp_start (s4 := { s3 with heap := pushCells (s3.heap.push { cls := .type "dict", data := .dict #[] }) scope.names }) ck I3 f3 fp3 ⟨_, rfl⟩
  have tn4 : tn 0 (pushCells (s3.heap.push { cls := .type "dict", data := .dict #[] }) scope.names) := T.keep _ _ _ st2 fun b hb o e => pushCells_keeps _ _ b o (Heap.get?_push_of_some _ (by rw [← hs3]; exact Heap.get?_push_of_some _ e))
  obtain ⟨hg, hif, he⟩ := hin s3.heap.objs.size (cellsFrom (s3.heap.objs.size + 1) scope.names (clOf X.env.cells scope.names [])) s3 (upd H2 s2.heap.objs.size (.lst [])) fp
  have stat : ∀ H' : Hp, (∀ b ∈ fp, H' b = none) → ∀ b ∈ fp, FpOk (cxComp X N' scope s3.heap.objs.size (cellsFrom (s3.heap.objs.size + 1) scope.names (clOf X.env.cells scope.names [])) s3 (upd H2 s2.heap.objs.size (.lst [])) fp) [] H' b := fun H' hn b hb =>
    ⟨hn b hb, (I4.ok.exf b hb).1, I4.ok.exfs b hb, .inl hb, fun x c e => (I4.ok.exf b hb).2 x c e, fun p hp => absurd (show p ∈ ([] : List (Addr × Obj)) from hp) (by simp)⟩
  have T' : Turn X.prog X.w X.K tg J fp it tn := T
  have fr0 : ∀ b ∈ fp, upd H2 s2.heap.objs.size (.lst []) b = none := fun b hb => (f3 b hb).1
  have L := comp_loop (X' := cxComp X N' scope s3.heap.objs.size (cellsFrom (s3.heap.objs.size + 1) scope.names (clOf X.env.cells scope.names [])) s3 (upd H2 s2.heap.objs.size (.lst [])) fp) (R := compPost (model X.prog X.w) X.A X.xe (some (assign (.Name y py) X.env)) (fun _ s' => SP X pins D0 .next s') (Value.ref s2.heap.objs.size) s3.heap.objs.size) (iter := iter) (scope := scope) (pos := pos) (QD := fun H' => D0.nx (σ.set i (some (.ref s2.heap.objs.size))) H') rfl hcalm I4 T' tn4 stat fr0 w0 turn hg hif he
    (fun σ' H' s' J' q => by
      have J2 := comp_end I3 f3 J' (Heap.SameBut.refl _ _)
      obtain ⟨mm, hn, _⟩ := J'.loc
      have nL : s3.heap.objs.size ≠ X.env.locals := Nat.ne_of_gt I3.lt
      have nC : ∀ x c, X.env.cells.lookup x = some c → c ≠ s3.heap.objs.size := fun x c e => by
        obtain ⟨v, z⟩ := I3.cell x c e
        exact Nat.ne_of_lt z.lt
      show wpAny _ X.A (assign (.Name y py) X.env (.ref s2.heap.objs.size)) _ _ _
      refine wpAny_assign_Name (store_ok2 (v := .ref s2.heap.objs.size) J2 hN hyi (.inl hyl) rfl (fun s5 I5 sb => ?_) (.inr hyl))
      obtain ⟨aa, sb, ha⟩ := sb
      have na : s3.heap.objs.size ≠ aa := by
        rcases ha with z | z
        · rw [z]; exact nL
        · exact fun e => nC _ _ z e.symm
      refine ⟨mm, hn.sameBut sb na, fun h' hs' => ⟨_, H', I5.turned (t' := s5.toks) (fun b o hb e => (hs'.2 b hb).trans e) J'.free nL (.inr I3.sz) nC fun p hp z => ?_, q⟩⟩
      exact absurd (Heap.lt_size (I3.pin p hp).1) (by rw [z]; exact Nat.lt_irrefl _))
  exact codeAny_compStart_list L (T.self _ _ _ _ _ tn4 L)
end L2

set_option Elab.async false
set_option linter.all false
set_option maxRecDepth 100000
set_option maxHeartbeats 4000000
namespace L2
open PySem PySem.Spec PyProof.Rows
def rSlS : V → Option Int → Option Int → Hp → VK → Prop := fun x lo hi H Q => ∃ z, x = .str z ∧ z.length ≤ sizeLine ∧ Q (.str (PySem.Txt.slice z lo hi)) H
theorem isPart_of {v : Value} {o : Option Int} (p : IsPart v o) : ∃ q : Option (Int × Tok), v = partValue q ∧ q.map (·.1) = o := by
  cases p with
  | none => exact ⟨none, rfl, rfl⟩
  | int i t => exact ⟨some (i, t), rfl, rfl⟩
theorem sl_str {X : Cx} : SlR X rSlS := by
  intro pins s σ H x v vl vu lo hi sl Q I rx hs pl pu h
  obtain ⟨z, rfl, hz, q⟩ := h
  obtain ⟨t, rfl⟩ := rx
  obtain ⟨l, rfl, el⟩ := isPart_of pl
  obtain ⟨u, rfl, eu⟩ := isPart_of pu
  refine ⟨"str", _, F.slot_str_getitem.lookup, typeIs_str s z t, ?_⟩
  refine wpAny_getItem_str_slice (l := l) (u := u) (st := none) hs rfl ?_
  unfold sliceMade
  have e : slicePicked z l u none = Builtin.Str.strSliceIndices lo hi 1 z.length := by
    unfold slicePicked
    rw [el, eu]
    rfl
  rw [e]
  unfold PySem.Txt.slice at q
  split
  · rename_i hc
    have hc' : ((1 : Int) == 1 && (Builtin.Str.strSliceIndices lo hi 1 z.length).length == z.length) = true := hc
    rw [if_pos hc'] at q
    exact ⟨.str z, H, I, ⟨t, rfl⟩, q⟩
  · rename_i hc
    have hc' : ¬ ((1 : Int) == 1 && (Builtin.Str.strSliceIndices lo hi 1 z.length).length == z.length) = true := hc
    rw [if_neg hc'] at q
    have hlen : (Str.mk (List.filterMap (fun x => z.cps[x]?) (Builtin.Str.strSliceIndices lo hi 1 z.length)).toArray).length ≤ sizeLine := by
      show (List.filterMap (fun x => z.cps[x]?) (Builtin.Str.strSliceIndices lo hi 1 z.length)).toArray.size ≤ sizeLine
      rw [List.size_toArray]
      exact Nat.le_trans (List.length_filterMap_le _ _) (Nat.le_trans (sliceIndices_le lo hi z.length) hz)
    exact ⟨hlen, .str _, H, I.tok _, ⟨_, rfl⟩, q⟩
theorem abc_cut {n : Int} (h0 : 1 ≤ n) (h : n ≤ 3) : (PySem.Txt.slice (Str.ofString "abc") none (some n)).cps.toList = (List.range n.toNat).map (97 + ·) := by
  obtain rfl | rfl | rfl : n = 1 ∨ n = 2 ∨ n = 3 := by omega
  · decide +kernel
  · decide +kernel
  · decide +kernel
theorem abc_cut_at {n : Int} {i c : Nat} (h0 : 1 ≤ n) (h : n ≤ 3) (e : (PySem.Txt.slice (Str.ofString "abc") none (some n)).cps[i]? = some c) : (i : Int) < n ∧ c = 97 + i := by
  have e' : (PySem.Txt.slice (Str.ofString "abc") none (some n)).cps.toList[i]? = some c := by rw [Array.getElem?_toList]; exact e
  rw [abc_cut h0 h, List.getElem?_map] at e'
  cases q : (List.range n.toNat)[i]? with
  | none => rw [q] at e'; cases e'
  | some j =>
    rw [q] at e'
    have hi := (List.getElem?_eq_some_iff.mp q).1
    rw [List.length_range] at hi
    rw [List.getElem?_range hi] at q
    cases q
    exact ⟨by omega, (Option.some.inj e').symm⟩
theorem ki_nb {K : PySem.W.Frag} : PySem.W.kitOne K (.type "NoneType") (.type "bool") = some false := by with_unfolding_all rfl
end L2

set_option Elab.async false
set_option linter.all false
set_option maxRecDepth 100000
set_option maxHeartbeats 4000000
namespace L2
open PySem PySem.Spec PyProof.Rows
/-- a number that a module keeps by a name -/
theorem pe_globI {X : Cx} {x : Str} {i : Int} {pos : Pos} (hg : Gl X x) (hm : ∃ tk, X.mg x = some (.int i tk)) (hd : (x == ("__debug__" : Str)) = false := by decide) : PE X (.Name x pos) (tC (.int i)) := by
  obtain ⟨tk, hm⟩ := hm
  exact pe_glob hg hm ⟨_, rfl⟩ hd
theorem at_map {α : Type} {l : List α} {i : Int} (f : α → V) (d : α) (h0 : 0 ≤ i) (h : i < l.length) : atI (l.map f) i = some (f (l.getD i.toNat d)) := by
  have hl : i.toNat < l.length := by omega
  have q : atI (l.map f) ((i.toNat : Nat) : Int) = some (f (l.getD i.toNat d)) := atI_nat (by rw [List.getElem?_map, List.getElem?_eq_getElem hl, List.getD_eq_getElem?_getD, List.getElem?_eq_getElem hl]; rfl)
  rwa [show ((i.toNat : Nat) : Int) = i by omega] at q
theorem DenL.intsE {K : PySem.W.Frag} {H : Hp} : ∀ {r : List Int} {ys : List V}, DenL K H (r.map D.int) ys → ys = r.map V.int
  | [], _, h => h.unnil
  | a :: r, _, h => by
    obtain ⟨x, q, rfl, hx, hq⟩ := DenL.uncons h
    rw [Den.intE hx, DenL.intsE hq]
    rfl
end L2

set_option Elab.async false
set_option linter.all false
set_option maxRecDepth 100000
set_option maxHeartbeats 4000000
namespace L2
open PySem PySem.Spec PyProof.Rows

/-! ### a function with a closure is entered: own cells cs, ahead of the closure's -/
section
variable {M : Model} {A : Around} {E : Value → Shared → Prop} {s₀ s : Shared} {m cm : Str → Option Value} {env : Env} {cs : List (Str × Addr)}
theorem put_loc {n : Str} {v : Value} {Q : Unit → Shared → Prop} (z : InCallC s₀ env.locals m cs cm s) (kf : env.scope.kind = .function) (kl : env.kindOf n = some .local)
    (go : ∀ s', InCallC s₀ env.locals (fun y => if y = n then some v else m y) cs cm s' → Q () s') : wpAny M A (storeName env n v) Q E s := by
  refine wpAny_storeName_local kl z.toInCall.ns (fun g gn gs => go _ ⟨⟨?a, gn, fun b o e => ?b, z.toInCall.fresh⟩, fun k c e => ?c, z.apart, z.above⟩) (by rw [kf]; rfl)
  case a => obtain ⟨h₁, tk, e⟩ := z.toInCall.same; subst e; exact ⟨g, _, rfl⟩
  case b => exact gs.extBut b o (Nat.ne_of_lt (Nat.lt_of_lt_of_le (Heap.lt_size e) z.toInCall.fresh)) (z.toInCall.keep b o e)
  case c => exact (z.cell k c e).sameBut gs (Nat.ne_of_gt (z.above k c (PySem.mem_of_lookup e)))
theorem put_cel {n : Str} {c : Addr} {v : Value} {Q : Unit → Shared → Prop} (z : InCallC s₀ env.locals m cs cm s) (kf : env.scope.kind = .function) (kc : env.kindOf n = some .cell)
    (e1 : env.cells.lookup n = some c) (e2 : cs.lookup n = some c) (go : ∀ s', InCallC s₀ env.locals m cs (fun y => if y = n then some v else cm y) s' → Q () s') : wpAny M A (storeName env n v) Q E s := by
  have up := z.above n c (PySem.mem_of_lookup e2)
  refine wpAny_storeName_cell kf kc e1 (z.cell n c e2) fun g gc gs => go _ ⟨⟨?a, z.toInCall.ns.sameBut gs (Nat.ne_of_lt up), fun b o e => ?b, z.toInCall.fresh⟩, fun k c' e => ?c, z.apart, z.above⟩
  case a => obtain ⟨h₁, tk, e⟩ := z.toInCall.same; subst e; exact ⟨g, _, rfl⟩
  case b => exact gs.extBut b o (Nat.ne_of_lt (Nat.lt_trans (Nat.lt_of_lt_of_le (Heap.lt_size e) z.toInCall.fresh) up)) (z.toInCall.keep b o e)
  case c =>
    by_cases q : k = n
    · subst q
      rw [e2] at e; cases e
      simpa using gc
    · rw [if_neg q]
      exact (z.cell k c' e).sameBut gs fun y => q (name_of_addr z.apart (PySem.mem_of_lookup e) (y ▸ PySem.mem_of_lookup e2))
theorem put_all (f : Str × Value → PUnit → Sem (ForInStep PUnit)) (hf : ∀ n v u, f (n, v) u = (do storeName env n v; pure (.yield ⟨⟩))) (kf : env.scope.kind = .function) (sub : ∀ n c, cs.lookup n = some c → env.cells.lookup n = some c) :
    ∀ (bs : List (Str × Value)) (m cm : Str → Option Value) (s : Shared) (Q : PUnit → Shared → Prop), InCallC s₀ env.locals m cs cm s →
      (∀ y ∈ bs, env.kindOf y.1 = some .local ∨ (env.kindOf y.1 = some .cell ∧ ∃ c, cs.lookup y.1 = some c)) →
      (∀ s', InCallC s₀ env.locals (bindL env.kindOf bs m) cs (bindC env.kindOf bs cm) s' → Q ⟨⟩ s') → wpAny M A (forIn bs ⟨⟩ f) Q E s
  | [], m, cm, s, Q, z, _, go => by rw [List.forIn_nil]; exact wpAny_pure (go s z)
  | (n, v) :: r, m, cm, s, Q, z, hy, go => by
    rw [List.forIn_cons, hf]
    have hr := fun y (q : y ∈ r) => hy y (List.mem_cons_of_mem _ q)
    rcases hy (n, v) List.mem_cons_self with kl | ⟨kc, c, e2⟩
    · refine wpAny_bind (wpAny_bind (put_loc z kf kl fun s' z' => wpAny_pure (put_all f hf kf sub r _ _ s' Q z' hr fun s'' z'' => go s'' ?_)))
      unfold bindL bindC; rw [if_pos kl, if_pos kl]; exact z''
    · have nl : ¬ env.kindOf n = some .local := by rw [kc]; decide
      refine wpAny_bind (wpAny_bind (put_cel z kf kc (sub n c e2) e2 fun s' z' => wpAny_pure (put_all f hf kf sub r _ _ s' Q z' hr fun s'' z'' => go s'' ?_)))
      unfold bindL bindC; rw [if_neg nl, if_neg nl]; exact z''
end
theorem enter_clos {M : Model} {A : Around} {E : Value → Shared → Prop} {s : Shared} {scope : Scope} {globals : Addr} {clos : List (Str × Addr)} {binds : List (Str × Value)} {qual : Str} {func : Option Addr} {code : Value} {builtins : Addr} {Q : Env → Shared → Prop}
    (kf : scope.kind = .function) (hy : ∀ y ∈ binds, scope.names.lookup y.1 = some .local ∨ (scope.names.lookup y.1 = some .cell ∧ ∃ c, (cellsFrom (s.heap.objs.size + 1) scope.names []).lookup y.1 = some c))
    (go : ∀ env, env = newEnv scope s.heap.objs.size globals (cellsFrom (s.heap.objs.size + 1) scope.names clos) qual func code none builtins →
      ∀ s', InCallC s env.locals (bindL env.kindOf binds fun _ => none) (cellsFrom (s.heap.objs.size + 1) scope.names []) (bindC env.kindOf binds fun _ => none) s' → Q env s') :
    wpAny M A (newFunctionEnv scope globals clos binds qual func code none builtins) Q E s := by
  simp only [newFunctionEnv, Option.isSome_none, Bool.false_eq_true, if_false]
  refine wpAny_bind (wpAny_alloc (wpAny_bind (wpAny_layCells _ (fun nm kd ce => by cases q : kd == NameKind.cell <;> simp [q]) _ _ _ _ ?_)))
  have ok := cellsFrom_ok scope.names (s.heap.push { cls := .type "frame", data := .dict #[] }) (s.heap.objs.size + 1) [] ⟨fun _ _ hm => (nomatch hm), List.Pairwise.nil⟩ (by rw [Heap.size_push]; exact Nat.le_refl _)
  have esz : ({ s with heap := s.heap.push { cls := .type "frame", data := .dict #[] } } : Shared).heap.objs.size = s.heap.objs.size + 1 := Heap.size_push ..
  rw [Heap.size_push] at ok
  rw [esz]
  refine wpAny_bind (put_all (s₀ := s) (cs := cellsFrom (s.heap.objs.size + 1) scope.names []) (env := newEnv scope s.heap.objs.size globals (cellsFrom (s.heap.objs.size + 1) scope.names clos) qual func code none builtins)
    _ (fun _ _ _ => rfl) kf (fun n c e => ?sub) binds (fun _ => none) (fun _ => none) _ _ ⟨⟨⟨_, _, rfl⟩, ?ns, fun b o e => ?k, Nat.le_refl _⟩, fun n c e => (ok.empty n c (PySem.mem_of_lookup e)).1, ok.apart, fun n c e => (ok.empty n c e).2⟩ hy fun s' x => wpAny_pure (go _ rfl s' x))
  case sub =>
    show (cellsFrom _ _ _).lookup n = some c
    rw [cellsFrom_append, lookup_app, e]; rfl
  case ns => exact (Heap.Ns.new s.heap (.type "frame")).keeps (pushCells_keeps _ _)
  case k => exact pushCells_keeps _ _ b o (Heap.get?_push_of_some _ e)

/-! ### what stands for a closure -/
def codeO (c : Addr) (qual : Str) : HO := .ext fun h => h.CodeRec (.ref c) qual
def lamO (f : Addr) (fd : FuncData) : HO := .ext fun h => h.get? f = some { cls := .type "function", data := .func fd }
theorem codeO_ok {P : Program} {w : World} {H : Hp} {h : Heap} {c : Addr} {q : Str} (r : h.CodeRec (.ref c) q) : ObjOk P w H h c (codeO c q) := by
  refine ⟨r, ?_, fun h1 h2 z k => ?_⟩
  · obtain ⟨c', o, vs, t, e, g, _⟩ := r
    cases e
    exact ⟨o, g⟩
  · obtain ⟨c', o, vs, t, e, g, d⟩ := z
    cases e
    exact ⟨c, o, vs, t, rfl, k o g, d⟩
theorem codeO_get {P : Program} {w : World} {H : Hp} {h : Heap} {c : Addr} {q : Str} (x : HOk P w H h) (e : H c = some (codeO c q)) : h.CodeRec (.ref c) q := (x c _ e).1
theorem lamO_ok {P : Program} {w : World} {H : Hp} {h : Heap} {f : Addr} {fd : FuncData} (r : h.get? f = some { cls := .type "function", data := .func fd }) : ObjOk P w H h f (lamO f fd) :=
  ⟨r, ⟨_, r⟩, fun _ _ z k => k _ z⟩
theorem lamO_get {P : Program} {w : World} {H : Hp} {h : Heap} {f : Addr} {fd : FuncData} (x : HOk P w H h) (e : H f = some (lamO f fd)) : h.get? f = some { cls := .type "function", data := .func fd } := (x f _ e).1

/-- b is the cell of a name -/
def isC (cells : List (Str × Addr)) (b : Addr) : Bool := cells.any fun p => cells.lookup p.1 == some b
theorem isC_iff {cells : List (Str × Addr)} {b : Addr} : isC cells b = true ↔ ∃ x, cells.lookup x = some b := by
  unfold isC
  rw [List.any_eq_true]
  constructor
  · rintro ⟨p, _, e⟩; exact ⟨p.1, by simpa using e⟩
  · rintro ⟨x, e⟩; exact ⟨(x, b), PySem.mem_of_lookup e, by simpa using e⟩
def Drop (cells : List (Str × Addr)) (H : Hp) : Hp := fun b => if isC cells b = true then none else H b
def Put (cells : List (Str × Addr)) (H H' : Hp) : Hp := fun b => if isC cells b = true then H b else H' b
theorem Drop.cell {cells : List (Str × Addr)} {H : Hp} {b : Addr} (h : isC cells b = true) : Drop cells H b = none := if_pos h
theorem Drop.ne {cells : List (Str × Addr)} {H : Hp} {b : Addr} (h : isC cells b ≠ true) : Drop cells H b = H b := if_neg h
theorem Drop.some {cells : List (Str × Addr)} {H : Hp} {b : Addr} {o : HO} (h : Drop cells H b = some o) : isC cells b ≠ true ∧ H b = some o := by
  unfold Drop at h
  split at h
  · cases h
  · rename_i z; exact ⟨z, h⟩
theorem Drop.none {cells : List (Str × Addr)} {H : Hp} {b : Addr} (h : H b = none) : Drop cells H b = none := by
  unfold Drop
  split
  · rfl
  · exact h
theorem Put.cell {cells : List (Str × Addr)} {H H' : Hp} {b : Addr} (h : isC cells b = true) : Put cells H H' b = H b := if_pos h
theorem Put.ne {cells : List (Str × Addr)} {H H' : Hp} {b : Addr} (h : isC cells b ≠ true) : Put cells H H' b = H' b := if_neg h

/-- the cells, each known as it is -/
def Cells (clos : List (Str × Addr)) (H : Hp) : Prop := ∀ x c, clos.lookup x = some c → ∃ o v, H c = some (.frz o (.own c)) ∧ o.data = .cell v
theorem Cells.at {clos : List (Str × Addr)} {H : Hp} (z : Cells clos H) {b : Addr} (h : isC clos b = true) : ∃ o v, H b = some (.frz o (.own b)) ∧ o.data = .cell v := by
  obtain ⟨x, e⟩ := isC_iff.mp h
  exact z x b e
/-- names and what their cells hold -/
def Cap (clos : List (Str × Addr)) (H : Hp) (fr : List Str) (cap : List V) : Prop := ∀ (i : Nat) (x : Str) (v : V), fr[i]? = some x → cap[i]? = some v → ∃ c o u, clos.lookup x = some c ∧ H c = some (.frz o (.own c)) ∧ o.data = .cell (some u) ∧ RelV v u

structure LamScope (N ps fr : List Str) (sc : Scope) : Prop where
  kind : sc.kind = .function
  co : sc.isCoroutine = false
  gen : sc.isGenerator = false
  nd : N.Nodup
  app : N = ps ++ fr
  par : ∀ x ∈ ps, sc.names.lookup x = some .local ∨ sc.names.lookup x = some .cell
  frs : ∀ x ∈ fr, sc.names.lookup x = some .free
  cel : ∀ y ∈ sc.names, y.2 = .cell → sc.names.lookup y.1 = some .cell

def cxLam (P : Program) (w : World) (K : PySem.W.Frag) (mg : Str → Option Value) (base : Heap) (N : List Str) (qual : Str) (scope : Scope) (f : Addr) (cd : Value) (clos : List (Str × Addr)) (A : Around) (outer : List Env) (s : Shared) (H : Hp) : Cx where
  prog := P
  w := w
  K := K
  mg := mg
  base := base
  A := A.deeper (PySem.W.envX qual scope s.heap.objs.size f cd (cellsFrom (s.heap.objs.size + 1) scope.names clos))
  N := N
  s₀ := s
  H₀ := Drop clos H
  env := PySem.W.envX qual scope s.heap.objs.size f cd (cellsFrom (s.heap.objs.size + 1) scope.names clos)
  outer := outer
  stack := PySem.W.envX qual scope s.heap.objs.size f cd (cellsFrom (s.heap.objs.size + 1) scope.names clos) :: outer
  ex := []
  fn := fun x => scope.names.lookup x == some .cell
  calm := true
  pn := []
  xe := fun _ _ => False

theorem HOk.drop {P : Program} {w : World} {H : Hp} {h : Heap} {clos : List (Str × Addr)} (x : HOk P w H h) (z : Cells clos H) : HOk P w (Drop clos H) h := fun b o e => by
  obtain ⟨_, e'⟩ := Drop.some e
  have nc : ∀ c u, H c = some u → (∀ o v, u ≠ .frz o v) → isC clos c ≠ true := fun c u q d y => by
    obtain ⟨o, v, q', _⟩ := z.at y
    rw [q] at q'; cases q'
    exact d _ _ rfl
  exact (x b o e').stay (fun _ _ _ q => q) (fun c q => by rw [Drop.ne (nc c _ q fun _ _ => by nofun)]; exact q) fun c xs q => by rw [Drop.ne (nc c _ q fun _ _ => by nofun)]; exact q

theorem inv_lam {P : Program} {w : World} {K : PySem.W.Frag} {mg : Str → Option Value} {base : Heap} {N ps fr : List Str} {qual : Str} {scope : Scope} {f : Addr} {cd : Value} {clos : List (Str × Addr)} {A : Around} {outer : List Env} {s s1 : Shared} {H : Hp} {us : List Value} {vs cap : List V}
    (S : LamScope N ps fr scope) (hd : A.handled = none) (e0 : Env0 P w K mg base A outer s H) (hl : vs.length = ps.length) (hlc : cap.length = fr.length) (r : Vals vs us)
    (hc : Cells clos H) (inj : ∀ x y c, clos.lookup x = some c → clos.lookup y = some c → x = y) (hfr : ∀ x, scope.names.lookup x = some .free → ∃ c, clos.lookup x = some c) (hcap : Cap clos H fr cap)
    (x : InCallC s s.heap.objs.size (bindL (PySem.W.envX qual scope s.heap.objs.size f cd (cellsFrom (s.heap.objs.size + 1) scope.names clos)).kindOf (ps.zip us) fun _ => none) (cellsFrom (s.heap.objs.size + 1) scope.names [])
      (bindC (PySem.W.envX qual scope s.heap.objs.size f cd (cellsFrom (s.heap.objs.size + 1) scope.names clos)).kindOf (ps.zip us) fun _ => none) s1) :
    Inv (cxLam P w K mg base N qual scope f cd clos A outer s H) [] (vs.map some ++ cap.map some) (Drop clos H) s1 := by
  obtain ⟨h1, tk, rfl, hk⟩ := x.done
  have noA : ∀ b : Addr, b ∉ (cxLam P w K mg base N qual scope f cd clos A outer s H).ex := fun b z => absurd (show b ∈ ([] : List Addr) from z) (by simp)
  have lk : ∀ y c, (cellsFrom (s.heap.objs.size + 1) scope.names clos).lookup y = some c → (cellsFrom (s.heap.objs.size + 1) scope.names []).lookup y = some c ∨ ((cellsFrom (s.heap.objs.size + 1) scope.names []).lookup y = none ∧ clos.lookup y = some c) := fun y c e => by
    rw [cellsFrom_append, lookup_app] at e
    cases q : (cellsFrom (s.heap.objs.size + 1) scope.names []).lookup y with
    | some d => rw [q] at e; left; simpa using e
    | none => rw [q] at e; right; exact ⟨rfl, by simpa using e⟩
  have own : ∀ y c, (cellsFrom (s.heap.objs.size + 1) scope.names []).lookup y = some c → s.heap.objs.size < c := fun y c e => x.above y c (PySem.mem_of_lookup e)
  have old : ∀ y c, clos.lookup y = some c → c < s.heap.objs.size := fun y c e => by
    obtain ⟨o, v, q, _⟩ := hc y c e
    exact e0.hok.lt q
  have hx : ∀ y c, clos.lookup y = some c → scope.names.lookup y = some .free → (cellsFrom (s.heap.objs.size + 1) scope.names clos).lookup y = some c := fun y c e k => by
    rw [cellsFrom_append, lookup_app]
    cases q : (cellsFrom (s.heap.objs.size + 1) scope.names []).lookup y with
    | none => exact e
    | some d =>
      rcases cellsFrom_name (PySem.mem_of_lookup q) with z | z
      · rw [S.cel _ z rfl] at k; cases k
      · exact absurd z (by simp)
  have dn : ∀ b, H b = none → Drop clos H b = none := fun b e => Drop.none e
  refine ⟨⟨e0.mod, S.kind, rfl, rfl, Nat.le_refl _, fun y z c a b => ?inj, fun y hy => ?has, fun y c hy e => ?cab, fun _ => hd, Around.frames_deeper e0.frames, .inr ⟨rfl, rfl⟩, fun b z => absurd z (noA b), fun b o e => ⟨(e0.bs b o e).1, dn b (e0.bs b o e).2⟩, e0.bsz, fun b _ _ => noA b, fun b z => absurd z (noA b), e0.funs, fun b hb => dn b (e0.frf b hb)⟩,
    rfl, e0.bare, Un.kept hk, ⟨_, x.toInCall.ns, fun i y v q1 q2 q3 => ?loc⟩, fun y c e => ?cell, dn _ (e0.hok.fresh (Nat.le_refl _)), fun y c e => ?freeC, fun p hp => absurd (show p ∈ ([] : List (Addr × Obj)) from hp) (by simp), (e0.hok.drop hc).kept hk, ?len⟩
  case inj =>
    rcases lk y c a with a | ⟨_, a⟩ <;> rcases lk z c b with b | ⟨_, b⟩
    · exact name_of_addr x.apart (PySem.mem_of_lookup a) (PySem.mem_of_lookup b)
    · exact absurd (Nat.lt_trans (own _ _ a) (old _ _ b)) (Nat.lt_irrefl _)
    · exact absurd (Nat.lt_trans (own _ _ b) (old _ _ a)) (Nat.lt_irrefl _)
    · exact inj y z c a b
  case has =>
    have hy : scope.names.lookup y = some .cell ∨ scope.names.lookup y = some .free := hy
    rcases hy with hy | hy
    · obtain ⟨c, e⟩ := cell_has (n := s.heap.objs.size + 1) hy
      refine ⟨c, ?_⟩
      show (cellsFrom (s.heap.objs.size + 1) scope.names clos).lookup y = some c
      rw [cellsFrom_append, lookup_app, e]; rfl
    · obtain ⟨c, e⟩ := hfr y hy
      exact ⟨c, hx y c e hy⟩
  case cab =>
    have hy : (scope.names.lookup y == some .cell) = true := hy
    have hy' : scope.names.lookup y = some .cell := by simpa using hy
    rcases lk y c e with a | ⟨a, _⟩
    · exact Nat.le_of_lt (own y c a)
    · obtain ⟨d, q⟩ := cell_has (n := s.heap.objs.size + 1) hy'
      rw [q] at a; cases a
  case loc =>
    have ndP : ps.Nodup := by have := S.nd; rw [S.app] at this; exact (List.nodup_append.mp this).1
    by_cases hi : i < vs.length
    · have ha : vs[i]? = some v := by
        rw [List.getElem?_append_left (by simpa using hi), List.getElem?_map] at q2
        cases e : vs[i]? with
        | none => rw [e] at q2; cases q2
        | some a => rw [e] at q2; cases q2; rfl
      obtain ⟨u, hu, rv⟩ := r.get ha
      have hp : ps[i]? = some y := by
        have q1' : N[i]? = some y := q1
        rw [S.app, List.getElem?_append_left (by omega)] at q1'; exact q1'
      refine ⟨u, rv, ?_⟩
      rcases S.par y (List.mem_of_getElem? hp) with k | k
      · exact .inl ⟨k, bindL_get ndP hp hu k⟩
      · obtain ⟨c, e⟩ := cell_has (n := s.heap.objs.size + 1) k
        refine .inr ⟨.inl k, c, ?_, ?_⟩
        · show (cellsFrom (s.heap.objs.size + 1) scope.names clos).lookup y = some c
          rw [cellsFrom_append, lookup_app, e]; rfl
        · have q := x.cell y c e
          rw [bindC_get ndP hp hu (by show scope.names.lookup y ≠ _; rw [k]; decide)] at q
          exact q
    · have hf : fr[i - vs.length]? = some y := by
        have q1' : N[i]? = some y := q1
        rw [S.app, List.getElem?_append_right (by omega)] at q1'; rw [hl]; exact q1'
      have hv : cap[i - vs.length]? = some v := by
        rw [List.getElem?_append_right (by simpa using hi), List.getElem?_map, List.length_map] at q2
        cases e : cap[i - vs.length]? with
        | none => rw [e] at q2; cases q2
        | some a => rw [e] at q2; cases q2; rfl
      obtain ⟨c, o, u, e1, e2, e3, e4⟩ := hcap _ y v hf hv
      have kf := S.frs y (List.mem_of_getElem? hf)
      refine ⟨u, e4, .inr ⟨.inr kf, c, hx y c e1 kf, ?_⟩⟩
      exact ⟨o, hk c o (e0.hok c _ e2).1, e3⟩
  case cell =>
    rcases lk y c e with a | ⟨_, a⟩
    · exact ⟨_, x.cell y c a⟩
    · obtain ⟨o, v, q, d⟩ := hc y c a
      exact ⟨v, o, hk c o (e0.hok c _ q).1, d⟩
  case freeC =>
    rcases lk y c e with a | ⟨_, a⟩
    · exact dn c (e0.hok.fresh (Nat.le_of_lt (own y c a)))
    · exact Drop.cell (isC_iff.mpr ⟨y, a⟩)
  case len =>
    show _ = N.length
    rw [S.app]
    simp [hl, hlc]

/-- behind the body: the cells are known again -/
theorem lam_end {P : Program} {w : World} {outer : List Env} {H H' : Hp} {s s' : Shared} {clos : List (Str × Addr)} (hok : HOk P w H s.heap) (hc : Cells clos H) (frf : ∀ b ∈ frs outer, H b = none)
    (un : Un (frs outer) [] (Drop clos H) H' s.heap s'.heap) (ok' : HOk P w H' s'.heap) : Un (frs outer) [] H (Put clos H H') s.heap s'.heap ∧ HOk P w (Put clos H H') s'.heap := by
  have nc : ∀ b, H b = none → isC clos b ≠ true := fun b e y => by
    obtain ⟨o, v, q, _⟩ := hc.at y
    rw [e] at q; cases q
  have nc2 : ∀ c u, H c = some u → (∀ o v, u ≠ .frz o v) → isC clos c ≠ true := fun c u q d y => by
    obtain ⟨o, v, q', _⟩ := hc.at y
    rw [q] at q'; cases q'
    exact d _ _ rfl
  have gone : ∀ b, isC clos b = true → H' b = none := fun b y => by
    obtain ⟨o, v, q, _⟩ := hc.at y
    exact un.free b o (hok b _ q).1 (Drop.cell y) (by simp)
  refine ⟨⟨fun b o e n hb hx => un.keep b o e (Drop.none n) hb hx, fun b o e n hb hx => un.slot b o e (Drop.none n) hb hx, fun b o e n hx => ?_, fun b o e hx => un.there b o e hx, fun b xs e => ?_, fun b o u e => ?_, fun b ps e => ?_⟩, fun b o e => ?_⟩
  · rw [Put.ne (nc b n)]; exact un.free b o e (Drop.none n) hx
  · have z := nc2 b _ e fun _ _ => by nofun
    rw [Put.ne z]; exact un.tups b xs (by rw [Drop.ne z]; exact e)
  · by_cases z : isC clos b = true
    · rw [Put.cell z]; exact e
    · rw [Put.ne z]; exact un.frzs b o u (by rw [Drop.ne z]; exact e)
  · have z := nc2 b _ e fun _ _ => by nofun
    rw [Put.ne z]; exact un.tbls b ps (by rw [Drop.ne z]; exact e)
  · by_cases z : isC clos b = true
    · rw [Put.cell z] at e
      obtain ⟨ob, v, q, d⟩ := hc.at z
      rw [q] at e; cases e
      have g := (hok b _ q).1
      have g' := un.keep b ob g (Drop.cell z) (fun y => by rw [frf b y] at q; cases q) (by simp)
      exact ⟨g', ob, g'⟩
    · rw [Put.ne z] at e
      have np : ∀ c u, H' c = some u → Put clos H H' c = some u := fun c u q => by
        rw [Put.ne fun y => by rw [gone c y] at q; cases q]; exact q
      exact (ok' b o e).stay (fun _ _ _ q => q) (fun c q => np c _ q) fun c xs q => np c _ q

/-! ### what may be called through a value -/
structure ClOk (P : Program) (w : World) (K : PySem.W.Frag) (mg : Str → Option Value) (base : Heap) (k : Nat) (R : Hp → Prop) (f : Addr) (sp : Sp) : Prop where
  run : ∀ (A : Around) (outer : List Env) (s : Shared) (H : Hp) (us : List Value) (vs : List V) (Q : VK), Room k A → Env0 P w K mg base A outer s H → R H → Vals vs us → sp vs H Q E0 →
    codeAny (model P w) A (.call (.ref f) ⟨us, []⟩) (CR CX0 outer P w H s Q E0) s
theorem ClOk.mono {P : Program} {w : World} {K : PySem.W.Frag} {mg : Str → Option Value} {base : Heap} {j k : Nat} {R : Hp → Prop} {f : Addr} {sp : Sp} (F : ClOk P w K mg base j R f sp) (h : j ≤ k) : ClOk P w K mg base k R f sp :=
  ⟨fun A outer s H us vs Q hr => F.run A outer s H us vs Q (hr.mono h)⟩
/-- a def of the text, through a value -/
theorem ClOk.ofFn {P : Program} {w : World} {K : PySem.W.Frag} {mg : Str → Option Value} {base : Heap} {k : Nat} {f : Addr} {fd : FuncData} {ps : List Str} {sp : Sp} (F : FnOk P w K mg base CX0 k f fd ps sp) (hb : Binds K fd ps []) : ClOk P w K mg base k (fun _ => True) f sp :=
  ⟨fun A outer s H us vs Q hr e0 _ r h => by
    have hl := F.len _ _ _ _ h
    have := hb s us (e0.mod.kin.keeps fun b o e => (e0.bs b o e).1) (by rw [List.append_nil, ← r.length]; exact hl)
    rw [List.append_nil] at this
    exact F.run A outer s H ⟨us, []⟩ us vs Q E0 hr e0 this r h⟩

/-- a lambda's object, its code, its cells with what they hold -/
def LamAt (H : Hp) (f : Addr) (qual : Str) (params : Arguments) (body : Expr) (scope : Scope) (fr : List Str) (cap : List V) (clos : List (Str × Addr)) : Prop :=
  ∃ pm c' ctv, H f = some (lamO f (PySem.W.kla_fn "<lambda>" qual params body scope clos pm (.ref c') ctv)) ∧ H c' = some (codeO c' qual) ∧ Cells clos H ∧
    (∀ x y c, clos.lookup x = some c → clos.lookup y = some c → x = y) ∧ (∀ x, scope.names.lookup x = some .free → ∃ c, clos.lookup x = some c) ∧ Cap clos H fr cap
theorem LamAt.same {H H' : Hp} {f : Addr} {qual : Str} {params : Arguments} {body : Expr} {scope : Scope} {fr : List Str} {cap : List V} {clos : List (Str × Addr)} (h : LamAt H f qual params body scope fr cap clos) (e : Same H H') : LamAt H' f qual params body scope fr cap clos := by
  obtain ⟨pm, c', ctv, h1, h2, h3, h4, h5, h6⟩ := h
  refine ⟨pm, c', ctv, e _ _ h1, e _ _ h2, fun x c q => ?_, h4, h5, fun i x v a b => ?_⟩
  · obtain ⟨o, v, z, d⟩ := h3 x c q
    exact ⟨o, v, e _ _ z, d⟩
  · obtain ⟨c, o, u, z1, z2, z3⟩ := h6 i x v a b
    exact ⟨c, o, u, z1, e _ _ z2, z3⟩

theorem lam_ok {P : Program} {w : World} {K : PySem.W.Frag} {mg : Str → Option Value} {base : Heap} {k : Nat} {f : Addr} {N ps fr : List Str} {qual : Str} {params : Arguments} {body : Expr} {scope : Scope} {clos : List (Str × Addr)} {cap : List V} {sp : Sp}
    (S : LamScope N ps fr scope) (len : ∀ vs H Q E, sp vs H Q E → vs.length = ps.length) (hlc : cap.length = fr.length)
    (hbind : ∀ (pm : Value) (c' : Addr) (ctv : Value) (us : List Value), us.length = ps.length → bindArgs (PySem.W.kla_fn "<lambda>" qual params body scope clos pm (.ref c') ctv) ⟨us, []⟩ = pure (ps.zip us))
    (hbody : ∀ (A : Around) (outer : List Env) (s : Shared) (H : Hp) (cd : Value) (vs : List V) (Q : VK), Room k (A.deeper (PySem.W.envX qual scope s.heap.objs.size f cd (cellsFrom (s.heap.objs.size + 1) scope.names clos))) → LamAt H f qual params body scope fr cap clos → sp vs H Q E0 →
      ∃ t, PE (cxLam P w K mg base N qual scope f cd clos A outer s H) body t ∧ t (vs.map some ++ cap.map some) (Drop clos H) fun v H' => Q v (Put clos H H')) :
    ClOk P w K mg base (k + 1) (fun H => LamAt H f qual params body scope fr cap clos) f sp := by
  refine ⟨fun A outer s H us vs Q hr e0 hR r hsp => ?_⟩
  have hl := len _ _ _ _ hsp
  obtain ⟨pm, c', ctv, h1, h2, h3, h4, h5, h6⟩ := id hR
  have lim : s.heap.NoLimit := e0.mod.nolimit.keeps fun b o e => (e0.bs b o e).1
  refine PySem.W.kla_callFunE hr.depth (lamO_get e0.hok h1) rfl S.co S.gen rfl (codeO_get e0.hok h2) ?_
  rw [hbind pm c' ctv us (by rw [← r.length]; exact hl)]
  refine wpAny_pure (enter_clos S.kind (fun y hy => ?_) fun env he s1 x => ?_)
  · rcases S.par y.1 (List.of_mem_zip (show (y.1, y.2) ∈ ps.zip us from hy)).1 with q | q
    · exact .inl q
    · exact .inr ⟨q, cell_has q⟩
  · subst he
    refine ⟨lim.keeps x.toInCall.keep, PySem.W.kla_codeExpr ?_⟩
    obtain ⟨t, ht, hq⟩ := hbody A outer s H (.ref c') vs Q (hr.deeper _) hR hsp
    have I := inv_lam S hr.hd e0 hl hlc r h3 h4 h5 h6 x
    refine wpAny_mono (ht [] s1 _ _ _ I hq) (fun u s' hs => ?_) fun e s' hs => hs.elim
    obtain ⟨v, H', J, rv, q⟩ := hs
    obtain ⟨un, ok'⟩ := lam_end e0.hok h3 e0.frf J.base J.hok
    exact ⟨v, _, J.os, J.bare, un, ok', rv, q⟩
end L2

set_option Elab.async false
set_option linter.all false
set_option maxRecDepth 100000
set_option maxHeartbeats 4000000
namespace L2
open PySem PySem.Spec PyProof.Rows

/-- the module of the builtins, over the base -/
def BM (mg : Str → Option Value) (base : Heap) : Prop := ∃ bm ob, mg "__builtins__" = some (.ref bm) ∧ bm ≠ builtinsNs ∧ base.get? bm = some ob ∧ ob.cls = .type "module" ∧ ob.dict = some builtinsNs ∧ ob.data = .plain

/-! ### a lambda is made -/
def tLam (cells : List (Str × Addr)) (P : Addr) (qual : Str) (params : Arguments) (body : Expr) (scope : Scope) (pos : Pos) : TE := fun _ H Q =>
  ∃ ps : Array Value, H P = some (.tbl ps) ∧ TriplesOk ps.toList ∧
    (codeAmong pos ps.toList = none → ∀ c' f pm ctv, H c' = none → H f = none → c' ≠ f →
      Q (.ref f) (upd (upd (upd H P (.tbl (ps ++ #[rawInt pos.line, rawInt pos.col, .ref c']))) c' (codeO c' qual)) f (lamO f (PySem.W.kla_fn "<lambda>" qual params body scope (clOf cells scope.names []) pm (.ref c') ctv)))) ∧
    (∀ cv, codeAmong pos ps.toList = some cv → ∃ c', cv = .ref c' ∧ ∀ f pm ctv, H f = none → Q (.ref f) (upd H f (lamO f (PySem.W.kla_fn "<lambda>" qual params body scope (clOf cells scope.names []) pm (.ref c') ctv))))

def lamCheck (scope xs : Scope) : Bool := scope.names.all fun y => !(y.2 == .free) || (xs.names.lookup y.1 == some .cell || xs.names.lookup y.1 == some .free)
theorem pe_lambda {X : Cx} {c P : Addr} {params : Arguments} {body : Expr} {scope : Scope} {pos : Pos} (hcode : X.env.code = .ref c) (C : PySem.W.CodeHd X.base c P) (hB : BM X.mg X.base)
    (hck : lamCheck scope X.env.scope = true) (hdef : defaultsOf params X.env = ([], []) := by rfl) :
    PE X (.Lambda params body scope pos) (tLam X.env.cells P (X.env.qual ++ "<lambda>") params body scope pos) := by
  intro pins s σ H Q I h
  have hfr : ∀ y ∈ scope.names, y.2 = .free → X.env.kindOf y.1 = some .cell ∨ X.env.kindOf y.1 = some .free := fun y hy e => by
    have z := List.all_eq_true.mp hck y hy
    have z' : X.env.scope.names.lookup y.1 = some .cell ∨ X.env.scope.names.lookup y.1 = some .free := by simpa [e] using z
    exact z'
  obtain ⟨ps, hP, ht, hnew, hhit⟩ := h
  refine PySem.W.kla_eval hdef ?_
  have hcl := closureFor_of (scope := scope) (env := X.env) fun y hy e => I.ok.has y.1 (hfr y hy e)
  have oP : s.heap.get? P = some (PySem.W.tabObj ps) := I.hok P _ hP
  have hgs : s.heap.Ns mainGlobals X.mg := I.mod.glob.keeps I.bk
  have hC : PySem.W.CodeHd s.heap c P := C.keeps I.bk
  have hgP : mainGlobals ≠ P := fun q => by
    obtain ⟨o, es, ep, e, d, _⟩ := hgs
    rw [q, oP] at e; cases e; cases d
  have hb : s.heap.BuiltinsAt X.mg P := by
    obtain ⟨bm, ob, b1, b2, b3, b4, b5, b6⟩ := hB
    refine ⟨bm, ob, b1, b2, fun q => ?_, fun q => ?_, I.bk _ _ b3, b4, b5, b6⟩
    · obtain ⟨o, es, ep, e, d, _⟩ := I.mod.glob
      rw [q, e] at b3; cases b3; rw [d] at b6; cases b6
    · have e := I.bk _ _ b3
      rw [q, oP] at e; cases e; cases b4
  cases q : codeAmong pos ps.toList with
  | none =>
    refine PySem.W.kla_makeFunction (mg := X.mg) hcl I.ok.glob hgs hcode hC oP ht q hgP hb fun c' ctv h' tk hx hge hlt hrec htb => ?_
    have hPl : P < s.heap.objs.size := Heap.lt_size oP
    have hcP : c' ≠ P := Nat.ne_of_gt (Nat.lt_of_lt_of_le hPl hge)
    have hfP : h'.objs.size ≠ P := Nat.ne_of_gt (Nat.lt_trans (Nat.lt_of_lt_of_le hPl hge) hlt)
    have hcf : c' ≠ h'.objs.size := Nat.ne_of_lt hlt
    have hsz : s.heap.objs.size ≤ h'.objs.size := Nat.le_trans hge (Nat.le_of_lt hlt)
    have nP : ∀ b, H b = none → b ≠ P := fun b n z => by rw [z, hP] at n; cases n
    have lt : ∀ b o, H b = some o → b ≠ c' ∧ b ≠ h'.objs.size := fun b o e => ⟨Nat.ne_of_lt (Nat.lt_of_lt_of_le (I.hok.lt e) hge), Nat.ne_of_lt (Nat.lt_of_lt_of_le (I.hok.lt e) hsz)⟩
    have lt2 : ∀ b o, s.heap.get? b = some o → b ≠ c' ∧ b ≠ h'.objs.size := fun b o e => ⟨Nat.ne_of_lt (Nat.lt_of_lt_of_le (Heap.lt_size e) hge), Nat.ne_of_lt (Nat.lt_of_lt_of_le (Heap.lt_size e) hsz)⟩
    have keep : ∀ b o, b ≠ P → s.heap.get? b = some o → (h'.push (PySem.W.kla_obj "<lambda>" (X.env.qual ++ "<lambda>") params body scope (clOf X.env.cells scope.names []) ((X.mg "__name__").getD .none) c' ctv)).get? b = some o := fun b o n e => Heap.get?_push_of_some _ (hx b o n e)
    have at3 : ∀ b, b ≠ P → b ≠ c' → b ≠ h'.objs.size → ∀ o1 o2 o3, upd (upd (upd H P o1) c' o2) h'.objs.size o3 b = H b := fun b n1 n2 n3 o1 o2 o3 => by rw [upd_ne n3, upd_ne n2, upd_ne n1]
    refine ⟨.ref h'.objs.size, upd (upd (upd H P (.tbl (ps ++ #[rawInt pos.line, rawInt pos.col, .ref c']))) c' (codeO c' (X.env.qual ++ "<lambda>"))) h'.objs.size (lamO h'.objs.size (PySem.W.kla_fn "<lambda>" (X.env.qual ++ "<lambda>") params body scope (clOf X.env.cells scope.names []) ((X.mg "__name__").getD .none) (.ref c') ctv)), I.un (t' := tk) ⟨fun b o e n _ _ => keep b o (nP b n) e, fun b o e n _ _ => ⟨o.slots, keep b o (nP b n) e⟩, fun b o e n _ => ?fr, fun b o e _ => ?th, fun b xs e => ?tu, fun b o u e => ?fz, fun b qs e => ?tb⟩ ?ok, rfl, hnew q c' h'.objs.size _ ctv (I.hok.fresh hge) (I.hok.fresh hsz) hcf⟩
    case fr => rw [at3 b (nP b n) (lt2 b o e).1 (lt2 b o e).2]; exact n
    case th =>
      by_cases z : b = P
      · subst z; exact ⟨_, Heap.get?_push_of_some _ htb⟩
      · exact ⟨o, keep b o z e⟩
    case tu => rw [at3 b (fun z => by rw [z, hP] at e; cases e) (lt b _ e).1 (lt b _ e).2]; exact e
    case fz => rw [at3 b (fun z => by rw [z, hP] at e; cases e) (lt b _ e).1 (lt b _ e).2]; exact e
    case tb =>
      by_cases z : b = P
      · subst z
        rw [hP] at e; cases e
        exact ⟨#[rawInt pos.line, rawInt pos.col, .ref c'], by rw [upd_ne (Ne.symm hfP), upd_ne (Ne.symm hcP), upd_same]⟩
      · exact ⟨#[], by rw [at3 b z (lt b _ e).1 (lt b _ e).2, e]; simp⟩
    case ok =>
      intro b o e
      by_cases zf : b = h'.objs.size
      · subst zf
        rw [upd_same] at e; cases e
        exact lamO_ok (Heap.get?_push_size _ rfl)
      · rw [upd_ne zf] at e
        by_cases zc : b = c'
        · subst zc
          rw [upd_same] at e; cases e
          obtain ⟨c2, oc, vs, t, e1, e2, e3⟩ := hrec
          exact codeO_ok ⟨c2, oc, vs, t, e1, Heap.get?_push_of_some _ e2, e3⟩
        · rw [upd_ne zc] at e
          by_cases zp : b = P
          · subst zp
            rw [upd_same] at e; cases e
            exact Heap.get?_push_of_some _ htb
          · rw [upd_ne zp] at e
            have up3 : ∀ d u, H d = some u → (∀ ps, u ≠ .tbl ps) → upd (upd (upd H P (.tbl (ps ++ #[rawInt pos.line, rawInt pos.col, .ref c']))) c' (codeO c' (X.env.qual ++ "<lambda>"))) h'.objs.size (lamO h'.objs.size (PySem.W.kla_fn "<lambda>" (X.env.qual ++ "<lambda>") params body scope (clOf X.env.cells scope.names []) ((X.mg "__name__").getD .none) (.ref c') ctv)) d = some u := fun d u e nt => by
              rw [at3 d (fun z => by rw [z, hP] at e; cases e; exact nt _ rfl) (lt d _ e).1 (lt d _ e).2]; exact e
            refine (I.hok b o e).stay (fun d u hd q => keep d u ?_ q) (fun d q => up3 d _ q fun _ => by nofun) fun d xs q => up3 d _ q fun _ => by nofun
            rintro rfl
            rcases hd with hd | hd
            · exact zp hd.symm
            · rw [hP] at hd; cases hd
  | some cv =>
    obtain ⟨c', rfl, hq⟩ := hhit cv q
    refine PySem.W.kla_makeFunctionHit (mg := X.mg) hcl I.ok.glob hgs hcode hC oP ht q hb fun ctv h' tk hk hsz => ?_
    refine ⟨.ref h'.objs.size, _, I.laid (t' := tk) (fun b o e => Heap.get?_push_of_some _ (hk b o e)) hsz (lamO_ok (Heap.get?_push_size _ rfl)), rfl, hq h'.objs.size _ ctv (I.hok.fresh hsz)⟩

/-! ### a call while the frame's cells are known -/
/-- H2 is H1 with the cells, each as it is; what the names hold -/
structure Caught (cl : List (Str × Addr)) (N : List Str) (kd : Str → Option NameKind) (σ : St) (H1 H2 : Hp) : Prop where
  ne : ∀ b, isC cl b ≠ true → H2 b = H1 b
  free : ∀ b, isC cl b = true → H1 b = none
  cells : Cells cl H2
  cap : ∀ (i : Nat) (x : Str) (v : V) (c : Addr), N[i]? = some x → σ[i]? = some (some v) → (kd x = some .cell ∨ kd x = some .free) → cl.lookup x = some c → ∃ o u, H2 c = some (.frz o (.own c)) ∧ o.data = .cell (some u) ∧ RelV v u
  inj : ∀ x y c, cl.lookup x = some c → cl.lookup y = some c → x = y
def tCallC (cl : List (Str × Addr)) (N : List Str) (kd : Str → Option NameKind) (sp : Sp) (t : TA) : TE := fun σ H Q => t σ H fun vs H1 => ∀ H2, Caught cl N kd σ H1 H2 → sp vs H2 (fun v H3 => Q v (Drop cl H3)) E0

theorem run_fnC {X : Cx} {k : Nat} {f : Addr} {fd : FuncData} {ps : List Str} {sp : Sp} {pins : List (Addr × Obj)} {σ : St} {H : Hp} {s : Shared} {Q : VK} {us : List Value} {vs : List V} (F : FnOk X.prog X.w X.K X.mg X.base CX0 k f fd ps sp) (hr : Room k X.A) (hb : Binds X.K fd ps [])
    (hfn : ∀ x, X.fn x = true) (I : Inv X pins σ H s) (r : Vals vs us) (h : ∀ H2, Caught X.env.cells X.N X.env.kindOf σ H H2 → sp vs H2 (fun v H3 => Q v (Drop X.env.cells H3)) E0) : wpAny (model X.prog X.w) X.A (call (.ref f) us) (EP X pins σ Q) X.xe s := by
  let H2 : Hp := fun b => if isC X.env.cells b = true then (s.heap.get? b).map fun o => .frz o (.own b) else H b
  have h2n : ∀ b, isC X.env.cells b ≠ true → H2 b = H b := fun b z => if_neg z
  have h2c : ∀ b, isC X.env.cells b = true → ∃ o v, s.heap.get? b = some o ∧ o.data = .cell v ∧ H2 b = some (.frz o (.own b)) := fun b z => by
    obtain ⟨x, e⟩ := isC_iff.mp z
    obtain ⟨v, o, g, d⟩ := I.cell x b e
    exact ⟨o, v, g, d, by show (if _ then _ else _) = _; rw [if_pos z, g]; rfl⟩
  have fr : ∀ b, isC X.env.cells b = true → H b = none := fun b z => by
    obtain ⟨x, e⟩ := isC_iff.mp z
    exact I.freeC x b e
  have up : ∀ b, isC X.env.cells b = true → X.s₀.heap.objs.size ≤ b := fun b z => by
    obtain ⟨x, e⟩ := isC_iff.mp z
    exact I.ok.cab x b (hfn x) e
  have nlt : ∀ b o, X.s₀.heap.get? b = some o → isC X.env.cells b ≠ true := fun b o e z => absurd (Nat.lt_of_lt_of_le (Heap.lt_size e) (up b z)) (Nat.lt_irrefl _)
  have nst : ∀ b ∈ frs X.stack, isC X.env.cells b ≠ true := fun b hb z => by
    rcases List.mem_cons.mp (I.stkSub b hb) with e | hb
    · obtain ⟨x, e2⟩ := isC_iff.mp z
      exact I.cne x b e2 e
    · obtain ⟨_, o, ho, _⟩ := I.ok.funs.mem hb
      exact nlt b o ho z
  have ok2 : HOk X.prog X.w H2 s.heap := fun b o e => by
    by_cases z : isC X.env.cells b = true
    · obtain ⟨ob, v, g, d, q⟩ := h2c b z
      rw [q] at e; cases e
      exact ⟨g, ob, g⟩
    · rw [h2n b z] at e
      have np : ∀ c u, H c = some u → H2 c = some u := fun c u q => by rw [h2n c fun y => by rw [fr c y] at q; cases q]; exact q
      exact (I.hok b o e).stay (fun _ _ _ q => q) (fun c q => np c _ q) fun c xs q => np c _ q
  have nb : ∀ b o, X.base.get? b = some o → isC X.env.cells b ≠ true := fun b o e => nlt b o (I.ok.bs b o e).1
  have e0 : Env0 X.prog X.w X.K X.mg X.base X.A X.stack s H2 := ⟨I.ok.frames, I.ok.mod, fun b o e => ⟨(I.bs b o e).1, by rw [h2n b (nb b o e)]; exact (I.bs b o e).2⟩, Nat.le_trans I.ok.bsz I.sz, I.stack, fun b hb => by rw [h2n b (nst b hb)]; exact I.stkFree b hb, ok2, I.bare⟩
  have ca : Caught X.env.cells X.N X.env.kindOf σ H H2 := ⟨h2n, fr, fun x c e => by
      obtain ⟨o, v, g, d, q⟩ := h2c c (isC_iff.mpr ⟨x, e⟩)
      exact ⟨o, v, q, d⟩, fun i x v c e1 e2 e3 e4 => by
      obtain ⟨m, hn, hl⟩ := I.loc
      have vis : Vis X.env.scope x := e3.elim (fun z => .inr (.inl z)) fun z => .inr (.inr z)
      obtain ⟨u, ru, lk⟩ := hl i x v e1 e2 vis
      rcases lk with ⟨z, _⟩ | ⟨_, c2, z1, z2⟩
      · rcases e3 with y | y <;> (rw [z] at y; cases y)
      · rw [e4] at z1; cases z1
        obtain ⟨o, w', g, d, q⟩ := h2c c (isC_iff.mpr ⟨x, e4⟩)
        obtain ⟨o2, g2, d2⟩ := z2
        rw [g] at g2; cases g2
        exact ⟨o, u, q, d2, ru⟩, I.ok.inj⟩
  have hsp := h H2 ca
  have hl := F.len _ _ _ _ hsp
  have hb' := hb s us I.kIn (by rw [List.append_nil, ← r.length]; exact hl)
  rw [List.append_nil] at hb'
  refine wpAny_call (codeAny_mono (F.run X.A X.stack s H2 ⟨us, []⟩ us vs _ E0 hr e0 hb' r hsp) fun r s' hq => ?_)
  cases r with
  | error e => exact False.elim hq
  | ok fl =>
    cases fl with
    | next => exact False.elim hq
    | brk => exact False.elim hq
    | cont => exact False.elim hq
    | ret u =>
      obtain ⟨v, H3, os, bare, un, ok3, rv, q⟩ := hq
      have h3c : ∀ b, isC X.env.cells b = true → ∃ o, s.heap.get? b = some o ∧ s'.heap.get? b = some o ∧ H3 b = some (.frz o (.own b)) := fun b z => by
        obtain ⟨o, v, g, d, q2⟩ := h2c b z
        have q3 := un.frzs b o _ q2
        exact ⟨o, g, (ok3 b _ q3).1, q3⟩
      have nz : ∀ b u, H b = some u → isC X.env.cells b ≠ true := fun b u e y => by rw [fr b y] at e; cases e
      refine ⟨v, _, I.call' (H' := Drop X.env.cells H3) (ch := []) os ⟨fun b o e n hb hx => ?k, fun b o e n hb hx => ?sl, fun b o e n hx => ?fr, fun b o e hx => un.there b o e hx, fun b xs e => ?tu, fun b o u e => ?fz, fun b ps e => ?tb⟩ (fun b o e => ?hok) bare (fun b z => absurd z (by simp)), rv, q⟩
      case k =>
        by_cases z : isC X.env.cells b = true
        · obtain ⟨o2, g, g', _⟩ := h3c b z
          rw [e] at g; cases g
          exact g'
        · exact un.keep b o e (by rw [h2n b z]; exact n) hb hx
      case sl => exact un.slot b o e (by rw [h2n b (nst b hb)]; exact n) hb hx
      case fr =>
        by_cases z : isC X.env.cells b = true
        · exact Drop.cell z
        · exact Drop.none (un.free b o e (by rw [h2n b z]; exact n) hx)
      case tu =>
        rw [Drop.ne (nz b _ e)]
        exact un.tups b xs (by rw [h2n b (nz b _ e)]; exact e)
      case fz =>
        rw [Drop.ne (nz b _ e)]
        exact un.frzs b o u (by rw [h2n b (nz b _ e)]; exact e)
      case tb =>
        rw [Drop.ne (nz b _ e)]
        exact un.tbls b ps (by rw [h2n b (nz b _ e)]; exact e)
      case hok =>
        obtain ⟨z, e3⟩ := Drop.some e
        have np : ∀ c u, H3 c = some u → (∀ o w', u ≠ .frz o w') → Drop X.env.cells H3 c = some u := fun c u q d => by
          rw [Drop.ne fun y => by obtain ⟨o, _, _, q3⟩ := h3c c y; rw [q] at q3; cases q3; exact d _ _ rfl]; exact q
        exact (ok3 b o e3).stay (fun _ _ _ q => q) (fun c q => np c _ q fun _ _ => by nofun) fun c xs q => np c _ q fun _ _ => by nofun
theorem pe_callC {X : Cx} {k : Nat} {f : Addr} {fd : FuncData} {ps : List Str} {sp : Sp} {x : Str} {p pos : Pos} {e : Expr} {es : List Expr} {t : TA} (F : FnOk X.prog X.w X.K X.mg X.base CX0 k f fd ps sp) (hr : Room k X.A) (hg : Gl X x) (hm : X.mg x = some (.ref f)) (hk : PySem.W.keepIn X.K (.ref f) = true) (hb : Binds X.K fd ps [])
    (hfn : ∀ x, X.fn x = true) (ha : PA X (e :: es) t) (hdb : (x == ("__debug__" : Str)) = false := by decide) (he : starEach (e :: es) X.env = (false, eval e X.env) :: starEach es X.env := by rfl) (hpl : (backTo pos (starEach es X.env)).any (·.1) = false := by rfl) :
    PE X (.Call (.Name x p) (e :: es) [] pos) (tCallC X.env.cells X.N X.env.kindOf sp t) := by
  intro pins s σ H Q I h
  refine wpAny_Call_Name_kw (ld_glob I hg hm ?_ hdb)
  refine PySem.W.callWith_K (h₀ := X.base) I.ok.mod.kin hk (thn (ha pos pins s σ H _ I h) fun us s1 ⟨vs, H1, I1, r, q⟩ => ⟨I1.kIn, ?_⟩) he hpl
  exact run_fnC F hr hb hfn I1 r q

/-! ### a call of what a name holds -/
def FnIn (K : PySem.W.Frag) (H : Hp) (f : Addr) : Prop := (∃ fd, H f = some (lamO f fd)) ∨ ∃ oc od fd sl, K.lookup f = some ⟨oc, od, .func fd, sl⟩
theorem FnIn.at {X : Cx} {pins : List (Addr × Obj)} {σ : St} {H : Hp} {s : Shared} {f : Addr} (h : FnIn X.K H f) (I : Inv X pins σ H s) : PySem.W.FnAt f s.heap := by
  rcases h with ⟨fd, h⟩ | ⟨oc, od, fd, sl, h⟩
  · exact ⟨_, _, _, _, lamO_get I.hok h⟩
  · exact ⟨_, _, _, _, I.kIn _ _ h⟩
def tCallV (P : Program) (w : World) (K : PySem.W.Frag) (mg : Str → Option Value) (base : Heap) (k : Nat) (i : Nat) (t : TA) : TE := fun σ H Q => ∃ f, σ[i]? = some (some (.ref f)) ∧ FnIn K H f ∧ t σ H fun vs H1 => FnIn K H1 f ∧ ∃ R sp, ClOk P w K mg base k R f sp ∧ R H1 ∧ sp vs H1 Q E0
theorem run_cl {X : Cx} {k : Nat} {f : Addr} {sp : Sp} {R : Hp → Prop} {pins : List (Addr × Obj)} {σ : St} {H : Hp} {s : Shared} {Q : VK} {us : List Value} {vs : List V} (F : ClOk X.prog X.w X.K X.mg X.base k R f sp) (hr : Room k X.A) (I : Inv X pins σ H s) (hR : R H) (r : Vals vs us) (h : sp vs H Q E0) :
    wpAny (model X.prog X.w) X.A (call (.ref f) us) (EP X pins σ Q) X.xe s := by
  refine wpAny_call (codeAny_mono (F.run X.A X.stack s H us vs Q hr I.env0 hR r h) fun r s' hq => ?_)
  cases r with
  | error e => exact False.elim hq
  | ok fl =>
    cases fl with
    | ret u => exact I.after hq
    | next => exact False.elim hq
    | brk => exact False.elim hq
    | cont => exact False.elim hq
theorem pe_callV {X : Cx} {P : Program} {w : World} {K : PySem.W.Frag} {mg : Str → Option Value} {base : Heap} {k i : Nat} {x : Str} {p pos : Pos} {e : Expr} {es : List Expr} {t : TA} (hP : X.prog = P) (hw : X.w = w) (hK : X.K = K) (hmg : X.mg = mg) (hbs : X.base = base) (hr : Room k X.A) (hv : PE X (.Name x p) (tVar i)) (ha : PA X (e :: es) t)
    (he : starEach (e :: es) X.env = (false, eval e X.env) :: starEach es X.env := by rfl) (hpl : (backTo pos (starEach es X.env)).any (·.1) = false := by rfl) :
    PE X (.Call (.Name x p) (e :: es) [] pos) (tCallV P w K mg base k i t) := by
  subst hP hw hK hmg hbs
  intro pins s σ H Q I h
  obtain ⟨f, hσ, hf, ht⟩ := h
  refine wpAny_Call_Name_kw (thn (hv pins s σ H (fun v H' => v = .ref f ∧ H' = H) I ⟨.ref f, hσ, rfl, rfl⟩) fun u s0 ⟨v, H0, I0, r0, ev, eH⟩ => ?_)
  subst ev
  subst eH
  cases r0
  exact PySem.W.callWith_F (q := f) (hf.at I0) (thn (ha pos pins s0 σ H0 _ I0 ht) fun us s1 ⟨vs, H1, I1, r, hF, R, sp, F, hR, q⟩ => ⟨hF.at I1, run_cl F hr I1 hR r q⟩) he hpl
end L2

set_option Elab.async false
set_option linter.all false
set_option maxRecDepth 100000
set_option maxHeartbeats 4000000
namespace L2
open PySem PySem.Spec PyProof.Rows

/-- the head, where tables of code objects are written by lambdas -/
theorem law_callT {P : Program} {w : World} {K : PySem.W.Frag} {mg mb : Str → Option Value} {k : Nat} {fa a : Addr} {fd : FuncData} {x : Str} {sp : Sp} {s₁ : Shared} {vs : List Value} {ns : List Int} {tabs : List (Addr × Addr)}
    (KX : K.In s₁.heap) (hns : s₁.heap.Ns mainGlobals mg) (hb : s₁.heap.Ns builtinsNs mb) (hbb : ∀ x : Str, x ≠ "__name__" → mb x = bootBuiltins x) (hlim : s₁.heap.NoLimit) (hg : s₁.gens = #[]) (hBM : BM mg s₁.heap) (hT : PySem.W.TabsAt tabs s₁.heap) (hnt : PySem.W.noTabs K = true)
    (ha : s₁.heap.get? a = some { cls := .type "list", data := .seq vs.toArray }) (hi : IntsAre vs ns) (hl : ns.length ≤ sizeLine) (hr : Room k callerA)
    (F : ∀ base : Heap, K.In base → base.Ns mainGlobals mg → BM mg base → (∀ q ∈ tabs, PySem.W.CodeHd base q.1 q.2) → FnOk P w K mg base CX0 k fa fd [x] sp) (hbind : ∀ (s : Shared) (u : Value), BindsTo s fd ⟨[u], []⟩ [(x, u)])
    (hsp : ∀ H : Hp, (∀ q ∈ tabs, H q.2 = some (.tbl #[])) → SqL K H a (ns.map V.int) → sp [.ref a] H (fun v _ => v = .bl true) E0) :
    codeAny (model P w) callerA (.call (.ref fa) ⟨[.ref a], []⟩) (fun r s' => r = .ok (.ret (.bool true)) ∧ OldK s₁.heap s'.heap ∧ s'.os = s₁.os ∧ AllBare s'.gens) s₁ := by
  have rv := vals_ints hi
  have lenV := hi.length
  have tabO : ∀ b, b ∈ tabs.map (·.2) → s₁.heap.get? b = some (PySem.W.tabObj #[]) := fun b h => by
    obtain ⟨q, hq, rfl⟩ := List.mem_map.mp h
    exact (hT q hq).2
  have core : ∀ H : Hp, (∀ b u, H b = some u → (b = a ∧ ∃ o xs, u = .frz o (.lst xs)) ∨ (b ∈ tabs.map (·.2) ∧ u = .tbl #[])) → (∀ q ∈ tabs, H q.2 = some (.tbl #[])) → SqL K H a (ns.map V.int) → HOk P w H s₁.heap → (H a ≠ none → K.lookup a = none) →
      codeAny (model P w) callerA (.call (.ref fa) ⟨[.ref a], []⟩) (fun r s' => r = .ok (.ret (.bool true)) ∧ OldK s₁.heap s'.heap ∧ s'.os = s₁.os ∧ AllBare s'.gens) s₁ := by
    intro H hO hTb hS hok hK
    have un : ∀ b o, s₁.heap.get? b = some o → o.cls ≠ .type "list" → (∀ vs, o.data ≠ .fields vs) → H b = none := fun b o e n1 n2 => by
      cases q : H b with
      | none => rfl
      | some u =>
        rcases hO b u q with ⟨z, _⟩ | ⟨z, _⟩
        · rw [z, ha] at e; cases e; exact absurd rfl n1
        · rw [tabO b z] at e; cases e; exact absurd rfl (n2 #[])
    have nsK : ∀ {b : Addr} {m : Str → Option Value}, s₁.heap.Ns b m → (hidT s₁.heap H).Ns b m := fun {b m} ⟨o, es, ep, e, d, r⟩ => by
      refine ⟨o, es, ep, hidT_get e ?_, d, r⟩
      cases q : H b with
      | none => rfl
      | some u =>
        rcases hO b u q with ⟨z, _⟩ | ⟨z, _⟩
        · rw [z, ha] at e; cases e; cases d
        · rw [tabO b z] at e; cases e; cases d
    have hKb : K.In (hidT s₁.heap H) := fun b o e => hidT_get (KX b o e) (by
      cases q : H b with
      | none => rfl
      | some u =>
        rcases hO b u q with ⟨z, _⟩ | ⟨z, _⟩
        · subst z
          rw [hK (by rw [q]; simp)] at e; cases e
        · have e2 := KX b o e
          rw [tabO b z] at e2
          have h2 := List.all_eq_true.mp hnt (b, o) (PySem.W.mem_of_lookupK e)
          have e3 : o = PySem.W.tabObj #[] := (Option.some.inj e2).symm
          subst e3
          exact absurd (show false = true from h2) Bool.false_ne_true)
    have hM : Mod K mg (hidT s₁.heap H) := ⟨hKb, nsK hns, ⟨mb, nsK hb, hbb⟩, let ⟨mc, h1, h2⟩ := hlim; ⟨mc, nsK h1, h2⟩⟩
    have hB2 : BM mg (hidT s₁.heap H) := by
      obtain ⟨bm, ob, b1, b2, b3, b4, b5, b6⟩ := hBM
      exact ⟨bm, ob, b1, b2, hidT_get b3 (un bm ob b3 (by rw [b4]; nofun) (by rw [b6]; nofun)), b4, b5, b6⟩
    have hC2 : ∀ q ∈ tabs, PySem.W.CodeHd (hidT s₁.heap H) q.1 q.2 := fun q hq => by
      obtain ⟨o, vs', file, tf, flags, tg, inF, text, tt, e1, r1, r2⟩ := (hT q hq).1
      refine ⟨o, vs', file, tf, flags, tg, inF, text, tt, hidT_get e1 ?_, r1, r2⟩
      cases q2 : H q.1 with
      | none => rfl
      | some u =>
        rcases hO _ u q2 with ⟨z, _⟩ | ⟨z, _⟩
        · rw [z, ha] at e1; cases e1; exact absurd r1 (by simp)
        · rw [tabO _ z] at e1; cases e1; exact absurd r1 (by simp)
    have e0 : Env0 P w K mg (hidT s₁.heap H) callerA [] s₁ H := ⟨rfl, hM, fun b o e => of_hidT e, Nat.le_of_eq (hidT_size _ _), trivial, fun b hb => absurd (show b ∈ ([] : List Addr) from hb) (by simp), hok, .of_eq hg⟩
    refine codeAny_mono ((F _ hKb (nsK hns) hB2 hC2).run callerA [] s₁ H ⟨[.ref a], []⟩ [.ref a] [.ref a] _ _ hr e0 (hbind s₁ (.ref a)) (.cons rfl .nil) (hsp H hTb hS)) fun r s' h => ?_
    cases r with
    | error e => exact False.elim h
    | ok fl =>
      cases fl with
      | next => exact False.elim h
      | brk => exact False.elim h
      | cont => exact False.elim h
      | ret u =>
        obtain ⟨v, H', os, bare, un', hok', r', q⟩ := h
        have q' : v = .bl true := q
        subst q'
        obtain rfl : u = Value.bool true := r'
        have key : ∀ b o, s₁.heap.get? b = some o → asItWas s₁.heap s'.heap b o ∧ ∃ o', s'.heap.get? b = some o' := fun b o e => by
          cases q : H b with
          | none =>
            have z := un'.keep b o e q (by intro z; exact absurd (show b ∈ ([] : List Addr) from z) (by simp)) (by simp)
            exact ⟨.inl z, o, z⟩
          | some u =>
            rcases hO b u q with ⟨_, ob, xs, z⟩ | ⟨z, z2⟩
            · subst z
              have z2 := un'.frzs b ob _ q
              obtain ⟨e1, _⟩ := hok b _ q
              obtain ⟨e2, _⟩ := hok' b _ z2
              rw [e] at e1; cases e1
              exact ⟨.inl e2, _, e2⟩
            · subst z2
              obtain ⟨more, z3⟩ := un'.tbls b _ q
              have g : s'.heap.get? b = some { cls := .none, data := .fields (#[] ++ more) } := hok' b _ z3
              have e1 := tabO b z
              rw [e] at e1; cases e1
              obtain ⟨p, hp, ep⟩ := List.mem_map.mp z
              refine ⟨.inr (.inl ⟨?_, rfl, #[], more, rfl, g⟩), _, g⟩
              have t := ((hT p hp).1.tab (hT p hp).2).isCodeTable
              rw [ep] at t
              exact t
        exact ⟨rfl, ⟨fun b o e => (key b o e).1, fun b o e => (key b o e).2⟩, os, bare⟩
  have tbl : ∀ b, b ∈ tabs.map (·.2) → b ≠ a := fun b h z => by
    have e := tabO b h
    rw [z, ha] at e; cases e
  cases hk : K.lookup a with
  | some o =>
    have e := KX a o hk
    rw [ha] at e
    cases e
    refine core (fun b => if b ∈ tabs.map (·.2) then some (.tbl #[]) else none) (fun b u z => ?_) (fun q hq => if_pos (List.mem_map_of_mem hq)) (.inr ⟨_, vs.toArray, _, hk, rfl, rfl, rfl, by rw [List.size_toArray, lenV]; exact hl, by simpa using rv⟩) (fun b u z => ?_) fun z => ?_
    · by_cases hb : b ∈ tabs.map (·.2)
      · have z' := (if_pos hb).symm.trans z
        cases z'
        exact .inr ⟨hb, rfl⟩
      · have z' := (if_neg hb).symm.trans z
        cases z'
    · by_cases hb : b ∈ tabs.map (·.2)
      · have z' := (if_pos hb).symm.trans z
        cases z'
        exact tabO b hb
      · have z' := (if_neg hb).symm.trans z
        cases z'
    · exact absurd (if_neg fun y => tbl a y rfl) z
  | none =>
    refine core (fun b => if b = a then some (.frz { cls := .type "list", data := .seq vs.toArray } (.lst (ns.map V.int))) else if b ∈ tabs.map (·.2) then some (.tbl #[]) else none) (fun b u z => ?_) (fun q hq => ?_) (.inl (.inr ⟨{ cls := .type "list", data := .seq vs.toArray }, if_pos rfl⟩)) (fun b u z => ?_) fun _ => hk
    · by_cases hb : b = a
      · have z' := (if_pos hb).symm.trans z
        cases z'
        exact .inl ⟨hb, _, _, rfl⟩
      · have z' := (if_neg hb).symm.trans z
        by_cases hc : b ∈ tabs.map (·.2)
        · rw [if_pos hc] at z'; cases z'; exact .inr ⟨hc, rfl⟩
        · rw [if_neg hc] at z'; cases z'
    · have hm : q.2 ∈ tabs.map (·.2) := List.mem_map_of_mem hq
      show (if _ then _ else if _ then _ else _) = _
      rw [if_neg (tbl _ hm), if_pos hm]
    · by_cases hb : b = a
      · have z' := (if_pos hb).symm.trans z
        cases z'
        subst hb
        exact ⟨ha, by rw [List.length_map]; exact hl, vs, _, rv, ha⟩
      · have z' := (if_neg hb).symm.trans z
        by_cases hc : b ∈ tabs.map (·.2)
        · rw [if_pos hc] at z'; cases z'; exact tabO b hc
        · rw [if_neg hc] at z'; cases z'

/-- the defs that make lambdas: each one's code object and table -/
def tabsOf (K : PySem.W.Frag) (names : List Str) : List (Str × Addr × Addr) := names.filterMap fun x => (PySem.W.tabIn K x).map fun p => (x, p)
theorem mem_tabsOf {K : PySem.W.Frag} {names : List Str} {y : Str × Addr × Addr} : y ∈ tabsOf K names ↔ y.1 ∈ names ∧ PySem.W.tabIn K y.1 = some y.2 := by
  unfold tabsOf
  rw [List.mem_filterMap]
  constructor
  · rintro ⟨x, hx, e⟩
    obtain ⟨p, hp, rfl⟩ := Option.map_eq_some_iff.mp e
    exact ⟨hx, hp⟩
  · rintro ⟨hx, e⟩
    exact ⟨y.1, hx, by rw [e]; rfl⟩
def Codes (K : PySem.W.Frag) (names : List Str) (base : Heap) : Prop := ∀ x ∈ names, ∀ c P, PySem.W.tabIn K x = some (c, P) → PySem.W.CodeHd base c P
def Blank (K : PySem.W.Frag) (names : List Str) (H : Hp) : Prop := ∀ x ∈ names, ∀ c P, PySem.W.tabIn K x = some (c, P) → H P = some (.tbl #[])
def tabsIn (K : PySem.W.Frag) (names : List Str) (ts : List Addr) : Bool := names.all fun x => match PySem.W.tabIn K x with
  | some (c, P) => PySem.W.codeHdIn K c P && ts.contains P
  | none => true
theorem walk_ofT {ts : List Addr} {l : PySem.W.OpenLaw} {n k : Nat} {q : Program} {loose : List Str} {XP : (Str → Option Value) → Heap → Prop} {YP : World → Heap → Prop} {d : DefRec} {K : Params → PySem.W.Frag} {sp : PySem.W.Frag → Sp} {x : Str} (names : List Str)
    (hn : l.most = some n) (hn2 : n ≤ sizeLine) (hdf : d.params.defaults = []) (hr : Room k callerA)
    (hY : ∀ (w : World) (h : Heap), YP w h → (K w.params).In h ∧ ∀ P ∈ ts, h.get? P = some (PySem.W.tabObj #[])) (hrec : ∀ w : World, tabsIn (K w.params) names ts = true) (hnt : ∀ w : World, PySem.W.noTabs (K w.params) = true)
    (F : ∀ (w : World) (mg : Str → Option Value) (fa : Addr) (h : Heap), (K w.params).In h → h.Ns mainGlobals mg → mg d.name = some (.ref fa) →
      ∃ fd : FuncData, (∀ (s : Shared) (u : Value), BindsTo s fd ⟨[u], []⟩ [(x, u)]) ∧
        ∀ base : Heap, (K w.params).In base → base.Ns mainGlobals mg → BM mg base → Codes (K w.params) names base → FnOk l.prog w (K w.params) mg base CX0 k fa fd [x] (sp (K w.params)))
    (hsp : ∀ (K : PySem.W.Frag) (H : Hp) (a : Addr) (ns : List Int), ns.length ≤ n → Blank K names H → SqL K H a (ns.map V.int) → sp K [.ref a] H (fun v _ => v = .bl true) E0) :
    PySem.W.WalkO q loose XP YP l.row.toRowW d [] (fun f vs => PySem.call f vs) := by
  refine Att.attach_call hn hdf fun w s₀ s₁ mg mb fa o pm cd doc a vs ns G Y ho hd hcd hmg hobj hints hlen hg => ?_
  obtain ⟨KX, tsX⟩ := hY w _ Y
  obtain ⟨fd, hb, hF⟩ := F w mg fa _ KX G.T.g hmg
  have hT : PySem.W.TabsAt ((tabsOf (K w.params) names).map (·.2)) s₁.heap := fun p hp => by
    obtain ⟨y, hy, rfl⟩ := List.mem_map.mp hp
    obtain ⟨h1, h2⟩ := mem_tabsOf.mp hy
    have z := List.all_eq_true.mp (hrec w) y.1 h1
    rw [h2] at z
    have z' : (PySem.W.codeHdIn (K w.params) y.2.1 y.2.2 && ts.contains y.2.2) = true := z
    rw [Bool.and_eq_true] at z'
    exact ⟨PySem.W.codeHd_of_K KX z'.1, tsX _ (by simpa using z'.2)⟩
  have hm : ∀ x ∈ names, ∀ c P, PySem.W.tabIn (K w.params) x = some (c, P) → (c, P) ∈ (tabsOf (K w.params) names).map (·.2) := fun x hx c P e => List.mem_map.mpr ⟨(x, c, P), mem_tabsOf.mpr ⟨hx, e⟩, rfl⟩
  refine law_callT (tabs := (tabsOf (K w.params) names).map (·.2)) KX G.T.g G.T.b G.T.builtins G.T.nolimit hg ?_ hT (hnt w) hobj hints (Nat.le_trans hlen hn2) hr (fun base k1 k2 k3 k4 => hF base k1 k2 k3 fun x hx c P e => k4 _ (hm x hx c P e)) hb fun H hO hS => hsp (K w.params) H a ns hlen (fun x hx c P e => hO _ (hm x hx c P e)) hS
  obtain ⟨bm, ob, h1, h2, h3, h4, h5, h6⟩ := G.T.bmain
  exact ⟨bm, ob, h1, h2, h3, h4, h5, h6⟩
theorem tab_some {K : PySem.W.Frag} {x : Str} (h : (PySem.W.tabIn K x).isSome = true) : PySem.W.tabIn K x = some (((PySem.W.tabIn K x).getD (0, 0)).1, ((PySem.W.tabIn K x).getD (0, 0)).2) := by
  obtain ⟨p, e⟩ := Option.isSome_iff_exists.mp h
  rw [e]
  rfl
end L2

set_option Elab.async false
set_option linter.all false
set_option maxRecDepth 100000
set_option maxHeartbeats 4000000
namespace L2
open PySem PySem.Spec PyProof.Rows

/-! ### tables of code objects, for whoever reads -/
def TabOkH (H : Hp) (P : Addr) (q : Str) : Prop := ∃ ps : Array Value, H P = some (.tbl ps) ∧ TriplesOk ps.toList ∧ ∀ pos cv, codeAmong pos ps.toList = some cv → ∃ c', cv = .ref c' ∧ H c' = some (codeO c' q)
def TabsH (T : List (Addr × Str)) (H : Hp) : Prop := ∀ y ∈ T, TabOkH H y.1 y.2
/-- what is tracked stays, tables aside -/
def SameT (H H' : Hp) : Prop := ∀ b o, (∀ ps, o ≠ .tbl ps) → H b = some o → H' b = some o
theorem SameT.refl {H : Hp} : SameT H H := fun _ _ _ h => h
theorem SameT.trans {H H1 H2 : Hp} (a : SameT H H1) (b : SameT H1 H2) : SameT H H2 := fun c o n h => b c o n (a c o n h)
theorem SameT.of {H H1 : Hp} (a : Same H H1) : SameT H H1 := fun c o _ h => a c o h
theorem SameT.lst {H H1 : Hp} (a : SameT H H1) {b : Addr} {xs : List V} (h : H b = some (.lst xs)) : H1 b = some (.lst xs) := a b _ (fun _ => by nofun) h
theorem SameT.new {H H1 : Hp} (a : SameT H H1) {b : Addr} {o : HO} (h : H1 b = none) : SameT H (upd H1 b o) := a.trans (.of ((Same.refl H1).new h))
theorem SameT.free {H H1 : Hp} (a : SameT H H1) (ht : ∀ b ps, H b = some (.tbl ps) → ∃ qs, H1 b = some (.tbl qs)) {b : Addr} (h : H1 b = none) : H b = none := by
  cases q : H b with
  | none => rfl
  | some o =>
    by_cases z : ∃ ps, o = .tbl ps
    · obtain ⟨ps, rfl⟩ := z
      obtain ⟨qs, e⟩ := ht b ps q
      rw [e] at h; cases h
    · rw [a b o (fun ps y => z ⟨ps, y⟩) q] at h; cases h
theorem SameT.seqL {K : PySem.W.Frag} {H H' : Hp} {a : Addr} {xs : List V} (e : SameT H H') (h : SqL K H a xs) : SqL K H' a xs := by
  rcases h with (h | ⟨o, h⟩) | h
  · exact .inl (.inl (e _ _ (fun _ => by nofun) h))
  · exact .inl (.inr ⟨o, e _ _ (fun _ => by nofun) h⟩)
  · exact .inr h
theorem SameT.ts {K : PySem.W.Frag} {H H' : Hp} (e : SameT H H') : TSame K H H' := fun a xs h => by
  rcases h with (h | ⟨o, h⟩) | h
  · exact .inl (.inl (e _ _ (fun _ => by nofun) h))
  · exact .inl (.inr ⟨o, e _ _ (fun _ => by nofun) h⟩)
  · exact .inr h
theorem TabsH.keep {T : List (Addr × Str)} {H H' : Hp} (h : TabsH T H) (k : ∀ b o, (∀ xs, o ≠ .lst xs) → H b = some o → H' b = some o) : TabsH T H' := fun y hy => by
  obtain ⟨ps, e, t, c⟩ := h y hy
  refine ⟨ps, k _ _ (fun _ => by nofun) e, t, fun pos cv q => ?_⟩
  obtain ⟨c', e1, e2⟩ := c pos cv q
  exact ⟨c', e1, k _ _ (fun _ => by unfold codeO; nofun) e2⟩
theorem TabsH.same {T : List (Addr × Str)} {H H' : Hp} (h : TabsH T H) (s : Same H H') : TabsH T H' := h.keep fun b o _ e => s b o e
theorem TabsH.new {T : List (Addr × Str)} {H : Hp} {a : Addr} {o : HO} (h : TabsH T H) (n : H a = none) : TabsH T (upd H a o) := h.same ((Same.refl H).new n)
theorem TabsH.put {T : List (Addr × Str)} {H : Hp} {a : Addr} {o : HO} {xs : List V} (h : TabsH T H) (n : H a = some (.lst xs)) : TabsH T (upd H a o) := h.keep fun b u d e => by
  rw [upd_ne fun z => by subst z; rw [n] at e; cases e; exact d _ rfl]; exact e
theorem TabsH.but {T : List (Addr × Str)} {H H' : Hp} {a : Addr} {xs : List V} (h : TabsH T H) (n : H a = some (.lst xs)) (k : KeepBut a H H') : TabsH T H' := h.keep fun b u d e =>
  k b u (fun z => by subst z; rw [n] at e; cases e; exact d _ rfl) e
theorem TabsH.init {T : List (Addr × Str)} {H : Hp} (h : ∀ p ∈ T.map (·.1), H p = some (.tbl #[])) : TabsH T H := fun y hy =>
  ⟨#[], h _ (List.mem_map_of_mem hy), trivial, fun pos cv e => by simp [codeAmong] at e⟩
theorem codeAmong_add {pos : Pos} {a b : Int} {c cv : Value} : ∀ (l : List Value), TriplesOk l → codeAmong pos (l ++ [rawInt a, rawInt b, c]) = some cv → codeAmong pos l = some cv ∨ cv = c := by
  intro l
  fun_induction TriplesOk l with
  | case1 =>
    intro _ e
    simp only [List.nil_append, codeAmong, rawInt] at e
    split at e
    · exact .inr (Option.some.inj e).symm
    · cases e
  | case2 x t y u z rest ih =>
    intro h e
    simp only [List.cons_append, codeAmong] at e ⊢
    split at e
    · rename_i q
      left; rw [if_pos q]; exact e
    · rename_i q
      rw [if_neg q]; exact ih h e
  | case3 l h1 h2 => intro h; exact h.elim

/-- a lambda is made: what its reader gets -/
theorem tLam_of {T : List (Addr × Str)} {cells : List (Str × Addr)} {P : Addr} {q : Str} {params : Arguments} {body : Expr} {scope : Scope} {pos : Pos} {σ : St} {H : Hp} {Q : VK} (hT : TabsH T H) (nd : (T.map (·.1)).Nodup) (hm : (P, q) ∈ T)
    (go : ∀ (f : Addr) (H' : Hp), SameT H H' → TabsH T H' → H f = none → (∃ pm c' ctv, H' f = some (lamO f (PySem.W.kla_fn "<lambda>" q params body scope (clOf cells scope.names []) pm (.ref c') ctv)) ∧ H' c' = some (codeO c' q)) → Q (.ref f) H') :
    tLam cells P q params body scope pos σ H Q := by
  obtain ⟨ps, hP, ht, hc⟩ := hT _ hm
  refine ⟨ps, hP, ht, fun hn c' f pm ctv n1 n2 ne => ?_, fun cv e => ?_⟩
  · have cP : c' ≠ P := fun z => by rw [z, hP] at n1; cases n1
    have fP : f ≠ P := fun z => by rw [z, hP] at n2; cases n2
    have at' : ∀ b, b ≠ P → H b ≠ none → ∀ o1 o2 o3, upd (upd (upd H P o1) c' o2) f o3 b = H b := fun b z1 z2 o1 o2 o3 => by
      rw [upd_ne fun z => by subst z; exact z2 n2, upd_ne fun z => by subst z; exact z2 n1, upd_ne z1]
    refine go f _ (fun b o d e => ?_) (fun y hy => ?_) n2 ⟨pm, c', ctv, upd_same, by rw [upd_ne ne, upd_same]⟩
    · rw [at' b (fun z => by subst z; rw [hP] at e; cases e; exact d _ rfl) (by rw [e]; simp)]; exact e
    · by_cases z : y.1 = P
      · have ey : y = (P, q) := by
          have : ∀ (l : List (Addr × Str)), (l.map (·.1)).Nodup → y ∈ l → (P, q) ∈ l → y = (P, q) := by
            intro l
            induction l with
            | nil => intro _ h; simp at h
            | cons a l ih =>
              intro hn h1 h2
              rw [List.map_cons, List.nodup_cons] at hn
              rcases List.mem_cons.mp h1 with e1 | h1 <;> rcases List.mem_cons.mp h2 with e2 | h2
              · rw [e1, e2]
              · exact absurd (by rw [← e1, z]; exact List.mem_map_of_mem (f := (·.1)) h2) hn.1
              · exact absurd (by rw [← e2, ← z]; exact List.mem_map_of_mem (f := (·.1)) h1) hn.1
              · exact ih hn.2 h1 h2
          exact this T nd hy hm
        subst ey
        refine ⟨_, by rw [upd_ne (Ne.symm fP), upd_ne (Ne.symm cP), upd_same], ?_, fun pos2 cv e => ?_⟩
        · rw [Array.toList_append]; exact TriplesOk_snoc _ _ _ _ ht
        · rw [Array.toList_append] at e
          rcases codeAmong_add _ ht e with e' | e'
          · obtain ⟨c2, e1, e2⟩ := hc pos2 cv e'
            exact ⟨c2, e1, by rw [at' c2 (fun z => by subst z; rw [hP] at e2; unfold codeO at e2; cases e2) (by rw [e2]; simp)]; exact e2⟩
          · exact ⟨c', e', by rw [upd_ne ne, upd_same]⟩
      · obtain ⟨qs, e1, e2, e3⟩ := hT y hy
        refine ⟨qs, by rw [at' y.1 z (by rw [e1]; simp)]; exact e1, e2, fun pos2 cv e => ?_⟩
        obtain ⟨c2, e4, e5⟩ := e3 pos2 cv e
        exact ⟨c2, e4, by rw [at' c2 (fun z => by subst z; rw [hP] at e5; unfold codeO at e5; cases e5) (by rw [e5]; simp)]; exact e5⟩
  · obtain ⟨c', e1, e2⟩ := hc pos cv e
    refine ⟨c', e1, fun f pm ctv n => go f _ (.of ((Same.refl H).new n)) (hT.new n) n ⟨pm, c', ctv, upd_same, ?_⟩⟩
    rw [upd_ne (ne_of_none e2 n)]; exact e2

/-- the lambda with its cells -/
theorem lamAt_of {cells : List (Str × Addr)} {N : List Str} {kd : Str → Option NameKind} {σ : St} {H1 H2 : Hp} {f : Addr} {q : Str} {params : Arguments} {body : Expr} {scope : Scope} {fr : List Str} {cap : List V} (ca : Caught cells N kd σ H1 H2)
    (hf : ∃ pm c' ctv, H1 f = some (lamO f (PySem.W.kla_fn "<lambda>" q params body scope (clOf cells scope.names []) pm (.ref c') ctv)) ∧ H1 c' = some (codeO c' q))
    (hfr : ∀ x, scope.names.lookup x = some .free → ∃ c, cells.lookup x = some c)
    (hcap : ∀ (i : Nat) (x : Str) (v : V), fr[i]? = some x → cap[i]? = some v → scope.names.lookup x = some .free ∧ (kd x = some .cell ∨ kd x = some .free) ∧ ∃ j : Nat, N[j]? = some x ∧ σ[j]? = some (some v)) :
    LamAt H2 f q params body scope fr cap (clOf cells scope.names []) := by
  obtain ⟨pm, c', ctv, h1, h2⟩ := hf
  have up : ∀ b o, H1 b = some o → H2 b = some o := fun b o e => by
    rw [ca.ne b fun z => by rw [ca.free b z] at e; cases e]; exact e
  have sub : ∀ x c, (clOf cells scope.names []).lookup x = some c → cells.lookup x = some c := fun x c e => by
    rcases clOf_mem (PySem.mem_of_lookup e) with z | z
    · exact z
    · exact absurd z (by simp)
  refine ⟨pm, c', ctv, up _ _ h1, up _ _ h2, fun x c e => ca.cells x c (sub x c e), fun x y c e1 e2 => ca.inj x y c (sub x c e1) (sub y c e2), fun x k => ?_, fun i x v e1 e2 => ?_⟩
  · obtain ⟨c, e⟩ := hfr x k
    exact ⟨c, clOf_lookup e (PySem.mem_of_lookup k)⟩
  · obtain ⟨k, kk, j, e3, e4⟩ := hcap i x v e1 e2
    obtain ⟨c, e⟩ := hfr x k
    obtain ⟨o, u, e5, e6, e7⟩ := ca.cap j x v c e3 e4 kk e
    exact ⟨c, o, u, clOf_lookup e (PySem.mem_of_lookup k), e5, e6, e7⟩
theorem Caught.same {cells : List (Str × Addr)} {N : List Str} {kd : Str → Option NameKind} {σ : St} {H1 H2 : Hp} (ca : Caught cells N kd σ H1 H2) : Same H1 H2 := fun b o e => by
  rw [ca.ne b fun z => by rw [ca.free b z] at e; cases e]; exact e
/-- behind a call with the cells known -/
theorem Caught.back {cells : List (Str × Addr)} {N : List Str} {kd : Str → Option NameKind} {σ : St} {H1 H2 H3 : Hp} (ca : Caught cells N kd σ H1 H2) (s : SameT H2 H3) : SameT H1 (Drop cells H3) := fun b o d e => by
  have z : isC cells b ≠ true := fun z => by rw [ca.free b z] at e; cases e
  rw [Drop.ne z]
  exact s b o d (ca.same b o e)
theorem Caught.backS {cells : List (Str × Addr)} {N : List Str} {kd : Str → Option NameKind} {σ : St} {H1 H2 H3 : Hp} (ca : Caught cells N kd σ H1 H2) (s : Same H2 H3) : Same H1 (Drop cells H3) := fun b o e => by
  have z : isC cells b ≠ true := fun z => by rw [ca.free b z] at e; cases e
  rw [Drop.ne z]
  exact s b o (ca.same b o e)
theorem Caught.ts {K : PySem.W.Frag} {cells : List (Str × Addr)} {N : List Str} {kd : Str → Option NameKind} {σ : St} {H1 H2 H3 : Hp} (ca : Caught cells N kd σ H1 H2) (s : SameT H2 H3) : TSame K H3 (Drop cells H3) := fun a xs h => by
  have nc : ∀ u, H3 a = some u → (∀ o, u ≠ .frz o (.own a)) → isC cells a ≠ true := fun u e d z => by
    obtain ⟨o, v, e2, _⟩ := ca.cells.at z
    have e3 := s a _ (fun _ => by nofun) e2
    rw [e] at e3; cases e3
    exact d o rfl
  rcases h with (h | ⟨o, h⟩) | h
  · exact .inl (.inl (by rw [Drop.ne (nc _ h fun _ => by nofun)]; exact h))
  · exact .inl (.inr ⟨o, by rw [Drop.ne (nc _ h fun o z => by cases z)]; exact h⟩)
  · exact .inr h
/-- within the lambda's body -/
theorem Cells.drop {cells : List (Str × Addr)} {H : Hp} (h : Cells cells H) {b : Addr} {o : HO} (e : H b = some o) (d : ∀ ob, o ≠ .frz ob (.own b)) : Drop cells H b = some o := by
  rw [Drop.ne fun z => by obtain ⟨ob, v, e2, _⟩ := h.at z; rw [e] at e2; cases e2; exact d _ rfl]; exact e
theorem Cells.dropT {K : PySem.W.Frag} {cells : List (Str × Addr)} {H : Hp} (h : Cells cells H) : TSame K H (Drop cells H) := fun a xs q => by
  rcases q with (q | ⟨o, q⟩) | q
  · exact .inl (.inl (h.drop q fun _ => by nofun))
  · exact .inl (.inr ⟨o, h.drop q fun _ z => by cases z⟩)
  · exact .inr q
theorem put_same {cells : List (Str × Addr)} {H H' : Hp} (s : Same (Drop cells H) H') : Same H (Put cells H H') := fun b o e => by
  by_cases z : isC cells b = true
  · rw [Put.cell z]; exact e
  · rw [Put.ne z]; exact s b o (by rw [Drop.ne z]; exact e)
theorem put_drop {cells : List (Str × Addr)} {H : Hp} : Same H (Put cells H (Drop cells H)) := put_same (Same.refl _)

/-- a def whose code object is known -/
theorem Fun.okC {P : Program} {w : World} {K : PySem.W.Frag} {mg : Str → Option Value} {base : Heap} {x qual : Str} {st : Stmt} {f c : Addr} {fd : FuncData} {N ps : List Str} {k : Nat} {sp : Sp} (F : Fun K x qual st f fd) (hcd : fd.code = .ref c) (S : FnScope N ps (defScope st)) (len : ∀ vs H Q E, sp vs H Q E → vs.length = ps.length)
    (hbody : ∀ (A : Around) (outer : List Env) (s : Shared) (H : Hp) (vs : List V) (Q : VK) (E : XK), Room k (A.deeper (envOfC qual (defScope st) s.heap.objs.size f (.ref c))) → sp vs H Q E →
      ∃ t, PSs (cxOf CX0 P w K mg base N qual (defScope st) f (.ref c) A outer s H E).nox (defBody st) t ∧ t { nx := fun _ H' => Q .non H', rt := Q } (start N vs) H) : FnOk P w K mg base CX0 (k + 1) f fd ps sp := by
  obtain ⟨oc, od, kV, doc, pm, an, cdv, ct, osl, rfl, lk, hc⟩ := F.ex
  have e : cdv = .ref c := hcd
  subst e
  refine fn_of lk hc S len fun A outer s H vs Q E hr hsp => ?_
  obtain ⟨t, h, q⟩ := hbody A outer s H vs Q E hr hsp
  exact ⟨t, h.nox, q⟩

/-! ### a lambda as it stands in the text -/
def lamP : Expr → Arguments
  | .Lambda p _ _ _ => p
  | _ => { posonlyargs := [], args := [], vararg := none, kwonlyargs := [], kw_defaults := [], kwarg := none, defaults := [] }
def lamB : Expr → Expr
  | .Lambda _ b _ _ => b
  | e => e
def lamS : Expr → Scope
  | .Lambda _ _ s _ => s
  | _ => { kind := .function, names := [], isGenerator := false, isCoroutine := false }
/-- the i-th argument of the call that the j-th statement returns -/
def retArg (st : Stmt) (j i : Nat) : Expr := match (defBody st).getD j (.Pass ⟨0, 0, 0, 0⟩) with
  | .Return (some (.Call _ args _ _)) _ => args.getD i (.Constant .none 0 ⟨0, 0, 0, 0⟩)
  | _ => .Constant .none 0 ⟨0, 0, 0, 0⟩

/-! ### square tables of numbers and None -/
def rowG (n : Nat) (g : Nat → Nat → Option Int) (i : Nat) : D := .tup ((List.range n).map fun j => optD (g i j))
def gridD (n : Nat) (g : Nat → Nat → Option Int) : D := .tup ((List.range n).map (rowG n g))
def rowV (n : Nat) (g : Nat → Nat → Option Int) (i : Nat) : List V := (List.range n).map fun j => optV (g i j)
theorem optD_tups (o : Option Int) : (optD o).tups = true := by cases o <;> simp [optD, D.tups]
theorem rowG_tups (n : Nat) (g : Nat → Nat → Option Int) (i : Nat) : (rowG n g i).tups = true := by
  unfold rowG D.tups
  exact tupsL_all fun d hd => by obtain ⟨j, _, rfl⟩ := List.mem_map.mp hd; exact optD_tups _
theorem gridL_tups (n : Nat) (g : Nat → Nat → Option Int) (l : List Nat) : D.tupsL (l.map (rowG n g)) = true := tupsL_all fun d hd => by obtain ⟨j, _, rfl⟩ := List.mem_map.mp hd; exact rowG_tups _ _ _
theorem gridD_tups (n : Nat) (g : Nat → Nat → Option Int) : (gridD n g).tups = true := by unfold gridD D.tups; exact gridL_tups _ _ _
theorem DenL.optsI {K : PySem.W.Frag} {H : Hp} (n : Nat) (g : Nat → Option Int) : DenL K H ((List.range n).map fun j => optD (g j)) ((List.range n).map fun j => optV (g j)) := by
  have := DenL.opts (K := K) (H := H) ((List.range n).map g)
  rwa [List.map_map, List.map_map] at this
theorem DenL.optsG {K : PySem.W.Frag} {H : Hp} {n : Nat} {g : Nat → Option Int} {xs : List V} (h : DenL K H ((List.range n).map fun j => optD (g j)) xs) : xs = (List.range n).map fun j => optV (g j) := by
  have h' : DenL K H (((List.range n).map g).map optD) xs := by rw [List.map_map]; exact h
  have := DenL.optsE h'
  rwa [List.map_map] at this
theorem grid_parts {K : PySem.W.Frag} {H : Hp} {n : Nat} {g : Nat → Nat → Option Int} {v : V} (h : Den K H (gridD n g) v) : ∃ a xs, v = .ref a ∧ SqT K H a xs ∧ xs.length = n ∧ DenL K H ((List.range n).map (rowG n g)) xs := by
  obtain ⟨a, xs, e, hs, hl⟩ := Den.tupE h
  exact ⟨a, xs, e, hs, by rw [hl.length, List.length_map, List.length_range], hl⟩
theorem grid_at {K : PySem.W.Frag} {H : Hp} {n : Nat} {g : Nat → Nat → Option Int} {xs : List V} {i : Int} (h : DenL K H ((List.range n).map (rowG n g)) xs) (h0 : 0 ≤ i) (h1 : i < n) : ∃ ra, atI xs i = some (.ref ra) ∧ SqT K H ra (rowV n g i.toNat) := by
  have hi : i.toNat < n := by omega
  obtain ⟨x, hx, hd⟩ := h.get (i := i.toNat) (d := rowG n g i.toNat) (by rw [List.getElem?_map, List.getElem?_range hi]; rfl)
  obtain ⟨ra, ys, rfl, hs, hy⟩ := Den.tupE hd
  have ey := DenL.optsG hy
  have q : atI xs ((i.toNat : Nat) : Int) = some (.ref ra) := atI_nat hx
  rw [show ((i.toNat : Nat) : Int) = i by omega] at q
  exact ⟨ra, q, by rw [ey] at hs; exact hs⟩
theorem rowV_at {n : Nat} {g : Nat → Nat → Option Int} {i : Nat} {j : Int} (h0 : 0 ≤ j) (h1 : j < n) : atI (rowV n g i) j = some (optV (g i j.toNat)) := by
  have hj : j.toNat < n := by omega
  have q : atI (rowV n g i) ((j.toNat : Nat) : Int) = some (optV (g i j.toNat)) := atI_nat (by unfold rowV; rw [List.getElem?_map, List.getElem?_range hj]; rfl)
  rwa [show ((j.toNat : Nat) : Int) = j by omega] at q
theorem rowV_len {n : Nat} {g : Nat → Nat → Option Int} {i : Nat} : (rowV n g i).length = n := by unfold rowV; simp
theorem gridD_congr {n : Nat} {g g' : Nat → Nat → Option Int} (h : ∀ i j, i < n → j < n → g i j = g' i j) : gridD n g = gridD n g' := by
  unfold gridD
  congr 1
  refine List.map_congr_left fun i hi => ?_
  unfold rowG
  congr 1
  refine List.map_congr_left fun j hj => ?_
  rw [h i j (List.mem_range.mp hi) (List.mem_range.mp hj)]
theorem deep_rowG (n : Nat) (g : Nat → Nat → Option Int) (i : Nat) : D.deep (rowG n g i) = 1 := by
  have : rowG n g i = .tup (((List.range n).map (g i)).map optD) := by unfold rowG; rw [List.map_map]; rfl
  rw [this, deep_row]
theorem deepL_rows (n : Nat) (g : Nat → Nat → Option Int) : ∀ (l : List Nat), D.deepL (l.map (rowG n g)) ≤ 1
  | [] => by simp [D.deepL]
  | a :: l => by
    have := deepL_rows n g l
    rw [List.map_cons, D.deepL, deep_rowG]
    omega
theorem deep_gridD (n : Nat) (g : Nat → Nat → Option Int) : D.deep (gridD n g) ≤ 2 := by
  unfold gridD
  rw [D.deep]
  have := deepL_rows n g (List.range n)
  omega

/-! ### such a table as it lies in the heap -/
def TupKeep (H H' : Hp) : Prop := ∀ a xs, H a = some (.tup xs) → H' a = some (.tup xs)
theorem TupKeep.refl {H : Hp} : TupKeep H H := fun _ _ h => h
theorem TupKeep.trans {H H1 H2 : Hp} (a : TupKeep H H1) (b : TupKeep H1 H2) : TupKeep H H2 := fun x xs h => b x xs (a x xs h)
theorem TupKeep.of {H H' : Hp} (s : Same H H') : TupKeep H H' := fun _ _ h => s _ _ h
theorem TupKeep.ofT {H H' : Hp} (s : SameT H H') : TupKeep H H' := fun _ _ h => s _ _ (fun _ => by nofun) h
theorem TupKeep.new {H : Hp} {b : Addr} {o : HO} (h : H b = none) : TupKeep H (upd H b o) := .of ((Same.refl H).new h)
theorem TupKeep.put {H : Hp} {b : Addr} {ys : List V} {o : HO} (h : H b = some (.lst ys)) : TupKeep H (upd H b o) := fun a xs q => by rw [upd_ne (ne_of q h (by intro z; cases z))]; exact q
theorem TupKeep.but {H H' : Hp} {b : Addr} {ys : List V} (k : KeepBut b H H') (h : H b = some (.lst ys)) : TupKeep H H' := fun a xs q => k _ _ (ne_of q h (by intro z; cases z)) q
theorem TupKeep.drop {cells : List (Str × Addr)} {H : Hp} (h : Cells cells H) : TupKeep H (Drop cells H) := fun a xs q => h.drop q fun _ => by nofun
def RowsT (H : Hp) (n : Nat) (g : Nat → Nat → Option Int) (k : Nat) (xs : List V) : Prop := xs.length = k ∧ ∀ i, i < k → ∃ ra, xs[i]? = some (.ref ra) ∧ H ra = some (.tup (rowV n g i))
theorem RowsT.mono {H H' : Hp} {n k : Nat} {g : Nat → Nat → Option Int} {xs : List V} (h : RowsT H n g k xs) (s : TupKeep H H') : RowsT H' n g k xs := ⟨h.1, fun i hi => by
  obtain ⟨ra, e1, e2⟩ := h.2 i hi
  exact ⟨ra, e1, s _ _ e2⟩⟩
theorem RowsT.nil {H : Hp} {n : Nat} {g : Nat → Nat → Option Int} : RowsT H n g 0 [] := ⟨rfl, fun i hi => absurd hi (by omega)⟩
theorem RowsT.snoc {H : Hp} {n k : Nat} {g : Nat → Nat → Option Int} {xs : List V} {p : Addr} (h : RowsT H n g k xs) (e : H p = some (.tup (rowV n g k))) : RowsT H n g (k + 1) (xs ++ [.ref p]) := by
  refine ⟨by rw [List.length_append, h.1]; rfl, fun i hi => ?_⟩
  by_cases hk : i < k
  · obtain ⟨ra, e1, e2⟩ := h.2 i hk
    exact ⟨ra, by rw [List.getElem?_append_left (by rw [h.1]; exact hk)]; exact e1, e2⟩
  · have : i = k := by omega
    subst this
    exact ⟨p, by rw [List.getElem?_append_right (by rw [h.1]; exact Nat.le_refl _), h.1]; simp, e⟩
/-- rows may be told by what they are at the end -/
theorem RowsT.congr {H : Hp} {n k : Nat} {g g' : Nat → Nat → Option Int} {xs : List V} (h : RowsT H n g k xs) (e : ∀ i j, i < k → j < n → g i j = g' i j) : RowsT H n g' k xs := ⟨h.1, fun i hi => by
  obtain ⟨ra, e1, e2⟩ := h.2 i hi
  refine ⟨ra, e1, ?_⟩
  rw [e2]
  unfold rowV
  congr 2
  exact List.map_congr_left fun j hj => by rw [e i j hi (List.mem_range.mp hj)]⟩
def GridT (H : Hp) (n : Nat) (g : Nat → Nat → Option Int) (p : Addr) : Prop := ∃ xs, H p = some (.tup xs) ∧ RowsT H n g n xs
theorem GridT.mono {H H' : Hp} {n : Nat} {g : Nat → Nat → Option Int} {p : Addr} (h : GridT H n g p) (s : TupKeep H H') : GridT H' n g p := by
  obtain ⟨xs, e, r⟩ := h
  exact ⟨xs, s _ _ e, r.mono s⟩
theorem GridT.congr {H : Hp} {n : Nat} {g g' : Nat → Nat → Option Int} {p : Addr} (h : GridT H n g p) (e : ∀ i j, i < n → j < n → g i j = g' i j) : GridT H n g' p := by
  obtain ⟨xs, q, r⟩ := h
  exact ⟨xs, q, r.congr e⟩
theorem RowsT.at {H : Hp} {n k : Nat} {g : Nat → Nat → Option Int} {xs : List V} {i : Int} (h : RowsT H n g k xs) (h0 : 0 ≤ i) (h1 : i < k) : ∃ ra, atI xs i = some (.ref ra) ∧ H ra = some (.tup (rowV n g i.toNat)) := by
  obtain ⟨ra, e1, e2⟩ := h.2 i.toNat (by omega)
  have q : atI xs ((i.toNat : Nat) : Int) = some (.ref ra) := atI_nat e1
  rw [show ((i.toNat : Nat) : Int) = i by omega] at q
  exact ⟨ra, q, e2⟩
theorem RowsT.den {K : PySem.W.Frag} {H : Hp} {n : Nat} {g : Nat → Nat → Option Int} : ∀ {k : Nat} {xs : List V}, RowsT H n g k xs → DenL K H ((List.range k).map (rowG n g)) xs
  | 0, xs, h => by have : xs = [] := List.length_eq_zero_iff.mp h.1
                   subst this; exact .nil
  | k + 1, xs, h => by
    have hl : k < xs.length := by rw [h.1]; omega
    have e : xs = xs.take k ++ [xs[k]] := by rw [List.take_append_getElem hl, List.take_of_length_le (by rw [h.1]; exact Nat.le_refl _)]
    obtain ⟨ra, e1, e2⟩ := h.2 k (by omega)
    have e3 : xs[k] = .ref ra := by rw [List.getElem?_eq_getElem hl] at e1; exact Option.some.inj e1
    rw [List.range_succ, List.map_append, e, e3]
    refine DenL.snoc (RowsT.den (k := k) ⟨by rw [List.length_take]; omega, fun i hi => ?_⟩) (Den.tupI (SqT.of e2) (DenL.optsI n (g k)))
    obtain ⟨rb, q1, q2⟩ := h.2 i (by omega)
    exact ⟨rb, by rw [List.getElem?_take_of_lt hi]; exact q1, q2⟩
theorem GridT.den {K : PySem.W.Frag} {H : Hp} {n : Nat} {g : Nat → Nat → Option Int} {p : Addr} (h : GridT H n g p) : Den K H (gridD n g) (.ref p) := by
  obtain ⟨xs, e, r⟩ := h
  exact Den.tupI (SqT.of e) r.den
theorem deep_grid_pos (n : Nat) (g : Nat → Nat → Option Int) : 0 < D.deep (gridD n g) := by unfold gridD; rw [D.deep]; omega
/-- rows that were drawn -/
def cellO (T : List (List (Option Int))) (i j : Nat) : Option Int := (T.getD i []).getD j none
theorem rowV_cell {T : List (List (Option Int))} {n i : Nat} {r : List (Option Int)} (h : T[i]? = some r) (hl : r.length = n) : rowV n (cellO T) i = r.map optV := by
  unfold rowV cellO
  refine List.ext_getElem? fun j => ?_
  rw [List.getElem?_map, List.getElem?_map]
  by_cases hj : j < n
  · rw [List.getElem?_range hj, List.getElem?_eq_getElem (by omega)]
    simp [List.getD_eq_getElem?_getD, h, List.getElem?_eq_getElem (show j < r.length by omega)]
  · rw [List.getElem?_eq_none (by simp; omega), List.getElem?_eq_none (by omega)]
    rfl
theorem cellO_mem {T : List (List (Option Int))} {P : Option Int → Prop} (h : ∀ r ∈ T, ∀ x ∈ r, P x) (h0 : P none) (i j : Nat) : P (cellO T i j) := by
  unfold cellO
  rw [List.getD_eq_getElem?_getD, List.getD_eq_getElem?_getD]
  cases e : T[i]? with
  | none => simpa using h0
  | some r =>
    cases e2 : r[j]? with
    | none => simpa [e2] using h0
    | some x => simpa [e2] using h r (List.mem_of_getElem? e) x (List.mem_of_getElem? e2)

theorem ClOk.imp {P : Program} {w : World} {K : PySem.W.Frag} {mg : Str → Option Value} {base : Heap} {k : Nat} {R R' : Hp → Prop} {f : Addr} {sp : Sp} (F : ClOk P w K mg base k R f sp) (h : ∀ H, R' H → R H) : ClOk P w K mg base k R' f sp :=
  ⟨fun A outer s H us vs Q hr e0 hR => F.run A outer s H us vs Q hr e0 (h H hR)⟩
theorem LamAt.fn {K : PySem.W.Frag} {H : Hp} {f : Addr} {qual : Str} {params : Arguments} {body : Expr} {scope : Scope} {fr : List Str} {cap : List V} {clos : List (Str × Addr)} (h : LamAt H f qual params body scope fr cap clos) : FnIn K H f := by
  obtain ⟨pm, c', ctv, h1, _⟩ := h
  exact .inl ⟨_, h1⟩
theorem hfr_of {scope sc : Scope} {n : Nat} (h : (scope.names.all fun y => !(y.2 == .free) || sc.names.lookup y.1 == some .cell) = true) (x : Str) (e : scope.names.lookup x = some .free) : ∃ c, (cellsFrom n sc.names []).lookup x = some c := by
  have z := List.all_eq_true.mp h _ (PySem.mem_of_lookup e)
  exact cell_has (by simpa using z)
end L2

set_option Elab.async false
set_option linter.all false
set_option maxRecDepth 100000
set_option maxHeartbeats 4000000
namespace L2
open PySem PySem.Spec PyProof.Rows
/-! ### range(a, b, 2) -/
/-- lo, lo + 2, .. (n of them) -/
def Itr2 (lo : Int) (n : Nat) : It := ⟨fun i _ => i < n, fun i H x H' => H' = H ∧ x = .int (lo + i * 2), fun i _ => n ≤ i⟩
theorem turn_range2 {P : Program} {w : World} {K : PySem.W.Frag} {tg : Expr} (it : Addr) (lo : Int) (n : Nat) : Turn P w K tg (Itr2 lo n) [it] it (fun i h => IsRangeIter h it (lo + (i : Nat) * 2) ((n : Int) - (i : Nat)) 2) where
  mem := by simp
  obj := fun i h st b hb => by
    have e : b = it := by simpa using hb
    subst e
    exact ⟨_, st, fun v z => by
      have z' : Data.fields _ = Data.cell v := z
      cases z'⟩
  keep := fun i h h' st k => k it (by simp) _ st
  item := by
    intro X hP hw hK hc i pins s σ H E I hf st hg
    subst hP hw hK
    obtain ⟨f0, f1, f2, f3, f4, f5⟩ := hf it (by simp)
    have W := Walks.range (prog := X.prog) (w := X.w) (I.ok.hd hc) it lo 2 n
    refine W.item i s _ _ hg st fun v h' tk hv st' kk => ?_
    obtain ⟨t, rfl⟩ := hv
    have I1 : Inv X pins σ H { s with heap := h', toks := tk } := I.turned (fun b o hb e => kk b o (by simpa using hb) e) f0 f1 f3 f4 f5
    exact ⟨_, rfl, go_of (s := { s with heap := h', toks := tk }) (n := "range_iterator") st' rfl rfl (by decide) ⟨.int (lo + i * 2), H, I1, ⟨t, rfl⟩, ⟨rfl, rfl⟩, st', fun b hb => (hf b hb).1⟩⟩
  done := by
    intro X hP hw hK hc i pins s σ H E I hf st hg
    subst hP hw hK
    obtain ⟨f0, f1, f2, f3, f4, f5⟩ := hf it (by simp)
    exact wpAny_pyNext_range_end (I.ok.hd hc) st (by have : n ≤ i := hg; omega) fun h' eb => ⟨rfl, I.turned (t' := s.toks) (fun b o hb e => eb b o hb e) f0 f1 f3 f4 f5⟩
  self := fun _ _ _ _ _ st h => wpAny_pyIter_rangeiter st h
theorem size_two {a b : Int} : Builtin.Range.rangeSize a b 2 = if a < b then (b - a - 1) / 2 + 1 else 0 := by
  unfold Builtin.Range.rangeSize
  rw [if_pos (by decide)]
theorem small_two {a b : Int} (ha : 0 ≤ a) (ha' : a < 2 ^ 20) (hb : 0 ≤ b) (hb' : b < 2 ^ 20) : Builtin.Range.small a b 2 = true := by
  unfold Builtin.Range.small
  rw [size_two]
  simp only [Builtin.Range.rangeFitsLong, Bool.and_eq_true, Bool.or_eq_true, decide_eq_true_eq, beq_iff_eq, show (2 : Int) > 0 by decide, if_true]
  split <;> omega
def iRng3 (ta : TA) : TI := fun σ H R => ta σ H fun vs H1 => ∃ i j : Int, vs = [.int i, .int j, .int 2] ∧ (0 ≤ i ∧ i < 2 ^ 20 ∧ 0 ≤ j ∧ j < 2 ^ 20) ∧ ∀ n : Nat, (∀ k : Nat, k < n → i + k * 2 < j) → R (Itr2 i n) H1
theorem pi_range3 {X : Cx} {tg a b c : Expr} {ta : TA} {p pos : Pos} (hg : Gl X "range") (hm : X.mg "range" = none) (ha : PA X [a, b, c] ta) (hs : starEach [a, b, c] X.env = (false, eval a X.env) :: starEach [b, c] X.env := by rfl) (hs2 : starEach [b, c] X.env = [(false, eval b X.env), (false, eval c X.env)] := by rfl) :
    PI X tg (.Call (.Name "range" p) [a, b, c] [] pos) (iRng3 ta) := by
  intro pins s σ H R I h
  refine Call_ (ld_blt I hg hm boot_range (PyProof.Rows.callWith_type1 (thn (ha pos pins s σ H _ I h) fun us s1 ⟨vs, H1, I1, r1, q1⟩ => ?_) hs (by rw [hs2]; rfl)))
  obtain ⟨lo, hi, e, ⟨q1, q2, q3, q4⟩, q⟩ := q1
  subst e
  cases r1 with
  | cons r rr =>
    cases rr with
    | cons r' rr =>
      cases rr with
      | cons r'' rr =>
        cases rr
        obtain ⟨t, rfl⟩ := r
        obtain ⟨t', rfl⟩ := r'
        obtain ⟨t'', rfl⟩ := r''
        refine call_range_3 (by decide) ?_
        refine wpAny_pyIter_range (IsRange.new ..) (small_two q1 q2 q3 q4) ?_
        have I2 : Inv X pins σ H1 { s1 with heap := s1.heap.push { cls := .type "range", data := .fields #[.int lo t, .int hi t', .int 2 t''] }, toks := s1.toks } := I1.kept fun b o e => Heap.get?_push_of_some _ e
        have nn : 0 ≤ Builtin.Range.rangeSize lo hi 2 := by rw [size_two]; split <;> omega
        refine ⟨(s1.heap.push { cls := .type "range", data := .fields #[.int lo t, .int hi t', .int 2 t''] }).objs.size, [(s1.heap.push { cls := .type "range", data := .fields #[.int lo t, .int hi t', .int 2 t''] }).objs.size], _, _, H1, rfl,
          I2.kept (t' := s1.toks) fun b o e => Heap.get?_push_of_some _ e, turn_range2 _ lo (Builtin.Range.rangeSize lo hi 2).toNat, ?_, fun b hb => ?_, q _ fun k hk => ?_⟩
        · show IsRangeIter _ _ (lo + ((0 : Nat) : Int) * 2) ((((Builtin.Range.rangeSize lo hi 2).toNat : Nat) : Int) - ((0 : Nat) : Int)) 2
          have e1 : lo + ((0 : Nat) : Int) * 2 = lo := by simp
          have e2 : (((Builtin.Range.rangeSize lo hi 2).toNat : Nat) : Int) - ((0 : Nat) : Int) = Builtin.Range.rangeSize lo hi 2 := by omega
          rw [e1, e2]
          exact Heap.get?_push_size _ rfl
        · have e : b = (s1.heap.push { cls := .type "range", data := .fields #[.int lo t, .int hi t', .int 2 t''] }).objs.size := by simpa using hb
          subst e
          exact I2.fpOk (Nat.le_refl _) (I2.hok.fresh (Nat.le_refl _))
        · rw [size_two] at hk
          split at hk <;> omega
theorem for_range2 {lo : Int} {n : Nat} {g : TG} {tb : TS} {D : Ends} {σ : St} {H : Hp} (Pv : Nat → St → Hp → Prop) (h0 : Pv 0 σ H)
    (hs : ∀ i σ H, i < n → Pv i σ H → g (.int (lo + i * 2)) σ H fun σ2 H2 => tb { D with nx := Pv (i + 1), ct := Pv (i + 1), bk := D.nx } σ2 H2) (hd : ∀ σ H, Pv n σ H → D.nx σ H) :
    ∃ W : Nat → Nat → St → Hp → Prop, (∃ m, W 0 m σ H) ∧ ∀ i m σ H, W i m σ H →
      ((Itr2 lo n).stop i H ∧ D.nx σ H) ∨ ((Itr2 lo n).go i H ∧ ∃ N : St → Hp → Prop, (∀ σ' H', N σ' H' → ∃ m', m' < m ∧ W (i + 1) m' σ' H') ∧ ∀ x H', (Itr2 lo n).yld i H x H' → g x σ H' fun σ2 H2 => tb { D with nx := N, ct := N, bk := D.nx } σ2 H2) := by
  refine ⟨fun i m σ H => m = n - i ∧ i ≤ n ∧ Pv i σ H, ⟨n, by simp, Nat.zero_le _, h0⟩, ?_⟩
  rintro i m σ H ⟨rfl, hi, p⟩
  by_cases hlt : i < n
  · refine .inr ⟨hlt, Pv (i + 1), fun σ' H' p' => ⟨n - (i + 1), by omega, rfl, hlt, p'⟩, fun x H' y => ?_⟩
    obtain ⟨e, y⟩ := y
    subst e y
    exact hs i σ _ hlt p
  · have e : i = n := by omega
    subst e
    exact .inl ⟨Nat.le_refl _, hd σ H p⟩

/-! ### tables told by their rows -/
def rowO (r : List (Option Int)) : D := .tup (r.map optD)
theorem rowO_tups (r : List (Option Int)) : (rowO r).tups = true := by
  unfold rowO D.tups
  exact tupsL_all fun d hd => by obtain ⟨j, _, rfl⟩ := List.mem_map.mp hd; exact optD_tups _
theorem rowsO_tups (T : List (List (Option Int))) : D.tupsL (T.map rowO) = true := tupsL_all fun d hd => by obtain ⟨j, _, rfl⟩ := List.mem_map.mp hd; exact rowO_tups _
theorem tab_grid {T : List (List (Option Int))} {n : Nat} (h1 : T.length = n) (h2 : ∀ r ∈ T, r.length = n) : D.tup (T.map rowO) = gridD n (cellO T) := by
  unfold gridD
  congr 1
  refine List.ext_getElem? fun i => ?_
  by_cases hi : i < n
  · rw [List.getElem?_map, List.getElem?_map, List.getElem?_range hi, List.getElem?_eq_getElem (by omega)]
    show some (rowO T[i]) = some (rowG n (cellO T) i)
    congr 1
    unfold rowO rowG
    congr 1
    have hr := h2 _ (List.getElem_mem (show i < T.length by omega))
    refine List.ext_getElem? fun j => ?_
    by_cases hj : j < n
    · rw [List.getElem?_map, List.getElem?_map, List.getElem?_range hj, List.getElem?_eq_getElem (by omega)]
      show some (optD _) = some (optD (cellO T i j))
      unfold cellO
      simp [List.getD_eq_getElem?_getD, List.getElem?_eq_getElem (show i < T.length by omega), List.getElem?_eq_getElem (show j < T[i].length by omega)]
    · rw [List.getElem?_eq_none (by simp; omega), List.getElem?_eq_none (by simp; omega)]
  · rw [List.getElem?_eq_none (by simp; omega), List.getElem?_eq_none (by simp; omega)]
theorem KeepBut.ofSame {b : Addr} {H H' : Hp} (s : Same H H') : KeepBut b H H' := fun x o _ h => s x o h
/-- the product of tables -/
def prodO (n : Nat) (g h : Nat → Nat → Option Int) (i j : Nat) : Option Int := minO ((List.range n).filterMap fun k => addO (g i k) (h k j))
/-- the least so far, and one more -/
def stepO : Option Int → Option Int → Option Int
  | m, none => m
  | none, some a => some a
  | some b, some a => some (if a < b then a else b)
theorem minO_snocO (l : List Int) (o : Option Int) : minO (l ++ o.toList) = stepO (minO l) o := by
  cases o with
  | none =>
    rw [Option.toList_none, List.append_nil]
    cases minO l <;> rfl
  | some a =>
    show minO (l ++ [a]) = _
    rw [minO_append]
    cases minO l <;> rfl
theorem filterMap_succ {α : Type} (f : Nat → Option α) (k : Nat) : (List.range (k + 1)).filterMap f = (List.range k).filterMap f ++ (f k).toList := by
  rw [List.range_succ, List.filterMap_append]
  cases e : f k <;> simp [e]
end L2

set_option Elab.async false
set_option linter.all false
set_option maxRecDepth 100000
set_option maxHeartbeats 4000000
namespace L2
open PySem PySem.Spec PyProof.Rows
/-! ### min of a list of ints that has some -/
theorem call_minL {X : Cx} {K : PySem.W.Frag} (hc : X.calm = true) (hK : X.K = K) : CallR X (.builtin "min") (fun xs H Q => ∃ a ns, xs = [.ref a] ∧ SqL K H a (ns.map V.int) ∧ ns ≠ [] ∧ ∀ m ∈ ns, (∀ y ∈ ns, m ≤ y) → Q (.int m) H) := by
  subst hK
  intro pins s σ H xs us Q I r h
  obtain ⟨a, ns, rfl, hS, hne, q⟩ := h
  obtain ⟨u, rfl, ru⟩ := vals1 r
  cases ru
  obtain ⟨its, rv, pl, hz⟩ := I.list hS
  have hl := rv.length
  rw [List.length_map] at hl
  have hpos : 0 < ns.length := List.length_pos_iff.mpr hne
  refine call_min_walk (wpAny_pyIter_list pl.isList ?_)
  have hal : a < s.heap.objs.size := by obtain ⟨o, _, e, _⟩ := pl; exact Heap.lt_size e
  have W := Walks.list (prog := X.prog) (w := X.w) (A := X.A.in1) (I.ok.hd hc) s.heap.objs.size a (Nat.ne_of_lt hal) its.toArray
  let val : Nat → Int := fun i => ns.getD i 0
  have hval : ∀ i v, its.toArray[i]? = some v → ∃ t, v = Value.int (val i) t := fun i v e => by
    obtain ⟨z, t, e1, e2⟩ := vals_at rv (i := i) (v := v) (by rw [List.getElem?_toArray] at e; exact e)
    refine ⟨t, ?_⟩
    rw [e2]
    show Value.int z t = Value.int (ns.getD i 0) t
    rw [List.getD_eq_getElem?_getD, e1]
    rfl
  refine ⟨_, _, _, _, _, _, _, rfl, W, ⟨⟨_, Heap.get?_push_size _ rfl, rfl, rfl⟩, ?_⟩, fun b hb => ?_, by rw [List.size_toArray]; omega, CmpOf.ints_lt val hval, fun v h' tk hP k => ?_⟩
  · obtain ⟨o, e, r⟩ := pl.isList
    exact ⟨o, Heap.get?_push_of_some _ e, r⟩
  · show b < (s.heap.push _).objs.size
    rw [Heap.size_push]
    rcases List.mem_cons.mp hb with z | z
    · rw [z]; exact Nat.lt_succ_self _
    · have z' : b = a := by simpa using z
      rw [z']; exact Nat.lt_succ_of_lt hal
  · obtain ⟨z, t, e1, e2⟩ := vals_at rv (i := argBest (fun i j => decide (val i < val j)) (its.toArray.size - 1)) (v := v) (by rw [List.getElem?_toArray] at hP; exact hP)
    subst e2
    have hv : val (argBest (fun i j => decide (val i < val j)) (its.toArray.size - 1)) = z := by
      show ns.getD _ 0 = z
      rw [List.getD_eq_getElem?_getD, e1]
      rfl
    refine ⟨.int z, H, I.kept (h' := h') (t' := tk) fun b o q => k b o ?_ (Heap.get?_push_of_some _ q), ⟨t, rfl⟩, q z (List.mem_of_getElem? e1) fun y hy => ?_⟩
    · intro z
      have z' : b = s.heap.objs.size := by simpa using z
      exact absurd (Heap.lt_size q) (by rw [z']; exact Nat.lt_irrefl _)
    · obtain ⟨j, hj, e3⟩ := List.mem_iff_getElem.mp hy
      have := argBest_min val (its.toArray.size - 1) j (by simp only [List.size_toArray]; omega)
      rw [hv] at this
      have e4 : val j = y := by
        show ns.getD j 0 = y
        rw [List.getD_eq_getElem?_getD, List.getElem?_eq_getElem hj]
        exact e3
      omega

/-! ### signs -/
def mx (a b : Int) : Int := if b > a then b else a
theorem mx_le {a b x : Int} : mx a b ≤ x ↔ a ≤ x ∧ b ≤ x := by unfold mx; split <;> omega
def sgn (s : Nat → Nat → Int) : Nat → Nat → Option Int := fun i j => some (s i j)
/-- the product of sign tables -/
def sprod (n : Nat) (s t : Nat → Nat → Int) (i j : Nat) : Int := (minO ((List.range n).map fun k => mx (s i k) (t k j))).getD 3
theorem minO_le {l : List Int} {m x : Int} (h : minO l = some m) : m ≤ x ↔ ∃ y ∈ l, y ≤ x := by
  obtain ⟨h1, h2⟩ := minO_spec h
  exact ⟨fun z => ⟨m, h1, z⟩, fun ⟨y, hy, z⟩ => Int.le_trans (h2 y hy) z⟩
theorem minO_some {l : List Int} (h : l ≠ []) : ∃ m, minO l = some m := by
  cases e : minO l with
  | none => exact absurd (minO_nil_iff.mp e) h
  | some m => exact ⟨m, rfl⟩
theorem sprod_le {n : Nat} (hn : 1 ≤ n) {s t : Nat → Nat → Int} {i j : Nat} {x : Int} : sprod n s t i j ≤ x ↔ ∃ k, k < n ∧ s i k ≤ x ∧ t k j ≤ x := by
  obtain ⟨m, hm⟩ := minO_some (l := (List.range n).map fun k => mx (s i k) (t k j)) (by
    intro z
    have := congrArg List.length z
    rw [List.length_map, List.length_range] at this
    simp at this
    omega)
  unfold sprod
  rw [hm]
  show m ≤ x ↔ _
  rw [minO_le hm]
  constructor
  · rintro ⟨y, hy, hx⟩
    obtain ⟨k, hk, rfl⟩ := List.mem_map.mp hy
    exact ⟨k, List.mem_range.mp hk, mx_le.mp hx⟩
  · rintro ⟨k, hk, hx⟩
    exact ⟨_, List.mem_map.mpr ⟨k, List.mem_range.mpr hk, rfl⟩, mx_le.mpr hx⟩
theorem eq_of_le {a b : Int} (h : ∀ x, a ≤ x ↔ b ≤ x) : a = b := by
  have h1 := (h b).mpr (Int.le_refl _)
  have h2 := (h a).mp (Int.le_refl _)
  omega
theorem sprod_assoc {n : Nat} (hn : 1 ≤ n) (r s t : Nat → Nat → Int) (i j : Nat) : sprod n (sprod n r s) t i j = sprod n r (sprod n s t) i j := eq_of_le fun x => by
  rw [sprod_le hn, sprod_le hn]
  constructor
  · rintro ⟨k, hk, h1, h2⟩
    obtain ⟨l, hl, h3, h4⟩ := (sprod_le hn).mp h1
    exact ⟨l, hl, h3, (sprod_le hn).mpr ⟨k, hk, h4, h2⟩⟩
  · rintro ⟨k, hk, h1, h2⟩
    obtain ⟨l, hl, h3, h4⟩ := (sprod_le hn).mp h2
    exact ⟨l, hl, (sprod_le hn).mpr ⟨k, hk, h1, h3⟩, h4⟩
def evenS (i j : Nat) : Int := if i = j then 0 else 3
theorem sprod_even_left {n : Nat} {s : Nat → Nat → Int} (h : ∀ i j, i < n → j < n → 0 ≤ s i j ∧ s i j ≤ 3) {i j : Nat} (hi : i < n) (hj : j < n) : sprod n evenS s i j = s i j := eq_of_le fun x => by
  rw [sprod_le (by omega)]
  have h0 := h i j hi hj
  constructor
  · rintro ⟨k, hk, h1, h2⟩
    unfold evenS at h1
    split at h1
    · rename_i e; subst e; exact h2
    · omega
  · intro hx
    refine ⟨i, hi, ?_, hx⟩
    unfold evenS
    rw [if_pos rfl]
    omega
theorem sprod_even_right {n : Nat} {s : Nat → Nat → Int} (h : ∀ i j, i < n → j < n → 0 ≤ s i j ∧ s i j ≤ 3) {i j : Nat} (hi : i < n) (hj : j < n) : sprod n s evenS i j = s i j := eq_of_le fun x => by
  rw [sprod_le (by omega)]
  have h0 := h i j hi hj
  constructor
  · rintro ⟨k, hk, h1, h2⟩
    unfold evenS at h2
    split at h2
    · rename_i e; subst e; exact h1
    · omega
  · intro hx
    refine ⟨j, hj, hx, ?_⟩
    unfold evenS
    rw [if_pos rfl]
    omega
theorem sprod_in {n : Nat} (hn : 1 ≤ n) {s t : Nat → Nat → Int} (h : ∀ i j, i < n → j < n → 0 ≤ s i j ∧ s i j ≤ 3) (h' : ∀ i j, i < n → j < n → 0 ≤ t i j ∧ t i j ≤ 3) {i j : Nat} (hi : i < n) (hj : j < n) : 0 ≤ sprod n s t i j ∧ sprod n s t i j ≤ 3 := by
  constructor
  · obtain ⟨k, hk, h1, h2⟩ := (sprod_le hn (s := s) (t := t) (i := i) (j := j)).mp (Int.le_refl _)
    have := h i k hi hk
    omega
  · exact (sprod_le hn).mpr ⟨0, by omega, (h i 0 hi (by omega)).2, (h' 0 j (by omega) hj).2⟩
theorem sprod_congr {n : Nat} {s s' t t' : Nat → Nat → Int} {i j : Nat} (h1 : ∀ k, k < n → s i k = s' i k) (h2 : ∀ k, k < n → t k j = t' k j) : sprod n s t i j = sprod n s' t' i j := by
  unfold sprod
  congr 2
  exact List.map_congr_left fun k hk => by rw [h1 k (List.mem_range.mp hk), h2 k (List.mem_range.mp hk)]
/-- how the law reckons a product, letter by letter of the row -/
def lprod (s t : Nat → Nat → Int) (i : Nat) : Nat → Nat → Int
  | 0, _ => 3
  | m + 1, j => if s i m < 3 then (if mx (s i m) (t m j) < lprod s t i m j then mx (s i m) (t m j) else lprod s t i m j) else lprod s t i m j
theorem lprod_le {s t : Nat → Nat → Int} {i j : Nat} {x : Int} : ∀ {m : Nat}, lprod s t i m j ≤ x ↔ 3 ≤ x ∨ ∃ k, k < m ∧ s i k < 3 ∧ s i k ≤ x ∧ t k j ≤ x
  | 0 => by
    show 3 ≤ x ↔ _
    constructor
    · exact fun h => .inl h
    · rintro (h | ⟨k, hk, _⟩)
      · exact h
      · omega
  | m + 1 => by
    have ih := @lprod_le s t i j x m
    have key : (∃ k, k < m + 1 ∧ s i k < 3 ∧ s i k ≤ x ∧ t k j ≤ x) ↔ (∃ k, k < m ∧ s i k < 3 ∧ s i k ≤ x ∧ t k j ≤ x) ∨ (s i m < 3 ∧ s i m ≤ x ∧ t m j ≤ x) := by
      constructor
      · rintro ⟨k, hk, h⟩
        by_cases e : k = m
        · subst e; exact .inr h
        · exact .inl ⟨k, by omega, h⟩
      · rintro (⟨k, hk, h⟩ | h)
        · exact ⟨k, by omega, h⟩
        · exact ⟨m, by omega, h⟩
    rw [key]
    unfold lprod
    by_cases h3 : s i m < 3
    · rw [if_pos h3]
      have hm := @mx_le (s i m) (t m j) x
      by_cases h4 : mx (s i m) (t m j) < lprod s t i m j
      · rw [if_pos h4]
        constructor
        · intro h; exact .inr (.inr ⟨h3, hm.mp h⟩)
        · rintro (h | h | h)
          · have := ih.mpr (.inl h); omega
          · have := ih.mpr (.inr h); omega
          · exact hm.mpr h.2
      · rw [if_neg h4]
        constructor
        · intro h
          rcases ih.mp h with z | z
          · exact .inl z
          · exact .inr (.inl z)
        · rintro (h | h | h)
          · exact ih.mpr (.inl h)
          · exact ih.mpr (.inr h)
          · have := hm.mpr h.2; omega
    · rw [if_neg h3, ih]
      constructor
      · rintro (h | h)
        · exact .inl h
        · exact .inr (.inl h)
      · rintro (h | h | h)
        · exact .inl h
        · exact .inr h
        · exact absurd h.1 h3
theorem lprod_eq {n : Nat} (hn : 1 ≤ n) {s t : Nat → Nat → Int} (h : ∀ i j, i < n → j < n → 0 ≤ s i j ∧ s i j ≤ 3) (h' : ∀ i j, i < n → j < n → 0 ≤ t i j ∧ t i j ≤ 3) {i j : Nat} (hi : i < n) (hj : j < n) : lprod s t i n j = sprod n s t i j := eq_of_le fun x => by
  rw [lprod_le, sprod_le hn]
  constructor
  · rintro (h3 | ⟨k, hk, _, h1, h2⟩)
    · have a := h i 0 hi (by omega)
      have b := h' 0 j (by omega) hj
      exact ⟨0, by omega, by omega, by omega⟩
    · exact ⟨k, hk, h1, h2⟩
  · rintro ⟨k, hk, h1, h2⟩
    by_cases h3 : 3 ≤ x
    · exact .inl h3
    · exact .inr ⟨k, hk, by omega, h1, h2⟩
/-! readings -/
def signI : Option Int → Int
  | none => 3
  | some i => if i = 0 then 0 else 1
def NN : Option Int → Prop
  | none => True
  | some i => 0 ≤ i
theorem signI_le0 {o : Option Int} (x : Int) (hx : 0 ≤ x) (hx1 : x < 1) : signI o ≤ x ↔ o = some 0 := by
  cases o with
  | none => simp [signI]; omega
  | some i =>
    unfold signI
    by_cases e : i = 0
    · simp [e]; omega
    · simp [e]; omega
theorem signI_le1 {o : Option Int} (x : Int) (hx : 1 ≤ x) (hx1 : x < 3) : signI o ≤ x ↔ o ≠ none := by
  cases o with
  | none => simp [signI]; omega
  | some i =>
    unfold signI
    by_cases e : i = 0
    · simp [e]; omega
    · simp [e]; omega
theorem signI_in (o : Option Int) : 0 ≤ signI o ∧ signI o ≤ 3 := by
  cases o with
  | none => simp [signI]
  | some i => unfold signI; split <;> omega
theorem addO_none {a b : Option Int} : addO a b ≠ none ↔ a ≠ none ∧ b ≠ none := by cases a <;> cases b <;> simp [addO]
theorem addO_zero {a b : Option Int} (ha : NN a) (hb : NN b) : addO a b = some 0 ↔ a = some 0 ∧ b = some 0 := by
  cases a with
  | none => simp [addO]
  | some x =>
    cases b with
    | none => simp [addO]
    | some y =>
      have hx : 0 ≤ x := ha
      have hy : 0 ≤ y := hb
      simp only [addO, Option.some.injEq]
      omega
theorem addO_nn {a b : Option Int} (ha : NN a) (hb : NN b) : NN (addO a b) := by
  cases a with
  | none => exact trivial
  | some x =>
    cases b with
    | none => exact trivial
    | some y =>
      have hx : 0 ≤ x := ha
      have hy : 0 ≤ y := hb
      show 0 ≤ x + y
      omega
theorem prodO_none {n : Nat} {g h : Nat → Nat → Option Int} {i j : Nat} : prodO n g h i j ≠ none ↔ ∃ k, k < n ∧ g i k ≠ none ∧ h k j ≠ none := by
  unfold prodO
  rw [Ne, minO_nil_iff]
  constructor
  · intro z
    obtain ⟨y, hy⟩ := List.exists_mem_of_ne_nil _ z
    obtain ⟨k, hk, e⟩ := List.mem_filterMap.mp hy
    exact ⟨k, List.mem_range.mp hk, addO_none.mp (by rw [e]; simp)⟩
  · rintro ⟨k, hk, h2⟩ z
    obtain ⟨y, hy⟩ := Option.ne_none_iff_exists'.mp (addO_none.mpr h2)
    have : y ∈ (List.range n).filterMap fun k => addO (g i k) (h k j) := List.mem_filterMap.mpr ⟨k, List.mem_range.mpr hk, hy⟩
    rw [z] at this
    simp at this
theorem prodO_zero {n : Nat} {g h : Nat → Nat → Option Int} (hg : ∀ i j, NN (g i j)) (hh : ∀ i j, NN (h i j)) {i j : Nat} : prodO n g h i j = some 0 ↔ ∃ k, k < n ∧ g i k = some 0 ∧ h k j = some 0 := by
  unfold prodO
  constructor
  · intro z
    obtain ⟨h1, h2⟩ := minO_spec z
    obtain ⟨k, hk, e⟩ := List.mem_filterMap.mp h1
    exact ⟨k, List.mem_range.mp hk, (addO_zero (hg _ _) (hh _ _)).mp e⟩
  · rintro ⟨k, hk, h2⟩
    refine minO_of (List.mem_filterMap.mpr ⟨k, List.mem_range.mpr hk, (addO_zero (hg _ _) (hh _ _)).mpr h2⟩) fun y hy => ?_
    obtain ⟨l, hl, e⟩ := List.mem_filterMap.mp hy
    have := addO_nn (hg i l) (hh l j)
    rw [e] at this
    exact this
theorem sign_prod {n : Nat} (hn : 1 ≤ n) {g h : Nat → Nat → Option Int} (hg : ∀ i j, NN (g i j)) (hh : ∀ i j, NN (h i j)) (i j : Nat) : signI (prodO n g h i j) = sprod n (fun i j => signI (g i j)) (fun i j => signI (h i j)) i j := eq_of_le fun x => by
  rw [sprod_le hn]
  by_cases h0 : x < 0
  · constructor
    · intro z; have := (signI_in (prodO n g h i j)).1; omega
    · rintro ⟨k, _, z, _⟩; have := (signI_in (g i k)).1; omega
  · by_cases h3 : 3 ≤ x
    · constructor
      · intro _
        have a := (signI_in (g i 0)).2
        have b := (signI_in (h 0 j)).2
        exact ⟨0, by omega, by omega, by omega⟩
      · intro _; have := (signI_in (prodO n g h i j)).2; omega
    · by_cases h1 : x < 1
      · rw [signI_le0 x (by omega) h1, prodO_zero hg hh]
        constructor
        · rintro ⟨k, hk, a, b⟩; exact ⟨k, hk, (signI_le0 x (by omega) h1).mpr a, (signI_le0 x (by omega) h1).mpr b⟩
        · rintro ⟨k, hk, a, b⟩; exact ⟨k, hk, (signI_le0 x (by omega) h1).mp a, (signI_le0 x (by omega) h1).mp b⟩
      · rw [signI_le1 x (by omega) (by omega), prodO_none]
        constructor
        · rintro ⟨k, hk, a, b⟩; exact ⟨k, hk, (signI_le1 x (by omega) (by omega)).mpr a, (signI_le1 x (by omega) (by omega)).mpr b⟩
        · rintro ⟨k, hk, a, b⟩; exact ⟨k, hk, (signI_le1 x (by omega) (by omega)).mp a, (signI_le1 x (by omega) (by omega)).mp b⟩
end L2

set_option Elab.async false
set_option linter.all false
set_option maxRecDepth 100000
set_option maxHeartbeats 4000000
namespace L2
open PySem PySem.Spec PyProof.Rows
/-! ### == of two things that may differ -/
mutual
def cmpD : D → D → Option Bool
  | .int a, .int b => some (a == b)
  | .str a, .str b => some (a == b)
  | .non, .non => some true
  | .non, .int _ => some false
  | .int _, .non => some false
  | .tup l, .tup m => cmpL l m
  | _, _ => none
def cmpL : List D → List D → Option Bool
  | [], [] => some true
  | a :: l, b :: m => match cmpD a b, cmpL l m with
    | some x, some y => some (x && y)
    | _, _ => none
  | _, _ => none
end
theorem cmpL_cons {a b : D} {l m : List D} {z : Bool} (h : cmpL (a :: l) (b :: m) = some z) : ∃ x y, cmpD a b = some x ∧ cmpL l m = some y ∧ z = (x && y) := by
  unfold cmpL at h
  cases e1 : cmpD a b with
  | none => rw [e1] at h; cases h
  | some x =>
    cases e2 : cmpL l m with
    | none => rw [e1, e2] at h; cases h
    | some y => rw [e1, e2] at h; exact ⟨x, y, rfl, rfl, (Option.some.inj h).symm⟩
theorem cmpL_len : ∀ {l m : List D} {z : Bool}, cmpL l m = some z → l.length = m.length
  | [], [], _, _ => rfl
  | a :: l, b :: m, z, h => by
    obtain ⟨x, y, _, e, _⟩ := cmpL_cons h
    rw [List.length_cons, List.length_cons, cmpL_len e]
  | [], _ :: _, _, h => by unfold cmpL at h; cases h
  | _ :: _, [], _, h => by unfold cmpL at h; cases h
/-- place by place -/
theorem cmpL_at : ∀ {l m : List D} {z : Bool}, cmpL l m = some z → ∃ e : Nat → Bool, (∀ j d d', l[j]? = some d → m[j]? = some d' → cmpD d d' = some (e j)) ∧ (List.range l.length).all e = z
  | [], [], z, h => by
    unfold cmpL at h
    cases h
    exact ⟨fun _ => true, fun j d d' h => by simp at h, by simp⟩
  | a :: l, b :: m, z, h => by
    obtain ⟨x, y, e1, e2, ez⟩ := cmpL_cons h
    obtain ⟨e, h1, h2⟩ := cmpL_at e2
    refine ⟨fun j => match j with | 0 => x | j + 1 => e j, fun j d d' g1 g2 => ?_, ?_⟩
    · cases j with
      | zero => simp at g1 g2; subst g1; subst g2; exact e1
      | succ j => exact h1 j d d' (by simpa using g1) (by simpa using g2)
    · rw [List.length_cons, List.range_succ_eq_map, List.all_cons, List.all_map, ez, ← h2]
      rfl
  | [], _ :: _, _, h => by unfold cmpL at h; cases h
  | _ :: _, [], _, h => by unfold cmpL at h; cases h
mutual
theorem den_cmp {X : Cx} {pins : List (Addr × Obj)} {σ : St} {H : Hp} {s : Shared} (I : Inv X pins σ H s) : ∀ (d d' : D) (x : V) (z : Bool), cmpD d d' = some z → Den X.K H d x → Den X.K H d' x → z = true
  | .int a, .int b, x, z, h, h1, h2 => by
    have e := h1.intE.symm.trans h2.intE
    cases e
    unfold cmpD at h
    simpa using h.symm
  | .str a, .str b, x, z, h, h1, h2 => by
    have e := h1.strE.symm.trans h2.strE
    cases e
    unfold cmpD at h
    simpa using h.symm
  | .non, .non, _, z, h, _, _ => by unfold cmpD at h; cases h; rfl
  | .non, .int _, _, _, _, h1, h2 => by have e := h1.nonE.symm.trans h2.intE; cases e
  | .int _, .non, _, _, _, h1, h2 => by have e := h1.intE.symm.trans h2.nonE; cases e
  | .tup l, .tup m, x, z, h, h1, h2 => by
    unfold cmpD at h
    obtain ⟨a, xs, rfl, q1, d1⟩ := h1.tupE
    obtain ⟨b, ys, e, q2, d2⟩ := h2.tupE
    cases e
    rw [I.tuple_inj q2 q1] at d2
    exact denL_cmp I l m xs z h d1 d2
  | .bl _, _, _, _, h, _, _ => by unfold cmpD at h; cases h
  | .lst _, _, _, _, h, _, _ => by unfold cmpD at h; cases h
  | .non, .bl _, _, _, h, _, _ => by unfold cmpD at h; cases h
  | .non, .str _, _, _, h, _, _ => by unfold cmpD at h; cases h
  | .non, .tup _, _, _, h, _, _ => by unfold cmpD at h; cases h
  | .non, .lst _, _, _, h, _, _ => by unfold cmpD at h; cases h
  | .int _, .bl _, _, _, h, _, _ => by unfold cmpD at h; cases h
  | .int _, .str _, _, _, h, _, _ => by unfold cmpD at h; cases h
  | .int _, .tup _, _, _, h, _, _ => by unfold cmpD at h; cases h
  | .int _, .lst _, _, _, h, _, _ => by unfold cmpD at h; cases h
  | .str _, .bl _, _, _, h, _, _ => by unfold cmpD at h; cases h
  | .str _, .non, _, _, h, _, _ => by unfold cmpD at h; cases h
  | .str _, .int _, _, _, h, _, _ => by unfold cmpD at h; cases h
  | .str _, .tup _, _, _, h, _, _ => by unfold cmpD at h; cases h
  | .str _, .lst _, _, _, h, _, _ => by unfold cmpD at h; cases h
  | .tup _, .bl _, _, _, h, _, _ => by unfold cmpD at h; cases h
  | .tup _, .non, _, _, h, _, _ => by unfold cmpD at h; cases h
  | .tup _, .int _, _, _, h, _, _ => by unfold cmpD at h; cases h
  | .tup _, .str _, _, _, h, _, _ => by unfold cmpD at h; cases h
  | .tup _, .lst _, _, _, h, _, _ => by unfold cmpD at h; cases h
theorem denL_cmp {X : Cx} {pins : List (Addr × Obj)} {σ : St} {H : Hp} {s : Shared} (I : Inv X pins σ H s) : ∀ (l m : List D) (xs : List V) (z : Bool), cmpL l m = some z → DenL X.K H l xs → DenL X.K H m xs → z = true
  | [], [], _, z, h, _, _ => by unfold cmpL at h; cases h; rfl
  | a :: l, b :: m, xs, z, h, h1, h2 => by
    obtain ⟨x, y, e1, e2, ez⟩ := cmpL_cons h
    obtain ⟨v, r, rfl, g1, g2⟩ := h1.uncons
    obtain ⟨v', r', e, g3, g4⟩ := h2.uncons
    cases e
    rw [ez, den_cmp I a b v x e1 g1 g3, denL_cmp I l m r y e2 g2 g4]
    rfl
  | [], _ :: _, _, _, h, _, _ => by unfold cmpL at h; cases h
  | _ :: _, [], _, _, h, _, _ => by unfold cmpL at h; cases h
end
theorem eqAt_cmp {X : Cx} {pins : List (Addr × Obj)} {σ : St} {H : Hp} {s : Shared} (I : Inv X pins σ H s) : ∀ (k : Nat) (d d' : D) (x y : V) (u v : Value) (A : Around) (z : Bool), D.deep d ≤ k → cmpD d d' = some z → Den X.K H d x → Den X.K H d' y → RelV x u → RelV y v → Room k A → SeqAt.EqAt A s u v z := by
  intro k
  induction k with
  | zero =>
    intro d d' x y u v A z hd hz h1 h2 r1 r2 hr
    cases d with
    | non =>
      cases d' with
      | non => unfold cmpD at hz; cases hz; cases h1.nonE; cases h2.nonE; cases r1; cases r2; exact SeqAt.EqAt.same _
      | int b => unfold cmpD at hz; cases hz; cases h1.nonE; cases h2.intE; cases r1; obtain ⟨t, rfl⟩ := r2; exact SeqAt.EqAt.none_int _ _
      | _ => unfold cmpD at hz; cases hz
    | int a =>
      cases d' with
      | non => unfold cmpD at hz; cases hz; cases h1.intE; cases h2.nonE; obtain ⟨t, rfl⟩ := r1; cases r2; exact SeqAt.EqAt.int_none _ _
      | int b => unfold cmpD at hz; cases hz; cases h1.intE; cases h2.intE; obtain ⟨t, rfl⟩ := r1; obtain ⟨t', rfl⟩ := r2; exact SeqAt.EqAt.int_int _ _ _ _
      | _ => unfold cmpD at hz; cases hz
    | str a =>
      cases d' with
      | str b => unfold cmpD at hz; cases hz; cases h1.strE; cases h2.strE; obtain ⟨t, rfl⟩ := r1; obtain ⟨t', rfl⟩ := r2; exact SeqAt.EqAt.str_str _ _ _ _
      | _ => unfold cmpD at hz; cases hz
    | tup l => unfold D.deep at hd; omega
    | _ => unfold cmpD at hz; cases hz
  | succ k ih =>
    intro d d' x y u v A z hd hz h1 h2 r1 r2 hr
    cases d with
    | non =>
      cases d' with
      | non => unfold cmpD at hz; cases hz; cases h1.nonE; cases h2.nonE; cases r1; cases r2; exact SeqAt.EqAt.same _
      | int b => unfold cmpD at hz; cases hz; cases h1.nonE; cases h2.intE; cases r1; obtain ⟨t, rfl⟩ := r2; exact SeqAt.EqAt.none_int _ _
      | _ => unfold cmpD at hz; cases hz
    | int a =>
      cases d' with
      | non => unfold cmpD at hz; cases hz; cases h1.intE; cases h2.nonE; obtain ⟨t, rfl⟩ := r1; cases r2; exact SeqAt.EqAt.int_none _ _
      | int b => unfold cmpD at hz; cases hz; cases h1.intE; cases h2.intE; obtain ⟨t, rfl⟩ := r1; obtain ⟨t', rfl⟩ := r2; exact SeqAt.EqAt.int_int _ _ _ _
      | _ => unfold cmpD at hz; cases hz
    | str a =>
      cases d' with
      | str b => unfold cmpD at hz; cases hz; cases h1.strE; cases h2.strE; obtain ⟨t, rfl⟩ := r1; obtain ⟨t', rfl⟩ := r2; exact SeqAt.EqAt.str_str _ _ _ _
      | _ => unfold cmpD at hz; cases hz
    | tup l =>
      cases d' with
      | tup m =>
        have hzd := hz
        unfold cmpD at hz
        obtain ⟨a, xs, rfl, q1, d1⟩ := id h1.tupE
        obtain ⟨b, ys, rfl, q2, d2⟩ := id h2.tupE
        cases r1; cases r2
        by_cases hab : a = b
        · subst hab
          rw [den_cmp I _ _ _ _ hzd h1 h2]
          exact SeqAt.EqAt.same _
        · obtain ⟨its, v1, t1, _⟩ := I.tuple q1
          obtain ⟨its', v2, t2, _⟩ := I.tuple q2
          have l1 := v1.length
          have l2 := v2.length
          have e1 := d1.length
          have e2 := d2.length
          have e3 := cmpL_len hz
          obtain ⟨e, he, hall⟩ := cmpL_at hz
          have key := SeqAt.RcAt.tuples (A := A) (s := s) (e := e) t1 t2 hr.units0 fun j h1 h2 => by
            have h1' : j < its.length := by simpa using h1
            have h2' : j < its'.length := by simpa using h2
            have hj : j < l.length := by omega
            have hj' : j < m.length := by omega
            obtain ⟨x, ex, dx⟩ := d1.get (List.getElem?_eq_getElem hj)
            obtain ⟨y, ey, dy⟩ := d2.get (List.getElem?_eq_getElem hj')
            obtain ⟨u, eu, ru⟩ := v1.get ex
            obtain ⟨w, ew, rw'⟩ := v2.get ey
            have g1 : its.toArray[j] = u := by
              have := List.getElem?_eq_getElem h1'
              rw [eu] at this
              simpa using (Option.some.inj this).symm
            have g2 : its'.toArray[j] = w := by
              have := List.getElem?_eq_getElem h2'
              rw [ew] at this
              simpa using (Option.some.inj this).symm
            rw [g1, g2]
            refine ih _ _ x y u w A.in1 (e j) ?_ (he j _ _ (List.getElem?_eq_getElem hj) (List.getElem?_eq_getElem hj')) dx dy ru rw' hr.in1
            have := D.deepL_mem (List.getElem?_eq_getElem hj)
            unfold D.deep at hd
            omega
          rw [show (its.toArray.size == its'.toArray.size) = true by simp; omega, show min its.toArray.size its'.toArray.size = l.length by simp; omega, hall, Bool.and_true] at key
          exact SeqAt.EqAt.of_refs hab key
      | _ => unfold cmpD at hz; cases hz
    | _ => unfold cmpD at hz; cases hz
section
variable {X : Cx}
def rEqC (K : PySem.W.Frag) (k : Nat) (neg : Bool) : R2 := fun x y H Q => ∃ l m z, Den K H (.tup l) x ∧ Den K H (.tup m) y ∧ D.deepL l < k ∧ cmpL l m = some z ∧ Q (.bl (if neg then !z else z)) H
theorem eqItC {pins : List (Addr × Obj)} {σ : St} {H : Hp} {s : Shared} (I : Inv X pins σ H s) {k : Nat} {l m : List D} {xs ys : List V} {its its' : List Value} {A : Around} {e : Nat → Bool} (hd : D.deepL l ≤ k) (d1 : DenL X.K H l xs) (d2 : DenL X.K H m ys) (v1 : Vals xs its) (v2 : Vals ys its') (hr : Room k A)
    (he : ∀ j d d', l[j]? = some d → m[j]? = some d' → cmpD d d' = some (e j)) : ∀ j (h1 : j < its.toArray.size) (h2 : j < its'.toArray.size), SeqAt.EqAt A s its.toArray[j] its'.toArray[j] (e j) := fun j h1 h2 => by
  have l1 := v1.length
  have l2 := v2.length
  have e1 := d1.length
  have e2 := d2.length
  have h1' : j < its.length := by simpa using h1
  have h2' : j < its'.length := by simpa using h2
  have hj : j < l.length := by omega
  have hj' : j < m.length := by omega
  obtain ⟨x, ex, dx⟩ := d1.get (List.getElem?_eq_getElem hj)
  obtain ⟨y, ey, dy⟩ := d2.get (List.getElem?_eq_getElem hj')
  obtain ⟨u, eu, ru⟩ := v1.get ex
  obtain ⟨w, ew, rw'⟩ := v2.get ey
  have g1 : its.toArray[j] = u := by
    have := List.getElem?_eq_getElem h1'
    rw [eu] at this
    simpa using (Option.some.inj this).symm
  have g2 : its'.toArray[j] = w := by
    have := List.getElem?_eq_getElem h2'
    rw [ew] at this
    simpa using (Option.some.inj this).symm
  rw [g1, g2]
  exact eqAt_cmp I k _ _ x y u w A (e j) (Nat.le_trans (D.deepL_mem (List.getElem?_eq_getElem hj)) hd) (he j _ _ (List.getElem?_eq_getElem hj) (List.getElem?_eq_getElem hj')) dx dy ru rw' hr
theorem op_eqC {K : PySem.W.Frag} {k : Nat} (hr : Room k X.A) (hK : X.K = K) : OpR X (compareOp .Eq) (rEqC K k false) := by
  subst hK
  intro pins s σ H x y v u Q I rx ry h
  obtain ⟨l, m, z, h1, h2, hd, hz, q⟩ := h
  obtain ⟨a, xs, rfl, q1, d1⟩ := h1.tupE
  obtain ⟨b, ys, rfl, q2, d2⟩ := h2.tupE
  cases rx; cases ry
  obtain ⟨its, v1, t1, _⟩ := I.tuple q1
  obtain ⟨its', v2, t2, _⟩ := I.tuple q2
  obtain ⟨k', rfl⟩ : ∃ k', k = k' + 1 := ⟨k - 1, by omega⟩
  obtain ⟨e, he, hall⟩ := cmpL_at hz
  refine SeqAt.RcAt.tuples (e := e) t1 t2 hr.units0 (eqItC I (by omega) d1 d2 v1 v2 hr.in1 he) X.prog X.w X.xe _ ?_
  have l1 := v1.length
  have l2 := v2.length
  have e1 := d1.length
  have e2 := d2.length
  have e3 := cmpL_len hz
  rw [show (its.toArray.size == its'.toArray.size) = true by simp; omega, show min its.toArray.size its'.toArray.size = l.length by simp; omega, hall, Bool.and_true]
  exact ⟨.bl z, H, I, rfl, q⟩
theorem op_neC {K : PySem.W.Frag} {k : Nat} (hr : Room k X.A) (hK : X.K = K) : OpR X (compareOp .NotEq) (rEqC K k true) := by
  subst hK
  intro pins s σ H x y v u Q I rx ry h
  obtain ⟨l, m, z, h1, h2, hd, hz, q⟩ := h
  obtain ⟨a, xs, rfl, q1, d1⟩ := h1.tupE
  obtain ⟨b, ys, rfl, q2, d2⟩ := h2.tupE
  cases rx; cases ry
  obtain ⟨its, v1, t1, _⟩ := I.tuple q1
  obtain ⟨its', v2, t2, _⟩ := I.tuple q2
  obtain ⟨k', rfl⟩ : ∃ k', k = k' + 1 := ⟨k - 1, by omega⟩
  obtain ⟨e, he, hall⟩ := cmpL_at hz
  refine SeqAt.RcNeAt.tuples (e := e) t1 t2 hr.units0 (eqItC I (by omega) d1 d2 v1 v2 hr.in1 he) X.prog X.w X.xe _ ?_
  have l1 := v1.length
  have l2 := v2.length
  have e1 := d1.length
  have e2 := d2.length
  have e3 := cmpL_len hz
  rw [show (its.toArray.size == its'.toArray.size) = true by simp; omega, show min its.toArray.size its'.toArray.size = l.length by simp; omega, hall, Bool.and_true]
  exact ⟨.bl (!z), H, I, rfl, q⟩
end
end L2

set_option Elab.async false
set_option linter.all false
set_option maxRecDepth 100000
set_option maxHeartbeats 4000000
namespace L2
open PySem PySem.Spec PyProof.Rows
def mx3 (a b c : Int) : Int := mx (mx a b) c
theorem mx3_le {a b c x : Int} : mx3 a b c ≤ x ↔ a ≤ x ∧ b ≤ x ∧ c ≤ x := by unfold mx3; rw [mx_le, mx_le, and_assoc]
theorem call_max3 {X : Cx} (hc : X.calm = true) : CallR X (.builtin "max") (fun xs H Q => ∃ i j k, xs = [.int i, .int j, .int k] ∧ Q (.int (mx3 i j k)) H) := by
  intro pins s σ H xs us Q I r h
  obtain ⟨i, j, k, rfl, q⟩ := h
  cases r with
  | cons r1 r =>
    cases r with
    | cons r2 r =>
      cases r with
      | cons r3 r =>
        cases r
        obtain ⟨t1, rfl⟩ := r1
        obtain ⟨t2, rfl⟩ := r2
        obtain ⟨t3, rfl⟩ := r3
        refine max_three_ints (I.ok.hd hc) fun h' tk kk => ⟨_, H, I.kept kk, ?_, q⟩
        unfold mx3 mx
        by_cases h1 : j > i
        · rw [if_pos h1, if_pos h1]
          by_cases h2 : k > j
          · rw [if_pos h2, if_pos h2]; exact ⟨_, rfl⟩
          · rw [if_neg h2, if_neg h2]; exact ⟨_, rfl⟩
        · rw [if_neg h1, if_neg h1]
          by_cases h2 : k > i
          · rw [if_pos h2, if_pos h2]; exact ⟨_, rfl⟩
          · rw [if_neg h2, if_neg h2]; exact ⟨_, rfl⟩

/-! ### some power is steady -/
theorem pigeon : ∀ (B : Nat) (f : Nat → Nat), (∀ i, i ≤ B → f i < B) → ∃ i j, i < j ∧ j ≤ B ∧ f i = f j
  | 0, f, h => absurd (h 0 (Nat.le_refl _)) (Nat.not_lt_zero _)
  | B + 1, f, h => by
    by_cases hex : ∃ i, i ≤ B ∧ f i = f (B + 1)
    · obtain ⟨i, hi, e⟩ := hex
      exact ⟨i, B + 1, by omega, Nat.le_refl _, e⟩
    · have hne : ∀ i, i ≤ B → f i ≠ f (B + 1) := fun i hi e => hex ⟨i, hi, e⟩
      have hv := h (B + 1) (Nat.le_refl _)
      obtain ⟨i, j, hij, hj, e⟩ := pigeon B (fun i => if f i = B then f (B + 1) else f i) (fun i hi => by
        show (if f i = B then f (B + 1) else f i) < B
        have h1 := h i (by omega)
        have h2 := hne i hi
        split
        · rename_i e; omega
        · omega)
      have e' : (if f i = B then f (B + 1) else f i) = (if f j = B then f (B + 1) else f j) := e
      refine ⟨i, j, hij, by omega, ?_⟩
      have n1 := hne i (by omega)
      have n2 := hne j (by omega)
      split at e' <;> split at e' <;> omega
def enc : List Nat → Nat
  | [] => 0
  | d :: l => d + 4 * enc l
theorem enc_lt : ∀ (l : List Nat), (∀ d ∈ l, d < 4) → enc l < 4 ^ l.length
  | [], _ => by simp [enc]
  | d :: l, h => by
    have h1 := h d List.mem_cons_self
    have h2 := enc_lt l fun x hx => h x (List.mem_cons_of_mem _ hx)
    unfold enc
    rw [List.length_cons, Nat.pow_succ]
    omega
theorem enc_inj : ∀ (l m : List Nat), l.length = m.length → (∀ d ∈ l, d < 4) → (∀ d ∈ m, d < 4) → enc l = enc m → l = m
  | [], [], _, _, _, _ => rfl
  | d :: l, e :: m, hl, h1, h2, h => by
    have a := h1 d List.mem_cons_self
    have b := h2 e List.mem_cons_self
    unfold enc at h
    have ed : d = e := by omega
    have el : enc l = enc m := by omega
    rw [ed, enc_inj l m (by simpa using hl) (fun x hx => h1 x (List.mem_cons_of_mem _ hx)) (fun x hx => h2 x (List.mem_cons_of_mem _ hx)) el]
  | [], _ :: _, h, _, _, _ => by simp at h
  | _ :: _, [], h, _, _, _ => by simp at h
def InT (n : Nat) (s : Nat → Nat → Int) : Prop := ∀ i j, i < n → j < n → 0 ≤ s i j ∧ s i j ≤ 3
def EqT (n : Nat) (s t : Nat → Nat → Int) : Prop := ∀ i j, i < n → j < n → s i j = t i j
def codeT (n : Nat) (s : Nat → Nat → Int) : List Nat := (List.range (n * n)).map fun x => (s (x / n) (x % n)).toNat
theorem codeT_ok {n : Nat} {s : Nat → Nat → Int} (h : InT n s) : ∀ d ∈ codeT n s, d < 4 := fun d hd => by
  obtain ⟨x, hx, rfl⟩ := List.mem_map.mp hd
  have hx' := List.mem_range.mp hx
  have hn : 0 < n := by
    rcases Nat.eq_zero_or_pos n with e | e
    · subst e; simp at hx'
    · exact e
  have := h (x / n) (x % n) (Nat.div_lt_of_lt_mul hx') (Nat.mod_lt _ hn)
  omega
theorem codeT_inj {n : Nat} {s t : Nat → Nat → Int} (hs : InT n s) (ht : InT n t) (h : codeT n s = codeT n t) : EqT n s t := fun i j hi hj => by
  have hx : i * n + j < n * n := by
    have : (i + 1) * n ≤ n * n := Nat.mul_le_mul_right n hi
    rw [Nat.succ_mul] at this
    omega
  have e := congrArg (fun l => l[i * n + j]?) h
  simp only [codeT, List.getElem?_map, List.getElem?_range hx, Option.map_some] at e
  have e1 : (i * n + j) / n = i := by rw [Nat.mul_comm, Nat.mul_add_div (by omega), Nat.div_eq_of_lt hj]; omega
  have e2 : (i * n + j) % n = j := by rw [Nat.mul_comm, Nat.mul_add_mod, Nat.mod_eq_of_lt hj]
  rw [e1, e2] at e
  have e3 := Option.some.inj e
  have a := hs i j hi hj
  have b := ht i j hi hj
  omega
/-- powers, from the first on: pw s m is the (m + 1)-th -/
def pw (n : Nat) (s : Nat → Nat → Int) : Nat → Nat → Nat → Int
  | 0 => s
  | m + 1 => sprod n (pw n s m) s
theorem pw_in {n : Nat} (hn : 1 ≤ n) {s : Nat → Nat → Int} (h : InT n s) : ∀ m, InT n (pw n s m)
  | 0 => h
  | m + 1 => fun i j hi hj => sprod_in hn (pw_in hn h m) h hi hj
theorem pw_add {n : Nat} (hn : 1 ≤ n) (s : Nat → Nat → Int) (a : Nat) : ∀ b, pw n s (a + b + 1) = sprod n (pw n s a) (pw n s b)
  | 0 => rfl
  | b + 1 => by
    show sprod n (pw n s (a + b + 1)) s = sprod n (pw n s a) (sprod n (pw n s b) s)
    rw [pw_add hn s a b]
    funext i j
    exact sprod_assoc hn _ _ _ i j
theorem EqT.trans {n : Nat} {r s t : Nat → Nat → Int} (a : EqT n r s) (b : EqT n s t) : EqT n r t := fun i j hi hj => (a i j hi hj).trans (b i j hi hj)
theorem EqT.sprod {n : Nat} {r r' s s' : Nat → Nat → Int} (a : EqT n r r') (b : EqT n s s') : EqT n (sprod n r s) (L2.sprod n r' s') := fun i j hi hj => sprod_congr (fun k hk => a i k hi hk) fun k hk => b k j hk hj
/-- steady: its own product -/
def Std (n : Nat) (s : Nat → Nat → Int) : Prop := EqT n (sprod n s s) s
theorem steady_pw {n : Nat} (hn : 1 ≤ n) {s : Nat → Nat → Int} (h : InT n s) : ∃ M, Std n (pw n s M) := by
  obtain ⟨a, b, hab, _, e⟩ := pigeon (4 ^ (n * n)) (fun m => enc (codeT n (pw n s m))) fun m _ => by
    have := enc_lt _ (codeT_ok (pw_in hn h m))
    rwa [codeT, List.length_map, List.length_range] at this
  have e0 : EqT n (pw n s a) (pw n s b) := codeT_inj (pw_in hn h a) (pw_in hn h b) (enc_inj _ _ (by simp [codeT]) (codeT_ok (pw_in hn h a)) (codeT_ok (pw_in hn h b)) e)
  obtain ⟨p, hp⟩ : ∃ p, b = a + p := ⟨b - a, by omega⟩
  subst hp
  have step : ∀ t, EqT n (pw n s (a + t)) (pw n s (a + p + t)) := by
    intro t
    induction t with
    | zero => exact e0
    | succ t ih => exact EqT.sprod ih fun _ _ _ _ => rfl
  have many : ∀ q t, EqT n (pw n s (a + t)) (pw n s (a + t + q * p)) := by
    intro q
    induction q with
    | zero => intro t; rw [Nat.zero_mul]; exact fun _ _ _ _ => rfl
    | succ q ih =>
      intro t
      refine (ih t).trans ?_
      have := step (t + q * p)
      rw [show a + (t + q * p) = a + t + q * p by omega, show a + p + (t + q * p) = a + t + (q + 1) * p by rw [Nat.succ_mul]; omega] at this
      exact this
  -- the number of factors (a + 1) * p, that is pw at (a + 1) * p - 1
  obtain ⟨p', rfl⟩ : ∃ p', p = p' + 1 := ⟨p - 1, by omega⟩
  obtain ⟨M, hM⟩ : ∃ M, M + 1 = (a + 1) * (p' + 1) := ⟨(a + 1) * (p' + 1) - 1, by
    have : 1 ≤ (a + 1) * (p' + 1) := Nat.mul_pos (by omega) (by omega)
    omega⟩
  have hMa : a ≤ M := by
    have : (a + 1) * 1 ≤ (a + 1) * (p' + 1) := Nat.mul_le_mul_left _ (by omega)
    omega
  refine ⟨M, fun i j hi hj => ?_⟩
  have h1 := congrFun (congrFun (pw_add hn s M M) i) j
  rw [← h1]
  have h2 := many (a + 1) (M - a) i j hi hj
  rw [show a + (M - a) = M by omega, ← hM, show M + (M + 1) = M + M + 1 by omega] at h2
  exact h2.symm
/-! ### sharpened -/
def rnd (x : Int) : Int := if x = 0 ∨ x = 3 then x else 2
def sharp (n : Nat) (s : Nat → Nat → Int) (i j : Nat) : Int := (minO ((List.range n).map fun k => mx3 (s i k) (rnd (s k k)) (s k j))).getD 3
/-- how the law reckons it -/
def lsharp (s : Nat → Nat → Int) (i j : Nat) : Nat → Int
  | 0 => 3
  | m + 1 => if mx3 (s i m) (if s m m = 1 then 2 else s m m) (s m j) < lsharp s i j m then mx3 (s i m) (if s m m = 1 then 2 else s m m) (s m j) else lsharp s i j m
theorem lsharp_le {s : Nat → Nat → Int} {i j : Nat} {x : Int} : ∀ {m : Nat}, lsharp s i j m ≤ x ↔ 3 ≤ x ∨ ∃ k, k < m ∧ mx3 (s i k) (if s k k = 1 then 2 else s k k) (s k j) ≤ x
  | 0 => by
    show 3 ≤ x ↔ _
    constructor
    · exact fun h => .inl h
    · rintro (h | ⟨k, hk, _⟩)
      · exact h
      · omega
  | m + 1 => by
    have ih := @lsharp_le s i j x m
    have key : (∃ k, k < m + 1 ∧ mx3 (s i k) (if s k k = 1 then 2 else s k k) (s k j) ≤ x) ↔ (∃ k, k < m ∧ mx3 (s i k) (if s k k = 1 then 2 else s k k) (s k j) ≤ x) ∨ mx3 (s i m) (if s m m = 1 then 2 else s m m) (s m j) ≤ x := by
      constructor
      · rintro ⟨k, hk, h⟩
        by_cases e : k = m
        · subst e; exact .inr h
        · exact .inl ⟨k, by omega, h⟩
      · rintro (⟨k, hk, h⟩ | h)
        · exact ⟨k, by omega, h⟩
        · exact ⟨m, by omega, h⟩
    rw [key]
    unfold lsharp
    by_cases h4 : mx3 (s i m) (if s m m = 1 then 2 else s m m) (s m j) < lsharp s i j m
    · rw [if_pos h4]
      constructor
      · intro h; exact .inr (.inr h)
      · rintro (h | h | h)
        · have := ih.mpr (.inl h); omega
        · have := ih.mpr (.inr h); omega
        · exact h
    · rw [if_neg h4]
      constructor
      · intro h
        rcases ih.mp h with z | z
        · exact .inl z
        · exact .inr (.inl z)
      · rintro (h | h | h)
        · exact ih.mpr (.inl h)
        · exact ih.mpr (.inr h)
        · omega
theorem rnd_eq {x : Int} (h0 : 0 ≤ x) (h3 : x ≤ 3) : (if x = 1 then 2 else x) = rnd x := by
  unfold rnd
  split <;> split <;> omega
theorem lsharp_eq {n : Nat} (hn : 1 ≤ n) {s : Nat → Nat → Int} (h : InT n s) {i j : Nat} (hi : i < n) (hj : j < n) : lsharp s i j n = sharp n s i j := eq_of_le fun x => by
  obtain ⟨m, hm⟩ := minO_some (l := (List.range n).map fun k => mx3 (s i k) (rnd (s k k)) (s k j)) (by
    intro z
    have := congrArg List.length z
    rw [List.length_map, List.length_range] at this
    simp at this
    omega)
  rw [lsharp_le]
  unfold sharp
  rw [hm]
  show _ ↔ m ≤ x
  rw [minO_le hm]
  have lim : ∀ k, k < n → mx3 (s i k) (rnd (s k k)) (s k j) ≤ 3 := fun k hk => mx3_le.mpr ⟨(h i k hi hk).2, by
    have := h k k hk hk
    unfold rnd
    split <;> omega, (h k j hk hj).2⟩
  constructor
  · rintro (h3 | ⟨k, hk, h1⟩)
    · exact ⟨_, List.mem_map.mpr ⟨0, List.mem_range.mpr (by omega), rfl⟩, Int.le_trans (lim 0 (by omega)) h3⟩
    · rw [rnd_eq (h k k hk hk).1 (h k k hk hk).2] at h1
      exact ⟨_, List.mem_map.mpr ⟨k, List.mem_range.mpr hk, rfl⟩, h1⟩
  · rintro ⟨y, hy, hx⟩
    obtain ⟨k, hk, rfl⟩ := List.mem_map.mp hy
    have hk' := List.mem_range.mp hk
    exact .inr ⟨k, hk', by rw [rnd_eq (h k k hk' hk').1 (h k k hk' hk').2]; exact hx⟩
/-! ### == of sign tables -/
theorem cmpL_rowS {n : Nat} {s t : Nat → Nat → Int} {i : Nat} : ∀ (l : List Nat), cmpL (l.map fun j => optD (sgn s i j)) (l.map fun j => optD (sgn t i j)) = some (l.all fun j => s i j == t i j)
  | [] => by simp [cmpL]
  | a :: l => by
    have ih := cmpL_rowS (n := n) (s := s) (t := t) (i := i) l
    rw [List.map_cons, List.map_cons]
    unfold cmpL
    rw [ih]
    have : cmpD (optD (sgn s i a)) (optD (sgn t i a)) = some (s i a == t i a) := by simp [sgn, optD, cmpD]
    rw [this]
    rfl
theorem cmpL_gridS {n : Nat} {s t : Nat → Nat → Int} : ∀ (l : List Nat), cmpL (l.map (rowG n (sgn s))) (l.map (rowG n (sgn t))) = some (l.all fun i => (List.range n).all fun j => s i j == t i j)
  | [] => by simp [cmpL]
  | a :: l => by
    have ih := cmpL_gridS (n := n) (s := s) (t := t) l
    rw [List.map_cons, List.map_cons]
    unfold cmpL
    rw [ih]
    have : cmpD (rowG n (sgn s) a) (rowG n (sgn t) a) = some ((List.range n).all fun j => s a j == t a j) := by
      unfold rowG cmpD
      exact cmpL_rowS (n := n) _
    rw [this]
    rfl
theorem grid_eq {n : Nat} {s t : Nat → Nat → Int} : ((List.range n).all fun i => (List.range n).all fun j => s i j == t i j) = true ↔ EqT n s t := by
  simp only [List.all_eq_true, List.mem_range, beq_iff_eq]
  exact ⟨fun h i j hi hj => h i hi j hj, fun h i hi j hj => h i j hi hj⟩
/-- the two tables are held against one another -/
theorem rEqC_grid {K : PySem.W.Frag} {k n : Nat} {neg : Bool} {s t : Nat → Nat → Int} {x y : V} {H : Hp} {Q : VK} (hx : Den K H (gridD n (sgn s)) x) (hy : Den K H (gridD n (sgn t)) y) (hk : 1 < k) (h1 : EqT n s t → Q (.bl (!neg)) H) (h2 : ¬ EqT n s t → Q (.bl neg) H) : rEqC K k neg x y H Q := by
  refine ⟨_, _, _, hx, hy, Nat.lt_of_le_of_lt (deepL_rows _ _ _) hk, cmpL_gridS _, ?_⟩
  by_cases e : EqT n s t
  · rw [grid_eq.mpr e]
    have := h1 e
    cases neg <;> exact this
  · have : ((List.range n).all fun i => (List.range n).all fun j => s i j == t i j) = false := by
      cases q : ((List.range n).all fun i => (List.range n).all fun j => s i j == t i j) with
      | false => rfl
      | true => exact absurd (grid_eq.mp q) e
    rw [this]
    have := h2 e
    cases neg <;> exact this
end L2

set_option Elab.async false
set_option linter.all false
set_option maxRecDepth 100000
set_option maxHeartbeats 4000000
namespace L2
open PySem PySem.Spec PyProof.Rows
/-! ### what is sharpened is steady -/
theorem std_le {n : Nat} (hn : 1 ≤ n) {s : Nat → Nat → Int} (h : Std n s) {i j : Nat} (hi : i < n) (hj : j < n) {x : Int} : s i j ≤ x ↔ ∃ k, k < n ∧ s i k ≤ x ∧ s k j ≤ x := by
  rw [← h i j hi hj, sprod_le hn]
/-- a way of signs up to x comes past a room with such a round -/
theorem loop_at {n : Nat} (hn : 1 ≤ n) {s : Nat → Nat → Int} (h : Std n s) {i j : Nat} (hi : i < n) (hj : j < n) {x : Int} (hx : s i j ≤ x) : ∃ k, k < n ∧ s i k ≤ x ∧ s k k ≤ x ∧ s k j ≤ x := by
  have step : ∀ k : {k : Nat // k < n ∧ s i k ≤ x ∧ s k j ≤ x}, ∃ l : {k : Nat // k < n ∧ s i k ≤ x ∧ s k j ≤ x}, s k.1 l.1 ≤ x := fun ⟨k, hk, h1, h2⟩ => by
    obtain ⟨l, hl, h3, h4⟩ := (std_le hn h hk hj).mp h2
    exact ⟨⟨l, hl, (std_le hn h hi hl).mpr ⟨k, hk, h1, h3⟩, h4⟩, h3⟩
  obtain ⟨k0, hk0, h1, h2⟩ := (std_le hn h hi hj).mp hx
  let f : Nat → {k : Nat // k < n ∧ s i k ≤ x ∧ s k j ≤ x} := fun m => Nat.rec ⟨k0, hk0, h1, h2⟩ (fun _ k => Classical.choose (step k)) m
  have fs : ∀ m, s (f m).1 (f (m + 1)).1 ≤ x := fun m => Classical.choose_spec (step (f m))
  obtain ⟨a, b, hab, _, e⟩ := pigeon n (fun m => (f m).1) fun m _ => (f m).2.1
  have far : ∀ d, s (f a).1 (f (a + d + 1)).1 ≤ x := by
    intro d
    induction d with
    | zero => exact fs a
    | succ d ih => exact (std_le hn h (f a).2.1 (f (a + (d + 1) + 1)).2.1).mpr ⟨(f (a + d + 1)).1, (f (a + d + 1)).2.1, ih, fs (a + d + 1)⟩
  have e' : (f a).1 = (f b).1 := e
  have hfa := far (b - a - 1)
  rw [show a + (b - a - 1) + 1 = b by omega, ← e'] at hfa
  exact ⟨(f a).1, (f a).2.1, (f a).2.2.1, hfa, (f a).2.2.2⟩
theorem sharp_le {n : Nat} (hn : 1 ≤ n) {s : Nat → Nat → Int} {i j : Nat} {x : Int} : sharp n s i j ≤ x ↔ ∃ k, k < n ∧ s i k ≤ x ∧ rnd (s k k) ≤ x ∧ s k j ≤ x := by
  obtain ⟨m, hm⟩ := minO_some (l := (List.range n).map fun k => mx3 (s i k) (rnd (s k k)) (s k j)) (by
    intro z
    have := congrArg List.length z
    rw [List.length_map, List.length_range] at this
    simp at this
    omega)
  unfold sharp
  rw [hm]
  show m ≤ x ↔ _
  rw [minO_le hm]
  constructor
  · rintro ⟨y, hy, hx⟩
    obtain ⟨k, hk, rfl⟩ := List.mem_map.mp hy
    exact ⟨k, List.mem_range.mp hk, mx3_le.mp hx⟩
  · rintro ⟨k, hk, hx⟩
    exact ⟨_, List.mem_map.mpr ⟨k, List.mem_range.mpr hk, rfl⟩, mx3_le.mpr hx⟩
theorem rnd_ge {y : Int} (h : 0 ≤ y) (h3 : y ≤ 3) : y ≤ rnd y := by unfold rnd; split <;> omega
theorem rnd_in {y : Int} (h : 0 ≤ y) (h3 : y ≤ 3) : 0 ≤ rnd y ∧ rnd y ≤ 3 := by unfold rnd; split <;> omega
theorem sharp_in {n : Nat} (hn : 1 ≤ n) {s : Nat → Nat → Int} (h : InT n s) : InT n (sharp n s) := fun i j hi hj => by
  constructor
  · obtain ⟨k, hk, h1, _⟩ := (sharp_le hn (s := s) (i := i) (j := j)).mp (Int.le_refl _)
    have := h i k hi hk
    omega
  · exact (sharp_le hn).mpr ⟨0, by omega, (h i 0 hi (by omega)).2, (rnd_in (h 0 0 (by omega) (by omega)).1 (h 0 0 (by omega) (by omega)).2).2, (h 0 j (by omega) hj).2⟩
section
variable {n : Nat} {s : Nat → Nat → Int}
theorem sharp_mul_left (hn : 1 ≤ n) (h : Std n s) : EqT n (sprod n s (sharp n s)) (sharp n s) := fun i j hi hj => eq_of_le fun x => by
  rw [sprod_le hn, sharp_le hn]
  constructor
  · rintro ⟨k, hk, h1, h2⟩
    obtain ⟨l, hl, a, b, c⟩ := (sharp_le hn).mp h2
    exact ⟨l, hl, (std_le hn h hi hl).mpr ⟨k, hk, h1, a⟩, b, c⟩
  · rintro ⟨l, hl, a, b, c⟩
    obtain ⟨k, hk, h1, h2⟩ := (std_le hn h hi hl).mp a
    exact ⟨k, hk, h1, (sharp_le hn).mpr ⟨l, hl, h2, b, c⟩⟩
theorem sharp_mul_right (hn : 1 ≤ n) (h : Std n s) : EqT n (sprod n (sharp n s) s) (sharp n s) := fun i j hi hj => eq_of_le fun x => by
  rw [sprod_le hn, sharp_le hn]
  constructor
  · rintro ⟨k, hk, h1, h2⟩
    obtain ⟨l, hl, a, b, c⟩ := (sharp_le hn).mp h1
    exact ⟨l, hl, a, b, (std_le hn h hl hj).mpr ⟨k, hk, c, h2⟩⟩
  · rintro ⟨l, hl, a, b, c⟩
    obtain ⟨k, hk, h1, h2⟩ := (std_le hn h hl hj).mp c
    exact ⟨k, hk, (sharp_le hn).mpr ⟨l, hl, a, b, h1⟩, h2⟩
theorem sharp_ge (hn : 1 ≤ n) (h : Std n s) {i j : Nat} (hi : i < n) (hj : j < n) : s i j ≤ sharp n s i j := by
  obtain ⟨l, hl, a, _, c⟩ := (sharp_le hn (s := s) (i := i) (j := j)).mp (Int.le_refl _)
  exact (std_le hn h hi hj).mpr ⟨l, hl, a, c⟩
theorem sharp_std (hn : 1 ≤ n) (hs : InT n s) (h : Std n s) : Std n (sharp n s) := fun i j hi hj => eq_of_le fun x => by
  rw [sprod_le hn]
  constructor
  · rintro ⟨k, hk, h1, h2⟩
    obtain ⟨l, hl, a, b, c⟩ := (sharp_le hn).mp h1
    have := sharp_ge hn h hk hj
    exact (sharp_le hn).mpr ⟨l, hl, a, b, (std_le hn h hl hj).mpr ⟨k, hk, c, by omega⟩⟩
  · intro hx
    obtain ⟨l, hl, a, b, c⟩ := (sharp_le hn).mp hx
    have hll := rnd_ge (hs l l hl hl).1 (hs l l hl hl).2
    exact ⟨l, hl, (sharp_le hn).mpr ⟨l, hl, a, b, by omega⟩, (sharp_le hn).mpr ⟨l, hl, by omega, b, c⟩⟩
theorem sharp_twice (hn : 1 ≤ n) (hs : InT n s) (h : Std n s) : EqT n (sharp n (sharp n s)) (sharp n s) := fun i j hi hj => eq_of_le fun x => by
  constructor
  · intro hx
    obtain ⟨k, hk, h1, _, h2⟩ := (sharp_le hn).mp hx
    rw [← sharp_std hn hs h i j hi hj, sprod_le hn]
    exact ⟨k, hk, h1, h2⟩
  · intro hx
    obtain ⟨l, hl, a, b, c⟩ := (sharp_le hn).mp hx
    have e1 := hs l l hl hl
    have hll := rnd_ge e1.1 e1.2
    have hS : sharp n s l l ≤ rnd (s l l) := (sharp_le hn).mpr ⟨l, hl, hll, Int.le_refl _, hll⟩
    have e2 := sharp_in hn hs l l hl hl
    refine (sharp_le hn).mpr ⟨l, hl, (sharp_le hn).mpr ⟨l, hl, a, b, by omega⟩, ?_, (sharp_le hn).mpr ⟨l, hl, by omega, b, c⟩⟩
    have hr : rnd (sharp n s l l) ≤ rnd (s l l) := by
      unfold rnd at hS ⊢
      split at hS <;> split <;> omega
    omega
theorem sharp_zero (hn : 1 ≤ n) (hs : InT n s) (h : Std n s) {i j : Nat} (hi : i < n) (hj : j < n) : sharp n s i j = 0 ↔ s i j = 0 := by
  have e1 := hs i j hi hj
  have e2 := sharp_in hn hs i j hi hj
  have e3 := sharp_ge hn h hi hj
  constructor
  · intro e; omega
  · intro e
    obtain ⟨k, hk, a, b, c⟩ := loop_at hn h hi hj (x := 0) (by omega)
    have : sharp n s i j ≤ 0 := (sharp_le hn).mpr ⟨k, hk, a, by have := hs k k hk hk; unfold rnd; rw [if_pos (by omega)]; exact b, c⟩
    omega
theorem sharp_three (hn : 1 ≤ n) (hs : InT n s) (h : Std n s) {i j : Nat} (hi : i < n) (hj : j < n) : sharp n s i j = 3 ↔ s i j = 3 := by
  have e1 := hs i j hi hj
  have e2 := sharp_in hn hs i j hi hj
  have e3 := sharp_ge hn h hi hj
  constructor
  · intro e
    rcases Int.lt_or_le (s i j) 3 with z | z
    · obtain ⟨k, hk, a, b, c⟩ := loop_at hn h hi hj (x := 2) (by omega)
      have : sharp n s i j ≤ 2 := (sharp_le hn).mpr ⟨k, hk, a, by unfold rnd; split <;> omega, c⟩
      omega
    · omega
  · intro e; omega
end
end L2

set_option Elab.async false
set_option linter.all false
set_option maxRecDepth 100000
set_option maxHeartbeats 4000000
namespace L2
open PySem PySem.Spec PyProof.Rows
/-! ### a def is made within a def -/
def tDef (cells : List (Str × Addr)) (P : Addr) (name q : Str) (params : Arguments) (body : List Stmt) (scope : Scope) (pos : Pos) (i : Nat) : TS := fun D σ H =>
  ∃ ps : Array Value, H P = some (.tbl ps) ∧ TriplesOk ps.toList ∧
    (codeAmong pos ps.toList = none → ∀ c' f doc pm ctv, H c' = none → H f = none → c' ≠ f →
      D.nx (σ.set i (some (.ref f))) (upd (upd (upd H P (.tbl (ps ++ #[rawInt pos.line, rawInt pos.col, .ref c']))) c' (codeO c' q)) f (lamO f (PySem.W.fnX name q params body scope (clOf cells scope.names []) .none .none doc pm none (.ref c') ctv)))) ∧
    (∀ cv, codeAmong pos ps.toList = some cv → ∃ c', cv = .ref c' ∧ ∀ f doc pm ctv, H f = none → D.nx (σ.set i (some (.ref f))) (upd H f (lamO f (PySem.W.fnX name q params body scope (clOf cells scope.names []) .none .none doc pm none (.ref c') ctv))))
theorem ps_def {X : Cx} {c P : Addr} {name q : Str} {i : Nat} {params : Arguments} {body : List Stmt} {scope : Scope} {pos : Pos} (hN : X.N.Nodup) (hi : X.N[i]? = some name) (hx : Loc X.env.scope name) (hcode : X.env.code = .ref c) (C : PySem.W.CodeHd X.base c P) (hB : BM X.mg X.base)
    (hck : lamCheck scope X.env.scope = true) (hq : qualnameIn X.env name name = q := by rfl) (hd0 : params.defaults = [] := by rfl) (hk0 : params.kw_defaults = [] := by rfl) (ha : annTrees params none X.env = [] := by rfl) (hf : X.fn name = true ∨ X.env.scope.names.lookup name = some .local := by first | exact .inl rfl | exact .inr rfl) :
    PS X (.FunctionDef name params body [] none [] scope none name pos) (tDef X.env.cells P name q params body scope pos i) := by
  intro pins s σ H D I h
  have hfr : ∀ y ∈ scope.names, y.2 = .free → X.env.kindOf y.1 = some .cell ∨ X.env.kindOf y.1 = some .free := fun y hy e => by
    have z := List.all_eq_true.mp hck y hy
    have z' : X.env.scope.names.lookup y.1 = some .cell ∨ X.env.scope.names.lookup y.1 = some .free := by simpa [e] using z
    exact z'
  obtain ⟨ps, hP, ht, hnew, hhit⟩ := h
  refine PySem.W.nestDef_K hd0 hk0 ha ?_
  rw [hq]
  have fin : ∀ {H2 : Hp} {f : Addr} {s2 : Shared}, Inv X pins σ H2 s2 → D.nx (σ.set i (some (.ref f))) H2 → wpAny (model X.prog X.w) X.A (storeName X.env name (.ref f)) (fun _ s3 => SP X pins D .next s3) X.xe s2 := fun {H2 f s2} I2 q2 => store_ok (v := .ref f) I2 hN hi hx rfl (fun s3 I3 => ⟨_, H2, I3, q2⟩) hf
  have hcl := closureFor_of (scope := scope) (env := X.env) fun y hy e => I.ok.has y.1 (hfr y hy e)
  have oP : s.heap.get? P = some (PySem.W.tabObj ps) := I.hok P _ hP
  have hgs : s.heap.Ns mainGlobals X.mg := I.mod.glob.keeps I.bk
  have hC : PySem.W.CodeHd s.heap c P := C.keeps I.bk
  have hgP : mainGlobals ≠ P := fun q => by
    obtain ⟨o, es, ep, e, d, _⟩ := hgs
    rw [q, oP] at e; cases e; cases d
  have hb : s.heap.BuiltinsAt X.mg P := by
    obtain ⟨bm, ob, b1, b2, b3, b4, b5, b6⟩ := hB
    refine ⟨bm, ob, b1, b2, fun q => ?_, fun q => ?_, I.bk _ _ b3, b4, b5, b6⟩
    · obtain ⟨o, es, ep, e, d, _⟩ := I.mod.glob
      rw [q, e] at b3; cases b3; rw [d] at b6; cases b6
    · have e := I.bk _ _ b3
      rw [q, oP] at e; cases e; cases b4
  cases qq : codeAmong pos ps.toList with
  | none =>
    refine PySem.W.makeFunction_K (mg := X.mg) hcl I.ok.glob hgs hcode hC oP ht qq hgP hb fun c' ctv doc h' tk hx hge hlt hrec htb => ?_
    have hPl : P < s.heap.objs.size := Heap.lt_size oP
    have hcP : c' ≠ P := Nat.ne_of_gt (Nat.lt_of_lt_of_le hPl hge)
    have hfP : h'.objs.size ≠ P := Nat.ne_of_gt (Nat.lt_trans (Nat.lt_of_lt_of_le hPl hge) hlt)
    have hcf : c' ≠ h'.objs.size := Nat.ne_of_lt hlt
    have hsz : s.heap.objs.size ≤ h'.objs.size := Nat.le_trans hge (Nat.le_of_lt hlt)
    have nP : ∀ b, H b = none → b ≠ P := fun b n z => by rw [z, hP] at n; cases n
    have lt : ∀ b o, H b = some o → b ≠ c' ∧ b ≠ h'.objs.size := fun b o e => ⟨Nat.ne_of_lt (Nat.lt_of_lt_of_le (I.hok.lt e) hge), Nat.ne_of_lt (Nat.lt_of_lt_of_le (I.hok.lt e) hsz)⟩
    have lt2 : ∀ b o, s.heap.get? b = some o → b ≠ c' ∧ b ≠ h'.objs.size := fun b o e => ⟨Nat.ne_of_lt (Nat.lt_of_lt_of_le (Heap.lt_size e) hge), Nat.ne_of_lt (Nat.lt_of_lt_of_le (Heap.lt_size e) hsz)⟩
    have keep : ∀ b o, b ≠ P → s.heap.get? b = some o → (h'.push (PySem.W.fnMade name q params body scope (clOf X.env.cells scope.names []) doc ((X.mg "__name__").getD .none) c' ctv)).get? b = some o := fun b o n e => Heap.get?_push_of_some _ (hx b o n e)
    have at3 : ∀ b, b ≠ P → b ≠ c' → b ≠ h'.objs.size → ∀ o1 o2 o3, upd (upd (upd H P o1) c' o2) h'.objs.size o3 b = H b := fun b n1 n2 n3 o1 o2 o3 => by rw [upd_ne n3, upd_ne n2, upd_ne n1]
    refine fin (H2 := upd (upd (upd H P (.tbl (ps ++ #[rawInt pos.line, rawInt pos.col, .ref c']))) c' (codeO c' q)) h'.objs.size (lamO h'.objs.size (PySem.W.fnX name q params body scope (clOf X.env.cells scope.names []) .none .none doc ((X.mg "__name__").getD .none) none (.ref c') ctv))) (I.un (t' := tk) ⟨fun b o e n _ _ => keep b o (nP b n) e, fun b o e n _ _ => ⟨o.slots, keep b o (nP b n) e⟩, fun b o e n _ => ?fr, fun b o e _ => ?th, fun b xs e => ?tu, fun b o u e => ?fz, fun b qs e => ?tb⟩ ?ok) (hnew qq c' h'.objs.size doc _ ctv (I.hok.fresh hge) (I.hok.fresh hsz) hcf)
    case fr => rw [at3 b (nP b n) (lt2 b o e).1 (lt2 b o e).2]; exact n
    case th =>
      by_cases z : b = P
      · subst z; exact ⟨_, Heap.get?_push_of_some _ htb⟩
      · exact ⟨o, keep b o z e⟩
    case tu => rw [at3 b (fun z => by rw [z, hP] at e; cases e) (lt b _ e).1 (lt b _ e).2]; exact e
    case fz => rw [at3 b (fun z => by rw [z, hP] at e; cases e) (lt b _ e).1 (lt b _ e).2]; exact e
    case tb =>
      by_cases z : b = P
      · subst z
        rw [hP] at e; cases e
        exact ⟨#[rawInt pos.line, rawInt pos.col, .ref c'], by rw [upd_ne (Ne.symm hfP), upd_ne (Ne.symm hcP), upd_same]⟩
      · exact ⟨#[], by rw [at3 b z (lt b _ e).1 (lt b _ e).2, e]; simp⟩
    case ok =>
      intro b o e
      by_cases zf : b = h'.objs.size
      · subst zf
        rw [upd_same] at e; cases e
        exact lamO_ok (Heap.get?_push_size _ rfl)
      · rw [upd_ne zf] at e
        by_cases zc : b = c'
        · subst zc
          rw [upd_same] at e; cases e
          obtain ⟨c2, oc, vs, t, e1, e2, e3⟩ := hrec
          exact codeO_ok ⟨c2, oc, vs, t, e1, Heap.get?_push_of_some _ e2, e3⟩
        · rw [upd_ne zc] at e
          by_cases zp : b = P
          · subst zp
            rw [upd_same] at e; cases e
            exact Heap.get?_push_of_some _ htb
          · rw [upd_ne zp] at e
            have up3 : ∀ d u, H d = some u → (∀ ps, u ≠ .tbl ps) → upd (upd (upd H P (.tbl (ps ++ #[rawInt pos.line, rawInt pos.col, .ref c']))) c' (codeO c' q)) h'.objs.size (lamO h'.objs.size (PySem.W.fnX name q params body scope (clOf X.env.cells scope.names []) .none .none doc ((X.mg "__name__").getD .none) none (.ref c') ctv)) d = some u := fun d u e nt => by
              rw [at3 d (fun z => by rw [z, hP] at e; cases e; exact nt _ rfl) (lt d _ e).1 (lt d _ e).2]; exact e
            refine (I.hok b o e).stay (fun d u hd q => keep d u ?_ q) (fun d q => up3 d _ q fun _ => by nofun) fun d xs q => up3 d _ q fun _ => by nofun
            rintro rfl
            rcases hd with hd | hd
            · exact zp hd.symm
            · rw [hP] at hd; cases hd
  | some cv =>
    obtain ⟨c', rfl, hq2⟩ := hhit cv qq
    refine PySem.W.makeFunction_hit (mg := X.mg) hcl I.ok.glob hgs hcode hC oP ht qq hb fun ctv doc h' tk hk hsz => ?_
    exact fin (I.laid (t' := tk) (fun b o e => Heap.get?_push_of_some _ (hk b o e)) hsz (lamO_ok (Heap.get?_push_size _ rfl))) (hq2 h'.objs.size doc _ ctv (I.hok.fresh hsz))

def DefIn (H : Hp) (f : Addr) (name qual : Str) (params : Arguments) (body : List Stmt) (scope : Scope) (fr : List Str) (cap : List V) (clos : List (Str × Addr)) : Prop :=
  ∃ doc pm c' ctv, H f = some (lamO f (PySem.W.fnX name qual params body scope clos .none .none doc pm none (.ref c') ctv)) ∧ H c' = some (codeO c' qual) ∧ Cells clos H ∧
    (∀ x y c, clos.lookup x = some c → clos.lookup y = some c → x = y) ∧ (∀ x, scope.names.lookup x = some .free → ∃ c, clos.lookup x = some c) ∧ Cap clos H fr cap
theorem def_ok {P : Program} {w : World} {K : PySem.W.Frag} {mg : Str → Option Value} {base : Heap} {k : Nat} {f : Addr} {N ps fr : List Str} {name qual : Str} {params : Arguments} {body : List Stmt} {scope : Scope} {clos : List (Str × Addr)} {cap : List V} {sp : Sp}
    (S : LamScope N ps fr scope) (len : ∀ vs H Q E, sp vs H Q E → vs.length = ps.length) (hlc : cap.length = fr.length)
    (hbind : ∀ (doc pm : Value) (c' : Addr) (ctv : Value) (us : List Value), us.length = ps.length → bindArgs (PySem.W.fnX name qual params body scope clos .none .none doc pm none (.ref c') ctv) ⟨us, []⟩ = pure (ps.zip us))
    (hbody : ∀ (A : Around) (outer : List Env) (s : Shared) (H : Hp) (cd : Value) (vs : List V) (Q : VK), Room k (A.deeper (PySem.W.envX qual scope s.heap.objs.size f cd (cellsFrom (s.heap.objs.size + 1) scope.names clos))) → DefIn H f name qual params body scope fr cap clos → sp vs H Q E0 →
      ∃ t, PSs (cxLam P w K mg base N qual scope f cd clos A outer s H) body t ∧ t { nx := fun _ H' => Q .non (Put clos H H'), rt := fun v H' => Q v (Put clos H H') } (vs.map some ++ cap.map some) (Drop clos H)) :
    ClOk P w K mg base (k + 1) (fun H => DefIn H f name qual params body scope fr cap clos) f sp := by
  refine ⟨fun A outer s H us vs Q hr e0 hR r hsp => ?_⟩
  have hl := len _ _ _ _ hsp
  obtain ⟨doc, pm, c', ctv, h1, h2, h3, h4, h5, h6⟩ := id hR
  have lim : s.heap.NoLimit := e0.mod.nolimit.keeps fun b o e => (e0.bs b o e).1
  refine codeAny_call_function hr.depth (lamO_get e0.hok h1) rfl S.co S.gen rfl (codeO_get e0.hok h2) ?_
  rw [hbind doc pm c' ctv us (by rw [← r.length]; exact hl)]
  refine wpAny_pure (enter_clos S.kind (fun y hy => ?_) fun env he s1 x => ?_)
  · rcases S.par y.1 (List.of_mem_zip (show (y.1, y.2) ∈ ps.zip us from hy)).1 with q | q
    · exact .inl q
    · exact .inr ⟨q, cell_has q⟩
  · subst he
    refine ⟨lim.keeps x.toInCall.keep, codeAny_func ?_⟩
    obtain ⟨t, ht, hq⟩ := hbody A outer s H (.ref c') vs Q (hr.deeper _) hR hsp
    have I := inv_lam S hr.hd e0 hl hlc r h3 h4 h5 h6 x
    refine wpAny_mono (ht [] s1 _ _ _ I hq) (fun fl s' hs => ?_) fun e s' hs => hs.elim
    have fin : ∀ {σ' : St} {H' : Hp} {v : V} {u : Value}, Inv (cxLam P w K mg base N qual scope f (.ref c') clos A outer s H) [] σ' H' s' → RelV v u → Q v (Put clos H H') → CE outer P w H s Q u s' := fun {σ' H' v u} J rv q => by
      obtain ⟨un, ok'⟩ := lam_end e0.hok h3 e0.frf J.base J.hok
      exact ⟨v, _, J.os, J.bare, un, ok', rv, q⟩
    cases fl with
    | ret u =>
      obtain ⟨v, σ', H', J, rv, q⟩ := hs
      exact fin J rv q
    | next =>
      obtain ⟨σ', H', J, q⟩ := hs
      exact fin (v := V.non) (u := Value.none) J rfl q
    | brk =>
      obtain ⟨_, _, _, q⟩ := hs
      exact False.elim q
    | cont =>
      obtain ⟨_, _, _, q⟩ := hs
      exact False.elim q
/-- a def is made: what its reader gets -/
theorem tDef_of {T : List (Addr × Str)} {cells : List (Str × Addr)} {P : Addr} {q : Str} {name : Str} {params : Arguments} {body : List Stmt} {scope : Scope} {pos : Pos} {ix : Nat} {D0 : Ends} {σ : St} {H : Hp} (hT : TabsH T H) (nd : (T.map (·.1)).Nodup) (hm : (P, q) ∈ T)
    (go : ∀ (f : Addr) (H' : Hp), SameT H H' → TabsH T H' → H f = none → (∃ doc pm c' ctv, H' f = some (lamO f (PySem.W.fnX name q params body scope (clOf cells scope.names []) .none .none doc pm none (.ref c') ctv)) ∧ H' c' = some (codeO c' q)) → D0.nx (σ.set ix (some (.ref f))) H') :
    tDef cells P name q params body scope pos ix D0 σ H := by
  obtain ⟨ps, hP, ht, hc⟩ := hT _ hm
  refine ⟨ps, hP, ht, fun hn c' f doc pm ctv n1 n2 ne => ?_, fun cv e => ?_⟩
  · have cP : c' ≠ P := fun z => by rw [z, hP] at n1; cases n1
    have fP : f ≠ P := fun z => by rw [z, hP] at n2; cases n2
    have at' : ∀ b, b ≠ P → H b ≠ none → ∀ o1 o2 o3, upd (upd (upd H P o1) c' o2) f o3 b = H b := fun b z1 z2 o1 o2 o3 => by
      rw [upd_ne fun z => by subst z; exact z2 n2, upd_ne fun z => by subst z; exact z2 n1, upd_ne z1]
    refine go f _ (fun b o d e => ?_) (fun y hy => ?_) n2 ⟨doc, pm, c', ctv, upd_same, by rw [upd_ne ne, upd_same]⟩
    · rw [at' b (fun z => by subst z; rw [hP] at e; cases e; exact d _ rfl) (by rw [e]; simp)]; exact e
    · by_cases z : y.1 = P
      · have ey : y = (P, q) := by
          have : ∀ (l : List (Addr × Str)), (l.map (·.1)).Nodup → y ∈ l → (P, q) ∈ l → y = (P, q) := by
            intro l
            induction l with
            | nil => intro _ h; simp at h
            | cons a l ih =>
              intro hn h1 h2
              rw [List.map_cons, List.nodup_cons] at hn
              rcases List.mem_cons.mp h1 with e1 | h1 <;> rcases List.mem_cons.mp h2 with e2 | h2
              · rw [e1, e2]
              · exact absurd (by rw [← e1, z]; exact List.mem_map_of_mem (f := (·.1)) h2) hn.1
              · exact absurd (by rw [← e2, ← z]; exact List.mem_map_of_mem (f := (·.1)) h1) hn.1
              · exact ih hn.2 h1 h2
          exact this T nd hy hm
        subst ey
        refine ⟨_, by rw [upd_ne (Ne.symm fP), upd_ne (Ne.symm cP), upd_same], ?_, fun pos2 cv e => ?_⟩
        · rw [Array.toList_append]; exact TriplesOk_snoc _ _ _ _ ht
        · rw [Array.toList_append] at e
          rcases codeAmong_add _ ht e with e' | e'
          · obtain ⟨c2, e1, e2⟩ := hc pos2 cv e'
            exact ⟨c2, e1, by rw [at' c2 (fun z => by subst z; rw [hP] at e2; unfold codeO at e2; cases e2) (by rw [e2]; simp)]; exact e2⟩
          · exact ⟨c', e', by rw [upd_ne ne, upd_same]⟩
      · obtain ⟨qs, e1, e2, e3⟩ := hT y hy
        refine ⟨qs, by rw [at' y.1 z (by rw [e1]; simp)]; exact e1, e2, fun pos2 cv e => ?_⟩
        obtain ⟨c2, e4, e5⟩ := e3 pos2 cv e
        exact ⟨c2, e4, by rw [at' c2 (fun z => by subst z; rw [hP] at e5; unfold codeO at e5; cases e5) (by rw [e5]; simp)]; exact e5⟩
  · obtain ⟨c', e1, e2⟩ := hc pos cv e
    refine ⟨c', e1, fun f doc pm ctv n => go f _ (.of ((Same.refl H).new n)) (hT.new n) n ⟨doc, pm, c', ctv, upd_same, ?_⟩⟩
    rw [upd_ne (ne_of_none e2 n)]; exact e2

/-- the def with its cells -/
theorem defIn_of {cells : List (Str × Addr)} {N : List Str} {kd : Str → Option NameKind} {σ : St} {H1 H2 : Hp} {f : Addr} {q : Str} {name : Str} {params : Arguments} {body : List Stmt} {scope : Scope} {fr : List Str} {cap : List V} (ca : Caught cells N kd σ H1 H2)
    (hf : ∃ doc pm c' ctv, H1 f = some (lamO f (PySem.W.fnX name q params body scope (clOf cells scope.names []) .none .none doc pm none (.ref c') ctv)) ∧ H1 c' = some (codeO c' q))
    (hfr : ∀ x, scope.names.lookup x = some .free → ∃ c, cells.lookup x = some c)
    (hcap : ∀ (i : Nat) (x : Str) (v : V), fr[i]? = some x → cap[i]? = some v → scope.names.lookup x = some .free ∧ (kd x = some .cell ∨ kd x = some .free) ∧ ∃ j : Nat, N[j]? = some x ∧ σ[j]? = some (some v)) :
    DefIn H2 f name q params body scope fr cap (clOf cells scope.names []) := by
  obtain ⟨doc, pm, c', ctv, h1, h2⟩ := hf
  have up : ∀ b o, H1 b = some o → H2 b = some o := fun b o e => by
    rw [ca.ne b fun z => by rw [ca.free b z] at e; cases e]; exact e
  have sub : ∀ x c, (clOf cells scope.names []).lookup x = some c → cells.lookup x = some c := fun x c e => by
    rcases clOf_mem (PySem.mem_of_lookup e) with z | z
    · exact z
    · exact absurd z (by simp)
  refine ⟨doc, pm, c', ctv, up _ _ h1, up _ _ h2, fun x c e => ca.cells x c (sub x c e), fun x y c e1 e2 => ca.inj x y c (sub x c e1) (sub y c e2), fun x k => ?_, fun i x v e1 e2 => ?_⟩
  · obtain ⟨c, e⟩ := hfr x k
    exact ⟨c, clOf_lookup e (PySem.mem_of_lookup k)⟩
  · obtain ⟨k, kk, j, e3, e4⟩ := hcap i x v e1 e2
    obtain ⟨c, e⟩ := hfr x k
    obtain ⟨o, u, e5, e6, e7⟩ := ca.cap j x v c e3 e4 kk e
    exact ⟨c, o, u, clOf_lookup e (PySem.mem_of_lookup k), e5, e6, e7⟩

theorem DefIn.same {H H' : Hp} {f : Addr} {name qual : Str} {params : Arguments} {body : List Stmt} {scope : Scope} {fr : List Str} {cap : List V} {clos : List (Str × Addr)} (h : DefIn H f name qual params body scope fr cap clos) (e : Same H H') : DefIn H' f name qual params body scope fr cap clos := by
  obtain ⟨doc, pm, c', ctv, h1, h2, h3, h4, h5, h6⟩ := h
  refine ⟨doc, pm, c', ctv, e _ _ h1, e _ _ h2, fun x c q => ?_, h4, h5, fun i x v a b => ?_⟩
  · obtain ⟨o, v, z, d⟩ := h3 x c q
    exact ⟨o, v, e _ _ z, d⟩
  · obtain ⟨c, o, u, z1, z2, z3⟩ := h6 i x v a b
    exact ⟨c, o, u, z1, e _ _ z2, z3⟩
theorem DefIn.fn {K : PySem.W.Frag} {H : Hp} {f : Addr} {name qual : Str} {params : Arguments} {body : List Stmt} {scope : Scope} {fr : List Str} {cap : List V} {clos : List (Str × Addr)} (h : DefIn H f name qual params body scope fr cap clos) : FnIn K H f := by
  obtain ⟨doc, pm, c', ctv, h1, _⟩ := h
  exact .inl ⟨_, h1⟩
/-- the def that stands j-th in a def's body -/
def inDef (st : Stmt) (j : Nat) : Stmt := (defBody st).getD j (.Pass ⟨0, 0, 0, 0⟩)
end L2

set_option Elab.async false
set_option linter.all false
set_option maxRecDepth 100000
set_option maxHeartbeats 4000000
namespace My
open PySem L2
def top (i : Nat) : Stmt := PySem.Challenge.pw_leasttolls_k09_tables_of_letters.main.body.getD i (.Pass ⟨0, 0, 0, 0⟩)
abbrev s_rooms_of : Stmt := top 1
abbrev s_doors_of : Stmt := top 2
abbrev s_grid : Stmt := top 4
abbrev s_least : Stmt := top 6
abbrev s_letter_table : Stmt := top 7
abbrev s__law_bag : Stmt := top 9
abbrev s__law_take : Stmt := top 10
abbrev s__law_rooms : Stmt := top 11
abbrev s__law_machine : Stmt := top 12
abbrev s__law_same : Stmt := top 13
abbrev s__law_letter_table : Stmt := top 14
abbrev s_law : Stmt := top 15
theorem sc_rooms_of : FnScope ["machine"] ["machine"] (defScope s_rooms_of) := ⟨rfl, rfl, rfl, by decide +kernel, rfl, by decide +kernel, by decide +kernel⟩
theorem sc_doors_of : FnScope ["machine"] ["machine"] (defScope s_doors_of) := ⟨rfl, rfl, rfl, by decide +kernel, rfl, by decide +kernel, by decide +kernel⟩
theorem sc_grid : FnScope ["size", "entry", "rows", "i"] ["size", "entry"] (defScope s_grid) := ⟨rfl, rfl, rfl, by decide +kernel, rfl, by decide +kernel, by decide +kernel⟩
theorem sc_least : FnScope ["prices"] ["prices"] (defScope s_least) := ⟨rfl, rfl, rfl, by decide +kernel, rfl, by decide +kernel, by decide +kernel⟩
theorem sc_letter_table : FnScope ["machine", "letter", "least_fee"] ["machine", "letter"] (defScope s_letter_table) := ⟨rfl, rfl, rfl, by decide +kernel, rfl, by decide +kernel, by decide +kernel⟩
theorem sc__law_bag : FnScope ["_law_script", "_law_at", "_law_cell", "_law_mix", "_law_k"] ["_law_script", "_law_at"] (defScope s__law_bag) := ⟨rfl, rfl, rfl, by decide +kernel, rfl, by decide +kernel, by decide +kernel⟩
theorem sc__law_take : FnScope ["_law_bag_here", "_law_many", "_law_digit", "_law_number", "_law_room"] ["_law_bag_here", "_law_many"] (defScope s__law_take) := ⟨rfl, rfl, rfl, by decide +kernel, rfl, by decide +kernel, by decide +kernel⟩
theorem sc__law_rooms : FnScope ["_law_bag_here", "_law_many", "_law_bits"] ["_law_bag_here", "_law_many"] (defScope s__law_rooms) := ⟨rfl, rfl, rfl, by decide +kernel, rfl, by decide +kernel, by decide +kernel⟩
theorem sc__law_machine : FnScope ["_law_bag_here", "_law_letters", "_law_rooms_here", "_law_many", "_law_doors", "_law_k"] ["_law_bag_here"] (defScope s__law_machine) := ⟨rfl, rfl, rfl, by decide +kernel, rfl, by decide +kernel, by decide +kernel⟩
theorem sc__law_same : FnScope ["_law_found", "_law_due", "_law_i", "_law_entry"] ["_law_found", "_law_due"] (defScope s__law_same) := ⟨rfl, rfl, rfl, by decide +kernel, rfl, by decide +kernel, by decide +kernel⟩
theorem sc__law_letter_table : FnScope ["_law_machine_here", "_law_letter", "_law_rows", "_law_i", "_law_row", "_law_j", "_law_some"] ["_law_machine_here", "_law_letter"] (defScope s__law_letter_table) := ⟨rfl, rfl, rfl, by decide +kernel, rfl, by decide +kernel, by decide +kernel⟩
theorem sc_law : FnScope ["_law_script", "_law_at", "_law_machine_here", "_law_letter"] ["_law_script"] (defScope s_law) := ⟨rfl, rfl, rfl, by decide +kernel, rfl, by decide +kernel, by decide +kernel⟩
structure Ad where
  a_rooms_of : Addr
  f_rooms_of : FuncData
  a_doors_of : Addr
  f_doors_of : FuncData
  a_grid : Addr
  f_grid : FuncData
  a_least : Addr
  f_least : FuncData
  a_letter_table : Addr
  f_letter_table : FuncData
  a__law_bag : Addr
  f__law_bag : FuncData
  a__law_take : Addr
  f__law_take : FuncData
  a__law_rooms : Addr
  f__law_rooms : FuncData
  a__law_machine : Addr
  f__law_machine : FuncData
  a__law_same : Addr
  f__law_same : FuncData
  a__law_letter_table : Addr
  f__law_letter_table : FuncData
  a_law : Addr
  f_law : FuncData
  c_letter_table : Addr
  p_letter_table : Addr
structure Code (K : PySem.W.Frag) (mg : Str → Option Value) (t : Ad) : Prop where
  d_rooms_of : DefAt K mg "rooms_of" s_rooms_of ["machine"] t.a_rooms_of t.f_rooms_of
  d_doors_of : DefAt K mg "doors_of" s_doors_of ["machine"] t.a_doors_of t.f_doors_of
  d_grid : DefAt K mg "grid" s_grid ["size", "entry"] t.a_grid t.f_grid
  d_least : DefAt K mg "least" s_least ["prices"] t.a_least t.f_least
  d_letter_table : DefAt K mg "letter_table" s_letter_table ["machine", "letter"] t.a_letter_table t.f_letter_table
  d__law_bag : DefAt K mg "_law_bag" s__law_bag ["_law_script", "_law_at"] t.a__law_bag t.f__law_bag
  d__law_take : DefAt K mg "_law_take" s__law_take ["_law_bag_here", "_law_many"] t.a__law_take t.f__law_take
  d__law_rooms : DefAt K mg "_law_rooms" s__law_rooms ["_law_bag_here", "_law_many"] t.a__law_rooms t.f__law_rooms
  d__law_machine : DefAt K mg "_law_machine" s__law_machine ["_law_bag_here"] t.a__law_machine t.f__law_machine
  d__law_same : DefAt K mg "_law_same" s__law_same ["_law_found", "_law_due"] t.a__law_same t.f__law_same
  d__law_letter_table : DefAt K mg "_law_letter_table" s__law_letter_table ["_law_machine_here", "_law_letter"] t.a__law_letter_table t.f__law_letter_table
  d_law : DefAt K mg "law" s_law ["_law_script"] t.a_law t.f_law
  n_abs : mg "abs" = none
  n_bool : mg "bool" = none
  n_int : mg "int" = none
  n_isinstance : mg "isinstance" = none
  n_len : mg "len" = none
  n_min : mg "min" = none
  n_range : mg "range" = none
  n_tuple : mg "tuple" = none
  cd_letter_table : t.f_letter_table.code = .ref t.c_letter_table
  ti_letter_table : PySem.W.tabIn K "letter_table" = some (t.c_letter_table, t.p_letter_table)
  nd : [t.p_letter_table].Nodup
structure Tb (mg : Str → Option Value) (base : Heap) (t : Ad) : Prop where
  bm : BM mg base
  k_letter_table : PySem.W.CodeHd base t.c_letter_table t.p_letter_table
abbrev tabT (t : Ad) : List (Addr × Str) := [(t.p_letter_table, (("letter_table" : Str) ++ ".<locals>.") ++ "least_fee")]
abbrev tabN : List Str := ["letter_table"]
local macro_rules | `(tactic| walk_at "ne") => `(tactic| first | assumption | (refine ne_of_none (H := ?H) (o := ?o) ?h1 ?h2; (case h2 => assumption); (case h1 => walk_at "hp")) | (refine ne_symm' (ne_of_none (H := ?H) (o := ?o) ?h1 ?h2); (case h2 => assumption); (case h1 => walk_at "hp")) | (refine ne_of (H := ?H) (o := ?o) (u := ?u) ?h1 ?h2 ?h3; (case h1 => assumption); (case h2 => assumption); (case h3 => (intro z; cases z))))
local macro_rules | `(tactic| walk_at "hp") => `(tactic| first | assumption | exact upd_same | (refine Eq.trans (upd_ne ?ne) ?_; (case ne => walk_at "ne"); walk_at "hp"))
local macro_rules | `(tactic| walk_at "side") => `(tactic| first | rfl | with_reducible assumption | omega | assumption | decide | exact Nat.le_of_ble_eq_true rfl | (refine And.intro ?_ ?_ <;> first | assumption | omega | decide) | (refine Or.inl (And.intro ?_ ?_) <;> first | assumption | omega | decide) | (refine Or.inr (And.intro ?_ ?_) <;> first | assumption | omega | decide) | (refine And.intro ?_ (And.intro ?_ ?_) <;> first | assumption | omega | decide))
local macro_rules | `(tactic| walk_at "sq") => `(tactic| first | assumption | (refine SqL.of ?_; walk_at "hp") | (refine SqT.of ?_; walk_at "hp"))
local macro_rules | `(tactic| walk_at "rd") => `(tactic| ((fail_if_success (refine Exists.intro (α := Nat → Nat → St → Hp → Prop) ?_ ?_)); (fail_if_success (refine Exists.intro (α := St → Hp → Prop) ?_ ?_)); first
  | refine ⟨_, rfl, ?_⟩
  | refine ⟨_, _, rfl, rfl, ?_⟩
  | (refine ⟨_, ?xs, rfl, Or.inl ?sq, ?_⟩; (case sq => walk_at "sq"))
  | (refine ⟨_, ?xs, rfl, Or.inr ?sq, ?_⟩; (case sq => walk_at "sq"))
  | refine ⟨_, _, rfl, ?_⟩
  | (refine ⟨_, ?xs, _, ?v, rfl, rfl, ?sq, ?at', ?_⟩; (case sq => walk_at "sq"); (case at' => first | rfl | assumption))
  | (refine ⟨_, ?xs, rfl, ?sq, ?ln, ?_⟩; (case sq => walk_at "sq"); (case ln => rfl))
  | refine ⟨_, _, _, _, rfl, TyOf.int _, ki_ii, ?_⟩
  | refine ⟨_, _, _, _, rfl, TyOf.int _, ki_ib, ?_⟩
  | (refine ⟨_, ?xs, _, ?j, rfl, rfl, ?hp, ?at', ?_⟩; (case hp => walk_at "hp"); (case at' => rfl))
  | (refine And.intro ?sd ?_; (case sd => walk_at "side"))))
local macro_rules | `(tactic| walk_at "tk") => `(tactic| ((repeat walk_at "rd"); refine ⟨_, ?c, ?m, _, rfl, ⟨?hp, ?hc⟩, ?n0, ?n1, ?_⟩; (case hp => walk_at "hp"); (case hc => assumption); (case n0 => first | with_reducible assumption | omega | decide +kernel | assumption); (case n1 => first | with_reducible assumption | omega | decide +kernel | assumption)))
local macro_rules | `(tactic| walk_at "dr") => `(tactic| ((repeat walk_at "rd"); refine ⟨_, ?c, _, rfl, ⟨?hp, ?hc⟩, ?n0, ?n1, ?_⟩; (case hp => walk_at "hp"); (case hc => assumption); (case n0 => first | with_reducible assumption | omega | decide +kernel | assumption); (case n1 => first | with_reducible assumption | omega | decide +kernel | assumption)))


/-- the bag: two ints, the first from 0 on -/
def BagAt (H : Hp) (b : Addr) (c m : Int) : Prop := H b = some (.lst [.int c, .int m]) ∧ 0 ≤ c
def sp_take : Sp := fun vs H Q _ => ∃ (b : Addr) (c m n : Int), vs = [.ref b, .int n] ∧ BagAt H b c m ∧ 0 < n ∧ n ≤ 10 ^ 61 ∧
  ∀ (r c' m' : Int), 0 ≤ r → r < n → 0 ≤ c' → Q (.int r) (upd H b (.lst [.int c', .int m']))
def sp_bag (K : PySem.W.Frag) : Sp := fun vs H Q _ => ∃ (a : Addr) (ns : List Int) (at_ : Int), vs = [.ref a, .int at_] ∧ SqL K H a (ns.map V.int) ∧ 0 ≤ at_ ∧ ns.length ≤ 63 ∧
  ∀ (b : Addr) (c m : Int), H b = none → 0 ≤ c → Q (.ref b) (upd H b (.lst [.int c, .int m]))
def spLaw (K : PySem.W.Frag) : Sp := fun vs H Q _ => ∃ (a : Addr) (ns : List Int), vs = [.ref a] ∧ SqL K H a (ns.map V.int) ∧ ns.length ≤ 63 ∧ Blank K tabN H ∧ ∀ H', Q (.bl true) H'
theorem spLaw_mk {K : PySem.W.Frag} {H : Hp} {a : Addr} {ns : List Int} (hl : ns.length ≤ 63) (hB : Blank K tabN H) (hS : SqL K H a (ns.map V.int)) : spLaw K [.ref a] H (fun v _ => v = .bl true) E0 := ⟨a, ns, rfl, hS, hl, hB, fun _ => rfl⟩
section
variable {P : Program} {w : World} {K : PySem.W.Frag} {mg : Str → Option Value} {base : Heap} {t : Ad}

theorem ok_take (C : Code K mg t) : FnOk P w K mg base CX0 1 t.a__law_take t.f__law_take ["_law_bag_here", "_law_many"] sp_take := by
  refine C.d__law_take.fn.ok sc__law_take (fun vs H Q E h => ?_) (fun cdv A outer s H vs Q E hr h => ?_)
  · obtain ⟨b, c, m, n, rfl, _⟩ := h
    rfl
  · obtain ⟨b, c, m, n, rfl, ⟨hb, hc⟩, hn, hn3, k⟩ := h
    have hn2 : n < 2 ^ 4096 := lt4096 hn3
    refine ⟨_, (pss_cons (ps_if (pt_cmpR op_gt (pe_ix (ix_listK (K := K) rfl) (pv 0) pe_int (fun _ _ => rfl)) pe_int (nomark _)) (pss_cons (ps_set (i := 2) sc__law_take.nd rfl (by first | exact Or.inl rfl | exact Or.inr rfl) (pe_op op_mod (pe_ix (ix_listK (K := K) rfl) (pv 0) pe_int (fun _ _ => rfl)) (pv 1)))
      (pss_cons (ps_asg (pe_op op_fdivL (pe_ix (ix_listK (K := K) rfl) (pv 0) pe_int (fun _ _ => rfl)) (pv 1)) (pg_sub (pv 0) pe_int set_list))
      (pss_one (ps_ret (pv 2))))) pss_nil)
      (pss_cons (ps_set (i := 3) sc__law_take.nd rfl (by first | exact Or.inl rfl | exact Or.inr rfl) pe_int)
      (pss_cons (ps_set (i := 4) sc__law_take.nd rfl (by first | exact Or.inl rfl | exact Or.inr rfl) pe_int)
      (pss_cons (ps_while PassesOwn.never (pt_cmpR op_lt (pv 4) (pv 1) (nomark _)) (pss_cons (ps_asg (pe_op op_mod (pe_op op_add (pe_op op_mul (pe_ix (ix_listK (K := K) rfl) (pv 0) pe_int (fun _ _ => rfl)) pe_int) pe_int) pe_int) (pg_sub (pv 0) pe_int set_list))
      (pss_cons (ps_set (i := 3) sc__law_take.nd rfl (by first | exact Or.inl rfl | exact Or.inr rfl) (pe_op op_add (pe_op op_mul (pv 3) pe_int) (pe_op op_mod (pe_op op_mul (pe_op op_fdivL (pe_ix (ix_listK (K := K) rfl) (pv 0) pe_int (fun _ _ => rfl)) pe_int) pe_int) pe_int)))
      (pss_one (ps_set (i := 4) sc__law_take.nd rfl (by first | exact Or.inl rfl | exact Or.inr rfl) (pe_op op_mul (pv 4) pe_int))))))
      (pss_one (ps_ret (pe_op op_mod (pv 3) (pv 1)))))))), ?_⟩
    repeat walk_at "rd"
    refine iteB (fun hp => ?_) (fun hp => ?_)
    · repeat walk_at "rd"
      exact k _ _ _ (Int.emod_nonneg _ (by omega)) (Int.emod_lt_of_pos _ hn) (Int.ediv_nonneg hc (by omega))
    · refine while_by (fun σ H' => ∃ (m' num room : Int), σ = [some (.ref b), some (.int n), none, some (.int num), some (.int room)] ∧ H' = upd H b (.lst [.int c, .int m']) ∧ 1 ≤ room)
        (fun σ _ => match σ with | [_, _, _, _, some (.int room)] => (n - room).toNat | _ => 0) ⟨m, 0, 1, rfl, (upd_self hb).symm, by omega⟩ ?_ ?_
      · rintro σ H' ⟨m', num, room, rfl, rfl, hroom⟩
        repeat walk_at "rd"
        refine iteB (fun hp2 => ?_) (fun hp2 => ?_)
        · repeat walk_at "rd"
          exact ⟨⟨_, _, _, rfl, upd_upd, by omega⟩, by show (n - room * 1073741789).toNat < (n - room).toNat; omega⟩
        · repeat walk_at "rd"
          exact k _ _ _ (Int.emod_nonneg _ (by omega)) (Int.emod_lt_of_pos _ hn) hc
      · rintro σ H' Q1 Q2 hq ⟨v, e1, v2, e2, i, j, e3, e4, k2, e5, q⟩
        exact ⟨v, e1, v2, e2, i, j, e3, e4, k2, e5, hq _ _ q⟩

theorem ok_bag (C : Code K mg t) : FnOk P w K mg base CX0 1 t.a__law_bag t.f__law_bag ["_law_script", "_law_at"] (sp_bag K) := by
  refine C.d__law_bag.fn.ok sc__law_bag (fun vs H Q E h => ?_) (fun cdv A outer s H vs Q E hr h => ?_)
  · obtain ⟨a, ns, at_, rfl, _⟩ := h
    rfl
  · obtain ⟨a, ns, at_, rfl, hS, ha, hl, k⟩ := h
    refine ⟨_, (pss_cons (ps_set (i := 2) sc__law_bag.nd rfl (by first | exact Or.inl rfl | exact Or.inr rfl) pe_int)
      (pss_cons (ps_ifJ (pt_cmpR op_lt (pv 1) (pe_callB (call_lenK (K := K) rfl) (by rfl) C.n_len b_len (pa_cons (pv 0) pa_nil)) (nomark _)) (pss_one (ps_set (i := 2) sc__law_bag.nd rfl (by first | exact Or.inl rfl | exact Or.inr rfl) (pe_callB call_abs (by rfl) C.n_abs b_abs (pa_cons (pe_ix (ix_listK (K := K) rfl) (pv 0) (pv 1) (fun _ _ => rfl)) pa_nil)))) pss_nil)
      (pss_cons (ps_set (i := 3) sc__law_bag.nd rfl (by first | exact Or.inl rfl | exact Or.inr rfl) (pe_op op_add (pe_op op_mul pe_int (pv 1)) pe_int))
      (pss_cons (ps_for PassesOwn.never rfl (pi_range1 rfl C.n_range (pa_cons (pe_callB (call_min2 rfl) (by rfl) C.n_min b_min (pa_cons (pe_callB (call_lenK (K := K) rfl) (by rfl) C.n_len b_len (pa_cons (pv 0) pa_nil)) (pa_cons pe_int pa_nil))) pa_nil)) (pg_name (i := 4) sc__law_bag.nd rfl (by first | exact Or.inl rfl | exact Or.inr rfl)) (pss_one (ps_set (i := 3) sc__law_bag.nd rfl (by first | exact Or.inl rfl | exact Or.inr rfl) (pe_op op_mod (pe_op op_add (pe_op op_add (pe_op op_mul (pv 3) pe_int) (pe_op op_mod (pe_ix (ix_listK (K := K) rfl) (pv 0) (pv 4) (fun _ _ => rfl)) pe_int)) (pv 4)) pe_int))))
      (pss_cons (ps_ifJ (pt_cmpR op_lt (pv 2) (pe_op op_pow pe_int pe_int) (nomark _)) (pss_one (ps_set (i := 2) sc__law_bag.nd rfl (by first | exact Or.inl rfl | exact Or.inr rfl) pe_int)) pss_nil)
      (pss_one (ps_ret (pe_lst (pa_cons (pv 2) (pa_cons (pv 3) pa_nil)))))))))), ?_⟩
    refine ⟨fun σ H' => Hold (∃ c : Int, σ = [some (.ref a), some (.int at_), some (.int c), none, none] ∧ H = H' ∧ 0 ≤ c), ?_, ?_⟩
    · repeat walk_at "rd"
      refine iteB (fun hp => ?_) (fun hp => ?_)
      · obtain ⟨z, hz⟩ := atI_ints ha hp
        repeat walk_at "rd"
        exact .mk ⟨_, rfl, rfl, abs_nn _⟩
      · exact .mk ⟨_, rfl, rfl, by omega⟩
    · intro σ H' hh; obtain ⟨c, e1, e2, hc⟩ := hh.out
      subst e1; subst e2
      repeat walk_at "rd"
      refine for_range (lo := 0) (fun i σ H' => Hold (∃ (mx : Int) (kk : Option V), σ = [some (.ref a), some (.int at_), some (.int c), some (.int mx), kk] ∧ H = H')) (.mk ⟨_, _, rfl, rfl⟩) ?_ ?_
      · intro i σ H' hi hh; obtain ⟨mx, kk, e1, e2⟩ := hh.out
        subst e1; subst e2
        have hi2 : i < 60 ∧ i < (ns.map V.int).length := by
          split at hi <;> omega
        obtain ⟨z, hz⟩ := atI_ints (ns := ns) (i := 0 + (i : Int)) (by omega) (by omega)
        repeat walk_at "rd"
        exact .mk ⟨_, _, rfl, rfl⟩
      · intro σ H' hh; obtain ⟨mx, kk, e1, e2⟩ := hh.out
        subst e1; subst e2
        refine ⟨fun σ H' => Hold (∃ c : Int, σ = [some (.ref a), some (.int at_), some (.int c), some (.int mx), kk] ∧ H = H' ∧ 0 ≤ c), ?_, ?_⟩
        · repeat walk_at "rd"
          refine iteB (fun hp => ?_) (fun hp => ?_)
          · exact .mk ⟨_, rfl, rfl, by omega⟩
          · exact .mk ⟨_, rfl, rfl, hc⟩
        · intro σ H' hh; obtain ⟨c, e1, e2, hc⟩ := hh.out
          subst e1; subst e2
          repeat walk_at "rd"
          exact fun p hp => k p c mx hp hc

/-! _law_rooms: rising rooms -/
def sp_rooms (K : PySem.W.Frag) : Sp := fun vs H Q _ => ∃ (b : Addr) (c m n : Int), vs = [.ref b, .int n] ∧ BagAt H b c m ∧ 1 ≤ n ∧ n ≤ 5 ∧
  ∀ (p : Addr) (l : List Int) (c' m' : Int) (H' : Hp), RoomsOk n l → BagAt H' b c' m' → KeepBut b H H' → H' p = some (.tup (l.map V.int)) → H p = none → Q (.ref p) H'
theorem shl_pos {n : Int} (h0 : 0 ≤ n) (h : n ≤ 5) : 0 < (1 : Int) * 2 ^ n.toNat ∧ (1 : Int) * 2 ^ n.toNat ≤ 32 := by
  obtain rfl | rfl | rfl | rfl | rfl | rfl : n = 0 ∨ n = 1 ∨ n = 2 ∨ n = 3 ∨ n = 4 ∨ n = 5 := by omega
  all_goals decide
theorem ok_rooms (C : Code K mg t) : FnOk P w K mg base CX0 2 t.a__law_rooms t.f__law_rooms ["_law_bag_here", "_law_many"] (sp_rooms K) := by
  have G__law_take : FnOk P w K mg base CX0 _ _ _ _ _ := ok_take C
  refine C.d__law_rooms.fn.ok sc__law_rooms (fun vs H Q E h => ?_) (fun cdv A outer s H vs Q E hr h => ?_)
  · obtain ⟨b, c, m, n, rfl, _⟩ := h
    rfl
  · obtain ⟨b, c, m, n, rfl, ⟨hb, hc⟩, hn0, hn1, k⟩ := h
    refine ⟨_, (pss_cons (ps_set (i := 2) sc__law_rooms.nd rfl (by first | exact Or.inl rfl | exact Or.inr rfl) (pe_call G__law_take (hr.mono (by decide)) (by rfl) C.d__law_take.mg C.d__law_take.fn.kp C.d__law_take.bi .nil pass0 (pa_cons (pv 0) (pa_cons (pe_op op_shl pe_int (pv 1)) pa_nil))))
      (pss_one (ps_ret (pe_callTy (call_tupleK (K := K) rfl) (by rfl) C.n_tuple b_tuple (pa_cons (pe_comp ["_law_room", "_law_bits"] [none, some 2] rfl (pi_range1 rfl C.n_range (pa_cons (pv 1) pa_nil)) rfl fun _ _ _ _ _ => ⟨(pg_name (i := 0) (show (["_law_room", "_law_bits"] : List Str).Nodup by decide +kernel) rfl (by first | exact Or.inl rfl | exact Or.inr rfl)), (pif_one (pt_cmpR op_eq (pe_op op_mod (pe_op op_fdivL (pv 1) (pe_op op_shl pe_int (pv 0))) pe_int) pe_int (nomark _))), (pv 0)⟩) pa_nil))))), ?_⟩
    obtain ⟨z0, z1⟩ := shl_pos (n := n) (by omega) hn1
    have hcp : CPow 1 n := ⟨by omega, by omega, by decide⟩
    have z2 : (1 : Int) * 2 ^ n.toNat ≤ 10 ^ 61 := Int.le_trans z1 (by decide +kernel)
    walk_at "tk"
    intro bits c1 m1 b0 b1 hc1
    repeat walk_at "rd"
    intro D hD
    have nDb : D ≠ b := fun e => by rw [e, upd_same] at hD; cases hD
    have nD : H D = none := by rw [← hD, upd_ne nDb]
    refine comp_range (lo := 0) (fun i σ H' => Hold (∃ (l : List Int) (rm : Option V), σ = [rm, some (.int bits)] ∧ upd (upd H b (.lst [.int c1, .int m1])) D (.lst (l.map V.int)) = H' ∧ RoomsOk i l ∧ l.length ≤ i)) ?_ ?_ ?_
    · exact .mk ⟨[], _, rfl, rfl, RoomsOk.nil, Nat.le_refl _⟩
    · intro i σ H' hi hh
      obtain ⟨l, rm, e1, e2, hl, hz⟩ := hh.out
      subst e1; subst e2
      have hi5 : i < 5 := by omega
      obtain ⟨y0, y1⟩ := shl_pos (n := 0 + (i : Int)) (by omega) (by omega)
      have hcd : CDivL bits ((1 : Int) * 2 ^ (0 + (i : Int)).toNat) := ⟨y0, lt4096 (Int.le_trans y1 (by decide +kernel))⟩
      repeat walk_at "rd"
      refine iteB (fun h => ?_) (fun h => ?_)
      · repeat walk_at "rd"
        refine ⟨l.map V.int, upd_same, Nat.lt_of_le_of_lt (by rw [List.length_map]; exact hz) (Nat.lt_of_lt_of_le hi5 (by decide)), .mk ⟨l ++ [0 + (i : Int)], _, rfl, by rw [upd_upd, List.map_append]; rfl, ⟨fun r hr => ?_, ?_⟩, by rw [List.length_append, List.length_singleton]; omega⟩⟩
        · rcases List.mem_append.mp hr with z | z
          · have := hl.mem r z; omega
          · have : r = 0 + (i : Int) := by simpa using z
            omega
        · refine List.pairwise_append.mpr ⟨hl.up, List.pairwise_singleton _ _, fun a ha b hb => ?_⟩
          have : b = 0 + (i : Int) := by simpa using hb
          have := hl.mem a ha
          omega
      · exact .mk ⟨l, _, rfl, rfl, ⟨fun r hr => by have := hl.mem r hr; omega, hl.up⟩, by omega⟩
    · intro σ H' hh
      obtain ⟨l, rm, e1, e2, hl, hz⟩ := hh.out
      subst e1; subst e2
      refine ⟨D, l.map V.int, rfl, Or.inl ⟨SqL.of upd_same, fun p hp => ?_⟩⟩
      have npD : p ≠ D := fun e => by rw [e, upd_same] at hp; cases hp
      have hp2 : upd H b (.lst [.int c1, .int m1]) p = none := by rw [← hp, upd_ne npD]
      have npb : p ≠ b := fun e => by rw [e, upd_same] at hp2; cases hp2
      have np : H p = none := by rw [← hp2, upd_ne npb]
      have en : ((n.toNat : Nat) : Int) = n := by omega
      refine k p l c1 m1 _ (by rw [← en]; exact hl) ⟨?_, hc1⟩ ((KeepBut.upd.new hD).new hp) upd_same np
      rw [upd_ne (Ne.symm npb), upd_ne (Ne.symm nDb), upd_same]

def sp_machine (K : PySem.W.Frag) (most : Nat) : Sp := fun vs H Q _ => ∃ (b : Addr) (c m : Int), vs = [.ref b] ∧ BagAt H b c m ∧
  ∀ (p : Addr) (M : Mach) (c' m' : Int) (H' : Hp), M.Ok most → BagAt H' b c' m' → KeepBut b H H' → Den K H' M.D (.ref p) → Q (.ref p) H'
theorem ok_machine (C : Code K mg t) : FnOk P w K mg base CX0 3 t.a__law_machine t.f__law_machine ["_law_bag_here"] (sp_machine K 75) := by
  have G__law_take : FnOk P w K mg base CX0 _ _ _ _ _ := ok_take C
  have G__law_rooms : FnOk P w K mg base CX0 _ _ _ _ _ := ok_rooms C
  refine C.d__law_machine.fn.ok sc__law_machine (fun vs H Q E h => ?_) (fun cdv A outer s H vs Q E hr h => ?_)
  · obtain ⟨b, c, m, rfl, _⟩ := h
    rfl
  · obtain ⟨b, c, m, rfl, ⟨hb, hc⟩, k⟩ := h
    refine ⟨_, (pss_cons (ps_set (i := 1) sc__law_machine.nd rfl (by first | exact Or.inl rfl | exact Or.inr rfl) (pe_op op_add pe_int (pe_call G__law_take (hr.mono (by decide)) (by rfl) C.d__law_take.mg C.d__law_take.fn.kp C.d__law_take.bi .nil pass0 (pa_cons (pv 0) (pa_cons pe_int pa_nil)))))
      (pss_cons (ps_set (i := 2) sc__law_machine.nd rfl (by first | exact Or.inl rfl | exact Or.inr rfl) (pe_op op_add pe_int (pe_call G__law_take (hr.mono (by decide)) (by rfl) C.d__law_take.mg C.d__law_take.fn.kp C.d__law_take.bi .nil pass0 (pa_cons (pv 0) (pa_cons pe_int pa_nil)))))
      (pss_cons (ps_set (i := 3) sc__law_machine.nd rfl (by first | exact Or.inl rfl | exact Or.inr rfl) (pe_call G__law_take (hr.mono (by decide)) (by rfl) C.d__law_take.mg C.d__law_take.fn.kp C.d__law_take.bi .nil pass0 (pa_cons (pv 0) (pa_cons pe_int pa_nil))))
      (pss_cons (ps_ifJ (pt_cmpR op_eq (pe_call G__law_take (hr.mono (by decide)) (by rfl) C.d__law_take.mg C.d__law_take.fn.kp C.d__law_take.bi .nil pass0 (pa_cons (pv 0) (pa_cons pe_int pa_nil))) pe_int (nomark _)) (pss_one (ps_set (i := 3) sc__law_machine.nd rfl (by first | exact Or.inl rfl | exact Or.inr rfl) (pe_call G__law_take (hr.mono (by decide)) (by rfl) C.d__law_take.mg C.d__law_take.fn.kp C.d__law_take.bi .nil pass0 (pa_cons (pv 0) (pa_cons pe_int pa_nil))))) pss_nil)
      (pss_cons (ps_set (i := 4) sc__law_machine.nd rfl (by first | exact Or.inl rfl | exact Or.inr rfl) (pe_lst pa_nil))
      (pss_cons (ps_for PassesOwn.never rfl (pi_range1 rfl C.n_range (pa_cons (pv 3) pa_nil)) (pg_name (i := 5) sc__law_machine.nd rfl (by first | exact Or.inl rfl | exact Or.inr rfl)) (pss_one (ps_expr (pe_bmK (K := K) rfl PySem.F.plainAttrs_list PySem.F.slot_list_append PySem.F.type_list_append mt_append (pv 4) (pa_cons (pe_tup (pa_cons (pe_call G__law_take (hr.mono (by decide)) (by rfl) C.d__law_take.mg C.d__law_take.fn.kp C.d__law_take.bi .nil pass0 (pa_cons (pv 0) (pa_cons (pv 2) pa_nil))) (pa_cons (pe_ix ix_str pe_str (pe_call G__law_take (hr.mono (by decide)) (by rfl) C.d__law_take.mg C.d__law_take.fn.kp C.d__law_take.bi .nil pass0 (pa_cons (pv 0) (pa_cons (pv 1) pa_nil))) (fun _ _ => rfl)) (pa_cons (pe_call G__law_take (hr.mono (by decide)) (by rfl) C.d__law_take.mg C.d__law_take.fn.kp C.d__law_take.bi .nil pass0 (pa_cons (pv 0) (pa_cons (pv 2) pa_nil))) (pa_cons (pe_call G__law_take (hr.mono (by decide)) (by rfl) C.d__law_take.mg C.d__law_take.fn.kp C.d__law_take.bi .nil pass0 (pa_cons (pv 0) (pa_cons pe_int pa_nil))) pa_nil))))) pa_nil)))))
      (pss_one (ps_ret (pe_tup (pa_cons (pv 1) (pa_cons (pv 2) (pa_cons (pe_call G__law_rooms (hr.mono (by decide)) (by rfl) C.d__law_rooms.mg C.d__law_rooms.fn.kp C.d__law_rooms.bi .nil pass0 (pa_cons (pv 0) (pa_cons (pv 2) pa_nil))) (pa_cons (pe_call G__law_rooms (hr.mono (by decide)) (by rfl) C.d__law_rooms.mg C.d__law_rooms.fn.kp C.d__law_rooms.bi .nil pass0 (pa_cons (pv 0) (pa_cons (pv 2) pa_nil))) (pa_cons (pe_callTy (call_tupleK (K := K) rfl) (by rfl) C.n_tuple b_tuple (pa_cons (pv 4) pa_nil)) pa_nil)))))))))))))), ?_⟩
    walk_at "tk"
    intro r1 c1 m1 r10 r11 hc1
    walk_at "tk"
    intro r2 c2 m2 r20 r21 hc2
    walk_at "tk"
    intro r3 c3 m3 r30 r31 hc3
    repeat walk_at "rd"
    refine ⟨fun σ H' => Hold (∃ (many c' m' : Int), σ = [some (.ref b), some (.int (1 + r1)), some (.int (1 + r2)), some (.int many), none, none] ∧ upd H b (.lst [.int c', .int m']) = H' ∧ 0 ≤ many ∧ many ≤ 75 ∧ 0 ≤ c'), ?_, ?_⟩
    · walk_at "tk"
      intro r4 c4 m4 r40 r41 hc4
      repeat walk_at "rd"
      refine iteB (fun h => ?_) (fun h => ?_)
      · walk_at "tk"
        intro r5 c5 m5 r50 r51 hc5
        repeat walk_at "rd"
        exact .mk ⟨_, c5, m5, rfl, by simp only [upd_upd], r50, by omega, hc5⟩
      · exact .mk ⟨_, c4, m4, rfl, by simp only [upd_upd], r30, by omega, hc4⟩
    · intro σ H' hh
      obtain ⟨many, c', m', e1, e2, y0, y1, hc'⟩ := hh.out
      subst e1; subst e2
      repeat walk_at "rd"
      intro d hd
      have ndb : d ≠ b := fun e => by rw [e, upd_same] at hd; cases hd
      have nd : H d = none := by rw [← hd, upd_ne ndb]
      repeat walk_at "rd"
      refine for_range (lo := 0) (fun i σ H' => Hold (∃ (ds : List (Int × Str × Int × Int)) (xs : List V) (c' m' : Int) (kk : Option V), σ = [some (.ref b), some (.int (1 + r1)), some (.int (1 + r2)), some (.int many), some (.ref d), kk] ∧
        H' d = some (.lst xs) ∧ DenL K H' (ds.map doorD) xs ∧ H' b = some (.lst [.int c', .int m']) ∧ 0 ≤ c' ∧ KeepBut b H H' ∧ (∀ q ∈ ds, DoorOk (1 + r1) (1 + r2) q) ∧ ds.length = i)) ?_ ?_ ?_
      · refine .mk ⟨[], [], c', m', _, rfl, upd_same, .nil, ?_, hc', KeepBut.upd.new hd, fun q hq => absurd hq (by simp), rfl⟩
        rw [upd_ne (Ne.symm ndb), upd_same]
      · intro i σ H' hi hh
        obtain ⟨ds, xs, c', m', kk, e1, hdl, hden, hbg, hc', kb, hok, hlen⟩ := hh.out
        subst e1
        have hil : i < 75 := by omega
        have hxl : xs.length = i := by rw [hden.length, List.length_map]; exact hlen
        repeat walk_at "rd"
        refine ⟨.inl ⟨rfl, _, SqL.of hdl⟩, ?_⟩
        walk_at "tk"
        intro a1 c1' m1' a10 a11 hc1'
        walk_at "tk"
        intro a2 c2' m2' a20 a21 hc2'
        refine ⟨_, _, _, rfl, rfl, by decide, abc_at a20 (by omega), ?_⟩
        walk_at "tk"
        intro a3 c3' m3' a30 a31 hc3'
        walk_at "tk"
        intro a4 c4' m4' a40 a41 hc4'
        refine ⟨Nat.le_of_ble_eq_true rfl, fun p hp => ?_⟩
        simp only [upd_upd] at hp ⊢
        have npb : p ≠ b := fun e => by rw [e, upd_same] at hp; cases hp
        have npd : p ≠ d := fun e => by rw [e, upd_ne ndb, hdl] at hp; cases hp
        refine ⟨d, xs, _, rfl, rfl, by rw [upd_ne (Ne.symm npd), upd_ne ndb]; exact hdl, by rw [hxl]; exact Nat.lt_trans hil (by decide), ?_⟩
        have ts1 : TSame K H' (upd (upd H' b (.lst [.int c4', .int m4'])) p (.tup [.int a1, .str ⟨#[97 + a2.toNat]⟩, .int a3, .int a4])) := (TSame.put hbg).trans (TSame.new hp)
        have hd2 : (upd (upd H' b (.lst [.int c4', .int m4'])) p (.tup [.int a1, .str ⟨#[97 + a2.toNat]⟩, .int a3, .int a4])) d = some (.lst xs) := by rw [upd_ne (Ne.symm npd), upd_ne ndb]; exact hdl
        refine .mk ⟨ds ++ [(a1, ltr a2.toNat, a3, a4)], _, c4', m4', _, rfl, upd_same, ?_, ?_, hc4', ?_, ?_, by rw [List.length_append, List.length_singleton, hlen]⟩
        · rw [List.map_append]
          refine DenL.monoT (TSame.put hd2) _ _ (by rw [← List.map_append]; exact tupsL_doors _) ?_
          exact (DenL.monoT ts1 _ _ (tupsL_doors _) hden).snoc (Den.mkDoor upd_same)
        · rw [upd_ne (Ne.symm ndb), upd_ne (Ne.symm npb), upd_same]
        · intro x o hx hxo
          have e1 := kb x o hx hxo
          have nxd : x ≠ d := ne_of_none hxo nd
          have nxp : x ≠ p := fun e => by rw [← e, upd_ne hx, e1] at hp; cases hp
          rw [upd_ne nxd, upd_ne nxp, upd_ne hx]
          exact e1
        · intro q hq
          rcases List.mem_append.mp hq with z | z
          · exact hok q z
          · have : q = (a1, ltr a2.toNat, a3, a4) := by simpa using z
            subst this
            exact ⟨a10, a11, ⟨a2.toNat, by omega, rfl⟩, a30, a31, a40, by show a4 ≤ 3; omega⟩
      · intro σ H' hh
        obtain ⟨ds, xs, c', m', kk, e1, hdl, hden, hbg, hc', kb, hok, hlen⟩ := hh.out
        subst e1
        repeat walk_at "rd"
        refine ⟨b, c', m', _, rfl, ⟨hbg, hc'⟩, by omega, by omega, fun p1 l1 c1' m1' H1 ok1 hB1 kb1 hp1 np1 => ?_⟩
        repeat walk_at "rd"
        refine ⟨b, c1', m1', _, rfl, hB1, by omega, by omega, fun p2 l2 c2' m2' H2 ok2 hB2 kb2 hp2 np2 => ?_⟩
        have ndb' : d ≠ b := ndb
        have hd2 : H2 d = some (.lst xs) := kb2 _ _ ndb (kb1 _ _ ndb hdl)
        have np1b : p1 ≠ b := fun e => by rw [e, hbg] at np1; cases np1
        have hp1' : H2 p1 = some (.tup (l1.map V.int)) := kb2 _ _ np1b hp1
        have ts : TSame K H' H2 := (TSame.but kb1 hbg).trans (TSame.but kb2 hB1.1)
        repeat walk_at "rd"
        refine ⟨d, xs, rfl, Or.inl ⟨SqL.of hd2, fun p3 hp3 => ?_⟩⟩
        repeat walk_at "rd"
        intro p4 hp4
        have kbA : KeepBut b H (upd (upd H2 p3 (.tup xs)) p4 (.tup [.int (1 + r1), .int (1 + r2), .ref p1, .ref p2, .ref p3])) := (((kb.trans kb1).trans kb2).new hp3).new hp4
        have sm : Same H2 (upd (upd H2 p3 (.tup xs)) p4 (.tup [.int (1 + r1), .int (1 + r2), .ref p1, .ref p2, .ref p3])) := ((Same.refl H2).new hp3).new hp4
        have hlen' : ds.length ≤ 75 := by rw [hlen]; omega
        refine k p4 ⟨1 + r1, 1 + r2, l1, l2, ds⟩ c2' m2' _ ⟨by show 1 ≤ 1 + r1; omega, by show 1 + r1 ≤ 3; omega, by show 1 ≤ 1 + r2; omega, by show 1 + r2 ≤ 5; omega, ok1, ok2, hok, hlen'⟩ ⟨sm _ _ hB2.1, hB2.2⟩ kbA ?_
        have n34 : p3 ≠ p4 := fun e => by rw [← e, upd_same] at hp4; cases hp4
        exact Mach.mk_den (M := ⟨1 + r1, 1 + r2, l1, l2, ds⟩) (SqT.of upd_same) (SqT.of (sm _ _ hp1')) (SqT.of (sm _ _ hp2)) (SqT.of (by rw [upd_ne n34, upd_same])) (DenL.mono sm _ _ (DenL.monoT ts _ _ (tupsL_doors _) hden))

/-- a table made by a function handed in -/
def sp_grid (P : Program) (w : World) (K : PySem.W.Frag) (mg : Str → Option Value) (base : Heap) (k : Nat) : Sp := fun vs H Q _ => ∃ (n : Nat) (f : Addr) (R : Hp → Prop) (sp : Sp) (g : Nat → Nat → Option Int), vs = [.int n, .ref f] ∧ 1 ≤ n ∧ n ≤ 5 ∧ ClOk P w K mg base k R f sp ∧ R H ∧
  (∀ H1 H2, Same H1 H2 → R H1 → R H2) ∧ (∀ H1, R H1 → FnIn K H1 f) ∧ (∀ (i j : Nat) (H1 : Hp) (Q1 : VK), i < n → j < n → R H1 → (∀ H2, Same H1 H2 → Q1 (optV (g i j)) H2) → sp [.int i, .int j] H1 Q1 E0) ∧
  ∀ p H', Same H H' → GridT H' n g p → Q (.ref p) H'
theorem ok_grid (C : Code K mg t) : FnOk P w K mg base CX0 5 t.a_grid t.f_grid ["size", "entry"] (sp_grid P w K mg base 4) := by
  refine C.d_grid.fn.ok sc_grid (fun vs H Q E h => ?_) (fun cdv A outer s H vs Q E hr h => ?_)
  · obtain ⟨n, f, R, sp, g, rfl, _⟩ := h
    rfl
  · obtain ⟨n, f, R, sp, g, rfl, hn0, hn1, hC, hR, hmono, hfn, hsp, k⟩ := h
    refine ⟨_, (pss_cons (ps_set (i := 2) sc_grid.nd rfl (by first | exact Or.inl rfl | exact Or.inr rfl) (pe_lst pa_nil))
      (pss_cons (ps_for PassesOwn.never rfl (pi_range1 rfl C.n_range (pa_cons (pv 0) pa_nil)) (pg_name (i := 3) sc_grid.nd rfl (by first | exact Or.inl rfl | exact Or.inr rfl)) (pss_one (ps_expr (pe_bmK (K := K) rfl PySem.F.plainAttrs_list PySem.F.slot_list_append PySem.F.type_list_append mt_append (pv 2) (pa_cons (pe_callTy (call_tupleK (K := K) rfl) (by rfl) C.n_tuple b_tuple (pa_cons (pe_comp ["j", "entry", "i"] [none, some 1, some 3] rfl (pi_range1 rfl C.n_range (pa_cons (pv 0) pa_nil)) rfl fun _ _ _ _ _ => ⟨(pg_name (i := 0) (show (["j", "entry", "i"] : List Str).Nodup by decide +kernel) rfl (by first | exact Or.inl rfl | exact Or.inr rfl)), pif_nil, (pe_callV (k := 4) rfl rfl rfl rfl rfl (hr.mono (by decide)) (pv 1) (pa_cons (pv 2) (pa_cons (pv 0) pa_nil)))⟩) pa_nil)) pa_nil)))))
      (pss_one (ps_ret (pe_callTy (call_tupleK (K := K) rfl) (by rfl) C.n_tuple b_tuple (pa_cons (pv 2) pa_nil)))))), ?_⟩
    repeat walk_at "rd"
    intro l hl
    repeat walk_at "rd"
    refine for_range (lo := 0) (fun i σ H' => Hold (∃ (xs : List V) (v3 : Option V), σ = [some (.int n), some (.ref f), some (.ref l), v3] ∧ H' l = some (.lst xs) ∧ RowsT H' n g i xs ∧ Same H H')) ?_ ?_ ?_
    · exact .mk ⟨[], _, rfl, upd_same, .nil, (Same.refl H).new hl⟩
    · intro i σ H' hi hh
      obtain ⟨xs, v3, e1, hll, hden, sm⟩ := hh.out
      subst e1
      have hxl : xs.length = i := hden.1
      have hin : i < n := by omega
      repeat walk_at "rd"
      refine ⟨.inl ⟨rfl, _, SqL.of hll⟩, ?_⟩
      repeat walk_at "rd"
      intro DD hDD
      have ndl : DD ≠ l := fun e => by rw [e, hll] at hDD; cases hDD
      refine comp_range (lo := 0) (fun j σ H2 => Hold (∃ v0 : Option V, σ = [v0, some (.ref f), some (.int (0 + (i : Int)))] ∧ H2 DD = some (.lst ((List.range j).map fun j => optV (g i j))) ∧ Same H' H2)) ?_ ?_ ?_
      · exact .mk ⟨_, rfl, upd_same, (Same.refl H').new hDD⟩
      · intro j σ H2 hj hh
        obtain ⟨v0, e1, hd2, sm2⟩ := hh.out
        subst e1
        have hjn : j < n := by omega
        have hR2 : R H2 := hmono _ _ (sm.trans sm2) hR
        have e0 : ∀ i : Nat, V.int (0 + (i : Int)) = V.int (i : Int) := fun i => by rw [Int.zero_add]
        repeat walk_at "rd"
        refine ⟨hfn _ hR2, ?_⟩
        repeat walk_at "rd"
        refine ⟨hfn _ hR2, R, sp, hC, hR2, ?_⟩
        rw [e0, e0]
        refine hsp i j H2 _ hin hjn hR2 fun H3 sm3 => ?_
        refine ⟨_, sm3 _ _ hd2, ?_, .mk ⟨_, rfl, ?_, fun x o hx => ?_⟩⟩
        · rw [List.length_map, List.length_range]
          exact Nat.lt_of_lt_of_le (show j < 6 by omega) (by decide)
        · rw [upd_same, List.range_succ, List.map_append]; rfl
        · rw [upd_ne (ne_of_none hx hDD)]; exact sm3 x o (sm2 x o hx)
      · intro σ' H2 hh
        obtain ⟨v0, e1, hd2, sm2⟩ := hh.out
        rw [show ((n : Int).toNat) = n from Int.toNat_natCast n] at hd2
        refine ⟨DD, _, rfl, Or.inl ⟨SqL.of hd2, fun p hp => ?_⟩⟩
        have smp : Same H' (upd H2 p (.tup ((List.range n).map fun j => optV (g i j)))) := sm2.new hp
        have hp5 : (upd H2 p (.tup ((List.range n).map fun j => optV (g i j)))) p = some (.tup ((List.range n).map fun j => optV (g i j))) := upd_same
        generalize upd H2 p (.tup ((List.range n).map fun j => optV (g i j))) = H5 at smp hp5
        refine ⟨l, xs, _, rfl, rfl, smp _ _ hll, by rw [hxl]; exact Nat.lt_of_lt_of_le (show i < 6 by omega) (by decide), ?_⟩
        refine .mk ⟨_, _, rfl, upd_same, ?_, fun x o hx => ?_⟩
        · exact (RowsT.snoc (hden.mono (.of smp)) hp5).mono (.put (smp _ _ hll))
        · rw [upd_ne (ne_of_none hx hl)]; exact smp x o (sm x o hx)
    · intro σ H' hh
      obtain ⟨xs, v3, e1, hll, hden, sm⟩ := hh.out
      subst e1
      rw [show ((n : Int).toNat) = n from Int.toNat_natCast n] at hden
      repeat walk_at "rd"
      refine ⟨l, xs, rfl, Or.inl ⟨SqL.of hll, fun p hp => ?_⟩⟩
      repeat walk_at "rd"
      have smp : Same H' (upd H' p (.tup xs)) := (Same.refl H').new hp
      exact k p _ (sm.trans smp) ⟨xs, upd_same, hden.mono (.of smp)⟩

def sp_least (K : PySem.W.Frag) : Sp := fun vs H Q _ => ∃ (pl : Addr) (os : List (Option Int)), vs = [.ref pl] ∧ SqL K H pl (os.map optV) ∧ os.length ≤ 1000 ∧ ∀ H', Same H H' → Q (optV (minO (os.filterMap id))) H'
theorem ok_least (C : Code K mg t) : FnOk P w K mg base CX0 1 t.a_least t.f_least ["prices"] (sp_least K) := by
  refine C.d_least.fn.ok sc_least (fun vs H Q E h => ?_) (fun cdv A outer s H vs Q E hr h => ?_)
  · obtain ⟨pl, os, rfl, _⟩ := h
    rfl
  · obtain ⟨pl, os, rfl, hS, hz, k⟩ := h
    refine ⟨_, (pss_one (ps_ret (pe_minD (K := K) rfl rfl (by rfl) C.n_min (pe_comp ["number"] [none] rfl (pi_listK (K := K) rfl (pv 0)) rfl fun _ _ _ _ _ => ⟨(pg_name (i := 0) (show (["number"] : List Str).Nodup by decide +kernel) rfl (by first | exact Or.inl rfl | exact Or.inr rfl)), (pif_one (pt_cmp (pc_notN (pv 0)))), (pv 0)⟩) pe_non))), ?_⟩
    repeat walk_at "rd"
    refine ⟨⟨_, hS⟩, fun D hD => ?_⟩
    refine comp_list (K := K) (a := pl) (xs := os.map optV) (fun i σ H' => Hold (∃ rm : Option V, σ = [rm] ∧ upd H D (.lst (((os.take i).filterMap id).map V.int)) = H')) ?_ ?_ ?_ ?_
    · exact .mk ⟨_, rfl, rfl⟩
    · intro i σ H' hi hh
      obtain ⟨rm, e1, e2⟩ := hh.out
      subst e1; subst e2
      exact ((Same.refl H).new hD).seq hS
    · intro i x σ H' hi hh
      obtain ⟨rm, e1, e2⟩ := hh.out
      subst e1; subst e2
      have hil : i < os.length := by
        have := (List.getElem?_eq_some_iff.mp hi).1
        rwa [List.length_map] at this
      rw [List.getElem?_map, List.getElem?_eq_getElem hil] at hi
      obtain rfl : optV os[i] = x := Option.some.inj hi
      have et : List.take (i + 1) os = List.take i os ++ [os[i]] := by rw [List.take_add_one, List.getElem?_eq_getElem hil]; rfl
      cases eo : os[i] with
      | none =>
        rw [eo] at et
        repeat walk_at "rd"
        exact .mk ⟨_, rfl, by rw [et, List.filterMap_append]; simp⟩
      | some z =>
        rw [eo] at et
        repeat walk_at "rd"
        refine ⟨_, upd_same, ?_, .mk ⟨_, rfl, by rw [upd_upd, et, List.filterMap_append, List.map_append]; rfl⟩⟩
        rw [List.length_map]
        have h1 := List.length_filterMap_le (f := (id : Option Int → Option Int)) (l := List.take i os)
        have h2 : (List.take i os).length ≤ 1000 := by rw [List.length_take]; omega
        exact Nat.lt_of_le_of_lt (Nat.le_trans h1 h2) (by decide)
    · intro σ H' hh
      obtain ⟨rm, e1, e2⟩ := hh.out
      subst e1; subst e2
      have ef : List.take (List.map optV os).length os = os := by rw [List.length_map, List.take_length]
      rw [ef]
      refine ⟨D, os.filterMap id, rfl, SqL.of upd_same, fun e => ?_, fun m hm hmin => ?_⟩
      · have := k _ ((Same.refl H).new hD (o := .lst ((os.filterMap id).map V.int)))
        rw [e] at this ⊢
        exact this
      · have := k _ ((Same.refl H).new hD (o := .lst ((os.filterMap id).map V.int)))
        rw [minO_of hm hmin] at this
        exact this

def sp_rooms_of (K : PySem.W.Frag) : Sp := fun vs H Q _ => ∃ (m : Addr) (a0 a1 a2 a3 a4 : V), vs = [.ref m] ∧ SqT K H m [a0, a1, a2, a3, a4] ∧ Q a1 H
theorem ok_rooms_of (C : Code K mg t) : FnOk P w K mg base CX0 1 t.a_rooms_of t.f_rooms_of ["machine"] (sp_rooms_of K) := by
  refine C.d_rooms_of.fn.ok sc_rooms_of (fun vs H Q E h => ?_) (fun cdv A outer s H vs Q E hr h => ?_)
  · obtain ⟨m, a0, a1, a2, a3, a4, rfl, _⟩ := h
    rfl
  · obtain ⟨m, a0, a1, a2, a3, a4, rfl, hT, q⟩ := h
    refine ⟨_, (pss_one (ps_ret (pe_ix (ix_tupK (K := K) rfl) (pv 0) pe_int (fun _ _ => rfl)))), ?_⟩
    repeat walk_at "rd"
    exact q

def sp_doors_of (K : PySem.W.Frag) : Sp := fun vs H Q _ => ∃ (m : Addr) (a0 a1 a2 a3 a4 : V), vs = [.ref m] ∧ SqT K H m [a0, a1, a2, a3, a4] ∧ Q a4 H
theorem ok_doors_of (C : Code K mg t) : FnOk P w K mg base CX0 1 t.a_doors_of t.f_doors_of ["machine"] (sp_doors_of K) := by
  refine C.d_doors_of.fn.ok sc_doors_of (fun vs H Q E h => ?_) (fun cdv A outer s H vs Q E hr h => ?_)
  · obtain ⟨m, a0, a1, a2, a3, a4, rfl, _⟩ := h
    rfl
  · obtain ⟨m, a0, a1, a2, a3, a4, rfl, hT, q⟩ := h
    refine ⟨_, (pss_one (ps_ret (pe_ix (ix_tupK (K := K) rfl) (pv 0) pe_int (fun _ _ => rfl)))), ?_⟩
    repeat walk_at "rd"
    exact q

end
end My

set_option Elab.async false
set_option linter.all false
set_option maxRecDepth 100000
set_option maxHeartbeats 4000000
namespace My
open PySem L2
local macro_rules | `(tactic| walk_at "ne") => `(tactic| first | assumption | (refine ne_of_none (H := ?H) (o := ?o) ?h1 ?h2; (case h2 => assumption); (case h1 => walk_at "hp")) | (refine ne_symm' (ne_of_none (H := ?H) (o := ?o) ?h1 ?h2); (case h2 => assumption); (case h1 => walk_at "hp")) | (refine ne_of (H := ?H) (o := ?o) (u := ?u) ?h1 ?h2 ?h3; (case h1 => assumption); (case h2 => assumption); (case h3 => (intro z; cases z))))
local macro_rules | `(tactic| walk_at "hp") => `(tactic| first | assumption | exact upd_same | (refine Eq.trans (upd_ne ?ne) ?_; (case ne => walk_at "ne"); walk_at "hp"))
local macro_rules | `(tactic| walk_at "side") => `(tactic| first | rfl | with_reducible assumption | omega | assumption | decide | exact Nat.le_of_ble_eq_true rfl | (refine And.intro ?_ ?_ <;> first | assumption | omega | decide) | (refine Or.inl (And.intro ?_ ?_) <;> first | assumption | omega | decide) | (refine Or.inr (And.intro ?_ ?_) <;> first | assumption | omega | decide) | (refine And.intro ?_ (And.intro ?_ ?_) <;> first | assumption | omega | decide))
local macro_rules | `(tactic| walk_at "sq") => `(tactic| first | assumption | (refine SqL.of ?_; walk_at "hp") | (refine SqT.of ?_; walk_at "hp"))
local macro_rules | `(tactic| walk_at "rd") => `(tactic| ((fail_if_success (refine Exists.intro (α := Nat → Nat → St → Hp → Prop) ?_ ?_)); (fail_if_success (refine Exists.intro (α := St → Hp → Prop) ?_ ?_)); first
  | refine ⟨_, rfl, ?_⟩
  | refine ⟨_, _, rfl, rfl, ?_⟩
  | (refine ⟨_, ?xs, rfl, Or.inl ?sq, ?_⟩; (case sq => walk_at "sq"))
  | (refine ⟨_, ?xs, rfl, Or.inr ?sq, ?_⟩; (case sq => walk_at "sq"))
  | refine ⟨_, _, rfl, ?_⟩
  | (refine ⟨_, ?xs, _, ?v, rfl, rfl, ?sq, ?at', ?_⟩; (case sq => walk_at "sq"); (case at' => first | rfl | assumption))
  | (refine ⟨_, ?xs, rfl, ?sq, ?ln, ?_⟩; (case sq => walk_at "sq"); (case ln => rfl))
  | refine ⟨_, _, _, _, rfl, TyOf.int _, ki_ii, ?_⟩
  | refine ⟨_, _, _, _, rfl, TyOf.int _, ki_ib, ?_⟩
  | (refine ⟨_, ?xs, _, ?j, rfl, rfl, ?hp, ?at', ?_⟩; (case hp => walk_at "hp"); (case at' => rfl))
  | (refine And.intro ?sd ?_; (case sd => walk_at "side"))))
local macro_rules | `(tactic| walk_at "tk") => `(tactic| ((repeat walk_at "rd"); refine ⟨_, ?c, ?m, _, rfl, ⟨?hp, ?hc⟩, ?n0, ?n1, ?_⟩; (case hp => walk_at "hp"); (case hc => assumption); (case n0 => first | with_reducible assumption | omega | decide +kernel | assumption); (case n1 => first | with_reducible assumption | omega | decide +kernel | assumption)))
local macro_rules | `(tactic| walk_at "dr") => `(tactic| ((repeat walk_at "rd"); refine ⟨_, ?c, _, rfl, ⟨?hp, ?hc⟩, ?n0, ?n1, ?_⟩; (case hp => walk_at "hp"); (case hc => assumption); (case n0 => first | with_reducible assumption | omega | decide +kernel | assumption); (case n1 => first | with_reducible assumption | omega | decide +kernel | assumption)))

section
variable {P : Program} {w : World} {K : PySem.W.Frag} {mg : Str → Option Value} {base : Heap} {t : Ad}

/-- the tolls of the doors by a letter from i to j -/
def fees (M : Mach) (x : Str) (i j : Nat) : List Int := (M.doors.filter fun q => (q.1 == (i : Int)) && ((q.2.1 == x) && ((q.2.2.1 == (j : Int)) && true))).map fun q => q.2.2.2
theorem cmp3 {a c i j : Int} {b x : Str} : cmpL [.int a, .str b, .int c] [.int i, .str x, .int j] = some ((a == i) && ((b == x) && ((c == j) && true))) := by simp [cmpL, cmpD]
theorem den3 {H : Hp} {p : Addr} {a c : Int} {b : Str} (h : H p = some (.tup [.int a, .str b, .int c])) : Den K H (.tup [.int a, .str b, .int c]) (.ref p) := Den.tupI (SqT.of h) (.cons Den.intI (.cons Den.strI (.cons Den.intI .nil)))
theorem deep3 {a c : Int} {b : Str} : D.deepL [.int a, .str b, .int c] = 0 := by simp [D.deepL, D.deep]
theorem sl_least_fee : LamScope ["i", "j", "machine", "letter"] ["i", "j"] ["machine", "letter"] (defScope (inDef s_letter_table 0)) := ⟨rfl, rfl, rfl, by decide +kernel, rfl, by decide +kernel, by decide +kernel, by decide +kernel⟩
-- ["i", "j", "machine", "letter"]
theorem cl_least_fee (C : Code K mg t) {f mp : Addr} {M : Mach} {most : Nat} {x : Str} {clos : List (Str × Addr)} (hok : M.Ok most) (hmost : most ≤ 75) : ClOk P w K mg base 4 (fun H => DefIn H f "least_fee" ((("letter_table" : Str) ++ ".<locals>.") ++ "least_fee") (defArgs (inDef s_letter_table 0)) (defBody (inDef s_letter_table 0)) (defScope (inDef s_letter_table 0)) ["machine", "letter"] [.ref mp, .str x] clos) f
    (fun vs H Q _ => ∃ i j : Nat, vs = [.int i, .int j] ∧ Den K H M.D (.ref mp) ∧ ∀ H', Same H H' → Q (optV (minO (fees M x i j))) H') := by
  have G_least : FnOk P w K mg base CX0 _ _ _ _ _ := ok_least C
  have G_doors_of : FnOk P w K mg base CX0 _ _ _ _ _ := ok_doors_of C
  refine def_ok sl_least_fee (fun vs H Q E h => ?_) rfl (fun _ _ _ _ us hl => match us, hl with | [_, _], _ => rfl) (fun A outer st H cd vs Q hr hA h => ?_)
  · obtain ⟨i, j, rfl, _⟩ := h
    rfl
  · obtain ⟨i, j, rfl, hM, k⟩ := h
    obtain ⟨doc, pm, c', ctv, h1, h2, hc, h4, h5, h6⟩ := hA
    refine ⟨_, (pss_one (ps_ret (pe_call G_least (hr.mono (by decide)) (by rfl) C.d_least.mg C.d_least.fn.kp C.d_least.bi .nil pass0 (pa_cons (pe_comp ["start", "sign", "goal", "fee", "i", "letter", "j"] [none, none, none, none, some 0, some 3, some 1] rfl (pi_tupK (K := K) rfl (pe_call G_doors_of (hr.mono (by decide)) (by rfl) C.d_doors_of.mg C.d_doors_of.fn.kp C.d_doors_of.bi .nil pass0 (pa_cons (pv 2) pa_nil))) rfl fun _ _ _ _ _ => ⟨(pg_tupK (K := K) (n := 4) rfl rfl (pgs_cons (pg_name (i := 0) (show (["start", "sign", "goal", "fee", "i", "letter", "j"] : List Str).Nodup by decide +kernel) rfl (by first | exact Or.inl rfl | exact Or.inr rfl)) (pgs_cons (pg_name (i := 1) (show (["start", "sign", "goal", "fee", "i", "letter", "j"] : List Str).Nodup by decide +kernel) rfl (by first | exact Or.inl rfl | exact Or.inr rfl)) (pgs_cons (pg_name (i := 2) (show (["start", "sign", "goal", "fee", "i", "letter", "j"] : List Str).Nodup by decide +kernel) rfl (by first | exact Or.inl rfl | exact Or.inr rfl)) (pgs_cons (pg_name (i := 3) (show (["start", "sign", "goal", "fee", "i", "letter", "j"] : List Str).Nodup by decide +kernel) rfl (by first | exact Or.inl rfl | exact Or.inr rfl)) pgs_nil))))), (pif_one (pt_cmpR (op_eqC (K := K) hr rfl) (pe_tup (pa_cons (pv 0) (pa_cons (pv 1) (pa_cons (pv 2) pa_nil)))) (pe_tup (pa_cons (pv 4) (pa_cons (pv 5) (pa_cons (pv 6) pa_nil)))) (nomark _))), (pv 3)⟩) pa_nil)))), ?_⟩
    have hE := Den.monoT (Cells.dropT (K := K) hc) _ _ (Mach.D_tups _) hM
    have k' : ∀ H', Same (Drop clos H) H' → Q (optV (minO (fees M x i j))) (Put clos H H') := fun H' sm => k _ (put_same sm)
    generalize Drop clos H = H0 at hE k'
    obtain ⟨m', b, e, d, ds, em, hT, hB, hE', hD, hL⟩ := Mach.parts hE
    cases em
    have hdl : ds.length = M.doors.length := by rw [hL.length, List.length_map]
    repeat walk_at "rd"
    refine ⟨mp, _, _, _, _, _, rfl, hT, ?_⟩
    refine ⟨d, rfl, ⟨_, hD⟩, fun DD hDD => ?_⟩
    refine comp_tup (K := K) (a := d) (xs := ds) (fun m σ H' => Hold (∃ v0 v1 v2 v3 : Option V, σ = [v0, v1, v2, v3, some (.int i), some (.str x), some (.int j)] ∧ H' DD = some (.lst ((((M.doors.take m).filter fun q => (q.1 == (i : Int)) && ((q.2.1 == x) && ((q.2.2.1 == (j : Int)) && true))).map fun q => q.2.2.2).map V.int)) ∧ Same H0 H')) ?_ ?_ ?_ ?_
    · exact .mk ⟨_, _, _, _, rfl, upd_same, (Same.refl H0).new hDD⟩
    · intro m σ H' _ hh
      obtain ⟨v0, v1, v2, v3, e1, hl, sm⟩ := hh.out
      exact sm.sqT hD
    · intro m y σ H' hm hh
      obtain ⟨v0, v1, v2, v3, e1, hl, sm⟩ := hh.out
      subst e1
      have hmd : m < M.doors.length := by rw [← hdl]; exact (List.getElem?_eq_some_iff.mp hm).1
      obtain ⟨y', ey, hy⟩ := hL.get (i := m) (d := doorD M.doors[m]) (by rw [List.getElem?_map, List.getElem?_eq_getElem hmd]; rfl)
      rw [hm] at ey
      cases ey
      obtain ⟨dp, edp, hdp⟩ := door_parts hy
      subst edp
      have et : M.doors.take (m + 1) = M.doors.take m ++ [M.doors[m]] := by rw [List.take_add_one, List.getElem?_eq_getElem hmd]; rfl
      rw [et]
      generalize M.doors[m] = q at hdp
      refine ⟨dp, _, rfl, sm.sqT hdp, rfl, ?_⟩
      repeat walk_at "rd"
      intro p1 hp1
      have s1 : Same H' (upd H' p1 (.tup [.int q.1, .str q.2.1, .int q.2.2.1])) := (Same.refl H').new hp1
      have f1 : (upd H' p1 (.tup [.int q.1, .str q.2.1, .int q.2.2.1])) p1 = some (.tup [.int q.1, .str q.2.1, .int q.2.2.1]) := upd_same
      generalize upd H' p1 (.tup [.int q.1, .str q.2.1, .int q.2.2.1]) = H2 at s1 f1 ⊢
      repeat walk_at "rd"
      intro p2 hp2
      have s2 : Same H2 (upd H2 p2 (.tup [.int i, .str x, .int j])) := (Same.refl H2).new hp2
      have f2 : (upd H2 p2 (.tup [.int i, .str x, .int j])) p2 = some (.tup [.int i, .str x, .int j]) := upd_same
      generalize upd H2 p2 (.tup [.int i, .str x, .int j]) = H3 at s2 f2 ⊢
      refine ⟨_, _, _, den3 (s2 _ _ f1), den3 f2, by rw [deep3]; decide, cmp3, ?_⟩
      repeat walk_at "rd"
      have hl3 := s2 _ _ (s1 _ _ hl)
      have sm3 := sm.trans (s1.trans s2)
      rw [List.filter_append]
      refine ite2 (fun h => ?_) (fun h => ?_)
      · have h' : ((q.1 == (i : Int)) && ((q.2.1 == x) && ((q.2.2.1 == (j : Int)) && true))) = true := h
        repeat walk_at "rd"
        refine ⟨_, hl3, ?_, .mk ⟨_, _, _, _, rfl, ?_, fun z o hz => ?_⟩⟩
        · rw [List.length_map, List.length_map]
          have a1 := List.length_filter_le (fun q : Int × Str × Int × Int => (q.1 == (i : Int)) && ((q.2.1 == x) && ((q.2.2.1 == (j : Int)) && true))) (M.doors.take m)
          have a2 : (M.doors.take m).length ≤ 75 := by rw [List.length_take]; have := hok.m; omega
          exact Nat.lt_of_le_of_lt (Nat.le_trans a1 a2) (by decide)
        · rw [upd_same, List.filter_cons, if_pos h', List.filter_nil, List.map_append, List.map_append]; rfl
        · rw [upd_ne (ne_of_none hz hDD)]; exact sm3 z o hz
      · have h' : ¬ ((q.1 == (i : Int)) && ((q.2.1 == x) && ((q.2.2.1 == (j : Int)) && true))) = true := h
        refine .mk ⟨_, _, _, _, rfl, ?_, sm3⟩
        rw [List.filter_cons, if_neg h', List.filter_nil, List.append_nil]
        exact hl3
    · intro σ' H' hh
      obtain ⟨v0, v1, v2, v3, e1, hl, sm⟩ := hh.out
      rw [hdl, List.take_length] at hl
      have hl' : SqL K H' DD (((fees M x i j).map some).map optV) := by rw [List.map_map]; exact SqL.of hl
      refine ⟨DD, _, rfl, hl', ?_, fun H'' sm2 => ?_⟩
      · rw [List.length_map]
        unfold fees
        rw [List.length_map]
        have a1 := List.length_filter_le (fun q : Int × Str × Int × Int => (q.1 == (i : Int)) && ((q.2.1 == x) && ((q.2.2.1 == (j : Int)) && true))) M.doors
        have := hok.m
        omega
      · have := k' H'' (sm.trans sm2)
        have ef : ((fees M x i j).map some).filterMap id = fees M x i j := by rw [List.filterMap_map]; simp
        rw [ef]
        exact this
def sp_letter_table (K : PySem.W.Frag) (t : Ad) : Sp := fun vs H Q _ => ∃ (mp : Addr) (M : Mach) (n : Nat) (x : Str), vs = [.ref mp, .str x] ∧ (n : Int) = M.rooms ∧ M.Ok 75 ∧ Den K H M.D (.ref mp) ∧ TabsH (tabT t) H ∧
  ∀ p H', SameT H H' → TabsH (tabT t) H' → GridT H' n (fun i j => minO (fees M x i j)) p → Q (.ref p) H'
theorem ok_letter_table (C : Code K mg t) (B : Tb mg base t) : FnOk P w K mg base CX0 6 t.a_letter_table t.f_letter_table ["machine", "letter"] (sp_letter_table K t) := by
  have G_grid : FnOk P w K mg base CX0 _ _ _ _ _ := ok_grid C
  have G_rooms_of : FnOk P w K mg base CX0 _ _ _ _ _ := ok_rooms_of C
  refine C.d_letter_table.fn.okC C.cd_letter_table sc_letter_table (fun vs H Q E h => ?_) (fun A outer st H vs Q E hr h => ?_)
  · obtain ⟨mp, M, n, x, rfl, _⟩ := h
    rfl
  · obtain ⟨mp, M, n, x, rfl, hn, hok, hM, hT, k⟩ := h
    refine ⟨_, (pss_cons (ps_def (c := t.c_letter_table) (P := t.p_letter_table) (i := 2) sc_letter_table.nd rfl (by first | exact Or.inl rfl | exact Or.inr rfl) rfl B.k_letter_table B.bm rfl)
      (pss_one (ps_ret (pe_callC G_grid (hr.mono (by decide)) (by rfl) C.d_grid.mg C.d_grid.fn.kp C.d_grid.bi (fun _ => rfl) (pa_cons (pe_call G_rooms_of (hr.mono (by decide)) (by rfl) C.d_rooms_of.mg C.d_rooms_of.fn.kp C.d_rooms_of.bi .nil pass0 (pa_cons (pv 0) pa_nil)) (pa_cons (pv 2) pa_nil)))))), ?_⟩
    have hr0 := hok.r0
    have hr1 := hok.r1
    refine tDef_of hT C.nd (by first | exact List.Mem.head _ | exact List.Mem.tail _ (List.Mem.head _)) (fun f H1 sm1 hT1 nf hdef => ?_)
    have hM1 := Den.monoT (sm1.ts (K := K)) _ _ (Mach.D_tups _) hM
    obtain ⟨m', b, e, d, ds, em, hTm, hB, hE', hD, hL⟩ := Mach.parts hM1
    cases em
    repeat walk_at "rd"
    refine ⟨mp, _, _, _, _, _, rfl, hTm, ?_⟩
    repeat walk_at "rd"
    intro H2 ca
    have hA := defIn_of (fr := ["machine", "letter"]) (cap := [.ref mp, .str x]) ca hdef (hfr_of rfl) (fun i y v e1 e2 => by
      match i with
      | 0 => cases e1; cases e2; exact ⟨rfl, Or.inl rfl, 0, rfl, rfl⟩
      | 1 => cases e1; cases e2; exact ⟨rfl, Or.inl rfl, 1, rfl, rfl⟩
      | i + 2 => simp at e1)
    have hM2 := Den.mono ca.same _ _ hM1
    refine ⟨n, f, fun H => DefIn H f _ _ _ _ _ ["machine", "letter"] [.ref mp, .str x] _ ∧ Den K H M.D (.ref mp), _, fun i j => minO (fees M x i j), by rw [hn], by omega, by omega, (cl_least_fee C hok (Nat.le_refl _)).imp fun _ h => h.1, ⟨hA, hM2⟩, fun _ _ sm h => ⟨h.1.same sm, Den.mono sm _ _ h.2⟩, fun _ h => h.1.fn, fun i j H3 Q3 hi hj hR q => ⟨i, j, rfl, hR.2, q⟩, fun p H3 sm3 hp => ?_⟩
    have sm4 : SameT H1 (Drop _ H3) := ca.back (.of sm3)
    refine k p _ (sm1.trans sm4) ?_ ?_
    · exact hT1.same (ca.backS sm3)
    · exact hp.mono fun a xs e => by
        rw [Drop.ne fun z => by obtain ⟨o, v, e2, _⟩ := ca.cells.at z; rw [sm3 _ _ e2] at e; cases e]; exact e

end
end My

set_option Elab.async false
set_option linter.all false
set_option maxRecDepth 100000
set_option maxHeartbeats 4000000
namespace My
open PySem L2
local macro_rules | `(tactic| walk_at "ne") => `(tactic| first | assumption | (refine ne_of_none (H := ?H) (o := ?o) ?h1 ?h2; (case h2 => assumption); (case h1 => walk_at "hp")) | (refine ne_symm' (ne_of_none (H := ?H) (o := ?o) ?h1 ?h2); (case h2 => assumption); (case h1 => walk_at "hp")) | (refine ne_of (H := ?H) (o := ?o) (u := ?u) ?h1 ?h2 ?h3; (case h1 => assumption); (case h2 => assumption); (case h3 => (intro z; cases z))))
local macro_rules | `(tactic| walk_at "hp") => `(tactic| first | assumption | exact upd_same | (refine Eq.trans (upd_ne ?ne) ?_; (case ne => walk_at "ne"); walk_at "hp"))
local macro_rules | `(tactic| walk_at "side") => `(tactic| first | rfl | with_reducible assumption | omega | assumption | decide | exact Nat.le_of_ble_eq_true rfl | (refine And.intro ?_ ?_ <;> first | assumption | omega | decide) | (refine Or.inl (And.intro ?_ ?_) <;> first | assumption | omega | decide) | (refine Or.inr (And.intro ?_ ?_) <;> first | assumption | omega | decide) | (refine And.intro ?_ (And.intro ?_ ?_) <;> first | assumption | omega | decide))
local macro_rules | `(tactic| walk_at "sq") => `(tactic| first | assumption | (refine SqL.of ?_; walk_at "hp") | (refine SqT.of ?_; walk_at "hp"))
local macro_rules | `(tactic| walk_at "rd") => `(tactic| ((fail_if_success (refine Exists.intro (α := Nat → Nat → St → Hp → Prop) ?_ ?_)); (fail_if_success (refine Exists.intro (α := St → Hp → Prop) ?_ ?_)); first
  | refine ⟨_, rfl, ?_⟩
  | refine ⟨_, _, rfl, rfl, ?_⟩
  | (refine ⟨_, ?xs, rfl, Or.inl ?sq, ?_⟩; (case sq => walk_at "sq"))
  | (refine ⟨_, ?xs, rfl, Or.inr ?sq, ?_⟩; (case sq => walk_at "sq"))
  | refine ⟨_, _, rfl, ?_⟩
  | (refine ⟨_, ?xs, _, ?v, rfl, rfl, ?sq, ?at', ?_⟩; (case sq => walk_at "sq"); (case at' => first | rfl | assumption))
  | (refine ⟨_, ?xs, rfl, ?sq, ?ln, ?_⟩; (case sq => walk_at "sq"); (case ln => rfl))
  | refine ⟨_, _, _, _, rfl, TyOf.int _, ki_ii, ?_⟩
  | refine ⟨_, _, _, _, rfl, TyOf.int _, ki_ib, ?_⟩
  | (refine ⟨_, ?xs, _, ?j, rfl, rfl, ?hp, ?at', ?_⟩; (case hp => walk_at "hp"); (case at' => rfl))
  | (refine And.intro ?sd ?_; (case sd => walk_at "side"))))
local macro_rules | `(tactic| walk_at "tk") => `(tactic| ((repeat walk_at "rd"); refine ⟨_, ?c, ?m, _, rfl, ⟨?hp, ?hc⟩, ?n0, ?n1, ?_⟩; (case hp => walk_at "hp"); (case hc => assumption); (case n0 => first | with_reducible assumption | omega | decide +kernel | assumption); (case n1 => first | with_reducible assumption | omega | decide +kernel | assumption)))
local macro_rules | `(tactic| walk_at "dr") => `(tactic| ((repeat walk_at "rd"); refine ⟨_, ?c, _, rfl, ⟨?hp, ?hc⟩, ?n0, ?n1, ?_⟩; (case hp => walk_at "hp"); (case hc => assumption); (case n0 => first | with_reducible assumption | omega | decide +kernel | assumption); (case n1 => first | with_reducible assumption | omega | decide +kernel | assumption)))

section
variable {P : Program} {w : World} {K : PySem.W.Frag} {mg : Str → Option Value} {base : Heap} {t : Ad}

def sp_l_same (K : PySem.W.Frag) : Sp := fun vs H Q _ => ∃ (p q : Addr) (n : Nat) (g : Nat → Nat → Option Int), vs = [.ref p, .ref q] ∧ n ≤ 5 ∧ GridT H n g p ∧ Den K H (gridD n g) (.ref q) ∧ Q (.bl true) H
theorem ok_l_same (C : Code K mg t) : FnOk P w K mg base CX0 4 t.a__law_same t.f__law_same ["_law_found", "_law_due"] (sp_l_same K) := by
  refine C.d__law_same.fn.ok sc__law_same (fun vs H Q E h => ?_) (fun cdv A outer s H vs Q E hr h => ?_)
  · obtain ⟨p, q, n, g, rfl, _⟩ := h
    rfl
  · obtain ⟨p, q, n, g, rfl, hn1, hG, hD, k⟩ := h
    refine ⟨_, (pss_cons (ps_if (pw_or (pt_not (pt_val (pe_callB (call_isi (K := K) rfl) (by rfl) C.n_isinstance b_isinstance (pa_cons (pv 0) (pa_cons (pe_bltn (by rfl) C.n_tuple b_tuple (v := .ty "tuple") rfl) pa_nil))))) (pw_or1 (pt_cmpR op_ne (pe_callB (call_lenK (K := K) rfl) (by rfl) C.n_len b_len (pa_cons (pv 0) pa_nil)) (pe_callB (call_lenK (K := K) rfl) (by rfl) C.n_len b_len (pa_cons (pv 1) pa_nil)) (nomark _)))).pt (pss_one (ps_ret pe_bl)) pss_nil)
      (pss_cons (ps_for PassesOwn.never rfl (pi_range1 rfl C.n_range (pa_cons (pe_callB (call_lenK (K := K) rfl) (by rfl) C.n_len b_len (pa_cons (pv 1) pa_nil)) pa_nil)) (pg_name (i := 2) sc__law_same.nd rfl (by first | exact Or.inl rfl | exact Or.inr rfl)) (pss_cons (ps_if (pw_or (pt_not (pt_val (pe_callB (call_isi (K := K) rfl) (by rfl) C.n_isinstance b_isinstance (pa_cons (pe_ix (ix_tupK (K := K) rfl) (pv 0) (pv 2) (fun _ _ => rfl)) (pa_cons (pe_bltn (by rfl) C.n_tuple b_tuple (v := .ty "tuple") rfl) pa_nil))))) (pw_or1 (pt_cmpR op_ne (pe_callB (call_lenK (K := K) rfl) (by rfl) C.n_len b_len (pa_cons (pe_ix (ix_tupK (K := K) rfl) (pv 0) (pv 2) (fun _ _ => rfl)) pa_nil)) (pe_callB (call_lenK (K := K) rfl) (by rfl) C.n_len b_len (pa_cons (pv 1) pa_nil)) (nomark _)))).pt (pss_one (ps_ret pe_bl)) pss_nil)
      (pss_one (ps_for PassesOwn.never rfl (pi_tupK (K := K) rfl (pe_ix (ix_tupK (K := K) rfl) (pv 0) (pv 2) (fun _ _ => rfl))) (pg_name (i := 3) sc__law_same.nd rfl (by first | exact Or.inl rfl | exact Or.inr rfl)) (pss_one (ps_if (pw_and (pt_cmp (pc_notN (pv 3))) (pw_and1 (pw_or (pt_not (pt_val (pe_callB (call_isi (K := K) rfl) (by rfl) C.n_isinstance b_isinstance (pa_cons (pv 3) (pa_cons (pe_bltn (by rfl) C.n_int b_int (v := .ty "int") rfl) pa_nil))))) (pw_or1 (pt_val (pe_callB (call_isi (K := K) rfl) (by rfl) C.n_isinstance b_isinstance (pa_cons (pv 3) (pa_cons (pe_bltn (by rfl) C.n_bool b_bool (v := .ty "bool") rfl) pa_nil)))))).pt)).pt (pss_one (ps_ret pe_bl)) pss_nil))))))
      (pss_one (ps_ret (pe_cmpR (op_eqD (K := K) hr rfl) (pv 0) (pv 1) (nomark _)))))), ?_⟩
    obtain ⟨xs, hx, hrw⟩ := id hG
    obtain ⟨q', ys, eq', hs2, hl2, hL2⟩ := grid_parts hD
    cases eq'
    have hxl := hrw.1
    repeat walk_at "rd"
    refine ⟨_, _, _, _, rfl, TyOf.tup hx, ki_tt, ?_⟩
    repeat walk_at "rd"
    refine iteNB (fun h => absurd (by rw [hxl, hl2]) h) (fun _ => ?_)
    have hx62 : ((ys.length : Nat) : Int) < 2 ^ 62 := by omega
    repeat walk_at "rd"
    refine for_range (lo := 0) (fun j σ H' => Hold (∃ v2 v3 : Option V, σ = [some (.ref p), some (.ref q), v2, v3] ∧ H = H')) (.mk ⟨_, _, rfl, rfl⟩) ?_ ?_
    · intro i σ H' hi hh
      obtain ⟨v2, v3, e1, e2⟩ := hh.out
      subst e1; subst e2
      have hin : i < n := by omega
      obtain ⟨ra, hra, hrt⟩ := hrw.at (i := 0 + (i : Int)) (by omega) (by omega)
      rw [Int.zero_add, Int.toNat_natCast] at hrt
      have hrl : (rowV n g i).length = n := rowV_len
      repeat walk_at "rd"
      refine ⟨_, _, _, _, rfl, TyOf.tup hrt, ki_tt, ?_⟩
      repeat walk_at "rd"
      refine iteNB (fun h => absurd (by rw [hrl, hl2]) h) (fun _ => ?_)
      repeat walk_at "rd"
      refine ⟨⟨_, SqT.of hrt⟩, for_tup (K := K) (a := ra) (xs := rowV n g i) (fun j σ H' => Hold (∃ v3 : Option V, σ = [some (.ref p), some (.ref q), some (.int (0 + (i : Int))), v3] ∧ H = H')) (.mk ⟨_, rfl, rfl⟩) ?_ ?_ ?_⟩
      · intro j σ H' _ hh
        obtain ⟨v3, e1, e2⟩ := hh.out
        subst e2
        exact SqT.of hrt
      · intro j x σ H' hj hh
        obtain ⟨v3, e1, e2⟩ := hh.out
        subst e1; subst e2
        have hjn : j < n := by rw [← hrl]; exact (List.getElem?_eq_some_iff.mp hj).1
        have hjx : (rowV n g i)[j]? = some (optV (g i j)) := by unfold rowV; rw [List.getElem?_map, List.getElem?_range hjn]; rfl
        rw [hjx] at hj
        obtain rfl : optV (g i j) = x := Option.some.inj hj
        cases e : g i j with
        | none =>
          repeat walk_at "rd"
          exact Hold.mk ⟨_, rfl, rfl⟩
        | some z =>
          repeat walk_at "rd"
          exact Hold.mk ⟨_, rfl, rfl⟩
      · intro σ H' hh
        obtain ⟨v3, e1, e2⟩ := hh.out
        subst e1; subst e2
        exact Hold.mk ⟨_, _, rfl, rfl⟩
    · intro σ H' hh
      obtain ⟨v2, v3, e1, e2⟩ := hh.out
      subst e1; subst e2
      repeat walk_at "rd"
      exact ⟨_, hG.den, hD, Nat.le_trans (deep_gridD _ _) (by decide), deep_grid_pos _ _, k⟩

def sp_l_letter (K : PySem.W.Frag) : Sp := fun vs H Q _ => ∃ (mp : Addr) (M : Mach) (n : Nat) (x : Str), vs = [.ref mp, .str x] ∧ (n : Int) = M.rooms ∧ M.Ok 75 ∧ Den K H M.D (.ref mp) ∧
  ∀ p H', Same H H' → Den K H' (gridD n fun i j => minO (fees M x i j)) (.ref p) → Q (.ref p) H'
-- _law_machine_here, _law_letter, _law_rows, _law_i, _law_row, _law_j, _law_some
theorem ok_l_letter (C : Code K mg t) : FnOk P w K mg base CX0 3 t.a__law_letter_table t.f__law_letter_table ["_law_machine_here", "_law_letter"] (sp_l_letter K) := by
  refine C.d__law_letter_table.fn.ok sc__law_letter_table (fun vs H Q E h => ?_) (fun cdv A outer st H vs Q E hr h => ?_)
  · obtain ⟨mp, M, n, x, rfl, _⟩ := h
    rfl
  · obtain ⟨mp, M, n, x, rfl, hn, hok, hM, k⟩ := h
    refine ⟨_, (pss_cons (ps_set (i := 2) sc__law_letter_table.nd rfl (by first | exact Or.inl rfl | exact Or.inr rfl) (pe_lst pa_nil))
      (pss_cons (ps_for PassesOwn.never rfl (pi_range1 rfl C.n_range (pa_cons (pe_ix (ix_tupK (K := K) rfl) (pv 0) pe_int (fun _ _ => rfl)) pa_nil)) (pg_name (i := 3) sc__law_letter_table.nd rfl (by first | exact Or.inl rfl | exact Or.inr rfl)) (pss_cons (ps_set (i := 4) sc__law_letter_table.nd rfl (by first | exact Or.inl rfl | exact Or.inr rfl) (pe_tup pa_nil))
      (pss_cons (ps_for PassesOwn.never rfl (pi_range1 rfl C.n_range (pa_cons (pe_ix (ix_tupK (K := K) rfl) (pv 0) pe_int (fun _ _ => rfl)) pa_nil)) (pg_name (i := 5) sc__law_letter_table.nd rfl (by first | exact Or.inl rfl | exact Or.inr rfl)) (pss_cons (ps_setComp (i := 6) ["_law_door", "_law_i", "_law_letter", "_law_j"] [none, some 3, some 1, some 5] sc__law_letter_table.nd rfl rfl rfl (pi_tupK (K := K) rfl (pe_ix (ix_tupK (K := K) rfl) (pv 0) pe_int (fun _ _ => rfl))) rfl fun _ _ _ _ _ => ⟨(pg_name (i := 0) (show (["_law_door", "_law_i", "_law_letter", "_law_j"] : List Str).Nodup by decide +kernel) rfl (by first | exact Or.inl rfl | exact Or.inr rfl)), (pif_one (pt_cmpR (op_eqC (K := K) hr rfl) (pe_tup (pa_cons (pe_ix (ix_tupK (K := K) rfl) (pv 0) pe_int (fun _ _ => rfl)) (pa_cons (pe_ix (ix_tupK (K := K) rfl) (pv 0) pe_int (fun _ _ => rfl)) (pa_cons (pe_ix (ix_tupK (K := K) rfl) (pv 0) pe_int (fun _ _ => rfl)) pa_nil)))) (pe_tup (pa_cons (pv 1) (pa_cons (pv 2) (pa_cons (pv 3) pa_nil)))) (nomark _))), (pe_ix (ix_tupK (K := K) rfl) (pv 0) pe_int (fun _ _ => rfl))⟩)
      (pss_one (ps_set (i := 4) sc__law_letter_table.nd rfl (by first | exact Or.inl rfl | exact Or.inr rfl) (pe_op (op_catK (K := K) rfl) (pv 4) (pe_tup (pa_cons (pe_minD (K := K) rfl rfl (by rfl) C.n_min (pv 6) pe_non) pa_nil)))))))
      (pss_one (ps_expr (pe_bmK (K := K) rfl PySem.F.plainAttrs_list PySem.F.slot_list_append PySem.F.type_list_append mt_append (pv 2) (pa_cons (pv 4) pa_nil)))))))
      (pss_one (ps_ret (pe_callTy (call_tupleK (K := K) rfl) (by rfl) C.n_tuple b_tuple (pa_cons (pv 2) pa_nil)))))), ?_⟩
    have hr0 := hok.r0
    have hr1 := hok.r1
    obtain ⟨m', b, e, d, ds, em, hTm, hB, hE', hD, hL⟩ := Mach.parts hM
    cases em
    have hdl : ds.length = M.doors.length := by rw [hL.length, List.length_map]
    have en : M.rooms.toNat = n := by omega
    repeat walk_at "rd"
    intro f hf
    have smf : Same H (upd H f (.lst [])) := (Same.refl H).new hf
    have hff : (upd H f (.lst [])) f = some (.lst []) := upd_same
    generalize upd H f (.lst []) = H1 at smf hff ⊢
    have hTm1 := smf.sqT hTm
    repeat walk_at "rd"
    refine for_range (lo := 0) (fun i σ H' => Hold (∃ (xs : List V) (v3 v4 v5 v6 : Option V), σ = [some (.ref mp), some (.str x), some (.ref f), v3, v4, v5, v6] ∧
      H' f = some (.lst xs) ∧ DenL K H' ((List.range i).map (rowG n fun i j => minO (fees M x i j))) xs ∧ Same H H')) ?_ ?_ ?_
    · exact .mk ⟨[], _, _, _, _, rfl, hff, .nil, smf⟩
    · intro i σ H' hi hh
      obtain ⟨xs, v3, v4, v5, v6, e1, hfl, hden, sm⟩ := hh.out
      subst e1
      have hin : i < n := by omega
      have hxl : xs.length = i := by rw [hden.length, List.length_map, List.length_range]
      repeat walk_at "rd"
      intro l hl
      have sml : Same H' (upd H' l (.tup [])) := (Same.refl H').new hl
      have hll : (upd H' l (.tup [])) l = some (.tup []) := upd_same
      generalize upd H' l (.tup []) = H2 at sml hll ⊢
      have hTm2 := (sm.trans sml).sqT hTm
      repeat walk_at "rd"
      refine for_range (lo := 0) (fun j σ H3 => Hold (∃ (rp : Addr) (v5 v6 : Option V), σ = [some (.ref mp), some (.str x), some (.ref f), some (.int (0 + (i : Int))), some (.ref rp), v5, v6] ∧
        SqT K H3 rp ((List.range j).map fun j => optV (minO (fees M x i j))) ∧ Same H' H3)) ?_ ?_ ?_
      · exact .mk ⟨l, _, _, rfl, SqT.of hll, sml⟩
      · intro j σ H3 hj hh
        obtain ⟨rp, v5, v6, e1, hsq, sm3⟩ := hh.out
        subst e1
        have hjn : j < n := by omega
        have smA := sm.trans sm3
        have hTm3 := smA.sqT hTm
        have hD3 := smA.sqT hD
        have hL3 := DenL.mono smA _ _ hL
        repeat walk_at "rd"
        refine ⟨⟨_, hD3⟩, fun DD hDD => ?_⟩
        refine comp_tup (K := K) (a := d) (xs := ds) (fun m σ H' => Hold (∃ v0 : Option V, σ = [v0, some (.int (0 + (i : Int))), some (.str x), some (.int (0 + (j : Int)))] ∧ H' DD = some (.lst ((((M.doors.take m).filter fun q => (q.1 == (i : Int)) && ((q.2.1 == x) && ((q.2.2.1 == (j : Int)) && true))).map fun q => q.2.2.2).map V.int)) ∧ Same H3 H')) ?_ ?_ ?_ ?_
        · exact .mk ⟨_, rfl, upd_same, (Same.refl H3).new hDD⟩
        · intro m σ H' _ hh
          obtain ⟨v0, e1, hl, sm4⟩ := hh.out
          exact sm4.sqT hD3
        · intro m y σ H4 hm hh
          obtain ⟨v0, e1, hl4, sm4⟩ := hh.out
          subst e1
          have hmd : m < M.doors.length := by rw [← hdl]; exact (List.getElem?_eq_some_iff.mp hm).1
          obtain ⟨y', ey, hy⟩ := hL3.get (i := m) (d := doorD M.doors[m]) (by rw [List.getElem?_map, List.getElem?_eq_getElem hmd]; rfl)
          rw [hm] at ey
          cases ey
          obtain ⟨dp, edp, hdp⟩ := door_parts hy
          subst edp
          have et : M.doors.take (m + 1) = M.doors.take m ++ [M.doors[m]] := by rw [List.take_add_one, List.getElem?_eq_getElem hmd]; rfl
          rw [et]
          generalize M.doors[m] = q at hdp
          have hdp4 := sm4.sqT hdp
          have z1 : atI [V.int q.1, V.str q.2.1, V.int q.2.2.1, V.int q.2.2.2] 0 = some (V.int q.1) := rfl
          have z2 : atI [V.int q.1, V.str q.2.1, V.int q.2.2.1, V.int q.2.2.2] 1 = some (V.str q.2.1) := rfl
          have z3 : atI [V.int q.1, V.str q.2.1, V.int q.2.2.1, V.int q.2.2.2] 2 = some (V.int q.2.2.1) := rfl
          have z4 : atI [V.int q.1, V.str q.2.1, V.int q.2.2.1, V.int q.2.2.2] 3 = some (V.int q.2.2.2) := rfl
          repeat walk_at "rd"
          intro p1 hp1
          have s1 : Same H4 (upd H4 p1 (.tup [.int q.1, .str q.2.1, .int q.2.2.1])) := (Same.refl H4).new hp1
          have f1 : (upd H4 p1 (.tup [.int q.1, .str q.2.1, .int q.2.2.1])) p1 = some (.tup [.int q.1, .str q.2.1, .int q.2.2.1]) := upd_same
          generalize upd H4 p1 (.tup [.int q.1, .str q.2.1, .int q.2.2.1]) = H5 at s1 f1 ⊢
          repeat walk_at "rd"
          intro p2 hp2
          have s2 : Same H5 (upd H5 p2 (.tup [.int (0 + (i : Int)), .str x, .int (0 + (j : Int))])) := (Same.refl H5).new hp2
          have f2 : (upd H5 p2 (.tup [.int (0 + (i : Int)), .str x, .int (0 + (j : Int))])) p2 = some (.tup [.int (0 + (i : Int)), .str x, .int (0 + (j : Int))]) := upd_same
          generalize upd H5 p2 (.tup [.int (0 + (i : Int)), .str x, .int (0 + (j : Int))]) = H6 at s2 f2 ⊢
          refine ⟨_, _, _, den3 (s2 _ _ f1), den3 f2, by rw [deep3]; decide, cmp3, ?_⟩
          repeat walk_at "rd"
          have hl3 := s2 _ _ (s1 _ _ hl4)
          have sm6 := sm4.trans (s1.trans s2)
          have hdp6 := (s1.trans s2).sqT hdp4
          rw [List.filter_append]
          refine ite2 (fun h => ?_) (fun h => ?_)
          · have h' : ((q.1 == (i : Int)) && ((q.2.1 == x) && ((q.2.2.1 == (j : Int)) && true))) = true := by
              have h2 : ((q.1 == (0 + (i : Int))) && ((q.2.1 == x) && ((q.2.2.1 == (0 + (j : Int))) && true))) = true := h
              rwa [Int.zero_add, Int.zero_add] at h2
            repeat walk_at "rd"
            refine ⟨_, hl3, ?_, .mk ⟨_, rfl, ?_, fun z o hz => ?_⟩⟩
            · rw [List.length_map, List.length_map]
              have a1 := List.length_filter_le (fun q : Int × Str × Int × Int => (q.1 == (i : Int)) && ((q.2.1 == x) && ((q.2.2.1 == (j : Int)) && true))) (M.doors.take m)
              have a2 : (M.doors.take m).length ≤ 75 := by rw [List.length_take]; have := hok.m; omega
              exact Nat.lt_of_le_of_lt (Nat.le_trans a1 a2) (by decide)
            · rw [upd_same, List.filter_cons, if_pos h', List.filter_nil, List.map_append, List.map_append]; rfl
            · rw [upd_ne (ne_of_none hz hDD)]; exact sm6 z o hz
          · have h' : ¬ ((q.1 == (i : Int)) && ((q.2.1 == x) && ((q.2.2.1 == (j : Int)) && true))) = true := by
              have h2 : ¬ ((q.1 == (0 + (i : Int))) && ((q.2.1 == x) && ((q.2.2.1 == (0 + (j : Int))) && true))) = true := h
              rwa [Int.zero_add, Int.zero_add] at h2
            refine .mk ⟨_, rfl, ?_, sm6⟩
            rw [List.filter_cons, if_neg h', List.filter_nil, List.append_nil]
            exact hl3
        · intro σ' H4 hh
          obtain ⟨v0, e1, hl4, sm4⟩ := hh.out
          rw [hdl, List.take_length] at hl4
          have hl4' : H4 DD = some (.lst ((fees M x i j).map V.int)) := hl4
          have fin : ∀ o, o = minO (fees M x i j) → True := fun _ _ => trivial
          repeat walk_at "rd"
          refine ⟨DD, fees M x i j, rfl, SqL.of hl4', fun e => ?_, fun mm hm hmin => ?_⟩
          · have eo : minO (fees M x i j) = none := by rw [e]; rfl
            repeat walk_at "rd"
            intro q hq
            have hq4 : (upd H4 q (.tup [V.non])) q = some (.tup [V.non]) := upd_same
            have sm5 : Same H4 (upd H4 q (.tup [V.non])) := (Same.refl H4).new hq
            generalize upd H4 q (.tup [V.non]) = H5 at hq4 sm5 ⊢
            refine ⟨rp, q, _, [V.non], rfl, rfl, (sm4.trans sm5).sqT hsq, SqT.of hq4, by rw [List.length_map, List.length_range]; exact Nat.le_trans (show j + 1 ≤ 6 by omega) (by decide), fun p5 H6 sm6 hsq5 => ?_⟩
            repeat walk_at "rd"
            exact .mk ⟨p5, _, _, rfl, by rw [List.range_succ, List.map_append, List.map_cons, eo]; exact hsq5, sm3.trans (sm4.trans (sm5.trans sm6))⟩
          · have eo : minO (fees M x i j) = some mm := minO_of hm hmin
            repeat walk_at "rd"
            intro q hq
            have hq4 : (upd H4 q (.tup [V.int mm])) q = some (.tup [V.int mm]) := upd_same
            have sm5 : Same H4 (upd H4 q (.tup [V.int mm])) := (Same.refl H4).new hq
            generalize upd H4 q (.tup [V.int mm]) = H5 at hq4 sm5 ⊢
            refine ⟨rp, q, _, [V.int mm], rfl, rfl, (sm4.trans sm5).sqT hsq, SqT.of hq4, by rw [List.length_map, List.length_range]; exact Nat.le_trans (show j + 1 ≤ 6 by omega) (by decide), fun p5 H6 sm6 hsq5 => ?_⟩
            repeat walk_at "rd"
            exact .mk ⟨p5, _, _, rfl, by rw [List.range_succ, List.map_append, List.map_cons, eo]; exact hsq5, sm3.trans (sm4.trans (sm5.trans sm6))⟩
      · intro σ H3 hh
        obtain ⟨rp, v5, v6, e1, hsq, sm3⟩ := hh.out
        subst e1
        rw [en] at hsq
        have hf3 := sm3 _ _ hfl
        repeat walk_at "rd"
        refine ⟨.inl ⟨rfl, _, SqL.of hf3⟩, ?_⟩
        repeat walk_at "rd"
        refine ⟨f, xs, _, rfl, rfl, hf3, by rw [hxl]; exact Nat.lt_of_lt_of_le (show i < 6 by omega) (by decide), ?_⟩
        refine .mk ⟨_, _, _, _, _, rfl, upd_same, ?_, fun z o hz => ?_⟩
        · rw [List.range_succ, List.map_append]
          refine DenL.monoT (TSame.put hf3) _ _ (by rw [← List.map_append]; exact gridL_tups _ _ _) ?_
          exact (DenL.mono sm3 _ _ hden).snoc (Den.tupI hsq (DenL.optsI n _))
        · rw [upd_ne (ne_of_none hz hf)]; exact sm3 z o (sm z o hz)
    · intro σ H' hh
      obtain ⟨xs, v3, v4, v5, v6, e1, hfl, hden, sm⟩ := hh.out
      subst e1
      rw [en] at hden
      repeat walk_at "rd"
      refine ⟨f, xs, rfl, Or.inl ⟨SqL.of hfl, fun p hp => ?_⟩⟩
      repeat walk_at "rd"
      have smp : Same H' (upd H' p (.tup xs)) := (Same.refl H').new hp
      exact k p _ (sm.trans smp) (Den.tupI (SqT.of upd_same) (DenL.mono smp _ _ hden))

end
end My

set_option Elab.async false
set_option linter.all false
set_option maxRecDepth 100000
set_option maxHeartbeats 4000000
namespace My
open PySem L2
local macro_rules | `(tactic| walk_at "ne") => `(tactic| first | assumption | (refine ne_of_none (H := ?H) (o := ?o) ?h1 ?h2; (case h2 => assumption); (case h1 => walk_at "hp")) | (refine ne_symm' (ne_of_none (H := ?H) (o := ?o) ?h1 ?h2); (case h2 => assumption); (case h1 => walk_at "hp")) | (refine ne_of (H := ?H) (o := ?o) (u := ?u) ?h1 ?h2 ?h3; (case h1 => assumption); (case h2 => assumption); (case h3 => (intro z; cases z))))
local macro_rules | `(tactic| walk_at "hp") => `(tactic| first | assumption | exact upd_same | (refine Eq.trans (upd_ne ?ne) ?_; (case ne => walk_at "ne"); walk_at "hp"))
local macro_rules | `(tactic| walk_at "side") => `(tactic| first | rfl | with_reducible assumption | omega | assumption | decide | exact Nat.le_of_ble_eq_true rfl | (refine And.intro ?_ ?_ <;> first | assumption | omega | decide) | (refine Or.inl (And.intro ?_ ?_) <;> first | assumption | omega | decide) | (refine Or.inr (And.intro ?_ ?_) <;> first | assumption | omega | decide) | (refine And.intro ?_ (And.intro ?_ ?_) <;> first | assumption | omega | decide))
local macro_rules | `(tactic| walk_at "sq") => `(tactic| first | assumption | (refine SqL.of ?_; walk_at "hp") | (refine SqT.of ?_; walk_at "hp"))
local macro_rules | `(tactic| walk_at "rd") => `(tactic| ((fail_if_success (refine Exists.intro (α := Nat → Nat → St → Hp → Prop) ?_ ?_)); (fail_if_success (refine Exists.intro (α := St → Hp → Prop) ?_ ?_)); first
  | refine ⟨_, rfl, ?_⟩
  | refine ⟨_, _, rfl, rfl, ?_⟩
  | (refine ⟨_, ?xs, rfl, Or.inl ?sq, ?_⟩; (case sq => walk_at "sq"))
  | (refine ⟨_, ?xs, rfl, Or.inr ?sq, ?_⟩; (case sq => walk_at "sq"))
  | refine ⟨_, _, rfl, ?_⟩
  | (refine ⟨_, ?xs, _, ?v, rfl, rfl, ?sq, ?at', ?_⟩; (case sq => walk_at "sq"); (case at' => first | rfl | assumption))
  | (refine ⟨_, ?xs, rfl, ?sq, ?ln, ?_⟩; (case sq => walk_at "sq"); (case ln => rfl))
  | refine ⟨_, _, _, _, rfl, TyOf.int _, ki_ii, ?_⟩
  | refine ⟨_, _, _, _, rfl, TyOf.int _, ki_ib, ?_⟩
  | (refine ⟨_, ?xs, _, ?j, rfl, rfl, ?hp, ?at', ?_⟩; (case hp => walk_at "hp"); (case at' => rfl))
  | (refine And.intro ?sd ?_; (case sd => walk_at "side"))))
local macro_rules | `(tactic| walk_at "tk") => `(tactic| ((repeat walk_at "rd"); refine ⟨_, ?c, ?m, _, rfl, ⟨?hp, ?hc⟩, ?n0, ?n1, ?_⟩; (case hp => walk_at "hp"); (case hc => assumption); (case n0 => first | with_reducible assumption | omega | decide +kernel | assumption); (case n1 => first | with_reducible assumption | omega | decide +kernel | assumption)))
local macro_rules | `(tactic| walk_at "dr") => `(tactic| ((repeat walk_at "rd"); refine ⟨_, ?c, _, rfl, ⟨?hp, ?hc⟩, ?n0, ?n1, ?_⟩; (case hp => walk_at "hp"); (case hc => assumption); (case n0 => first | with_reducible assumption | omega | decide +kernel | assumption); (case n1 => first | with_reducible assumption | omega | decide +kernel | assumption)))

section
variable {P : Program} {w : World} {K : PySem.W.Frag} {mg : Str → Option Value} {base : Heap} {t : Ad}

-- _law_script, _law_at, _law_machine_here, _law_letter
theorem ok_law (C : Code K mg t) (B : Tb mg base t) : FnOk P w K mg base CX0 7 t.a_law t.f_law ["_law_script"] (spLaw K) := by
  have G__law_bag : FnOk P w K mg base CX0 _ _ _ _ _ := ok_bag C
  have G__law_machine : FnOk P w K mg base CX0 _ _ _ _ _ := ok_machine C
  have G__law_same : FnOk P w K mg base CX0 _ _ _ _ _ := ok_l_same C
  have G_letter_table : FnOk P w K mg base CX0 _ _ _ _ _ := ok_letter_table C B
  have G__law_letter_table : FnOk P w K mg base CX0 _ _ _ _ _ := ok_l_letter C
  refine C.d_law.fn.ok sc_law (fun vs H Q E h => ?_) (fun cdv A outer s H vs Q E hr h => ?_)
  · obtain ⟨a, ns, rfl, _⟩ := h
    rfl
  · obtain ⟨a, ns, rfl, hS, hl, hB, k⟩ := h
    have hT0 : TabsH (tabT t) H := TabsH.init fun p hp => by
      rcases List.mem_cons.mp hp with e | hp
      · rw [e]; exact hB _ (by decide) _ _ C.ti_letter_table
      · exact absurd hp (by simp)
    refine ⟨_, (pss_cons (ps_for PassesOwn.never rfl (pi_range1 rfl C.n_range (pa_cons (pe_op op_add (pe_callB (call_min2 rfl) (by rfl) C.n_min b_min (pa_cons (pe_callB (call_lenK (K := K) rfl) (by rfl) C.n_len b_len (pa_cons (pv 0) pa_nil)) (pa_cons pe_int pa_nil))) pe_int) pa_nil)) (pg_name (i := 1) sc_law.nd rfl (by first | exact Or.inl rfl | exact Or.inr rfl)) (pss_cons (ps_set (i := 2) sc_law.nd rfl (by first | exact Or.inl rfl | exact Or.inr rfl) (pe_call G__law_machine (hr.mono (by decide)) (by rfl) C.d__law_machine.mg C.d__law_machine.fn.kp C.d__law_machine.bi .nil pass0 (pa_cons (pe_call G__law_bag (hr.mono (by decide)) (by rfl) C.d__law_bag.mg C.d__law_bag.fn.kp C.d__law_bag.bi .nil pass0 (pa_cons (pv 0) (pa_cons (pv 1) pa_nil))) pa_nil)))
      (pss_one (ps_for PassesOwn.never rfl (pi_str (pe_slice sl_str pe_str po_none (po_some (pe_ix (ix_tupK (K := K) rfl) (pv 2) pe_int (fun _ _ => rfl))))) (pg_name (i := 3) sc_law.nd rfl (by first | exact Or.inl rfl | exact Or.inr rfl)) (pss_one (ps_if (pt_not (pt_val (pe_call G__law_same (hr.mono (by decide)) (by rfl) C.d__law_same.mg C.d__law_same.fn.kp C.d__law_same.bi .nil pass0 (pa_cons (pe_call G_letter_table (hr.mono (by decide)) (by rfl) C.d_letter_table.mg C.d_letter_table.fn.kp C.d_letter_table.bi .nil pass0 (pa_cons (pv 2) (pa_cons (pv 3) pa_nil))) (pa_cons (pe_call G__law_letter_table (hr.mono (by decide)) (by rfl) C.d__law_letter_table.mg C.d__law_letter_table.fn.kp C.d__law_letter_table.bi .nil pass0 (pa_cons (pv 2) (pa_cons (pv 3) pa_nil))) pa_nil))))) (pss_one (ps_ret pe_bl)) pss_nil))))))
      (pss_one (ps_ret pe_bl))), ?_⟩
    repeat walk_at "rd"
    refine for_range (lo := 0) (fun i σ H' => Hold (∃ v1 v2 v3 : Option V, σ = [some (.ref a), v1, v2, v3] ∧ SameT H H' ∧ TabsH (tabT t) H')) (.mk ⟨_, _, _, rfl, SameT.refl, hT0⟩) ?_ ?_
    · intro i σ H' hi hh
      obtain ⟨v1, v2, v3, e1, sm, hT⟩ := hh.out
      subst e1
      repeat walk_at "rd"
      refine ⟨a, ns, _, rfl, sm.seqL hS, by omega, hl, fun b c m hb hc => ?_⟩
      repeat walk_at "rd"
      refine ⟨b, c, m, rfl, ⟨upd_same, hc⟩, fun p M c2 m2 H2 okM hB2 kb2 hM => ?_⟩
      have sm2 : SameT H H2 := fun x o d e => kb2 x o (ne_of_none (sm x o d e) hb) (by rw [upd_ne (ne_of_none (sm x o d e) hb)]; exact sm x o d e)
      have hT2 : TabsH (tabT t) H2 := (hT.new hb).but upd_same kb2
      obtain ⟨n, hn⟩ : ∃ n : Nat, (n : Int) = M.rooms := ⟨M.rooms.toNat, by have := okM.r0; omega⟩
      have hr1 := okM.r1
      obtain ⟨p', bb, ee, dd, ds, ep, hTm, hTB, hTE, hTD, hL⟩ := Mach.parts hM
      cases ep
      repeat walk_at "rd"
      refine for_str (fun jj σ H' => Hold (∃ w3 : Option V, σ = [some (.ref a), some (.int (0 + (i : Int))), some (.ref p), w3] ∧ SameT H2 H' ∧ TabsH (tabT t) H')) ?_ ?_ ?_
      · exact .mk ⟨_, rfl, SameT.refl, hT2⟩
      · intro jj ch σ H3 hj hh
        obtain ⟨w3, e1, sm3, hT3⟩ := hh.out
        subst e1
        have hM3 := Den.monoT (sm3.ts (K := K)) _ _ (Mach.D_tups _) hM
        repeat walk_at "rd"
        refine ⟨p, M, n, ⟨#[ch]⟩, rfl, hn, okM, hM3, hT3, fun q H4 sm4 hT4 hG4 => ?_⟩
        repeat walk_at "rd"
        refine ⟨p, M, n, ⟨#[ch]⟩, rfl, hn, okM, Den.monoT (sm4.ts (K := K)) _ _ (Mach.D_tups _) hM3, fun q2 H5 sm5 hD5 => ?_⟩
        repeat walk_at "rd"
        refine ⟨q, q2, n, _, rfl, by omega, hG4.mono (.of sm5), hD5, ?_⟩
        repeat walk_at "rd"
        exact Hold.mk ⟨_, rfl, sm3.trans (sm4.trans (.of sm5)), hT4.same sm5⟩
      · intro σ H3 hh
        obtain ⟨w3, e1, sm3, hT3⟩ := hh.out
        subst e1
        exact Hold.mk ⟨_, _, _, rfl, sm2.trans sm3, hT3⟩
    · intro σ H' hh
      obtain ⟨v1, v2, v3, e1, sm, hT⟩ := hh.out
      subst e1
      exact k H'
end
theorem all_mk {l : PySem.W.OpenLaw} {w : World} {K : PySem.W.Frag} {h : Heap} {mg : Str → Option Value} {fa : Addr} (X : K.In h) (G : h.Ns mainGlobals mg) (hfa : mg "law" = some (.ref fa))
    {f0 : Addr} {od0 an0 : Option Addr} {sl0 : Array (Option Value)} {oc0 kV0 dc0 pm0 cd0 ct0 : Value}
    (a0 : PySem.W.nsIn K mainGlobals "rooms_of" = some (some (.ref f0))) (l0 : K.lookup f0 = some ⟨oc0, od0, .func (PySem.W.fnOf "rooms_of" "rooms_of" (defArgs s_rooms_of) (defBody s_rooms_of) (defScope s_rooms_of) .none kV0 dc0 pm0 an0 cd0 ct0), sl0⟩) (c0 : PySem.W.codeIn K cd0 "rooms_of" = true) (k0 : PySem.W.keepIn K (.ref f0) = true)
    {f1 : Addr} {od1 an1 : Option Addr} {sl1 : Array (Option Value)} {oc1 kV1 dc1 pm1 cd1 ct1 : Value}
    (a1 : PySem.W.nsIn K mainGlobals "doors_of" = some (some (.ref f1))) (l1 : K.lookup f1 = some ⟨oc1, od1, .func (PySem.W.fnOf "doors_of" "doors_of" (defArgs s_doors_of) (defBody s_doors_of) (defScope s_doors_of) .none kV1 dc1 pm1 an1 cd1 ct1), sl1⟩) (c1 : PySem.W.codeIn K cd1 "doors_of" = true) (k1 : PySem.W.keepIn K (.ref f1) = true)
    {f2 : Addr} {od2 an2 : Option Addr} {sl2 : Array (Option Value)} {oc2 kV2 dc2 pm2 cd2 ct2 : Value}
    (a2 : PySem.W.nsIn K mainGlobals "grid" = some (some (.ref f2))) (l2 : K.lookup f2 = some ⟨oc2, od2, .func (PySem.W.fnOf "grid" "grid" (defArgs s_grid) (defBody s_grid) (defScope s_grid) .none kV2 dc2 pm2 an2 cd2 ct2), sl2⟩) (c2 : PySem.W.codeIn K cd2 "grid" = true) (k2 : PySem.W.keepIn K (.ref f2) = true)
    {f3 : Addr} {od3 an3 : Option Addr} {sl3 : Array (Option Value)} {oc3 kV3 dc3 pm3 cd3 ct3 : Value}
    (a3 : PySem.W.nsIn K mainGlobals "least" = some (some (.ref f3))) (l3 : K.lookup f3 = some ⟨oc3, od3, .func (PySem.W.fnOf "least" "least" (defArgs s_least) (defBody s_least) (defScope s_least) .none kV3 dc3 pm3 an3 cd3 ct3), sl3⟩) (c3 : PySem.W.codeIn K cd3 "least" = true) (k3 : PySem.W.keepIn K (.ref f3) = true)
    {f4 : Addr} {od4 an4 : Option Addr} {sl4 : Array (Option Value)} {oc4 kV4 dc4 pm4 cd4 ct4 : Value}
    (a4 : PySem.W.nsIn K mainGlobals "letter_table" = some (some (.ref f4))) (l4 : K.lookup f4 = some ⟨oc4, od4, .func (PySem.W.fnOf "letter_table" "letter_table" (defArgs s_letter_table) (defBody s_letter_table) (defScope s_letter_table) .none kV4 dc4 pm4 an4 cd4 ct4), sl4⟩) (c4 : PySem.W.codeIn K cd4 "letter_table" = true) (k4 : PySem.W.keepIn K (.ref f4) = true)
    {f5 : Addr} {od5 an5 : Option Addr} {sl5 : Array (Option Value)} {oc5 kV5 dc5 pm5 cd5 ct5 : Value}
    (a5 : PySem.W.nsIn K mainGlobals "_law_bag" = some (some (.ref f5))) (l5 : K.lookup f5 = some ⟨oc5, od5, .func (PySem.W.fnOf "_law_bag" "_law_bag" (defArgs s__law_bag) (defBody s__law_bag) (defScope s__law_bag) .none kV5 dc5 pm5 an5 cd5 ct5), sl5⟩) (c5 : PySem.W.codeIn K cd5 "_law_bag" = true) (k5 : PySem.W.keepIn K (.ref f5) = true)
    {f6 : Addr} {od6 an6 : Option Addr} {sl6 : Array (Option Value)} {oc6 kV6 dc6 pm6 cd6 ct6 : Value}
    (a6 : PySem.W.nsIn K mainGlobals "_law_take" = some (some (.ref f6))) (l6 : K.lookup f6 = some ⟨oc6, od6, .func (PySem.W.fnOf "_law_take" "_law_take" (defArgs s__law_take) (defBody s__law_take) (defScope s__law_take) .none kV6 dc6 pm6 an6 cd6 ct6), sl6⟩) (c6 : PySem.W.codeIn K cd6 "_law_take" = true) (k6 : PySem.W.keepIn K (.ref f6) = true)
    {f7 : Addr} {od7 an7 : Option Addr} {sl7 : Array (Option Value)} {oc7 kV7 dc7 pm7 cd7 ct7 : Value}
    (a7 : PySem.W.nsIn K mainGlobals "_law_rooms" = some (some (.ref f7))) (l7 : K.lookup f7 = some ⟨oc7, od7, .func (PySem.W.fnOf "_law_rooms" "_law_rooms" (defArgs s__law_rooms) (defBody s__law_rooms) (defScope s__law_rooms) .none kV7 dc7 pm7 an7 cd7 ct7), sl7⟩) (c7 : PySem.W.codeIn K cd7 "_law_rooms" = true) (k7 : PySem.W.keepIn K (.ref f7) = true)
    {f8 : Addr} {od8 an8 : Option Addr} {sl8 : Array (Option Value)} {oc8 kV8 dc8 pm8 cd8 ct8 : Value}
    (a8 : PySem.W.nsIn K mainGlobals "_law_machine" = some (some (.ref f8))) (l8 : K.lookup f8 = some ⟨oc8, od8, .func (PySem.W.fnOf "_law_machine" "_law_machine" (defArgs s__law_machine) (defBody s__law_machine) (defScope s__law_machine) .none kV8 dc8 pm8 an8 cd8 ct8), sl8⟩) (c8 : PySem.W.codeIn K cd8 "_law_machine" = true) (k8 : PySem.W.keepIn K (.ref f8) = true)
    {f9 : Addr} {od9 an9 : Option Addr} {sl9 : Array (Option Value)} {oc9 kV9 dc9 pm9 cd9 ct9 : Value}
    (a9 : PySem.W.nsIn K mainGlobals "_law_same" = some (some (.ref f9))) (l9 : K.lookup f9 = some ⟨oc9, od9, .func (PySem.W.fnOf "_law_same" "_law_same" (defArgs s__law_same) (defBody s__law_same) (defScope s__law_same) .none kV9 dc9 pm9 an9 cd9 ct9), sl9⟩) (c9 : PySem.W.codeIn K cd9 "_law_same" = true) (k9 : PySem.W.keepIn K (.ref f9) = true)
    {f10 : Addr} {od10 an10 : Option Addr} {sl10 : Array (Option Value)} {oc10 kV10 dc10 pm10 cd10 ct10 : Value}
    (a10 : PySem.W.nsIn K mainGlobals "_law_letter_table" = some (some (.ref f10))) (l10 : K.lookup f10 = some ⟨oc10, od10, .func (PySem.W.fnOf "_law_letter_table" "_law_letter_table" (defArgs s__law_letter_table) (defBody s__law_letter_table) (defScope s__law_letter_table) .none kV10 dc10 pm10 an10 cd10 ct10), sl10⟩) (c10 : PySem.W.codeIn K cd10 "_law_letter_table" = true) (k10 : PySem.W.keepIn K (.ref f10) = true)
    {f11 : Addr} {od11 an11 : Option Addr} {sl11 : Array (Option Value)} {oc11 kV11 dc11 pm11 cd11 ct11 : Value}
    (a11 : PySem.W.nsIn K mainGlobals "law" = some (some (.ref f11))) (l11 : K.lookup f11 = some ⟨oc11, od11, .func (PySem.W.fnOf "law" "law" (defArgs s_law) (defBody s_law) (defScope s_law) .none kV11 dc11 pm11 an11 cd11 ct11), sl11⟩) (c11 : PySem.W.codeIn K cd11 "law" = true) (k11 : PySem.W.keepIn K (.ref f11) = true)
    (z_abs : PySem.W.nsIn K mainGlobals "abs" = some none)
    (z_bool : PySem.W.nsIn K mainGlobals "bool" = some none)
    (z_int : PySem.W.nsIn K mainGlobals "int" = some none)
    (z_isinstance : PySem.W.nsIn K mainGlobals "isinstance" = some none)
    (z_len : PySem.W.nsIn K mainGlobals "len" = some none)
    (z_min : PySem.W.nsIn K mainGlobals "min" = some none)
    (z_range : PySem.W.nsIn K mainGlobals "range" = some none)
    (z_tuple : PySem.W.nsIn K mainGlobals "tuple" = some none)
    (tb_letter_table : (PySem.W.tabIn K "letter_table").isSome = true)
    (tnd : decide ([((PySem.W.tabIn K "letter_table").getD (0, 0)).2].Nodup) = true)
    : ∃ fd : FuncData, (∀ (s : Shared) (v : Value), BindsTo s fd ⟨[v], []⟩ [("_law_script", v)]) ∧ ∀ base : Heap, K.In base → base.Ns mainGlobals mg → BM mg base → Codes K tabN base → FnOk l.prog w K mg base CX0 7 fa fd ["_law_script"] (spLaw K) := by
  have e := hfa.symm.trans (PySem.W.mg_of X G a11)
  cases e
  have F0 := fun_mk (st := s_rooms_of) l0 c0 k0
  have D0 : DefAt K mg "rooms_of" s_rooms_of ["machine"] f0 _ := ⟨F0, PySem.W.mg_of X G a0, F0.binds (ps := ["machine"]) fun _ _ _ _ _ _ us hl => match us, hl with | [_], _ => rfl⟩
  have F1 := fun_mk (st := s_doors_of) l1 c1 k1
  have D1 : DefAt K mg "doors_of" s_doors_of ["machine"] f1 _ := ⟨F1, PySem.W.mg_of X G a1, F1.binds (ps := ["machine"]) fun _ _ _ _ _ _ us hl => match us, hl with | [_], _ => rfl⟩
  have F2 := fun_mk (st := s_grid) l2 c2 k2
  have D2 : DefAt K mg "grid" s_grid ["size", "entry"] f2 _ := ⟨F2, PySem.W.mg_of X G a2, F2.binds (ps := ["size", "entry"]) fun _ _ _ _ _ _ us hl => match us, hl with | [_, _], _ => rfl⟩
  have F3 := fun_mk (st := s_least) l3 c3 k3
  have D3 : DefAt K mg "least" s_least ["prices"] f3 _ := ⟨F3, PySem.W.mg_of X G a3, F3.binds (ps := ["prices"]) fun _ _ _ _ _ _ us hl => match us, hl with | [_], _ => rfl⟩
  have F4 := fun_mk (st := s_letter_table) l4 c4 k4
  have D4 : DefAt K mg "letter_table" s_letter_table ["machine", "letter"] f4 _ := ⟨F4, PySem.W.mg_of X G a4, F4.binds (ps := ["machine", "letter"]) fun _ _ _ _ _ _ us hl => match us, hl with | [_, _], _ => rfl⟩
  have F5 := fun_mk (st := s__law_bag) l5 c5 k5
  have D5 : DefAt K mg "_law_bag" s__law_bag ["_law_script", "_law_at"] f5 _ := ⟨F5, PySem.W.mg_of X G a5, F5.binds (ps := ["_law_script", "_law_at"]) fun _ _ _ _ _ _ us hl => match us, hl with | [_, _], _ => rfl⟩
  have F6 := fun_mk (st := s__law_take) l6 c6 k6
  have D6 : DefAt K mg "_law_take" s__law_take ["_law_bag_here", "_law_many"] f6 _ := ⟨F6, PySem.W.mg_of X G a6, F6.binds (ps := ["_law_bag_here", "_law_many"]) fun _ _ _ _ _ _ us hl => match us, hl with | [_, _], _ => rfl⟩
  have F7 := fun_mk (st := s__law_rooms) l7 c7 k7
  have D7 : DefAt K mg "_law_rooms" s__law_rooms ["_law_bag_here", "_law_many"] f7 _ := ⟨F7, PySem.W.mg_of X G a7, F7.binds (ps := ["_law_bag_here", "_law_many"]) fun _ _ _ _ _ _ us hl => match us, hl with | [_, _], _ => rfl⟩
  have F8 := fun_mk (st := s__law_machine) l8 c8 k8
  have D8 : DefAt K mg "_law_machine" s__law_machine ["_law_bag_here"] f8 _ := ⟨F8, PySem.W.mg_of X G a8, F8.binds (ps := ["_law_bag_here"]) fun _ _ _ _ _ _ us hl => match us, hl with | [_], _ => rfl⟩
  have F9 := fun_mk (st := s__law_same) l9 c9 k9
  have D9 : DefAt K mg "_law_same" s__law_same ["_law_found", "_law_due"] f9 _ := ⟨F9, PySem.W.mg_of X G a9, F9.binds (ps := ["_law_found", "_law_due"]) fun _ _ _ _ _ _ us hl => match us, hl with | [_, _], _ => rfl⟩
  have F10 := fun_mk (st := s__law_letter_table) l10 c10 k10
  have D10 : DefAt K mg "_law_letter_table" s__law_letter_table ["_law_machine_here", "_law_letter"] f10 _ := ⟨F10, PySem.W.mg_of X G a10, F10.binds (ps := ["_law_machine_here", "_law_letter"]) fun _ _ _ _ _ _ us hl => match us, hl with | [_, _], _ => rfl⟩
  have F11 := fun_mk (st := s_law) l11 c11 k11
  have D11 : DefAt K mg "law" s_law ["_law_script"] fa _ := ⟨F11, PySem.W.mg_of X G a11, F11.binds (ps := ["_law_script"]) fun _ _ _ _ _ _ us hl => match us, hl with | [_], _ => rfl⟩
  have C : Code K mg ⟨_, _, _, _, _, _, _, _, _, _, _, _, _, _, _, _, _, _, _, _, _, _, _, _, ((PySem.W.tabIn K "letter_table").getD (0, 0)).1, ((PySem.W.tabIn K "letter_table").getD (0, 0)).2⟩ := ⟨D0, D1, D2, D3, D4, D5, D6, D7, D8, D9, D10, D11, PySem.W.mg_none_of X G z_abs, PySem.W.mg_none_of X G z_bool, PySem.W.mg_none_of X G z_int, PySem.W.mg_none_of X G z_isinstance, PySem.W.mg_none_of X G z_len, PySem.W.mg_none_of X G z_min, PySem.W.mg_none_of X G z_range, PySem.W.mg_none_of X G z_tuple, PySem.W.law_code X G (tab_some tb_letter_table) (PySem.W.mg_of X G a4) (X _ _ l4) rfl, tab_some tb_letter_table, of_decide_eq_true tnd⟩
  exact ⟨PySem.W.fnOf "law" "law" (defArgs s_law) (defBody s_law) (defScope s_law) .none kV11 dc11 pm11 an11 cd11 ct11, fun s v => .of_eq rfl, fun base _ _ bm hk => ok_law C ⟨bm, hk _ (by decide) _ _ (tab_some tb_letter_table)⟩⟩
end My
open PySem PySem.W PyProof.Rows
set_option maxRecDepth 100000 in
set_option maxHeartbeats 0 in
theorem PySem.Challenge.cw_leasttolls_k09_tables_of_letters_holds : PySem.Challenge.rw_leasttolls_k09_tables_of_letters.Holds := by
  w_on; o_law; k_head; (case hw => w_witness2)
  k_fill
  refine L2.walk_ofT (l := PySem.Challenge.rw_leasttolls_k09_tables_of_letters) (n := 63) (k := 7) (x := "_law_script") (sp := My.spLaw) My.tabN rfl (by decide) rfl ⟨rfl, by decide, by decide⟩ (fun w h Y => ⟨PySem.W.km_in_of Y, PySem.W.km_tabs_of Y⟩) (fun w => ?R) (fun w => ?NT) ?F (fun K H a ns hl hB hS => My.spLaw_mk hl hB hS)
  case R => kernel_rfl
  case NT => kernel_rfl
  case F =>
    intro w mg fa h KX G hmg
    refine' My.all_mk KX G hmg ?a0 ?l0 ?c0 ?k0 ?a1 ?l1 ?c1 ?k1 ?a2 ?l2 ?c2 ?k2 ?a3 ?l3 ?c3 ?k3 ?a4 ?l4 ?c4 ?k4 ?a5 ?l5 ?c5 ?k5 ?a6 ?l6 ?c6 ?k6 ?a7 ?l7 ?c7 ?k7 ?a8 ?l8 ?c8 ?k8 ?a9 ?l9 ?c9 ?k9 ?a10 ?l10 ?c10 ?k10 ?a11 ?l11 ?c11 ?k11 ?z_abs ?z_bool ?z_int ?z_isinstance ?z_len ?z_min ?z_range ?z_tuple ?tb_letter_table ?tnd
    (case a0 => k_is)
    (case l0 => k_is)
    (case c0 => k_is)
    (case k0 => k_is)
    (case a1 => k_is)
    (case l1 => k_is)
    (case c1 => k_is)
    (case k1 => k_is)
    (case a2 => k_is)
    (case l2 => k_is)
    (case c2 => k_is)
    (case k2 => k_is)
    (case a3 => k_is)
    (case l3 => k_is)
    (case c3 => k_is)
    (case k3 => k_is)
    (case a4 => k_is)
    (case l4 => k_is)
    (case c4 => k_is)
    (case k4 => k_is)
    (case a5 => k_is)
    (case l5 => k_is)
    (case c5 => k_is)
    (case k5 => k_is)
    (case a6 => k_is)
    (case l6 => k_is)
    (case c6 => k_is)
    (case k6 => k_is)
    (case a7 => k_is)
    (case l7 => k_is)
    (case c7 => k_is)
    (case k7 => k_is)
    (case a8 => k_is)
    (case l8 => k_is)
    (case c8 => k_is)
    (case k8 => k_is)
    (case a9 => k_is)
    (case l9 => k_is)
    (case c9 => k_is)
    (case k9 => k_is)
    (case a10 => k_is)
    (case l10 => k_is)
    (case c10 => k_is)
    (case k10 => k_is)
    (case a11 => k_is)
    (case l11 => k_is)
    (case c11 => k_is)
    (case k11 => k_is)
    (case z_abs => k_is)
    (case z_bool => k_is)
    (case z_int => k_is)
    (case z_isinstance => k_is)
    (case z_len => k_is)
    (case z_min => k_is)
    (case z_range => k_is)
    (case z_tuple => k_is)
    (case tb_letter_table => kernel_rfl)
    (case tnd => kernel_rfl)
